import PyProof.Rows.All
import Wide.All
import OpenK.AllK
import Wide.FinOn
import Lean
import PyProof.EqAt
import PyProof.EqKinds
import PyProof.TupleCall
import PySem.Challenge.RW_oneroom_k37_papers_made
set_option Elab.async false
set_option linter.all false
set_option maxRecDepth 100000
open And renaming intro→fF
open Array renaming length_toList→aM,mem_toList_iff→cb,getElem?_eq_getElem→cF,getElem?_toList→du,getElem_mem→dH,getD_eq_getD_getElem?→dY,forIn_toList→dZ,toList_inj→gI,mem_extract_iff_getElem→ib,perm_iff_toList_perm→iB,getElem?_eq_some_iff→iE,toList_setIfInBounds→iF,size_push→kd,toList_replicate→km
open Bool renaming false_ne_true→aC,false_eq_true→aV,and_eq_true→dh,eq_iff_iff→d7,and_true→gE,not_true→iI,and_false→ku
open Classical renaming propDecidable→e9
open False renaming elim→bS
open ForInStep renaming yield→fi
open Int renaming emod_nonneg→bo,emod_lt_of_pos→bt,toNat_of_nonneg→cH,toNat_natCast→cI,lt_trans→ia,le_refl→ip
open List renaming length_map→ab,getElem?_eq_getElem→ag,toArray→ak,mem_cons_of_mem→aq,getElem?_map→au,size_toArray→av,length_append→ax,mem_cons→az,mem_cons_self→aA,map_append→aD,mem_filter→aE,mem_map→aG,mem_singleton→aH,range→aI,mem_of_getElem?→aL,length_drop→aQ,mem_append_right→aT,getElem?_eq_some_iff→aW,getD→aX,length_cons→aY,mem_range→a7,map_cons→a9,mem_append→bb,pairwise_iff_getElem→bc,take_of_length_le→bg,map_map→bj,getD_eq_getElem?_getD→bq,pairwise_map→bu,length_take→bF,getElem?_append_left→bH,length_pos_iff→bJ,getElem?_append_right→bP,length_singleton→bQ,length_filter_le→bR,mem_append_left→bW,nodup_cons→bZ,replicate→b7,pairwise_cons→cf,take_succ→cg,length→cn,mem_iff_getElem→cA,lookup_cons→cC,all_eq_true→cM,getElem_mem→cN,take_length→cO,pairwise_append→cP,drop_of_length_le→cR,getElem?_eq_none→cX,length_range→c7,nodup_range→dq,any_eq_true→dt,mem_iff_getElem?→dv,getElem?_take_of_lt→dC,filter_cons_of_neg→dJ,filter_cons_of_pos→dN,length_eq_zero_iff→dO,not_mem_nil→dW,eq_nil_or_concat→d8,concat_eq_append→d9,ext_getElem?→eC,drop_eq_getElem_cons→eI,mem_of_mem_drop→eJ,mem_of_mem_take→eK,take_succ_eq_append_getElem→eX,replicate_succ→eZ,mem_singleton_self→e7,find?_cons→fg,getElem_inj→fH,getElem?_set_ne→fJ,perm_ext_iff_of_nodup→fN,lookup→fO,mem_map_of_mem→fQ,getElem?_range→fR,of_mem_zip→fT,range_succ→fV,filter_map→fW,filter_append→gh,getElem?_drop→gn,eraseIdx_cons_succ→gs,pairwise_singleton→gu,flatten_cons→gw,append_assoc→gx,filter_cons→gG,length_replicate→gL,append_nil→gU,filterMap_cons→ic,find?_eq_none→iq,map_singleton→iu,map_drop→iC,sum_cons→iJ,nodup_append→iN,mem_of_find?_eq_some→iO,any_map→iZ,map_snd_zip→i5,idxOf_lt_length_iff→i8,getElem?_replicate→i9,length_nil→j7,foldl_cons→j8,forIn_cons→j9,find?_some→ka,getElem?_set_self→kf,map_id→ko,drop_eq_nil_of_le→kq,pairwise_reverse→kA,getElem?_toArray→kC,getElem?_reverse→kE,countP_eq_length→kL,take_eq_take_min→kM,getElem_toArray→lb,map_take→ll,length_reverse→lz,toList_toArray→lA,getElem_of_mem→lB,filter_sublist→lD,take_succ_cons→lE,map_congr_left→lF,countP_eq_zero→lG,flatten_append→lH,mem_filterMap→lK,zip_cons_cons→lP,filterMap_map→lQ,map_nil→lR,forIn_toArray→lU,ne_nil_of_mem→lX,countP_append→lY
open Nat renaming le_refl→ao,ne_of_lt→ar,lt_of_lt_of_le→aw,zero_le→aJ,le_trans→bp,min_eq_left→bU,lt_irrefl→bV,le_of_lt→cx,lt_succ_self→cL,lt_trichotomy→c8,le_succ→dz,not_lt_zero→dG,ne_of_gt→eR,min_eq_right→eY,lt_of_le_of_lt→fh,lt_succ_of_lt→fz,le_of_eq→gT,zero_add→h9,lt_trans→lS,succ_add→lV,add_zero→lW
open Ne renaming symm→bO
open Option renaming map_eq_some_iff→cD,isSome_iff_exists→gd,toList_some→gp,map→kZ,isSome_map→lZ,getD_none→ma
open Option.some renaming inj→bw,injEq→l5
open Or renaming inl→aS,inr→gf
open PUnit renaming unit→k8
open PyProof.Rows renaming seqObj→aK,slot_tuple_getitem→cq,IntsAre→cE,callWith_type1→cK,get?_update_seq→c9,listUpdate_at→dI,AllBare→fB,envOfC→gy,seqEpoch_at→gC,listItems_at→hZ,oneType'→ij,entry_list_sort→ke,callWith_kw→kj,keyLt'_oneType→kH,slot_list_sort→kJ,keyKind'→k6,size_push'→k9
open PyProof.Rows.F renaming plain_set_update_loop→d5,entry_set_update_loop→gm
open PyProof.Rows.SortSt renaming mk'→mi
open PySem renaming wpAny_bind→aa,Shared→ae,wpAny_pure→ah,sizeLine_eq→ay,Program→aF,sizeLine→aO,FuncData→aR,Around→aU,wpAny_mono→a8,starEach→bh,mainGlobals→bA,wpAny_holding→bB,wpAny_loadPart'→bC,compareOp→bD,plainId_quiet→bI,codeAny_builtin→bN,bootBuiltins→bX,wpAny_Call_Name_kw→cy,Arguments→cG,SetTable→cJ,codeAny→cQ,wpAny_truthy_bool→cS,wpAny_updateSeq→cV,wpAny_newObj_type→c6,backTo→de,behindInMarks→df,binaryOp→dg,FuncBody→dk,builtinsNs→dA,codeAny_mono→dB,lookup_relabel_local→dE,PyData→dF,rawInt→dP,NameKind→dS,wpAny_tryCatch→dU,wpAny_letGo→dX,wpAny_passesOwn→d6,wpAny_newList→ef,setSearchFrom→eh,foldedSetIterable→eA,Builtin→eP,wpAny_seqItems→eQ,wpAny_pyIter_list→fq,wpAny_setState_of→fA,wpAny_typeOf→fC,sysModules→fG,call_meets→fL,sliceBounds→fP,codeAmong→fZ,Result→f7,bindArgs→gc,wpAny_comprehension_free→gg,holding→gq,attributeBase→gD,wpAny_forIn_list→gF,wpAny_isTrue_Compare1→gK,codeAny_call_function→gN,updateSeq→gO,wpAny_execs_nil→gP,assignEach→gQ,pyNext→gR,letOwnedTupleGo→gS,wpAny_call→gW,IsPart→gX,wpAny_newFunctionEnv→gY,wpAny_rule→gZ,unsupported→il,wpAny_newFunctionEnv_cells→ix,wpAny_assign_Name→iK,ofAClassStatement→iM,getItem→iR,valueAt→iS,callerA→iT,wpAny_eqBool_int→iU,assign→iV,wpAny_call_entry→iX,intItems→i4,wpAny_callSpecial?_slot→j3,TriplesOk→j5,swapsWith→j6,wpAny_specialOf→kc,keywordEach→kh,relabel→ky,newFunctionEnv→kz,wpAny_runValue→kB,wpAny_newTuple→kF,typeLookup→kR,closureFor→kW,IsLongIter→kX
open PySem.Around renaming under_plainId→bE,frames_deeper→kP,under→lL
open PySem.Builtin.Builtins renaming bindParams→d4
open PySem.Builtin.Dict renaming updateFrom→j4
open PySem.Builtin.List renaming listExtendWith→bY,listTooLong→eU,listSameRef→eV,listItems→ki
open PySem.Builtin.Range renaming rangeSize→bz,small→ie
open PySem.Builtin.Slice renaming slicePlaces→eH,sliceAdjust→fU,sliceApplied→iy
open PySem.Builtin.Tuple renaming tupleExact→eT,tupleItemsOf→iz
open PySem.Calls renaming spliced_cons→f9,spliced_nil→gv,callWith_builtin→gz,Name_function_global→iw,evalArgs_plain→kT
open PySem.Code renaming isFrame→lM,quiet_builtin→lT
open PySem.Data renaming fields→l9
open PySem.F renaming plain_max_loop→eW,slot_list_getattribute→gk,plain_extend_loop→ig
open PySem.Heap renaming get?_push_of_some→af,lt_size→aj,get?_push_size→aB,get?_update_other→bL,get?_update_self→cW,size_push→c5,size_update→fM,SameBut→f6,DictAt→kl,get?_update_ne→lC
open PySem.Heap.SameBut renaming update→bK
open PySem.NameKind renaming free→b9,cell→lj
open PySem.Obj renaming mapSeq→aN,putSet→la
open PySem.PassesOwn renaming never→b8
open PySem.PyData renaming canLayAll0→br,canLay0→bx,depth→bG,depthAll→bM,eqv→cm,int→cz,eqvAll→fc,weightAll→i3,weight→lq
open PySem.PyData.weight renaming eq_def→k5
open PySem.SeqAt renaming shaped→bT,canLay_of_shaped→gA,readOf→i7,eqv_refl→kN,EqAt→me
open PySem.SeqAt.EqAt renaming int_str→lI,str_int→lJ,int_int→lO,same→mh
open PySem.SetFound renaming there→ik
open PySem.SetTable renaming turns→cu,bits→cw,insertAt→cT,Probe→dw,has→fE,runEnd→fX,grown→gr,sizeAbove→ir,leap→iD,fits→iG,fill→iH,advance→i6,slot→ly,layClean→l6,tooFull→md,below→mj
open PySem.SetTable.layClean renaming free→fm
open PySem.SetTable.probe renaming go→iL
open PySem.Str renaming ofString→cj
open PySem.Value renaming none→aZ,ref→bf,type→ck,bool→eE,int→ff,str→gJ,notImplemented→kQ,isStrOf→lg,isInt→l7,float→l8
open PySem.W renaming Frag→ai,findIn→cU,fnOf→dD,keepIn→dQ,emptyDict→eN,kia_one→eO,codeIn→fj,kitOne→fK,instObj→fY,tabObj→gH,ke_canLayAll0→hO,ke_depthAll→iA,cellsFrom_some→iW,envX→iY,specialIn→kg,plainGet→kO,CodeHd→kY,plainGet_of→lh,callWith_K→lN
open PySem.Walks renaming list→iP,dictKeys→kK
open Sum renaming inl→cY,inr→iQ
open True renaming intro→cZ
namespace L2
open PySem PySem.Spec PyProof.Rows
abbrev Key:=Sum Int Str
def zD:Key→Value→Bool
 | .inl k,v=>l7 k v
 | .inr x,v=>lg x v
def xnj(w:World):Key→Int
 | .inl k=>hashInt k
 | .inr x=>hashStr w x
theorem yb:∀{k:Key} {v:Value},zD k v=true→(∃i t,k=cY i∧v=ff i t)∨(∃x t,k=iQ x∧v=gJ x t)
 | .inl i,v,h=>by
  obtain⟨t,e⟩:=Value.isInt_shape (k:=i) (v:=v) h;exact .inl ⟨i,t,rfl,e⟩
 | .inr x,v,h=>by
  obtain⟨t,e⟩:=Value.isStrOf_shape (x:=x) (v:=v) h;exact .inr ⟨x,t,rfl,e⟩
theorem xhP(i:Int)(t:Tok):zD (.inl i) (.int i t)=true:=by simp[zD,l7]
theorem xhQ(x:Str)(t:Tok):zD (.inr x) (.str x t)=true:=by simp[zD,lg]
theorem xlq(a b:Int):decide ((cY a:Key)=cY b)=(a==b):=by
 by_cases e:a=b
 ·subst e;simp
 ·have h:¬(cY a:Key)=cY b:=fun q=>e (Sum.inl.inj q);rw[decide_eq_false h];exact(beq_eq_false_iff_ne.mpr e).symm
theorem xlr(a b:Str):decide ((iQ a:Key)=iQ b)=decide (a=b):=by
 by_cases e:a=b
 ·subst e;simp
 ·have h:¬(iQ a:Key)=iQ b:=fun q=>e (Sum.inr.inj q);rw[decide_eq_false h,decide_eq_false e]
theorem xls(a:Int)(b:Str):decide ((cY a:Key)=iQ b)=false:=decide_eq_false (fun q=>nomatch q)
theorem xlt(a:Str)(b:Int):decide ((iQ a:Key)=cY b)=false:=decide_eq_false (fun q=>nomatch q)
def xK(prog:aF)(w:World):PySem.KeyKind prog w Key where
 is:=zD
 hash:=xnj w
 inj:=fun v a b ha hb=>by
  rcases yb ha with⟨i,t,rfl,rfl⟩|⟨x,t,rfl,rfl⟩
  ·rcases yb hb with⟨j,u,rfl,e⟩|⟨y,u,rfl,e⟩
   ·injection e with e1 _;rw[e1]
   ·exact nomatch e
  ·rcases yb hb with⟨j,u,rfl,e⟩|⟨y,u,rfl,e⟩
   ·exact nomatch e
   ·injection e with e1 _;rw[e1]
 byValue:=fun k v h=>by
  rcases yb h with⟨i,t,rfl,rfl⟩|⟨x,t,rfl,rfl⟩<;> rfl
 pyHash:=fun hv h=>by
  rcases yb hv with⟨i,t,rfl,rfl⟩|⟨x,t,rfl,rfl⟩
  ·exact wpAny_pyHash_int h
  ·exact wpAny_pyHash_str h
 eqBool:=fun hu hv h=>by
  rcases yb hu with⟨i,t,rfl,rfl⟩|⟨x,t,rfl,rfl⟩
  ·rcases yb hv with⟨j,u,rfl,rfl⟩|⟨y,u,rfl,rfl⟩
   ·rw[xlq]at h;exact iU h
   ·rw[xls]at h;exact lI i t y u _ _ _ _ h
  ·rcases yb hv with⟨j,u,rfl,rfl⟩|⟨y,u,rfl,rfl⟩
   ·rw[xlt]at h;exact lJ x t j u _ _ _ _ h
   ·rw[xlr]at h;exact wpAny_eqBool_str h
 «strs»:=fun k x t v h=>by
  rcases yb h with⟨i,u,rfl,e⟩|⟨y,u,rfl,e⟩
  ·exact nomatch e
  ·injection e with e1 _;subst e1;cases v<;> rfl
theorem xfU(prog:aF)(w:World)(i:Int)(t:Tok):(xK prog w).is (.inl i) (.int i t)=true:=xhP i t
theorem xfV(prog:aF)(w:World)(x:Str)(t:Tok):(xK prog w).is (.inr x) (.str x t)=true:=xhQ x t
end L2
namespace L2
open PySem PySem.Spec PyProof.Rows
inductive V where
 |non|bl (b:Bool)|int (i:Int)|str (x:Str)|byt (b:Array UInt8)|flt (b:UInt64)|ref (a:Addr)|ty (n:String)
 deriving DecidableEq
def RelV:V→Value→Prop
 | .non,u=>u=aZ
 | .bl b,u=>u=eE b
 | .int i,u=>∃t,u=ff i t
 | .str x,u=>∃t,u=gJ x t
 | .byt b,u=>∃t,u=Value.bytes b t
 | .flt b,u=>∃t,u=l8 b t
 | .ref a,u=>u=bf a
 | .ty n,u=>u=ck n
theorem RelV.fn{x y:V}{u:Value}(a:RelV x u)(b:RelV y u):x=y:=by
 cases x<;> simp only[RelV]at a<;> (first|subst a|(obtain⟨_,rfl⟩:=a))<;> cases y<;> simp only[RelV]at b<;> first|rfl|(cases b;done)|(cases b;rfl)|(obtain⟨_,b⟩:=b;cases b;done)|(obtain⟨_,b⟩:=b;cases b;rfl)
abbrev Vals:List V→List Value→Prop:=Paired RelV
theorem Vals.length{xs:List V}{us:List Value}(r:Vals xs us):xs.length=us.length:=Paired.length r
theorem Vals.get:∀{xs:List V} {us:List Value} {i:Nat} {x:V},Vals xs us→xs[i]? =some x→∃u,us[i]? =some u∧RelV x u
 |_,_,_,_,.nil,e=>by simp at e
 |_,_,0,_,.cons r _,e=>by simp at e;subst e;exact⟨_,rfl,r⟩
 |_,_,i+1,x,.cons _ t,e=>by
  obtain⟨u,h1,h2⟩:=Vals.get (i:=i) (x:=x) t (by simpa using e);exact⟨u,by simpa using h1,h2⟩
theorem Vals.append:∀{xs ys:List V} {us ws:List Value},Vals xs us→Vals ys ws→Vals (xs++ys) (us++ws)
 |_,_,_,_,.nil,s=>s
 |_,_,_,_,.cons r t,s=>.cons r (Vals.append t s)
theorem Vals.take:∀{xs:List V} {us:List Value} (n:Nat),Vals xs us→Vals (xs.take n) (us.take n)
 |_,_,0,_=>.nil
 |_,_,_+1,.nil=>.nil
 |_,_,n+1,.cons r t=>.cons r (Vals.take n t)
theorem Vals.drop:∀{xs:List V} {us:List Value} (n:Nat),Vals xs us→Vals (xs.drop n) (us.drop n)
 |_,_,0,r=>r
 |_,_,_+1,.nil=>.nil
 |_,_,n+1,.cons _ t=>Vals.drop n t
def zQ:Option V→Option Value→Prop
 |some v,some u=>RelV v u
 |none,none=>True
 |_,_=>False
def KV{κ:Type}:List (κ×V)→List (κ×Value)→Prop:=Paired fun(p:κ×V) (q:κ×Value)=>p.1=q.1∧RelV p.2 q.2
def kV:Key→V
 | .inl i=>.int i
 | .inr x=>.str x
inductive HO where
 |lst (xs:List V)
 |tup (xs:List V)
 |dK (kvs:List (Key×V))|dT (kvs:List (List Key×V))
 |set (S:Int→Bool) (n:Nat)
 |ins (C dx:Addr) (fs:List (Str×V))
 |own (x:Addr)
 |xd (fs:List (Str×V))
 |met (f x:Addr)
 |rng (lo hi:Int)
 |frz (o:Obj) (u:HO)
 |tbl (qs:List (Pos×Str))
 |cel (v:Option V)
 |ext (φ:Heap→Prop)
abbrev Hp:=Addr→Option HO
def upd(H:Hp)(a:Addr)(o:HO):Hp:=fun b=>if b=a then some o else H b
theorem xj{H:Hp}{a:Addr}{o:HO}:upd H a o a=some o:=by unfold upd;rw[if_pos rfl]
theorem xk{H:Hp}{a b:Addr}{o:HO}(h:b≠a):upd H a o b=H b:=by unfold upd;rw[if_neg h]
theorem zZ{H:Hp}{a:Addr}{o u:HO}:upd (upd H a o) a u=upd H a u:=by
 funext b;unfold upd;split<;> rfl
theorem uP{H:Hp}{a b:Addr}{o u:HO}(h:H a=some o)(h':H b=some u)(d:o≠u):a≠b:=by
 intro e;subst e;rw[h]at h';exact d (bw h')
theorem xF{H:Hp}{a b:Addr}{o:HO}(h:H a=some o)(h':H b=none):a≠b:=by
 intro e;subst e;rw[h]at h';cases h'
section
variable (P:aF) (w:World)
def xE(H:Hp)(h:Heap)(a:Addr):HO→Prop
 | .lst xs=>xs.length≤aO∧∃(its:List Value) (n:Nat),Vals xs its∧h.get? a=some {cls:=.type "list",data:=.seq its.toArray n}
 | .tup xs=>xs.length≤aO∧∃its:List Value,Vals xs its∧IsTup h a its.toArray
 | .dK kvs=>kvs.length≤aO∧(a==fG)=false∧∃vs,KV kvs vs∧h.DictOf (xK P w) a vs
 | .dT kvs=>kvs.length≤aO∧(a==fG)=false∧∃xs:List (List Key×Addr×Value),
   Paired (fun(p:List Key×V) (q:List Key×Addr×Value)=>p.1=q.1∧H q.2.1=some (.tup (p.1.map kV))∧RelV p.2 q.2.2) kvs xs∧
   ∃o es ep,h.get? a=some o∧o.ExactDict∧o.data= .dict es ep∧es.toList=xs.map (entryOfKey (tupleKind (xK P w)))∧(xs.map (·.1)).Nodup
 | .set S n=>h.SetOf (intKind P w) a S n
 | .ins C dx fs=>H dx=some (.own a)∧fs.length≤1000∧dx≠a∧h.get? a=some (fY C dx)∧
   ∃mA,h.Ns1 dx mA∧(∀f,zQ (fs.lookup f) (mA f))∧PySem.Within mA (fs.map (·.1))
 | .own _=>∃o,h.get? a=some o
 | .xd fs=>∃mA,h.Ns1 a mA∧∀f,zQ (fs.lookup f) (mA f)
 | .rng lo hi=>∃t u v,h.get? a=some {cls:=.type "range",data:=.fields #[.int lo t,.int hi u,.int 1 v]}
 | .frz o u=>h.get? a=some o∧xE H h a u
 | .tbl qs=>∃ps:Array Value,h.get? a=some {cls:=.none,data:=.fields ps}∧j5 ps.toList∧∀pos q,(pos,q)∈qs→
   fZ pos ps.toList=none∨∃c o u vs t,fZ pos ps.toList=some (.ref c)∧H c=some (.frz o u)∧o.data= .fields vs∧vs[1]? =some (.str q t)
 | .cel v=>∃u,h.IsCell a u∧∀x,v=some x→∃y,u=some y∧RelV x y
 | .met f x=>h.get? a=some (W.methodObj (.ref f) (.ref x))
 | .ext φ=>φ h∧(∃o,h.get? a=some o)∧∀h1 h2:Heap,φ h1→(∀o,h1.get? a=some o→h2.get? a=some o)→φ h2
def HOk(H:Hp)(h:Heap):Prop:=∀a o,H a=some o→xE P w H h a o
end
section
variable {P:aF} {w:World} {H H':Hp} {h h':Heap} {a:Addr} {o:HO}
def xlu:HO→Prop
 | .tup _=>True
 | .frz _ _=>True
 |_=>False
def Fix:HO→Prop
 | .tup _=>True
 | .frz _ _=>True
 | .tbl _=>True
 | .cel _=>True
 |_=>False
theorem xE.lt(x:xE P w H h a o):a<h.objs.size:=by
 cases o with
 |lst xs=>obtain⟨_,_,_,_,e⟩:=x;exact aj e
 |tup xs=>obtain⟨_,_,_,p⟩:=x;exact p.lt
 |dK kvs=>obtain⟨_,_,_,_,o,_,_,e,_⟩:=x;exact aj e
 |dT kvs=>obtain⟨_,_,_,_,o,_,_,e,_⟩:=x;exact aj e
 |set S n=>obtain⟨o,_,_,_,e,_⟩:=x;exact aj e
 |ins C dx fs=>obtain⟨_,_,_,e,_⟩:=x;exact aj e
 |own y=>obtain⟨_,e⟩:=x;exact aj e
 |xd fs=>obtain⟨_,⟨_,_,_,e,_⟩,_⟩:=x;exact aj e
 |rng lo hi=>obtain⟨_,_,_,e⟩:=x;exact aj e
 |frz ob u=>obtain⟨e,_⟩:=x;exact aj e
 |tbl qs=>obtain⟨_,e,_⟩:=x;exact aj e
 |cel v=>obtain⟨_,⟨_,e,_⟩,_⟩:=x;exact aj e
 |met f y=>exact aj (show h.get? a=some _ from x)
 |ext φ=>obtain⟨_,⟨_,e⟩,_⟩:=x;exact aj e
theorem Paired.mapP{α β:Type}{F G:α→β→Prop}:∀{l₁:List α} {l₂:List β},Paired F l₁ l₂→(∀a b,F a b→G a b)→Paired G l₁ l₂
 |_,_,.nil,_=>.nil
 |_,_,.cons r t,f=>.cons (f _ _ r) (Paired.mapP t f)
theorem Paired.imp'{α β:Type}{F G:α→β→Prop}(f:∀a b,F a b→G a b){l₁:List α}{l₂:List β}(r:Paired F l₁ l₂):Paired G l₁ l₂:=Paired.mapP r f
theorem xE.stay(x:xE P w H h a o)(k:∀b u,(b=a∨H b=some (.own a))→h.get? b=some u→h'.get? b=some u)
  (ho:∀b,H b=some (.own a)→H' b=some (.own a)) (ht:∀b u,H b=some u→xlu u→H' b=some u):xE P w H' h' a o:=by
 induction o with
 |lst xs=>obtain⟨z,its,n,r,e⟩:=x;exact⟨z,its,n,r,k _ _ (.inl rfl) e⟩
 |tup xs=>obtain⟨z,its,r,ob,e,c⟩:=x;exact⟨z,its,r,ob,k _ _ (.inl rfl) e,c⟩
 |dK kvs=>obtain⟨z,y,vs,r,ob,es,ep,e,c⟩:=x;exact⟨z,y,vs,r,ob,es,ep,k _ _ (.inl rfl) e,c⟩
 |dT kvs=>
  obtain⟨z,y,xs,r,ob,es,ep,e,c⟩:=x;exact⟨z,y,xs,Paired.mapP r fun p q z=>⟨z.1,ht _ _ z.2.1 trivial,z.2.2⟩,ob,es,ep,k _ _ (.inl rfl) e,c⟩
 |set S n=>obtain⟨ob,es,ep,t,e,c⟩:=x;exact⟨ob,es,ep,t,k _ _ (.inl rfl) e,c⟩
 |ins C dx fs=>
  obtain⟨d,z,ne,e,mA,⟨od,es,ep,e2,c⟩,r⟩:=x;exact⟨ho _ d,z,ne,k _ _ (.inl rfl) e,mA,⟨od,es,ep,k _ _ (.inr d) e2,c⟩,r⟩
 |own y=>obtain⟨ob,e⟩:=x;exact⟨ob,k _ _ (.inl rfl) e⟩
 |xd fs=>obtain⟨mA,⟨od,es,ep,e,c⟩,r⟩:=x;exact⟨mA,⟨od,es,ep,k _ _ (.inl rfl) e,c⟩,r⟩
 |rng lo hi=>obtain⟨t,u,v,e⟩:=x;exact⟨t,u,v,k _ _ (.inl rfl) e⟩
 |frz ob u ih=>obtain⟨e,q⟩:=x;exact⟨k _ _ (.inl rfl) e,ih q⟩
 |tbl qs=>
  obtain⟨ps,e,tr,r⟩:=x;refine⟨ps,k _ _ (.inl rfl) e,tr,fun pos q m=>?_⟩;rcases r pos q m with z|⟨c,ob,u,vs,t,z1,z2,z3⟩
  ·exact .inl z
  ·exact .inr ⟨c,ob,u,vs,t,z1,ht _ _ z2 trivial,z3⟩
 |cel v=>obtain⟨u,⟨ob,e,d⟩,r⟩:=x;exact⟨u,⟨ob,k _ _ (.inl rfl) e,d⟩,r⟩
 |met f y=>
  have e:h.get? a=some (W.methodObj (.ref f) (.ref y)):=x;show h'.get? a=some (W.methodObj (.ref f) (.ref y));exact k a _ (.inl rfl) e
 |ext φ=>obtain⟨p,⟨o,e⟩,st⟩:=x;exact⟨st _ _ p fun o q=>k _ _ (.inl rfl) q,⟨o,k _ _ (.inl rfl) e⟩,st⟩
theorem HOk.lt(x:HOk P w H h)(e:H a=some o):a<h.objs.size:=(x a o e).lt
theorem HOk.fresh(x:HOk P w H h)(e:h.objs.size≤a):H a=none:=by
 cases q:H a with
 |none=>rfl
 |some u=>exact absurd (aw (x.lt q) e) (bV _)
theorem HOk.kept(x:HOk P w H h)(k:∀b u,h.get? b=some u→h'.get? b=some u):HOk P w H h':=fun a o e=>
 (x a o e).stay (fun b u _ q=>k b u q) (fun _ q=>q) fun _ _ q _=>q
theorem HOk.laid(x:HOk P w H h)(k:∀b u,h.get? b=some u→h'.get? b=some u)(hp:h.objs.size≤a)(new:xE P w (upd H a o) h' a o):HOk P w (upd H a o) h':=fun b u e=>by
 have hn:=x.fresh hp
 by_cases hb:b=a
 ·subst hb;rw[xj]at e;cases e;exact new
 ·rw[xk hb]at e;exact(x b u e).stay (fun c v _ q=>k c v q) (fun c q=>by rw[xk (xF q hn)];exact q) fun c xs q _=>by rw[xk (xF q hn)];exact q
end
def Rd(H:Hp)(a:Addr)(u:HO):Prop:=H a=some u∨∃o,H a=some (.frz o u)
theorem Rd.ok{P:aF}{w:World}{H:Hp}{h:Heap}{a:Addr}{u:HO}(r:Rd H a u)(x:HOk P w H h):xE P w H h a u:=by
 rcases r with r|⟨o,r⟩
 ·exact x a u r
 ·obtain⟨_,q⟩:=x a _ r;exact q
def Mut:Option HO→Prop
 |some (.lst _)=>True
 |some (.dK _)=>True
 |some (.dT _)=>True
 |some (.set _ _)=>True
 |some (.ins _ _ _)=>True
 |some (.ext _)=>True
 |_=>False
section
variable {P:aF} {w:World} {H:Hp} {h h':Heap} {x e:Addr} {o':HO}
theorem HOk.write(ok:HOk P w H h)(mu:Mut (H x))(he:e=x∨H e=some (.own x))(k:∀b u,b≠e→h.get? b=some u→h'.get? b=some u)(heo:∃u,h'.get? e=some u)
  (new:xE P w (upd H x o') h' x o'):HOk P w (upd H x o') h':=fun b u q=>by
 have nown:∀c y,H c=some (.own y)→c≠x:=fun c y r z=>by subst z;rw[r]at mu;exact mu
 have ntup:∀c u,H c=some u→xlu u→c≠x:=fun c u r hf z=>by
  subst z;rw[r]at mu;cases u<;> first|exact mu|exact hf
 by_cases hb:b=x
 ·subst hb;rw[xj]at q;cases q;exact new
 ·rw[xk hb]at q
  by_cases hbe:b=e
  ·have q':H b=some (.own x):=by
    rcases he with z|z
    ·exact absurd (hbe.trans z) hb
    ·rw[hbe];exact z
   rw[q]at q';cases q';obtain⟨v,hv⟩:=heo;exact⟨v,by rw[hbe];exact hv⟩
  ·refine(ok b u q).stay (fun c v hc r=>k c v ?_ r) (fun c r=>by rw[xk (nown c b r)];exact r) fun c xs r hf=>by rw[xk (ntup c xs r hf)];exact r
   rcases hc with rfl|hc
   ·exact hbe
   ·rintro rfl;rcases he with z|z
    ·exact nown c b hc z
    ·rw[hc]at z;cases z;exact hb rfl
end
structure Un(fs ex:List Addr)(H H':Hp)(h h':Heap):Prop where
 keep:∀b o,h.get? b=some o→H b=none→b∉fs→b∉ex→h'.get? b=some o
 slot:∀b o,h.get? b=some o→H b=none→b∈fs→b∉ex→∃sl,h'.get? b=some {o with slots:=sl}
 free:∀b o,h.get? b=some o→H b=none→b∉ex→H' b=none
 there:∀b o,h.get? b=some o→b∉ex→∃o',h'.get? b=some o'
 fix:∀b u,H b=some u→Fix u→H' b=some u
section
variable {fs fs' ex ex':List Addr} {H H1 H2:Hp} {h h1 h2 h':Heap} {a x e:Addr} {o:HO}
theorem Un.any(u:Un fs ex H H1 h h1){b:Addr}{ob:Obj}(q:h.get? b=some ob)(n:H b=none)(hx:b∉ex):∃sl,h1.get? b=some {ob with slots:=sl}:=by
 by_cases hb:b∈fs
 ·exact u.slot b ob q n hb hx
 ·exact⟨ob.slots,u.keep b ob q n hb hx⟩
theorem Un.trans(a:Un fs ex H H1 h h1)(b:Un fs ex H1 H2 h1 h2):Un fs ex H H2 h h2 where
 keep:=fun c ob q n hc hx=>b.keep c ob (a.keep c ob q n hc hx) (a.free c ob q n hx) hc hx
 slot:=fun c ob q n hc hx=>by
  obtain⟨sl,e1⟩:=a.slot c ob q n hc hx;obtain⟨sl',e2⟩:=b.slot c _ e1 (a.free c ob q n hx) hc hx;exact⟨sl',e2⟩
 free:=fun c ob q n hx=>by
  obtain⟨o',e1⟩:=a.there c ob q hx;exact b.free c o' e1 (a.free c ob q n hx) hx
 there:=fun c ob q hx=>by
  obtain⟨o',e1⟩:=a.there c ob q hx;exact b.there c o' e1 hx
 fix:=fun c u q f=>b.fix c u (a.fix c u q f) f
theorem Un.kept(k:∀b u,h.get? b=some u→h'.get? b=some u):Un fs ex H H h h':=
 ⟨fun b ob q _ _ _=>k b ob q,fun b ob q _ _ _=>⟨ob.slots,k b ob q⟩,fun _ _ _ n _=>n,fun b ob q _=>⟨ob,k b ob q⟩,fun _ _ q _=>q⟩
theorem Un.refl:Un fs ex H H h h:=Un.kept fun _ _ q=>q
theorem Un.laid(k:∀b u,h.get? b=some u→h'.get? b=some u)(hp:h.objs.size≤a)(hn:H a=none):Un fs ex H (upd H a o) h h' where
 keep:=fun b u q _ _ _=>k b u q
 slot:=fun b u q _ _ _=>⟨u.slots,k b u q⟩
 free:=fun b u q n _=>by rw[xk (ar (aw (aj q) hp))];exact n
 there:=fun b u q _=>⟨u,k b u q⟩
 fix:=fun b u q _=>by rw[xk (xF q hn)];exact q
theorem Un.write(mu:Mut (H x))(he:e=x∨H e=some (.own x))(k:∀b u,b≠e→h.get? b=some u→h'.get? b=some u)(heo:∃u,h'.get? e=some u):Un fs ex H (upd H x o) h h':=by
 have hx:∀b,H b=none→b≠x:=fun b n z=>by subst z;rw[n]at mu;exact mu
 have hb:∀b,H b=none→b≠e:=fun b n z=>by
  subst z;rcases he with r|r
  ·exact hx b n r
  ·rw[n]at r;cases r
 have hm:∀b u,H b=some u→¬Mut (some u)→b≠x:=fun b u q nm z=>by subst z;rw[q]at mu;exact nm mu
 refine⟨fun b u q n _ _=>k b u (hb b n) q,fun b u q n _ _=>⟨u.slots,k b u (hb b n) q⟩,fun b u q n _=>by rw[xk (hx b n)];exact n,fun b u q _=>?_,
  fun b u q hf=>by rw[xk (hm b _ q fun z=>by cases u<;> first|exact z|exact hf)];exact q⟩
 by_cases hbe:b=e
 ·subst hbe;exact heo
 ·exact⟨u,k b u hbe q⟩
end
def trk(h:Heap)(H:Hp):List Addr:=(aI h.objs.size).filter fun a=>(H a).isSome
def jM(h:Heap)(H:Hp):Heap:=W.hideAll h (trk h H)
theorem xhR(h:Heap)(H:Hp):(jM h H).objs.size=h.objs.size:=W.hideAll_size _ _
theorem xjb{h:Heap}{H:Hp}{b:Addr}{o:Obj}(e:h.get? b=some o)(n:H b=none):(jM h H).get? b=some o:=
 W.hideAll_get _ e fun hm=>by
  have q:(H b).isSome=true:=(aE.mp hm).2;rw[n]at q;simp at q
theorem xko{h:Heap}{H:Hp}{b:Addr}{o:Obj}(e:(jM h H).get? b=some o):h.get? b=some o∧H b=none:=by
 have e':h.get? b=some o:=W.of_hideAll (trk h H) e;refine⟨e',?_⟩;cases q:H b with
 |none=>rfl
 |some x=>
  have hm:b∈trk h H:=aE.mpr ⟨a7.mpr (aj e'),by simp[q]⟩;have z:(jM h H).get? b=none:=W.hideAll_none (trk h H) hm;rw[z]at e;cases e
end L2
namespace L2
open PySem PySem.Spec PyProof.Rows
structure Mod(K:ai)(mg:Str→Option Value)(base:Heap):Prop where
 kin:K.In base
 glob:base.Ns bA mg
 blt:∃mb,base.Ns dA mb∧∀x:Str,x≠"__name__"→mb x=bX x
 nolimit:base.NoLimit
 bm:∃b o,mg "__builtins__"=some (.ref b)∧b≠dA∧base.get? b=some o∧o.cls= .type "module"∧o.dict=some dA∧o.data= .plain
structure Cx where
 prog:aF
 w:World
 K:ai
 mg:Str→Option Value
 base:Heap
 A:aU
 N:List Str
 s₀:ae
 H₀:Hp
 env:Env
 outer:List Env
 stack:List Env
 ex:List Addr
 fn:Str→Bool
 calm:Bool
 pn:List (Addr×Obj)
 xe:Value→ae→Prop
 cp:Str→Bool
def frs(l:List Env):List Addr:=l.filterMap (·.frame)
abbrev Cx.fs(X:Cx):List Addr:=frs X.outer
def Vis(sc:Scope)(x:Str):Prop:=sc.names.lookup x=some .local∨sc.names.lookup x=some .cell∨sc.names.lookup x=some .free
def Loc(sc:Scope)(x:Str):Prop:=sc.names.lookup x=some .local∨sc.names.lookup x=some .cell
def Look(env:Env)(h:Heap)(m:Str→Option Value)(x:Str)(u:Value):Prop:=
 (env.kindOf x=some .local∧m x=some u)∨((env.kindOf x=some .cell∨env.kindOf x=some .free)∧∃c,env.cells.lookup x=some c∧h.IsCell c (some u))
structure Cx.Ok(X:Cx):Prop where
 mod:Mod X.K X.mg X.base
 kind:X.env.scope.kind= .function
 glob:X.env.globals=bA
 blt:X.env.builtins=dA
 above:X.s₀.heap.objs.size≤X.env.locals
 inj:∀x y c,X.env.cells.lookup x=some c→X.env.cells.lookup y=some c→x=y
 has:∀x,(X.env.kindOf x=some .cell∨X.env.kindOf x=some .free)→∃c,X.env.cells.lookup x=some c
 cab:∀x c,X.fn x=true→X.env.cells.lookup x=some c→X.s₀.heap.objs.size≤c
 hd:X.calm=true→X.A.handled=none
 frames:X.A.frames=some X.stack
 stk:X.stack=X.outer∨(X.stack=X.env::X.outer∧X.env.frame=some X.env.locals)
 exf:∀b∈X.ex,b≠X.env.locals∧∀x c,X.env.cells.lookup x=some c→c≠b
 bs:∀b o,X.base.get? b=some o→X.s₀.heap.get? b=some o∧X.H₀ b=none
 bsz:X.base.objs.size≤X.s₀.heap.objs.size
 noex:∀b o,X.base.get? b=some o→b∉X.ex
 exfs:∀b∈X.ex,b∉X.fs
 funs:X.s₀.heap.FunFrames X.base X.outer
 frf:∀b∈X.fs,X.H₀ b=none
 cab2:∀x c,X.cp x=true→X.env.cells.lookup x=some c→X.s₀.heap.objs.size≤c
 hz:∀b,X.s₀.heap.objs.size≤b→X.H₀ b=none
structure Inv(X:Cx)(pins:List (Addr×Obj))(σ:List (Option V))(H:Hp)(s:ae):Prop where
 ok:X.Ok
 os:s.os=X.s₀.os
 bare:fB s.gens
 base:Un X.fs X.ex X.H₀ H X.s₀.heap s.heap
 loc:∃m,s.heap.Ns X.env.locals m∧∀(i:Nat) (x:Str) (v:V),X.N[i]? =some x→σ[i]? =some (some v)→Vis X.env.scope x→∃u,RelV v u∧Look X.env s.heap m x u
 cell:∀x c,X.env.cells.lookup x=some c→∃v,s.heap.IsCell c v
 free:H X.env.locals=none
 freeC:∀x c,X.env.cells.lookup x=some c→H c=none∨(X.fn x=false∧∃o,H c=some (.cel o)∧(o=none→∀(i:Nat) v,X.N[i]? =some x→(X.env.kindOf x=some .cell∨X.env.kindOf x=some .free)→σ[i]?≠some (some v)))
 pin:∀p∈X.pn++pins,s.heap.get? p.1=some p.2∧H p.1=none∧p.1≠X.env.locals∧p.1∉X.fs∧∀v,p.2.data≠.cell v
 hok:HOk X.prog X.w H s.heap
 len:σ.length=X.N.length
section
variable {X:Cx} {pins:List (Addr×Obj)} {σ:List (Option V)} {H H':Hp} {s:ae} {h':Heap}
theorem Cx.Ok.nofr(ok:X.Ok){b:Addr}{o:Obj}(e:X.base.get? b=some o):b∉X.fs:=fun hb=>by
 have:=(ok.funs.mem hb).1;rw[e]at this;cases this
theorem Inv.bs(I:Inv X pins σ H s):∀b o,X.base.get? b=some o→s.heap.get? b=some o∧H b=none:=fun b o e=>
 ⟨I.base.keep b o (I.ok.bs b o e).1 (I.ok.bs b o e).2 (I.ok.nofr e) (I.ok.noex b o e),I.base.free b o (I.ok.bs b o e).1 (I.ok.bs b o e).2 (I.ok.noex b o e)⟩
theorem Inv.bk(I:Inv X pins σ H s):∀b o,X.base.get? b=some o→s.heap.get? b=some o:=fun b o e=>(I.bs b o e).1
theorem Inv.mod(I:Inv X pins σ H s):Mod X.K X.mg X.base:=I.ok.mod
theorem Inv.kIn(I:Inv X pins σ H s):X.K.In s.heap:=I.ok.mod.kin.keeps I.bk
theorem Inv.lt(I:Inv X pins σ H s):X.env.locals<s.heap.objs.size:=let⟨_,hn,_⟩:=I.loc;hn.lt
theorem Inv.sz(I:Inv X pins σ H s):X.s₀.heap.objs.size≤s.heap.objs.size:=bp I.ok.above (cx I.lt)
theorem Inv.nofs(I:Inv X pins σ H s){a:Addr}(h:s.heap.objs.size≤a):a∉X.fs:=fun hb=>by
 obtain⟨_,o,ho,_⟩:=I.ok.funs.mem hb;exact absurd (aw (aj ho) (bp I.sz h)) (bV _)
theorem Inv.cne(I:Inv X pins σ H s):∀x c,X.env.cells.lookup x=some c→c≠X.env.locals:=fun x c e z=>by
 obtain⟨v,o,ho,hd⟩:=I.cell x c e;obtain⟨m,⟨o',es,ep,ho',hd',_⟩,_⟩:=I.loc;rw[z,ho']at ho;cases ho;rw[hd']at hd;cases hd
theorem Inv.funs(I:Inv X pins σ H s):s.heap.FunFrames X.base X.outer:=by
 have all:∀(l:List Env),(∀b∈frs l,b∈X.fs)→X.s₀.heap.FunFrames X.base l→s.heap.FunFrames X.base l:=by
  intro l
  induction l with
  |nil=>intro _ _;trivial
  |cons env r ih=>
   intro hs hl;obtain⟨hk,⟨L,o,hf,hn,ho,hd⟩,hr⟩:=hl;have hL:L∈X.fs:=hs L (by unfold frs;rw[ic,hf];exact aA);obtain⟨sl,e⟩:=I.base.slot L o ho (I.ok.frf L hL) hL fun z=>I.ok.exfs L z hL;exact⟨hk,⟨L,_,hf,hn,e,hd⟩,ih (fun b hb=>hs b (by unfold frs;rw[ic,hf];exact aq _ hb)) hr⟩
 exact all X.outer (fun _ hb=>hb) I.ok.funs
theorem Inv.stack(I:Inv X pins σ H s):s.heap.FunFrames X.base X.stack:=by
 rcases I.ok.stk with e|⟨e,hf⟩
 ·rw[e];exact I.funs
 ·rw[e];obtain⟨m,hn,_⟩:=I.loc;refine .cons (by rw[I.ok.kind];decide) hf hn ?_ I.funs;exact Heap.get?_none_of_le (bp I.ok.bsz I.ok.above)
theorem Inv.stkSub(I:Inv X pins σ H s):∀b∈frs X.stack,b∈X.env.locals::X.fs:=fun b hb=>by
 rcases I.ok.stk with e|⟨e,hf⟩
 ·rw[e]at hb;exact aq _ hb
 ·rw[e]at hb;unfold frs at hb;rw[ic,hf]at hb;exact hb
theorem Inv.stkFree(I:Inv X pins σ H s):∀b∈frs X.stack,H b=none:=fun b hb=>by
 rcases az.mp (I.stkSub b hb)with e|hb
 ·rw[e];exact I.free
 ·obtain⟨_,o,ho,_⟩:=I.ok.funs.mem hb;exact I.base.free b o ho (I.ok.frf b hb) fun z=>I.ok.exfs b z hb
theorem Inv.step{g':Array GenState}{t':Nat}{d':Drawn}{ch:List Addr}(I:Inv X pins σ H s)
  (hch:∀b∈ch,(b∈X.ex∨X.s₀.heap.objs.size≤b)∧b≠X.env.locals∧(∀x c,X.env.cells.lookup x=some c→c≠b)∧∀p∈X.pn++pins,p.1≠b)
  (keep:∀b o,b≠X.env.locals→b∉X.fs→b∉ch→s.heap.get? b=some o→H b=none→h'.get? b=some o)
  (slot:∀b o,b≠X.env.locals→b∈X.fs→b∉ch→s.heap.get? b=some o→H b=none→∃sl,h'.get? b=some {o with slots:=sl}) (free:∀b o,b∉ch→s.heap.get? b=some o→H b=none→H' b=none)
  (there:∀b o,b∉ch→s.heap.get? b=some o→∃o',h'.get? b=some o')
  (fix:∀b u,H b=some u→Fix u→H' b=some u)
  (ns:∀m,s.heap.Ns X.env.locals m→h'.Ns X.env.locals m) (hok:HOk X.prog X.w H' h') (hg:fB g'):
  Inv X pins σ H' {s with heap:=h',gens:=g',drawn:=d',toks:=t'}:=by
 have neL:∀b o,X.s₀.heap.get? b=some o→b≠X.env.locals:=fun b o e=>ar (aw (aj e) I.ok.above);have neC:∀b o,X.s₀.heap.get? b=some o→b∉X.ex→b∉ch:=fun b o e hx hb=>by
  rcases(hch b hb).1 with z|z
  ·exact hx z
  ·exact absurd (aw (aj e) z) (bV _)
 have cellK:∀x c,X.env.cells.lookup x=some c→H c=none→∀v,s.heap.IsCell c v→h'.IsCell c v:=fun x c e hn v ⟨o,ho,hd⟩=>by
  have nch:c∉ch:=fun z=>(hch c z).2.2.1 x c e rfl
  by_cases hc:c∈X.fs
  ·obtain⟨sl,q⟩:=slot c o (I.cne x c e) hc nch ho hn;exact⟨_,q,hd⟩
  ·exact⟨o,keep c o (I.cne x c e) hc nch ho hn,hd⟩
 refine⟨I.ok,I.os,hg,⟨fun b o e n hb hx=>?_,fun b o e n hb hx=>?_,fun b o e n hx=>?_,fun b o e hx=>?_,fun b u e f=>fix b u (I.base.fix b u e f) f⟩,?_,fun x c e=>?_,?_,fun x c e=>?_,fun p hp=>?_,hok,I.len⟩
 ·exact keep b o (neL b o e) hb (neC b o e hx) (I.base.keep b o e n hb hx) (I.base.free b o e n hx)
 ·obtain⟨sl,e1⟩:=I.base.slot b o e n hb hx;obtain⟨sl',e2⟩:=slot b _ (neL b o e) hb (neC b o e hx) e1 (I.base.free b o e n hx);exact⟨sl',e2⟩
 ·obtain⟨o',e1⟩:=I.base.there b o e hx;exact free b o' (neC b o e hx) e1 (I.base.free b o e n hx)
 ·obtain⟨o',e1⟩:=I.base.there b o e hx;exact there b o' (neC b o e hx) e1
 ·obtain⟨m,hn,hl⟩:=I.loc;refine⟨m,ns m hn,fun i x v e1 e2 e3=>?_⟩;obtain⟨u,r,l⟩:=hl i x v e1 e2 e3;rcases l with l|⟨k,c,e,z⟩
  ·exact⟨u,r,.inl l⟩
  ·rcases I.freeC x c e with hn'|⟨_,o,ho,hno⟩
   ·exact⟨u,r,.inr ⟨k,c,e,cellK x c e hn' _ z⟩⟩
   ·cases o with
    |none=>exact absurd e2 (hno rfl i v e1 k)
    |some v'=>
     obtain⟨y,hy,hr⟩:=I.hok c _ ho;obtain⟨y',hy',hr'⟩:=hok c _ (fix c _ ho trivial);obtain⟨y2,rfl,r2⟩:=hr v' rfl;obtain⟨y3,rfl,r3⟩:=hr' v' rfl;have:v=v':=RelV.fn r (by
      obtain⟨o1,q1,q2⟩:=z;obtain⟨o2,q3,q4⟩:=hy;rw[q1]at q3;cases q3;rw[q2]at q4;cases q4;exact r2)
     subst this;exact⟨y3,r3,.inr ⟨k,c,e,hy'⟩⟩
 ·rcases I.freeC x c e with hn'|⟨_,o,ho,_⟩
  ·obtain⟨v,z⟩:=I.cell x c e;exact⟨v,cellK x c e hn' v z⟩
  ·obtain⟨y',hy',_⟩:=hok c _ (fix c _ ho trivial);exact⟨y',hy'⟩
 ·obtain⟨m,⟨o,_,_,ho,_⟩,_⟩:=I.loc;exact free _ o (fun z=>(hch _ z).2.1 rfl) ho I.free
 ·rcases I.freeC x c e with hn'|⟨hf,o,ho,hno⟩
  ·obtain⟨v,o,ho,hd⟩:=I.cell x c e;exact .inl (free c o (fun z=>(hch c z).2.2.1 x c e rfl) ho hn')
  ·exact .inr ⟨hf,o,fix c _ ho trivial,hno⟩
 ·obtain⟨e,n,ne,nf,d⟩:=I.pin p hp;have nch:p.1∉ch:=fun z=>(hch p.1 z).2.2.2 p hp rfl;exact⟨keep p.1 p.2 ne nf nch e n,free p.1 p.2 nch e n,ne,nf,d⟩
theorem Inv.un{t':Nat}(I:Inv X pins σ H s)(u:Un X.fs [] H H' s.heap h')(hok:HOk X.prog X.w H' h'):Inv X pins σ H' {s with heap:=h',toks:=t'}:=by
 obtain⟨m,⟨o,es,ep,ho,r⟩,_⟩:=id I.loc;obtain⟨sl,hL⟩:=u.any ho I.free (by simp);exact I.step (g':=s.gens) (d':=s.drawn) (ch:=[]) (fun _ z=>nomatch z) (fun b o _ hb _ e n=>u.keep b o e n hb (by simp)) (fun b o _ hb _ e n=>u.slot b o e n hb (by simp)) (fun b o _ e n=>u.free b o e n (by simp)) (fun b o _ e=>u.there b o e (by simp)) u.fix (fun m' hm=>by
  obtain⟨o',es',ep',ho',r'⟩:=hm;rw[ho]at ho';cases ho';exact⟨_,es',ep',hL,r'⟩) hok I.bare
theorem Inv.call{g':Array GenState}{t':Nat}{d':Drawn}{ch:List Addr}(I:Inv X pins σ H s)(u:Un (frs X.stack) ch H H' s.heap h')(hok:HOk X.prog X.w H' h')(hg:fB g')
  (hch:∀b∈ch,(b∈X.ex∨X.s₀.heap.objs.size≤b)∧b≠X.env.locals∧(∀x c,X.env.cells.lookup x=some c→c≠b)∧∀p∈X.pn++pins,p.1≠b):
  Inv X pins σ H' {s with heap:=h',gens:=g',drawn:=d',toks:=t'}:=by
 obtain⟨m,⟨o,es,ep,ho,r⟩,_⟩:=id I.loc;obtain⟨sl,hL⟩:=u.any ho I.free fun z=>(hch _ z).2.1 rfl;exact I.step (ch:=ch) hch (fun b o hL hb hc e n=>u.keep b o e n (fun z=>(az.mp (I.stkSub b z)).elim hL hb) hc) (fun b o _ _ hc e n=>u.any e n hc) (fun b o hc e n=>u.free b o e n hc) (fun b o hc e=>u.there b o e hc) u.fix (fun m' hm=>by
  obtain⟨o',es',ep',ho',r'⟩:=hm;rw[ho]at ho';cases ho';exact⟨_,es',ep',hL,r'⟩) hok hg
theorem Inv.turned{t':Nat}{it:Addr}(I:Inv X pins σ H s)(k:∀b o,b≠it→s.heap.get? b=some o→h'.get? b=some o)(hn:H it=none)(hL:it≠X.env.locals)
  (h1:it∈X.ex∨X.s₀.heap.objs.size≤it) (h2:∀x c,X.env.cells.lookup x=some c→c≠it) (h3:∀p∈X.pn++pins,p.1≠it):Inv X pins σ H {s with heap:=h',toks:=t'}:=by
 have nit:∀b u,H b=some u→b≠it:=fun b u e z=>by rw[z,hn]at e;cases e
 refine I.step (g':=s.gens) (d':=s.drawn) (ch:=[it]) (fun b hb=>?_) (fun b o _ _ hc e _=>k b o (fun z=>hc (by simp[z])) e) (fun b o _ _ hc e _=>⟨o.slots,k b o (fun z=>hc (by simp[z])) e⟩) (fun _ _ _ _ n=>n)
  (fun b o hc e=>⟨o,k b o (fun z=>hc (by simp[z])) e⟩) (fun _ _ e _=>e) (fun m hm=>?_) (fun b u e=>?_) I.bare
 ·have e:b=it:=by simpa using hb
  subst e;exact⟨h1,hL,h2,h3⟩
 ·obtain⟨o,es,ep,ho,r⟩:=hm;exact⟨o,es,ep,k _ o (bO hL) ho,r⟩
 ·refine(I.hok b u e).stay (fun c v hc q=>k c v ?_ q) (fun _ q=>q) fun _ _ q _=>q;rcases hc with z|z
  ·rw[z];exact nit b u e
  ·exact nit c _ z
theorem Inv.tok(I:Inv X pins σ H s)(t:Nat):Inv X pins σ H {s with toks:=t}:=I.un (h':=s.heap) (t':=t) Un.refl I.hok
theorem Inv.kept{t':Nat}(I:Inv X pins σ H s)(k:∀b u,s.heap.get? b=some u→h'.get? b=some u):Inv X pins σ H {s with heap:=h',toks:=t'}:=I.un (Un.kept k) (I.hok.kept k)
theorem Inv.laid{a:Addr}{o:HO}{t':Nat}(I:Inv X pins σ H s)(k:∀b u,s.heap.get? b=some u→h'.get? b=some u)(hp:s.heap.objs.size≤a)(new:xE X.prog X.w (upd H a o) h' a o):
  Inv X pins σ (upd H a o) {s with heap:=h',toks:=t'}:=I.un (Un.laid k hp (I.hok.fresh hp)) (I.hok.laid k hp new)
theorem Inv.write{x e:Addr}{o:HO}{t':Nat}(I:Inv X pins σ H s)(mu:Mut (H x))(he:e=x∨H e=some (.own x))(k:∀b u,b≠e→s.heap.get? b=some u→h'.get? b=some u)(heo:∃u,h'.get? e=some u)
  (new:xE X.prog X.w (upd H x o) h' x o):Inv X pins σ (upd H x o) {s with heap:=h',toks:=t'}:=I.un (Un.write mu he k heo) (I.hok.write mu he k heo new)
theorem Inv.weak{σ':List (Option V)}(I:Inv X pins σ H s)(hl:σ'.length=σ.length)(w:∀(i:Nat) v,σ'[i]? =some (some v)→σ[i]? =some (some v)):Inv X pins σ' H s:=
 ⟨I.ok,I.os,I.bare,I.base,let⟨m,hn,hl'⟩:=I.loc;⟨m,hn,fun i x v e1 e2 e3=>hl' i x v e1 (w i v e2) e3⟩,I.cell,I.free,fun x c e=>(I.freeC x c e).imp id fun⟨hf,o,ho,hno⟩=>⟨hf,o,ho,fun z i v e1 k e2=>hno z i v e1 k (w i v e2)⟩,I.pin,I.hok,hl.trans I.len⟩
theorem Inv.pins_of{pins':List (Addr×Obj)}(I:Inv X pins σ H s)(h:∀p∈pins',s.heap.get? p.1=some p.2∧H p.1=none∧p.1≠X.env.locals∧p.1∉X.fs∧∀v,p.2.data≠.cell v):Inv X pins' σ H s:=
 ⟨I.ok,I.os,I.bare,I.base,I.loc,I.cell,I.free,I.freeC,fun p hp=>(bb.mp hp).elim (fun z=>I.pin p (bW _ z)) (h p),I.hok,I.len⟩
theorem xb2{N:List Str}(hN:N.Nodup){i j:Nat}{x:Str}(a:N[i]? =some x)(b:N[j]? =some x):i=j:=by
 obtain⟨h1,e1⟩:=aW.mp a;obtain⟨h2,e2⟩:=aW.mp b;exact(fH hN).mp (e1.trans e2.symm)
theorem xdM{M:Model}{A:aU}{E:Value→ae→Prop}{i:Nat}{x:Str}{v:V}{u:Value}{Q:Unit→ae→Prop}(I:Inv X pins σ H s)(hN:X.N.Nodup)(hi:X.N[i]? =some x)(hx:Loc X.env.scope x)(r:RelV v u)
  (h:∀s',Inv X pins (σ.set i (some v)) H s'→(∃a,f6 a s.heap s'.heap∧(a=X.env.locals∨X.env.cells.lookup x=some a))→Q () s') (hf:X.fn x=true∨X.env.scope.names.lookup x=some .local:=by first|exact .inl rfl|exact .inr rfl|assumption):wpAny M A (storeName X.env x u) Q E s:=by
 obtain⟨m,hn,hl⟩:=id I.loc;have hcls:(X.env.scope.kind== .class||(X.env.scope.kind== .module&&X.env.locals != X.env.globals))=false:=by rw[I.ok.kind];rfl
 have hiσ:i<σ.length:=by rw[I.len];exact(aW.mp hi).1
 have cne:=I.cne;have tracked:∀{a:Addr} {h':Heap},(∃o,s.heap.get? a=some o∧H a=none)→f6 a s.heap h'→HOk X.prog X.w H h':=fun{a h'} ha hs b ob e=>by
  obtain⟨_,_,hfree⟩:=ha;refine(I.hok b ob e).stay (fun c w' hc q=>(hs.2 c ?_).trans q) (fun _ q=>q) fun _ _ q _=>q;rintro rfl;rcases hc with rfl|hc
  ·rw[hfree]at e;cases e
  ·rw[hfree]at hc;cases hc
 rcases hx with hk|hk
 ·refine wpAny_storeName_local hk hn (fun h' hn' hs=>?_) hcls;obtain⟨oL,_,_,hoL,_⟩:=id hn;refine h _ ⟨I.ok,I.os,I.bare,⟨fun b o e n hb hx=>?_,fun b o e n hb hx=>?_,I.base.free,fun b o e hx=>?_,I.base.fix⟩,⟨_,hn',fun j y v' e1 e2 e3=>?_⟩,fun y c e=>?_,I.free,fun y c e=>?_,fun p hp=>?_,tracked ⟨oL,hoL,I.free⟩ hs,by simpa using I.len⟩ ⟨_,hs,.inl rfl⟩
  ·exact(hs.2 b (ar (aw (aj e) I.ok.above))).trans (I.base.keep b o e n hb hx)
  ·obtain⟨sl,e1⟩:=I.base.slot b o e n hb hx;exact⟨sl,(hs.2 b (ar (aw (aj e) I.ok.above))).trans e1⟩
  ·obtain⟨o',e1⟩:=I.base.there b o e hx;exact⟨o',(hs.2 b (ar (aw (aj e) I.ok.above))).trans e1⟩
  ·by_cases hj:j=i
   ·subst hj;rw[hi]at e1;cases e1;rw[kf hiσ]at e2;cases e2;exact⟨u,r,.inl ⟨hk,by simp⟩⟩
   ·rw[fJ (bO hj)]at e2;obtain⟨u',r',q⟩:=hl j y v' e1 e2 e3;refine⟨u',r',?_⟩;rcases q with⟨k,e⟩|⟨k,c,e,z⟩
    ·refine .inl ⟨k,?_⟩;have:y≠x:=fun e=>hj (xb2 hN e1 (e▸hi));simp[this,e]
    ·exact .inr ⟨k,c,e,z.sameBut hs (cne y c e)⟩
  ·obtain⟨w',z⟩:=I.cell y c e;exact⟨w',z.sameBut hs (cne y c e)⟩
  ·refine(I.freeC y c e).imp id fun⟨hf',o',ho',hno⟩=>⟨hf',o',ho',fun z j v' e1 k e2=>?_⟩
   by_cases hj:j=i
   ·subst hj;rw[hi]at e1;cases e1;have hk':X.env.kindOf x=some .local:=hk;rw[hk']at k;rcases k with k|k<;> cases k
   ·rw[fJ (bO hj)]at e2;exact hno z j v' e1 k e2
  ·obtain⟨e,n,ne,nf,d⟩:=I.pin p hp;exact⟨(hs.2 p.1 ne).trans e,n,ne,nf,d⟩
 ·have hfn:X.fn x=true:=by
   rcases hf with z|z
   ·exact z
   ·rw[z]at hk;cases hk
  obtain⟨c,hc⟩:=I.ok.has x (.inl hk);have hHc:H c=none:=by
   rcases I.freeC x c hc with z|⟨z,_⟩
   ·exact z
   ·rw[hfn]at z;cases z
  obtain⟨w',z⟩:=I.cell x c hc;refine wpAny_storeName_cell I.ok.kind hk hc z (fun h' hc' hs=>?_);obtain⟨oc,hoc,hocd⟩:=id z;refine h {s with heap:=h'} ⟨I.ok,I.os,I.bare,⟨fun b o e n hb hx=>?_,fun b o e n hb hx=>?_,I.base.free,fun b o e hx=>?_,I.base.fix⟩,⟨m,hn.sameBut hs (bO (cne x c hc)),fun j y v' e1 e2 e3=>?_⟩,fun y c' e=>?_,I.free,fun y c' e=>?_,fun p hp=>?_,tracked ⟨oc,hoc,hHc⟩ hs,by simpa using I.len⟩ ⟨c,hs,.inr hc⟩
  ·exact(hs.2 b (ar (aw (aj e) (I.ok.cab x c hfn hc)))).trans (I.base.keep b o e n hb hx)
  ·obtain⟨sl,e1⟩:=I.base.slot b o e n hb hx;exact⟨sl,(hs.2 b (ar (aw (aj e) (I.ok.cab x c hfn hc)))).trans e1⟩
  ·obtain⟨o',e1⟩:=I.base.there b o e hx;exact⟨o',(hs.2 b (ar (aw (aj e) (I.ok.cab x c hfn hc)))).trans e1⟩
  ·by_cases hj:j=i
   ·subst hj;rw[hi]at e1;cases e1;rw[kf hiσ]at e2;cases e2;exact⟨u,r,.inr ⟨.inl hk,c,hc,hc'⟩⟩
   ·rw[fJ (bO hj)]at e2;obtain⟨u',r',q⟩:=hl j y v' e1 e2 e3;refine⟨u',r',?_⟩;rcases q with q|⟨k,c',e,z'⟩
    ·exact .inl q
    ·refine .inr ⟨k,c',e,z'.sameBut hs ?_⟩;rintro rfl;exact hj (xb2 hN e1 (I.ok.inj _ _ _ e hc▸hi))
  ·by_cases hcc:c'=c
   ·subst hcc;exact⟨_,hc'⟩
   ·obtain⟨w2,z2⟩:=I.cell y c' e;exact⟨w2,z2.sameBut hs hcc⟩
  ·refine(I.freeC y c' e).imp id fun⟨hf',o',ho',hno⟩=>⟨hf',o',ho',fun z j v' e1 k e2=>?_⟩
   by_cases hj:j=i
   ·subst hj;rw[hi]at e1;cases e1;rw[hfn]at hf';cases hf'
   ·rw[fJ (bO hj)]at e2;exact hno z j v' e1 k e2
  ·obtain⟨e,n,ne,nf,d⟩:=I.pin p hp;refine⟨(hs.2 p.1 ?_).trans e,n,ne,nf,d⟩;intro q;rw[q,hoc]at e;have q':oc=p.2:=bw e;exact d w' (by rw[←q'];exact hocd)
theorem xb3{M:Model}{A:aU}{E:Value→ae→Prop}{i:Nat}{x:Str}{v:V}{u:Value}{Q:Unit→ae→Prop}(I:Inv X pins σ H s)(hN:X.N.Nodup)(hi:X.N[i]? =some x)(hx:Loc X.env.scope x)(r:RelV v u)
  (h:∀s',Inv X pins (σ.set i (some v)) H s'→Q () s') (hf:X.fn x=true∨X.env.scope.names.lookup x=some .local:=by first|exact .inl rfl|exact .inr rfl|assumption):wpAny M A (storeName X.env x u) Q E s:=
 xdM I hN hi hx r (fun s' I' _=>h s' I') hf
theorem Inv.call'{s':ae}{ch:List Addr}(I:Inv X pins σ H s)(ho:s'.os=s.os)(u:Un (frs X.stack) ch H H' s.heap s'.heap)(hok:HOk X.prog X.w H' s'.heap)(hg:fB s'.gens)
  (hch:∀b∈ch,(b∈X.ex∨X.s₀.heap.objs.size≤b)∧b≠X.env.locals∧(∀x c,X.env.cells.lookup x=some c→c≠b)∧∀p∈X.pn++pins,p.1≠b):Inv X pins σ H' s':=by
 obtain⟨h',g',d',t',o'⟩:=s';have e:o'=s.os:=ho;subst e;exact I.call (g':=g') (t':=t') (d':=d') u hok hg hch
end
abbrev XK:=Value→Option Addr→Hp→Prop
abbrev St:=List (Option V)
abbrev VK:=V→Hp→Prop
abbrev TE:=St→Hp→VK→Prop
abbrev TT:=St→Hp→(Bool→Hp→Prop)→Prop
abbrev TA:=St→Hp→(List V→Hp→Prop)→Prop
structure Ends where
 nx:St→Hp→Prop
 rt:VK
 bk:St→Hp→Prop:=fun _ _=>False
 ct:St→Hp→Prop:=fun _ _=>False
abbrev TS:=Ends→St→Hp→Prop
def EP(X:Cx)(pins:List (Addr×Obj))(σ:St)(Q:VK)(u:Value)(s':ae):Prop:=∃v H',Inv X pins σ H' s'∧RelV v u∧Q v H'
def TP(X:Cx)(pins:List (Addr×Obj))(σ:St)(Q:Bool→Hp→Prop)(b:Bool)(s':ae):Prop:=∃H',Inv X pins σ H' s'∧Q b H'
def AP(X:Cx)(pins:List (Addr×Obj))(σ:St)(Q:List V→Hp→Prop)(us:List Value)(s':ae):Prop:=∃vs H',Inv X pins σ H' s'∧Vals vs us∧Q vs H'
def SP(X:Cx)(pins:List (Addr×Obj))(D:Ends)(f:Flow)(s':ae):Prop:=
 match f with
 | .next=>∃σ' H',Inv X pins σ' H' s'∧D.nx σ' H'
 | .brk=>∃σ' H',Inv X pins σ' H' s'∧D.bk σ' H'
 | .cont=>∃σ' H',Inv X pins σ' H' s'∧D.ct σ' H'
 | .ret u=>∃v σ' H',Inv X pins σ' H' s'∧RelV v u∧D.rt v H'
def PE(X:Cx)(e:Expr)(t:TE):Prop:=
 ∀(pins:List (Addr×Obj)) (s:ae) (σ:St) (H:Hp) (Q:VK),Inv X pins σ H s→t σ H Q→wpAny (model X.prog X.w) X.A (eval e X.env) (EP X pins σ Q) X.xe s
def PT(X:Cx)(e:Expr)(t:TT):Prop:=
 ∀(pins:List (Addr×Obj)) (s:ae) (σ:St) (H:Hp) (Q:Bool→Hp→Prop),Inv X pins σ H s→t σ H Q→wpAny (model X.prog X.w) X.A (isTrue e X.env (eval e X.env)) (TP X pins σ Q) X.xe s
def PW(X:Cx)(e:Expr)(t:TT):Prop:=
 ∀(whole:Sem Value) (pins:List (Addr×Obj)) (s:ae) (σ:St) (H:Hp) (Q:Bool→Hp→Prop),Inv X pins σ H s→t σ H Q→wpAny (model X.prog X.w) X.A (isTrue e X.env whole) (TP X pins σ Q) X.xe s
theorem PW.pt{X:Cx}{e:Expr}{t:TT}(h:PW X e t):PT X e t:=h _
def PA(X:Cx)(es:List Expr)(t:TA):Prop:=
 ∀(pos:Pos) (pins:List (Addr×Obj)) (s:ae) (σ:St) (H:Hp) (Q:List V→Hp→Prop),Inv X pins σ H s→t σ H Q→wpAny (model X.prog X.w) X.A (spliced (de pos (bh es X.env))) (AP X pins σ Q) X.xe s
def PS(X:Cx)(st:Stmt)(t:TS):Prop:=
 ∀(pins:List (Addr×Obj)) (s:ae) (σ:St) (H:Hp) (D:Ends),Inv X pins σ H s→t D σ H→wpAny (model X.prog X.w) X.A (exec st X.env) (SP X pins D) X.xe s
def PSs(X:Cx)(st:List Stmt)(t:TS):Prop:=
 ∀(pins:List (Addr×Obj)) (s:ae) (σ:St) (H:Hp) (D:Ends),Inv X pins σ H s→t D σ H→wpAny (model X.prog X.w) X.A (execs st X.env) (SP X pins D) X.xe s
theorem thn{α:Type}{t:Sem α}{Q Q':α→ae→Prop}{M:Model}{A:aU}{E:Value→ae→Prop}{s:ae}(h:wpAny M A t Q E s)(hQ:∀a s,Q a s→Q' a s):wpAny M A t Q' E s:=a8 h hQ fun _ _ x=>x
end L2
namespace L2
open PySem PySem.Spec PyProof.Rows
section
variable {X:Cx}
def xlv(i:Nat):TE:=fun σ H Q=>∃v,σ[i]? =some (some v)∧Q v H
def tC(v:V):TE:=fun _ H Q=>Q v H
theorem xlw{i:Nat}{x:Str}{pos:Pos}(hN:X.N[i]? =some x)(hv:Vis X.env.scope x)(hd:(x==("__debug__":Str))=false:=by decide)(hcd:(x==("__classdict__":Str))=false:=by decide):PE X (.Name x pos) (xlv i):=by
 intro pins s σ H Q I h;obtain⟨v,e,h⟩:=h;obtain⟨m,hn,hl⟩:=I.loc;obtain⟨u,r,l⟩:=hl i x v hN e hv;have fin:EP X pins σ Q u s:=⟨v,H,I,r,h⟩;rcases l with⟨hk,hm⟩|⟨hk,c,hc,hcell⟩
 ·exact wpAny_Name (wpAny_loadName_local I.ok.kind hk hn hm fin) hd
 ·rcases hk with hk|hk
  ·exact wpAny_Name (wpAny_loadName_cell I.ok.kind hk hc hcell fin) hd
  ·exact wpAny_Name (wpAny_loadName_free I.ok.kind hk hc hcell fin hcd) hd
theorem xg{i j pos}:PE X (.Constant (.int i) j pos) (tC (.int i)):=fun _ _ _ H _ I h=>wpAny_Constant_int ⟨.int i,H,I.tok _,⟨_,rfl⟩,h⟩
theorem zo{b j pos}:PE X (.Constant (.bool b) j pos) (tC (.bl b)):=fun _ _ _ H _ I h=>Constant_bool ⟨.bl b,H,I,rfl,h⟩
theorem xex{j pos}:PE X (.Constant .none j pos) (tC .non):=fun _ _ _ H _ I h=>Constant_none ⟨.non,H,I,rfl,h⟩
theorem xaE{x j pos}:PE X (.Constant (.str x) j pos) (tC (.str x)):=fun _ _ _ H _ I h=>Calls.Constant_str ⟨.str x,H,I.tok _,⟨_,rfl⟩,h⟩
def Gl(X:Cx)(x:Str):Prop:=X.env.kindOf x=some .globalImplicit
theorem xbo{E:Value→ae→Prop}{pins:List (Addr×Obj)}{s:ae}{σ:St}{H:Hp}{x:Str}{u:Value}{pos:Pos}{Q:Value→ae→Prop}(I:Inv X pins σ H s)(hg:Gl X x)(hm:X.mg x=some u)(h:Q u s)
  (hd:(x==("__debug__":Str))=false:=by decide):wpAny (model X.prog X.w) X.A (eval (.Name x pos) X.env) Q E s:=
 iw I.ok.kind hg (Calls.loadGlobal_global (by rw[I.ok.glob];exact I.mod.glob.keeps I.bk) hm h) hd
theorem zg{E:Value→ae→Prop}{pins:List (Addr×Obj)}{s:ae}{σ:St}{H:Hp}{x:Str}{u:Value}{pos:Pos}{Q:Value→ae→Prop}(I:Inv X pins σ H s)(hg:Gl X x)(hm:X.mg x=none)(hv:bX x=some u)(h:Q u s)
  (hn:x≠"__name__":=by decide) (hd:(x==("__debug__":Str))=false:=by decide):wpAny (model X.prog X.w) X.A (eval (.Name x pos) X.env) Q E s:=by
 obtain⟨mb,h1,h2⟩:=I.mod.blt;exact iw I.ok.kind hg (Calls.loadGlobal_builtin (by rw[I.ok.glob];exact I.mod.glob.keeps I.bk) hm (by rw[I.ok.blt];exact h1.keeps I.bk) ((h2 x hn).trans hv) h) hd
theorem vC{x:Str}{v:V}{u:Value}{pos:Pos}(hg:Gl X x)(hm:X.mg x=some u)(r:RelV v u)(hd:(x==("__debug__":Str))=false:=by decide):PE X (.Name x pos) (tC v):=
 fun _ _ _ H _ I h=>xbo I hg hm ⟨v,H,I,r,h⟩ hd
theorem uC{x:Str}{v:V}{u:Value}{pos:Pos}(hg:Gl X x)(hm:X.mg x=none)(hv:bX x=some u)(r:RelV v u)(hn:x≠"__name__":=by decide)(hd:(x==("__debug__":Str))=false:=by decide):PE X (.Name x pos) (tC v):=
 fun _ _ _ H _ I h=>zg I hg hm hv ⟨v,H,I,r,h⟩ hn hd
variable {a b:Expr} {ta tb:TE} {pos:Pos}
def PC(X:Cx)(op:CmpOp)(a b:Expr)(t:TE):Prop:=
 ∀(pins:List (Addr×Obj)) (s:ae) (σ:St) (H:Hp) (Q:VK),Inv X pins σ H s→t σ H Q→
  wpAny (model X.prog X.w) X.A (eval a X.env) (fun v s₁=>wpAny (model X.prog X.w) X.A (eval b X.env) (fun u s₂=>wpAny (model X.prog X.w) X.A (bD op v u) (EP X pins σ Q) X.xe s₂) X.xe s₁) X.xe s
theorem xey(b:Expr){op:CmpOp}(h:op≠.In)(h2:op≠.NotIn):df op b=false:=by
 have e1:(op==CmpOp.In)=false:=by cases op<;> first|rfl|exact absurd rfl h
 have e2:(op==CmpOp.NotIn)=false:=by cases op<;> first|rfl|exact absurd rfl h2
 cases b<;> simp[df,e1,e2]
def xnk(ta:TE):TE:=fun σ H Q=>ta σ H fun x H1=>Q (.bl (decide (x= .non))) H1
theorem RelV.none_iff{x:V}{v:Value}(r:RelV x v):(v==aZ)=decide (x= .non):=by
 cases x with
 |non=>cases r;rfl
 |bl _=>cases r;rfl
 |int _=>obtain⟨t,rfl⟩:=r;rfl
 |str _=>obtain⟨t,rfl⟩:=r;rfl
 |byt _=>obtain⟨t,rfl⟩:=r;rfl
 |flt _=>obtain⟨t,rfl⟩:=r;rfl
 |ref _=>cases r;rfl
 |ty _=>cases r;rfl
theorem xlx{j pos'}(ha:PE X a ta):PC X .Is a (.Constant .none j pos') (xnk ta):=by
 intro pins s σ H Q I h;refine thn (ha pins s σ H _ I h) fun v s1 ⟨x,H1,I1,r1,q1⟩=>?_;exact Constant_none (is_none_gen ⟨.bl _,H1,I1,by rw[r1.none_iff];rfl,q1⟩)
def tB(t:TE):TT:=fun σ H Q=>t σ H fun x H1=>∃c,x= .bl c∧Q c H1
theorem xly{op:CmpOp}{t:TE}(h:PC X op a b t)(h1:df op b=false:=by first|exact xey _ (by decide) (by decide)|rfl):PE X (.Compare a [op] [b] pos) t:=fun pins s σ H Q I hw=>wpAny_Compare1 (h pins s σ H Q I hw) h1
theorem xlz{op:CmpOp}{t:TE}(h:PC X op a b t)(h1:df op b=false:=by first|exact xey _ (by decide) (by decide)|rfl):PT X (.Compare a [op] [b] pos) (tB t):=by
 intro pins s σ H Q I hw;refine gK (thn (h pins s σ H _ I hw) fun v s1 h1=>thn h1 fun u s2 h2=>thn h2 fun c s3 ⟨x,H1,I1,r1,q1⟩=>?_) h1;obtain⟨d,rfl,q⟩:=q1;cases r1;exact cS ⟨H1,I1,q⟩
variable {tA tB':TT} {rest:List Expr}
def xnl(t:TT):TT:=fun σ H Q=>t σ H fun c H1=>Q (!c) H1
theorem ua(ha:PT X a tA):PW X (.BoolOp .And [a] pos) tA:=by
 intro wh pins s σ H Q I h;refine isTrue_and (thn (ha pins s σ H Q I h) fun c s1 e=>?_);cases c with
 |true=>exact isTrue_and_nil e
 |false=>exact e
theorem uW(ha:PT X a tA):PW X (.BoolOp .Or [a] pos) tA:=by
 intro wh pins s σ H Q I h;refine isTrue_or (thn (ha pins s σ H Q I h) fun c s1 e=>?_);cases c with
 |false=>exact isTrue_or_nil e
 |true=>exact e
theorem zh(ha:PT X a tA):PT X (.UnaryOp .Not a pos) (xnl tA):=by
 intro pins s σ H Q I h;exact isTrue_not (ha pins s σ H (fun c H1=>Q (!c) H1) I h)
theorem xlA{op}{t:TE}(h:PE X a t):PE X (.BoolOp op [a] pos) t:=fun pins s σ H Q I hw=>BoolOp_one (h pins s σ H Q I hw)
end
end L2
namespace L2
open PySem PySem.Spec PyProof.Rows
def SqL(K:ai)(H:Hp)(a:Addr)(xs:List V):Prop:=
 Rd H a (.lst xs)∨
  ∃(o:Obj) (its:Array Value) (n:Nat),K.lookup a=some o∧o.cls= .type "list"∧o.dict=none∧o.data= .seq its n∧its.size≤aO∧Vals xs its.toList
def SqT(K:ai)(H:Hp)(a:Addr)(xs:List V):Prop:=
 Rd H a (.tup xs)∨
  ∃(o:Obj) (its:Array Value) (n:Nat),K.lookup a=some o∧o.cls= .type "tuple"∧o.data= .seq its n∧its.size≤aO∧Vals xs its.toList
def xnm:Value→Option V
 | .none=>some .non
 | .bool b=>some (.bl b)
 | .int i _=>some (.int i)
 | .str x _=>some (.str x)
 | .bytes b _=>some (.byt b)
 | .float b _=>some (.flt b)
 | .ref a=>some (.ref a)
 | .type n=>some (.ty n)
 |_=>none
theorem RelV.abs{x:V}{u:Value}(r:RelV x u):xnm u=some x:=by
 cases x with
 |non=>cases r;rfl
 |bl _=>cases r;rfl
 |int _=>obtain⟨t,rfl⟩:=r;rfl
 |str _=>obtain⟨t,rfl⟩:=r;rfl
 |byt _=>obtain⟨t,rfl⟩:=r;rfl
 |flt _=>obtain⟨t,rfl⟩:=r;rfl
 |ref _=>cases r;rfl
 |ty _=>cases r;rfl
theorem RelV.inj{x y:V}{u:Value}(r:RelV x u)(q:RelV y u):x=y:=bw (r.abs.symm.trans q.abs)
theorem Vals.inj:∀{xs ys:List V} {us:List Value},Vals xs us→Vals ys us→xs=ys
 |_,_,_,.nil,.nil=>rfl
 |_,_,_,.cons r t,.cons r' t'=>by rw[r.inj r',Vals.inj t t']
section
variable {X:Cx} {pins:List (Addr×Obj)} {σ:St} {H:Hp} {s:ae} {a:Addr} {xs ys:List V}
theorem SqL.of{K:ai}(h:H a=some (.lst xs)):SqL K H a xs:=.inl (.inl h)
theorem SqT.of{K:ai}(h:H a=some (.tup xs)):SqT K H a xs:=.inl (.inl h)
theorem Inv.list(I:Inv X pins σ H s)(h:SqL X.K H a xs):∃its:List Value,Vals xs its∧PlainL s.heap a its.toArray∧xs.length≤aO:=by
 rcases h with h|⟨o,its,n,hk,hc,hd,hs,hz,r⟩
 ·obtain⟨z,its,n,r,e⟩:=h.ok I.hok;exact⟨its,r,⟨_,n,e,rfl,rfl,rfl⟩,z⟩
 ·refine⟨its.toList,r,⟨o,n,I.kIn a o hk,hc,hd,by simpa using hs⟩,?_⟩;have e:=r.length;simp only[aM]at e;lia
theorem Inv.tuple(I:Inv X pins σ H s)(h:SqT X.K H a xs):∃its:List Value,Vals xs its∧IsTup s.heap a its.toArray∧xs.length≤aO:=by
 rcases h with h|⟨o,its,n,hk,hc,hs,hz,r⟩
 ·obtain⟨z,its,r,p⟩:=h.ok I.hok;exact⟨its,r,p,z⟩
 ·refine⟨its.toList,r,⟨o,I.kIn a o hk,hc,n,by simpa using hs⟩,?_⟩;have e:=r.length;simp only[aM]at e;lia
theorem Inv.list_inj(I:Inv X pins σ H s)(h:SqL X.K H a xs)(h':SqL X.K H a ys):xs=ys:=by
 obtain⟨its,r,⟨o,n,e,_,_,d⟩,_⟩:=I.list h;obtain⟨its',r',⟨o',n',e',_,_,d'⟩,_⟩:=I.list h';rw[e]at e';cases e';rw[d]at d';injection d' with d1 _;have:its=its':=by simpa using congrArg Array.toList d1
 subst this;exact r.inj r'
theorem Inv.tuple_inj(I:Inv X pins σ H s)(h:SqT X.K H a xs)(h':SqT X.K H a ys):xs=ys:=by
 obtain⟨its,r,⟨o,e,_,n,d⟩,_⟩:=I.tuple h;obtain⟨its',r',⟨o',e',_,n',d'⟩,_⟩:=I.tuple h';rw[e]at e';cases e';rw[d]at d';injection d' with d1 _;have:its=its':=by simpa using congrArg Array.toList d1
 subst this;exact r.inj r'
end
abbrev Cx.wish(X:Cx)(E:Value→ae→Prop):Cx:={X with xe:=E}
abbrev Cx.nox(X:Cx):Cx:=X.wish fun _ _=>False
theorem Cx.Ok.wish{X:Cx}(ok:X.Ok)(E:Value→ae→Prop):(X.wish E).Ok:=
 ⟨ok.mod,ok.kind,ok.glob,ok.blt,ok.above,ok.inj,ok.has,ok.cab,ok.hd,ok.frames,ok.stk,ok.exf,ok.bs,ok.bsz,ok.noex,ok.exfs,ok.funs,ok.frf,ok.cab2,ok.hz⟩
theorem Cx.Ok.unwish{X:Cx}{E:Value→ae→Prop}(ok:(X.wish E).Ok):X.Ok:=
 ⟨ok.mod,ok.kind,ok.glob,ok.blt,ok.above,ok.inj,ok.has,ok.cab,ok.hd,ok.frames,ok.stk,ok.exf,ok.bs,ok.bsz,ok.noex,ok.exfs,ok.funs,ok.frf,ok.cab2,ok.hz⟩
section
variable {X:Cx} {pins:List (Addr×Obj)} {σ:St} {H:Hp} {s:ae} {E:Value→ae→Prop}
theorem Inv.wish(I:Inv X pins σ H s)(E:Value→ae→Prop):Inv (X.wish E) pins σ H s:=⟨I.ok.wish E,I.os,I.bare,I.base,I.loc,I.cell,I.free,I.freeC,I.pin,I.hok,I.len⟩
theorem Inv.unwish(I:Inv (X.wish E) pins σ H s):Inv X pins σ H s:=⟨I.ok.unwish,I.os,I.bare,I.base,I.loc,I.cell,I.free,I.freeC,I.pin,I.hok,I.len⟩
theorem SP.unwish{D:Ends}{f:Flow}{s':ae}(h:SP (X.wish E) pins D f s'):SP X pins D f s':=by
 cases f with
 |next=>obtain⟨σ',H',I,q⟩:=h;exact⟨σ',H',I.unwish,q⟩
 |brk=>obtain⟨σ',H',I,q⟩:=h;exact⟨σ',H',I.unwish,q⟩
 |cont=>obtain⟨σ',H',I,q⟩:=h;exact⟨σ',H',I.unwish,q⟩
 |ret u=>obtain⟨v,σ',H',I,r,q⟩:=h;exact⟨v,σ',H',I.unwish,r,q⟩
theorem PSs.nox{st:List Stmt}{t:TS}(h:PSs X.nox st t):PSs X st t:=fun pins s σ H D I hw=>
 a8 (h pins s σ H D (I.wish _) hw) (fun _ _ q=>q.unwish) fun _ _ z=>bS z
end
section
variable {X:Cx} {st:Stmt} {rest:List Stmt} {t u:TS} {e:Expr} {te:TE} {pos:Pos}
def xmG:TS:=fun D σ H=>D.nx σ H
def xnn(t u:TS):TS:=fun D σ H=>t {D with nx:=u D} σ H
theorem xR:PSs X [] xmG:=fun _ _ σ H _ I h=>gP ⟨σ,H,I,h⟩
theorem xh(h1:PS X st t)(h2:PSs X rest u):PSs X (st::rest) (xnn t u):=by
 intro pins s σ H D I h;refine wpAny_execs_cons (thn (h1 pins s σ H {D with nx:=u D} I h) fun f s1 q=>?_);cases f with
 |next=>
  obtain⟨σ',H',I',q⟩:=q;exact h2 pins s1 σ' H' D I' q
 |ret v=>exact q
 |brk=>exact q
 |cont=>exact q
theorem xi(h1:PS X st t):PSs X [st] t:=by
 intro pins s σ H D I h;refine wpAny_execs_cons (thn (h1 pins s σ H D I h) fun f s1 q=>?_);cases f with
 |next=>exact gP q
 |ret v=>exact q
 |brk=>exact q
 |cont=>exact q
theorem Inv.quiet{pins:List (Addr×Obj)}{σ:St}{H:Hp}{s:ae}(I:Inv X pins σ H s):interactive X.env=false:=by simp[interactive,I.ok.kind]
def xmH(te:TE):TS:=fun D σ H=>te σ H fun _ H1=>D.nx σ H1
theorem yf(he:PE X e te)(hs:j6 e none pos.line X.env=pure false:=by rfl):PS X (.Expr e pos) (xmH te):=by
 intro pins s σ H D I h;exact wpAny_Expr_any (thn (he pins s σ H _ I h) fun v s1 ⟨x,H1,I1,r1,q1⟩=>⟨σ,H1,I1,q1⟩) I.quiet hs
def xno(te:TE):TS:=fun D σ H=>te σ H D.rt
theorem xu(he:PE X e te):PS X (.Return (some e) pos) (xno te):=by
 intro pins s σ H D I h;exact wpAny_Return_some (thn (he pins s σ H _ I h) fun v s1 ⟨x,H1,I1,r1,q1⟩=>⟨x,σ,H1,I1,r1,q1⟩)
end
abbrev TG:=V→St→Hp→(St→Hp→Prop)→Prop
abbrev TGs:=List V→St→Hp→(St→Hp→Prop)→Prop
def PG(X:Cx)(target:Expr)(t:TG):Prop:=
 ∀(pins:List (Addr×Obj)) (s:ae) (σ:St) (H:Hp) (v:V) (u:Value) (Q:St→Hp→Prop),Inv X pins σ H s→RelV v u→t v σ H Q→
  wpAny (model X.prog X.w) X.A (iV target X.env u) (fun _ s'=>∃σ' H',Inv X pins σ' H' s'∧Q σ' H') X.xe s
def PGs(X:Cx)(ts:List Expr)(t:TGs):Prop:=
 ∀(pins:List (Addr×Obj)) (s:ae) (σ:St) (H:Hp) (vs:List V) (us:List Value) (Q:St→Hp→Prop),Inv X pins σ H s→Vals vs us→t vs σ H Q→
  wpAny (model X.prog X.w) X.A (assignInOrder ((gQ ts X.env).map (·.2)) us) (fun _ s'=>∃σ' H',Inv X pins σ' H' s'∧Q σ' H') X.xe s
section
variable {X:Cx} {pos:Pos}
def jN(i:Nat):TG:=fun v σ H Q=>Q (σ.set i (some v)) H
theorem yE{i:Nat}{x:Str}(hN:X.N.Nodup)(hi:X.N[i]? =some x)(hx:Loc X.env.scope x)(hf:X.fn x=true∨X.env.scope.names.lookup x=some .local:=by first|exact .inl rfl|exact .inr rfl|assumption):PG X (.Name x pos) (jN i):=by
 intro pins s σ H v u Q I r h;exact iK (xb3 I hN hi hx r (fun s' I'=>⟨_,H,I',h⟩) hf)
def xlB:TGs:=fun vs σ H Q=>vs=[]∧Q σ H
def xgT(t:TG)(u:TGs):TGs:=fun vs σ H Q=>∃v r,vs=v::r∧t v σ H fun σ' H'=>u r σ' H' Q
theorem xgl:PGs X [] xlB:=by
 intro pins s σ H vs us Q I r h;obtain⟨e,h⟩:=h;subst e;cases r;exact assignInOrder_nil ⟨σ,H,I,h⟩
theorem jO{e:Expr}{es:List Expr}{t:TG}{u:TGs}(h1:PG X e t)(h2:PGs X es u)
  (hs:(gQ (e::es) X.env).map (·.2)=iV e X.env::(gQ es X.env).map (·.2):=by rfl):PGs X (e::es) (xgT t u):=by
 intro pins s σ H vs us Q I r h;obtain⟨v,vr,e1,h⟩:=h;subst e1;cases r with
 |cons r rr=>
  rw[hs];refine assignInOrder_cons (thn (h1 pins s σ H _ _ _ I r h) fun _ s1 ⟨σ1,H1,I1,q1⟩=>?_);exact h2 pins s1 σ1 H1 _ _ Q I1 rr q1
def xlC(K:ai)(n:Nat)(t:TGs):TG:=fun v σ H Q=>∃a xs,v= .ref a∧SqT K H a xs∧xs.length=n∧t xs σ H Q
theorem xhS{es:List Expr}{k:Nat}{t:TGs}{n:Nat}(hc:X.calm=true)(h:PGs X es t)
  (hn:(gQ es X.env).length=n:=by rfl) (hst:(gQ es X.env).findIdx? (·.1)=none:=by rfl):PG X (.Tuple es k pos) (xlC X.K n t):=by
 intro pins s σ H v u Q I r hw;obtain⟨a,xs,e1,hq,hl,hw⟩:=hw;subst e1;cases r;obtain⟨its,rv,ht,hz⟩:=I.tuple hq;refine assign_Tuple_tuple (I.ok.hd hc) ht (by simp[hn,←hl,rv.length]) hst fun h' hx=>?_;have I1:Inv X pins σ H {s with heap:=h'}:=I.kept (t':=s.toks) fun b o e=>hx b o (ar (aj e)) e;exact h pins _ σ H xs _ Q I1 (by simpa using rv) hw
def xb4(te:TE)(g:TG):TS:=fun D σ H=>te σ H fun x H1=>g x σ H1 D.nx
theorem xlD{tg e:Expr}{te:TE}{g:TG}(he:PE X e te)(hg:PG X tg g)(hs:swapsWithSole [tg] e pos.line X.env=pure false:=by rfl)(hw:swappedStores [tg] e X.env=pure none:=by rfl)
  (h1:(gQ [tg] X.env).map (·.2)=[iV tg X.env]:=by rfl):PS X (.Assign [tg] e pos) (xb4 te g):=by
 intro pins s σ H D I h;refine wpAny_Assign_stores (thn (he pins s σ H _ I h) fun v s1 ⟨x,H1,I1,r1,q1⟩=>?_) hs hw;rw[h1];exact thn (hg pins s1 σ H1 x v _ I1 r1 q1) fun _ s2 q=>q
theorem xt{i:Nat}{x:Str}{e:Expr}{te:TE}{pos':Pos}(hN:X.N.Nodup)(hi:X.N[i]? =some x)(hx:Loc X.env.scope x)(he:PE X e te)(hs:j6 e (some (.Name x pos')) pos.line X.env=pure false:=by rfl)(hf:X.fn x=true∨X.env.scope.names.lookup x=some .local:=by first|exact .inl rfl|exact .inr rfl|assumption):
  PS X (.Assign [.Name x pos'] e pos) (xb4 te (jN i)):=by
 intro pins s σ H D I h;refine wpAny_Assign_Name (thn (he pins s σ H _ I h) fun v s1 ⟨y,H1,I1,r1,q1⟩=>?_) hs;exact xb3 I1 hN hi hx r1 (fun s2 I2=>⟨_,H1,I2,q1⟩) hf
end
section
variable {X:Cx} {pos:Pos}
end
structure It where
 go:Nat→Hp→Prop
 yld:Nat→Hp→V→Hp→Prop
 stop:Nat→Hp→Prop
def uD(X:Cx)(pins:List (Addr×Obj))(H:Hp)(b:Addr):Prop:=
 H b=none∧b≠X.env.locals∧b∉X.fs∧(b∈X.ex∨X.s₀.heap.objs.size≤b)∧(∀x c,X.env.cells.lookup x=some c→c≠b)∧∀p∈X.pn++pins,p.1≠b
theorem Inv.fpOk{X:Cx}{pins:List (Addr×Obj)}{σ:St}{H H':Hp}{s:ae}{b:Addr}(I:Inv X pins σ H s)(hb:s.heap.objs.size≤b)(hn:H' b=none):uD X pins H' b:=by
 refine⟨hn,eR (aw I.lt hb),I.nofs hb,.inr (bp I.sz hb),fun x c e z=>?_,fun p hp z=>?_⟩
 ·obtain⟨v,q⟩:=I.cell x c e;exact absurd (aw q.lt (by rw[z];exact hb)) (bV _)
 ·exact absurd (aw (aj (I.pin p hp).1) (by rw[z];exact hb)) (bV _)
structure Turn(P:aF)(w:World)(K:ai)(tg:Expr)(J:It)(fp:List Addr)(it:Addr)(tn:Nat→Heap→Prop):Prop where
 mem:it∈fp
 obj:∀i h,tn i h→∀b∈fp,∃o,h.get? b=some o∧∀v,o.data≠.cell v
 keep:∀i h h',tn i h→(∀b∈fp,∀o,h.get? b=some o→h'.get? b=some o)→tn i h'
 item:∀(X:Cx),X.prog=P→X.w=w→X.K=K→X.calm=true→∀(i:Nat) (pins:List (Addr×Obj)) (s:ae) (σ:St) (H:Hp) (E:Value→ae→Prop),Inv X pins σ H s→(∀b∈fp,uD X pins H b)→tn i s.heap→J.go i H→
  wpAny (model P w) X.A (gR (.ref it)) (fun r s1=>∃u,r=some u∧
   wpAny (model P w) X.A (gS tg (.ref it) u) (fun _ s2=>∃x H',Inv X pins σ H' s2∧RelV x u∧J.yld i H x H'∧tn (i+1) s2.heap∧∀b∈fp,H' b=none) E s1) E s
 done:∀(X:Cx),X.prog=P→X.w=w→X.K=K→X.calm=true→∀(i:Nat) (pins:List (Addr×Obj)) (s:ae) (σ:St) (H:Hp) (E:Value→ae→Prop),Inv X pins σ H s→(∀b∈fp,uD X pins H b)→tn i s.heap→J.stop i H→
  wpAny (model P w) X.A (gR (.ref it)) (fun r s1=>r=none∧Inv X pins σ H s1) E s
 self:∀(A:aU) (i:Nat) (s:ae) (Q:Value→ae→Prop) (E:Value→ae→Prop),tn i s.heap→Q (.ref it) s→wpAny (model P w) A (pyIter (.ref it)) Q E s
abbrev TI:=St→Hp→(It→Hp→Prop)→Prop
def PIE(X:Cx)(pins:List (Addr×Obj))(σ:St)(tg:Expr)(R:It→Hp→Prop)(itv:Value)(s2:ae):Prop:=
 ∃(it:Addr) (fp:List Addr) (tn:Nat→Heap→Prop) (J:It) (H':Hp),itv= .ref it∧Inv X pins σ H' s2∧Turn X.prog X.w X.K tg J fp it tn∧tn 0 s2.heap∧(∀b∈fp,uD X pins H' b)∧R J H'
def PI(X:Cx)(tg iter:Expr)(wi:TI):Prop:=
 ∀(pins:List (Addr×Obj)) (s:ae) (σ:St) (H:Hp) (R:It→Hp→Prop),Inv X pins σ H s→wi σ H R→
  wpAny (model X.prog X.w) X.A (eval iter X.env) (fun v s1=>wpAny (model X.prog X.w) X.A (pyIter v) (PIE X pins σ tg R) X.xe s1) X.xe s
theorem xcw{M:Model}{A:aU}{E:Value→ae→Prop}{s:ae}{tg:Expr}{it:Addr}{u:Value}{o:Obj}{n:String}{vs:Array Value}{Q:Unit→ae→Prop}(ho:s.heap.get? it=some o)(hc:o.cls= .type n)(hd:o.data= .fields vs)
  (hn:["enumerate","zip","dict_itemiterator","dict_reverseitemiterator","odict_iterator","itertools.zip_longest","itertools.pairwise"].contains n=false) (hQ:Q () s):wpAny M A (gS tg (.ref it) u) Q E s:=by
 unfold gS;cases tg<;> first
  |exact ah hQ
  |(cases u<;> first
    |exact ah hQ
    |(refine aa (wpAny_load ho ?_)
      rw[hc,hd];show wpAny M A (if (["enumerate","zip","dict_itemiterator","dict_reverseitemiterator","odict_iterator","itertools.zip_longest","itertools.pairwise"].contains n&&vs[0]? ==some (dP _))=true then _ else _) Q E s;rw[if_neg (by intro h;rw[hn,Bool.false_and]at h;cases h)];exact ah hQ))
def Itl(K:ai)(a:Addr):It:=
 ⟨fun i H=>∃xs x,SqL K H a xs∧xs[i]? =some x,fun i H x H'=>H'=H∧∀xs,SqL K H a xs→xs[i]? =some x,fun i H=>∃xs,SqL K H a xs∧xs.length≤i⟩
def Itt(K:ai)(a:Addr):It:=
 ⟨fun i H=>∃xs x,SqT K H a xs∧xs[i]? =some x,fun i H x H'=>H'=H∧∀xs,SqT K H a xs→xs[i]? =some x,fun i H=>∃xs,SqT K H a xs∧xs.length≤i⟩
theorem xhT{P:aF}{w:World}{K:ai}{tg:Expr}(a it:Addr):Turn P w K tg (Itl K a) [it] it (fun i h=>h.IsListIter it a i) where
 mem:=by simp
 obj:=fun i h st b hb=>by
  have e:b=it:=by simpa using hb
  subst e;obtain⟨o,e,c,d⟩:=st;exact⟨o,e,fun v z=>by rw[d]at z;cases z⟩
 keep:=fun i h h' st k=>st.at fun o e=>k it (by simp) o e
 item:=by
  intro X hP hw hK hc i pins s σ H E I hf st hg;subst hP hw hK;obtain⟨xs,x,hq,hx⟩:=hg;obtain⟨its,rv,p,hz⟩:=I.list hq;obtain⟨u,hu,ru⟩:=rv.get hx;obtain⟨f0,f1,f2,f3,f4,f5⟩:=hf it (by simp);refine wpAny_pyNext_list_item st p.isList (x:=u) (by simpa using hu) fun h' st' sb=>?_;have I1:Inv X pins σ H {s with heap:=h'}:=I.turned (t':=s.toks) (fun b o hb e=>(sb.2 b hb).trans e) f0 f1 f3 f4 f5;obtain⟨o,e,c,d⟩:=id st';exact⟨u,rfl,xcw (s:={s with heap:=h'}) e c d (by decide) ⟨x,H,I1,ru,⟨rfl,fun ys hy=>by rw[I.list_inj hy hq];exact hx⟩,st',fun b hb=>(hf b hb).1⟩⟩
 done:=by
  intro X hP hw hK hc i pins s σ H E I hf st hg;subst hP hw hK;obtain⟨xs,hq,hx⟩:=hg;obtain⟨its,rv,p,hz⟩:=I.list hq;obtain⟨f0,f1,f2,f3,f4,f5⟩:=hf it (by simp);have hl:=rv.length;exact wpAny_pyNext_list_end (I.ok.hd hc) st p.isList (by simp;lia) fun h' eb=>⟨rfl,I.turned (t':=s.toks) (fun b o hb e=>eb b o hb e) f0 f1 f3 f4 f5⟩
 self:=fun _ _ _ _ _ st h=>wpAny_pyIter_listiter st h
theorem xgU{P:aF}{w:World}{K:ai}{tg:Expr}(a it:Addr):Turn P w K tg (Itt K a) [it] it (fun i h=>h.IsTupleIter it a i) where
 mem:=by simp
 obj:=fun i h st b hb=>by
  have e:b=it:=by simpa using hb
  subst e;obtain⟨o,e,c,d⟩:=st;exact⟨o,e,fun v z=>by rw[d]at z;cases z⟩
 keep:=fun i h h' st k=>st.at fun o e=>k it (by simp) o e
 item:=by
  intro X hP hw hK hc i pins s σ H E I hf st hg;subst hP hw hK;obtain⟨xs,x,hq,hx⟩:=hg;obtain⟨its,rv,p,hz⟩:=I.tuple hq;obtain⟨u,hu,ru⟩:=rv.get hx;obtain⟨f0,f1,f2,f3,f4,f5⟩:=hf it (by simp);refine wpAny_pyNext_tuple_item st (show s.heap.IsTuple a its.toArray from p) (x:=u) (by simpa using hu) fun h' st' sb=>?_;have I1:Inv X pins σ H {s with heap:=h'}:=I.turned (t':=s.toks) (fun b o hb e=>(sb.2 b hb).trans e) f0 f1 f3 f4 f5;obtain⟨o,e,c,d⟩:=id st';exact⟨u,rfl,xcw (s:={s with heap:=h'}) e c d (by decide) ⟨x,H,I1,ru,⟨rfl,fun ys hy=>by rw[I.tuple_inj hy hq];exact hx⟩,st',fun b hb=>(hf b hb).1⟩⟩
 done:=by
  intro X hP hw hK hc i pins s σ H E I hf st hg;subst hP hw hK;obtain⟨xs,hq,hx⟩:=hg;obtain⟨its,rv,p,hz⟩:=I.tuple hq;obtain⟨f0,f1,f2,f3,f4,f5⟩:=hf it (by simp);have hl:=rv.length;exact wpAny_pyNext_tuple_end (I.ok.hd hc) st (show s.heap.IsTuple a its.toArray from p) (by simp;lia) fun h' eb=>⟨rfl,I.turned (t':=s.toks) (fun b o hb e=>eb b o hb e) f0 f1 f3 f4 f5⟩
 self:=fun _ _ _ _ _ st h=>wpAny_pyIter_tupleiter st h
end L2
namespace L2
open PySem PySem.Spec PyProof.Rows
section
variable {X:Cx} {tg:Expr}
def xj7(K:ai)(tl:TE):TI:=fun σ H R=>tl σ H fun x H1=>∃a,x= .ref a∧(∃xs,SqL K H1 a xs)∧R (Itl K a) H1
def xnp(K:ai)(tl:TE):TI:=fun σ H R=>tl σ H fun x H1=>∃a,x= .ref a∧(∃xs,SqT K H1 a xs)∧R (Itt K a) H1
theorem yi{l:Expr}{tl:TE}(hl:PE X l tl):PI X tg l (xj7 X.K tl):=by
 intro pins s σ H R I h;refine thn (hl pins s σ H _ I h) fun v s1 ⟨x,H1,I1,r1,q1⟩=>?_;obtain⟨a,e,⟨xs,hq⟩,q⟩:=q1;subst e;cases r1;obtain⟨its,rv,p,hz⟩:=I1.list hq;refine fq p.isList ?_;refine⟨s1.heap.objs.size,[s1.heap.objs.size],_,_,H1,rfl,I1.kept (t':=s1.toks) fun b o e=>af _ e,xhT a _,⟨_,aB _ rfl,rfl,rfl⟩,fun b hb=>?_,q⟩;have e:b=s1.heap.objs.size:=by simpa using hb
 subst e;exact I1.fpOk (ao _) (I1.hok.fresh (ao _))
theorem xlE{l:Expr}{tl:TE}(hl:PE X l tl):PI X tg l (xnp X.K tl):=by
 intro pins s σ H R I h;refine thn (hl pins s σ H _ I h) fun v s1 ⟨x,H1,I1,r1,q1⟩=>?_;obtain⟨a,e,⟨xs,hq⟩,q⟩:=q1;subst e;cases r1;obtain⟨its,rv,p,hz⟩:=I1.tuple hq;refine wpAny_pyIter_tuple (show s1.heap.IsTuple a its.toArray from p) ?_;refine⟨s1.heap.objs.size,[s1.heap.objs.size],_,_,H1,rfl,I1.kept (t':=s1.toks) fun b o e=>af _ e,xgU a _,⟨_,aB _ rfl,rfl,rfl⟩,fun b hb=>?_,q⟩;have e:b=s1.heap.objs.size:=by simpa using hb
 subst e;exact I1.fpOk (ao _) (I1.hok.fresh (ao _))
def xgV(wi:TI)(g:TG)(tb:TS):TS:=fun D σ H=>wi σ H fun J H1=>∃W:Nat→Nat→St→Hp→Prop,(∃m,W 0 m σ H1)∧∀i m σ H,W i m σ H→
 (J.stop i H∧D.nx σ H)∨(J.go i H∧∃N:St→Hp→Prop,(∀σ' H',N σ' H'→∃m',m'<m∧W (i+1) m' σ' H')∧∀x H',J.yld i H x H'→g x σ H' fun σ2 H2=>tb {D with nx:=N,ct:=N,bk:=D.nx} σ2 H2)
def zO(fp:List Addr)(h:Heap):List (Addr×Obj):=fp.filterMap fun b=>(h.get? b).map fun o=>(b,o)
theorem zE{fp:List Addr}{h:Heap}{b:Addr}{o:Obj}(hb:b∈fp)(e:h.get? b=some o):(b,o)∈zO fp h:=lK.mpr ⟨b,hb,by rw[e];rfl⟩
theorem xhU{fp:List Addr}{h:Heap}{p:Addr×Obj}(hp:p∈zO fp h):p.1∈fp∧h.get? p.1=some p.2:=by
 obtain⟨b,hb,e⟩:=lK.mp hp;cases q:h.get? b with
 |none=>rw[q]at e;cases e
 |some o=>
  rw[q]at e;have e':(b,o)=p:=bw e;subst e';exact⟨hb,q⟩
theorem Inv.pinned{pins:List (Addr×Obj)}{σ:St}{H:Hp}{s:ae}{fp:List Addr}(I:Inv X pins σ H s)(hf:∀b∈fp,uD X pins H b)(ho:∀b∈fp,∃o,s.heap.get? b=some o∧∀v,o.data≠.cell v):Inv X (pins++zO fp s.heap) σ H s:=
 I.pins_of fun p hp=>(bb.mp hp).elim (fun z=>I.pin p (aT _ z)) fun z=>by
  obtain⟨hb,e⟩:=xhU z;obtain⟨f0,f1,f2,_⟩:=hf p.1 hb;obtain⟨o,e',d⟩:=ho p.1 hb;rw[e]at e';cases e';exact⟨e,f0,f1,f2,d⟩
theorem Inv.unpinned{pins pl:List (Addr×Obj)}{σ:St}{H:Hp}{s:ae}(I:Inv X (pins++pl) σ H s):Inv X pins σ H s:=I.pins_of fun p hp=>I.pin p (aT _ (bW _ hp))
theorem xhV{iter:Expr}{body:List Stmt}{wi:TI}{g:TG}{tb:TS}{pos:Pos}(hp:PassesOwn (model X.prog X.w) X.A X.env X.xe)(hc:X.calm=true)(hi:PI X tg iter wi)(hg:PG X tg g)(hb:PSs X body tb)
  (hs:∀x,eA iter X.env x=pure x:=by intro _;rfl):PS X (.For tg iter body [] pos) (xgV wi g tb):=by
 intro pins s σ H D I h;refine wpAny_For (thn (hi pins s σ H _ I h) fun v s1 h1=>thn h1 fun itv s2 h2=>?_) hs;obtain⟨it,fp,tn,J,H2,e,I2,T,st2,f2,W,⟨m0,w0⟩,turn⟩:=h2;subst e
 -- what stays true of the iterator's objects through the loop
 have stat:∀{H':Hp},(∀b∈fp,H' b=none)→∀b∈fp,uD X pins H' b:=fun hn b hb=>⟨hn b hb,(f2 b hb).2⟩;refine codeAny_forLoop_any (fun n s'=>∃i σ' H',Inv X pins σ' H' s'∧tn i s'.heap∧(∀b∈fp,H' b=none)∧W i n σ' H') ?_ m0 ⟨0,σ,H2,I2,st2,fun b hb=>(f2 b hb).1,w0⟩;rintro n s3 ⟨i,σ3,H3,I3,st3,fr3,w3⟩;rcases turn i n σ3 H3 w3 with⟨stop,qn⟩|⟨go,N,hN,step⟩
 ·refine d6 hp (thn (T.done X rfl rfl rfl hc i pins s3 σ3 H3 X.xe I3 (stat fr3) st3 stop) fun r s4 ⟨hr,I4⟩=>?_);subst hr;exact gP ⟨σ3,H3,I4,qn⟩
 ·refine d6 hp (thn (T.item X rfl rfl rfl hc i pins s3 σ3 H3 X.xe I3 (stat fr3) st3 go) fun r s4 ⟨u,hr,h4⟩=>?_);subst hr;refine d6 hp (thn h4 fun _ s5 ⟨x,H5,I5,r5,y5,st5,fr5⟩=>?_);have I5':=I5.pinned (stat fr5) (T.obj _ _ st5);refine d6 hp (thn (hg _ s5 σ3 H5 x u _ I5' r5 (step x H5 y5)) fun _ s6 ⟨σ6,H6,I6,q6⟩=>?_);refine d6 hp (thn (hb _ s6 σ6 H6 _ I6 q6) fun f s7 q7=>?_);have again:∀{σ7:St} {H7:Hp},Inv X (pins++zO fp s5.heap) σ7 H7 s7→N σ7 H7→∃m,m<n∧∃i σ' H',Inv X pins σ' H' s7∧tn i s7.heap∧(∀b∈fp,H' b=none)∧W i m σ' H':=fun{σ7 H7} I7 n7=>by
   obtain⟨m',hm,w7⟩:=hN σ7 H7 n7;refine⟨m',hm,i+1,σ7,H7,I7.unpinned,T.keep _ _ _ st5 fun b hb o e=>(I7.pin (b,o) (aT _ (aT _ (zE hb e)))).1,fun b hb=>?_,w7⟩;obtain⟨o,e,d⟩:=T.obj _ _ st5 b hb;exact(I7.pin (b,o) (aT _ (aT _ (zE hb e)))).2.1
  cases f with
  |next=>obtain⟨σ7,H7,I7,n7⟩:=q7;exact again I7 n7
  |cont=>obtain⟨σ7,H7,I7,n7⟩:=q7;exact again I7 n7
  |brk=>obtain⟨σ7,H7,I7,q7⟩:=q7;exact⟨σ7,H7,I7.unpinned,q7⟩
  |ret v=>obtain⟨x7,σ7,H7,I7,r7,q7⟩:=q7;exact⟨x7,σ7,H7,I7.unpinned,r7,q7⟩
end
theorem xjc{K:ai}{a:Addr}{xs:List V}{g:TG}{tb:TS}{D:Ends}{σ:St}{H:Hp}(Pv:Nat→St→Hp→Prop)(h0:Pv 0 σ H)(hl:∀i σ H,i≤xs.length→Pv i σ H→SqL K H a xs)
  (hs:∀i x σ H,xs[i]? =some x→Pv i σ H→g x σ H fun σ2 H2=>tb {D with nx:=Pv (i+1),ct:=Pv (i+1),bk:=D.nx} σ2 H2) (hd:∀σ H,Pv xs.length σ H→D.nx σ H):
  ∃W:Nat→Nat→St→Hp→Prop,(∃m,W 0 m σ H)∧∀i m σ H,W i m σ H→
   ((Itl K a).stop i H∧D.nx σ H)∨((Itl K a).go i H∧∃N:St→Hp→Prop,(∀σ' H',N σ' H'→∃m',m'<m∧W (i+1) m' σ' H')∧∀x H',(Itl K a).yld i H x H'→g x σ H' fun σ2 H2=>tb {D with nx:=N,ct:=N,bk:=D.nx} σ2 H2):=by
 refine⟨fun i m σ H=>m=xs.length - i∧i≤xs.length∧Pv i σ H,⟨xs.length,by simp,aJ _,h0⟩,?_⟩;rintro i m σ H ⟨rfl,hi,p⟩;have q:=hl i σ H hi p
 by_cases hlt:i<xs.length
 ·refine .inr ⟨⟨xs,xs[i],q,by simp[hlt]⟩,Pv (i+1),fun σ' H' p'=>⟨xs.length - (i+1),by lia,rfl,hlt,p'⟩,fun x H' y=>?_⟩;obtain⟨e,y⟩:=y;subst e;exact hs i x σ _ (y xs q) p
 ·have e:i=xs.length:=by lia
  subst e;exact .inl ⟨⟨xs,q,ao _⟩,hd σ H p⟩
theorem xkp{K:ai}{a:Addr}{xs:List V}{g:TG}{tb:TS}{D:Ends}{σ:St}{H:Hp}(Pv:Nat→St→Hp→Prop)(h0:Pv 0 σ H)(hl:∀i σ H,i≤xs.length→Pv i σ H→SqT K H a xs)
  (hs:∀i x σ H,xs[i]? =some x→Pv i σ H→g x σ H fun σ2 H2=>tb {D with nx:=Pv (i+1),ct:=Pv (i+1),bk:=D.nx} σ2 H2) (hd:∀σ H,Pv xs.length σ H→D.nx σ H):
  ∃W:Nat→Nat→St→Hp→Prop,(∃m,W 0 m σ H)∧∀i m σ H,W i m σ H→
   ((Itt K a).stop i H∧D.nx σ H)∨((Itt K a).go i H∧∃N:St→Hp→Prop,(∀σ' H',N σ' H'→∃m',m'<m∧W (i+1) m' σ' H')∧∀x H',(Itt K a).yld i H x H'→g x σ H' fun σ2 H2=>tb {D with nx:=N,ct:=N,bk:=D.nx} σ2 H2):=by
 refine⟨fun i m σ H=>m=xs.length - i∧i≤xs.length∧Pv i σ H,⟨xs.length,by simp,aJ _,h0⟩,?_⟩;rintro i m σ H ⟨rfl,hi,p⟩;have q:=hl i σ H hi p
 by_cases hlt:i<xs.length
 ·refine .inr ⟨⟨xs,xs[i],q,by simp[hlt]⟩,Pv (i+1),fun σ' H' p'=>⟨xs.length - (i+1),by lia,rfl,hlt,p'⟩,fun x H' y=>?_⟩;obtain⟨e,y⟩:=y;subst e;exact hs i x σ _ (y xs q) p
 ·have e:i=xs.length:=by lia
  subst e;exact .inl ⟨⟨xs,q,ao _⟩,hd σ H p⟩
end L2
namespace L2
open PySem PySem.Spec PyProof.Rows
abbrev R2:=V→V→Hp→VK→Prop
def OpR(X:Cx)(f:Value→Value→Sem Value)(r:R2):Prop:=
 ∀(pins:List (Addr×Obj)) (s:ae) (σ:St) (H:Hp) (x y:V) (v u:Value) (Q:VK),Inv X pins σ H s→RelV x v→RelV y u→r x y H Q→
  wpAny (model X.prog X.w) X.A (f v u) (EP X pins σ Q) X.xe s
def UnR(X:Cx)(f:Value→Sem Value)(r:V→Hp→VK→Prop):Prop:=
 ∀(pins:List (Addr×Obj)) (s:ae) (σ:St) (H:Hp) (x:V) (v:Value) (Q:VK),Inv X pins σ H s→RelV x v→r x H Q→
  wpAny (model X.prog X.w) X.A (f v) (EP X pins σ Q) X.xe s
def yt(X:Cx)(f:Value)(r:List V→Hp→VK→Prop):Prop:=
 ∀(pins:List (Addr×Obj)) (s:ae) (σ:St) (H:Hp) (xs:List V) (us:List Value) (Q:VK),Inv X pins σ H s→Vals xs us→r xs H Q→
  wpAny (model X.prog X.w) X.A (call f us) (EP X pins σ Q) X.xe s
def tOp(r:R2)(ta tb:TE):TE:=fun σ H Q=>ta σ H fun x H1=>tb σ H1 fun y H2=>r x y H2 Q
def tUn(r:V→Hp→VK→Prop)(ta:TE):TE:=fun σ H Q=>ta σ H fun x H1=>r x H1 Q
def rI(C:Int→Int→Prop)(g:Int→Int→V):R2:=fun x y H Q=>∃i j,x= .int i∧y= .int j∧C i j∧Q (g i j) H
def rI0(g:Int→Int→V):R2:=fun x y H Q=>∃i j,x= .int i∧y= .int j∧Q (g i j) H
def rU(g:Int→V):V→Hp→VK→Prop:=fun x H Q=>∃i,x= .int i∧Q (g i) H
section
variable {X:Cx} {a b c:Expr} {ta tb tc:TE} {pos:Pos}
theorem xjd(ha:PE X a ta)(hb:PE X b tb){pins:List (Addr×Obj)}{s:ae}{σ:St}{H:Hp}{R:V→V→Hp→Prop}(I:Inv X pins σ H s)
  (h:ta σ H fun x H1=>tb σ H1 fun y H2=>R x y H2) {Q:Value→ae→Prop} {f:Value→Value→Sem Value}
  (hf:∀v u s2 x y H2,Inv X pins σ H2 s2→RelV x v→RelV y u→R x y H2→wpAny (model X.prog X.w) X.A (f v u) Q X.xe s2):
  wpAny (model X.prog X.w) X.A (eval a X.env) (fun v s₁=>wpAny (model X.prog X.w) X.A (eval b X.env) (fun u s₂=>wpAny (model X.prog X.w) X.A (f v u) Q X.xe s₂) X.xe s₁) X.xe s:=by
 refine thn (ha pins s σ H _ I h) fun v s1 ⟨x,H1,I1,r1,q1⟩=>?_;refine thn (hb pins s1 σ H1 _ I1 q1) fun u s2 ⟨y,H2,I2,r2,q2⟩=>?_;exact hf v u s2 x y H2 I2 r1 r2 q2
theorem xl{op:Operator}{r:R2}(ho:OpR X (dg op) r)(ha:PE X a ta)(hb:PE X b tb):PE X (.BinOp a op b pos) (tOp r ta tb):=by
 intro pins s σ H Q I h;exact wpAny_BinOp (xjd ha hb I h fun v u s2 x y H2 I2 rx ry q=>ho pins s2 σ H2 x y v u Q I2 rx ry q)
theorem xmI{op:UnaryOp}{r:V→Hp→VK→Prop}(ho:UnR X (unaryOp op) r)(ha:PE X a ta):PE X (.UnaryOp op a pos) (tUn r ta):=by
 intro pins s σ H Q I h;exact UnaryOp_ (thn (ha pins s σ H _ I h) fun v s1 ⟨x,H1,I1,r1,q1⟩=>ho pins s1 σ H1 x v Q I1 r1 q1)
theorem opI{f:Value→Value→Sem Value}{C:Int→Int→Prop}{g:Int→Int→Int}
  (rule:∀(i j:Int) (t u:Tok) (s:ae) (Q:Value→ae→Prop) (E:Value→ae→Prop),C i j→Q (.int (g i j) s.toks) {s with toks:=s.toks+1}→wpAny (model X.prog X.w) X.A (f (.int i t) (.int j u)) Q E s):
  OpR X f (rI C fun i j=>.int (g i j)):=by
 intro pins s σ H x y v u Q I rx ry h;obtain⟨i,j,rfl,rfl,hc,q⟩:=h;obtain⟨t,rfl⟩:=rx;obtain⟨t',rfl⟩:=ry;exact rule i j t t' s _ _ hc ⟨.int (g i j),H,I.tok _,⟨_,rfl⟩,q⟩
theorem xlF{f:Value→Value→Sem Value}{g:Int→Int→Int}
  (rule:∀(i j:Int) (t u:Tok) (s:ae) (Q:Value→ae→Prop) (E:Value→ae→Prop),Q (.int (g i j) s.toks) {s with toks:=s.toks+1}→wpAny (model X.prog X.w) X.A (f (.int i t) (.int j u)) Q E s):
  OpR X f (rI0 fun i j=>.int (g i j)):=by
 intro pins s σ H x y v u Q I rx ry h;obtain⟨i,j,rfl,rfl,q⟩:=h;obtain⟨t,rfl⟩:=rx;obtain⟨t',rfl⟩:=ry;exact rule i j t t' s _ _ ⟨.int (g i j),H,I.tok _,⟨_,rfl⟩,q⟩
theorem xje{f:Value→Value→Sem Value}{g:Int→Int→Bool}
  (rule:∀(i j:Int) (t u:Tok) (s:ae) (Q:Value→ae→Prop) (E:Value→ae→Prop),Q (.bool (g i j)) s→wpAny (model X.prog X.w) X.A (f (.int i t) (.int j u)) Q E s):
  OpR X f (rI0 fun i j=>.bl (g i j)):=by
 intro pins s σ H x y v u Q I rx ry h;obtain⟨i,j,rfl,rfl,q⟩:=h;obtain⟨t,rfl⟩:=rx;obtain⟨t',rfl⟩:=ry;exact rule i j t t' s _ _ ⟨.bl (g i j),H,I,rfl,q⟩
def xlG(i j:Int):Prop:=0≤j∧j≤1000000∧i.natAbs<2^64
def xgW(i j:Int):Prop:=(-(2^64)<i∧i<2^64)∨(-(2^64)<j∧j<2^64)
theorem xgW.ok{i j:Int}(h:xgW i j):IntMulOk i j:=by
 rcases h with⟨h1,h2⟩|⟨h1,h2⟩
 ·exact .of_left (intBits_le_64 h1 h2)
 ·exact .of_right (intBits_le_64 h1 h2)
theorem xlH:OpR X (dg .Add) (rI0 fun i j=>.int (i+j)):=xlF fun _ _ _ _ _ _ _ q=>add_int q
theorem xlI:OpR X (dg .Sub) (rI0 fun i j=>.int (i - j)):=xlF fun _ _ _ _ _ _ _ q=>sub_int q
theorem xlJ:OpR X (dg .Mult) (rI xgW fun i j=>.int (i*j)):=opI fun _ _ _ _ _ _ _ hc q=>mul_int q hc.ok
theorem xlK:OpR X (dg .Mod) (rI (fun _ j=>0<j) fun i j=>.int (i%j)):=opI fun i j _ _ _ _ _ hc q=>by
 have h1:(0:Int)<j:=hc;exact mod_int' (by lia) (by rw[Int.fmod_eq_emod_of_nonneg i (by lia)];exact q)
theorem xlL:OpR X (dg .Pow) (rI xlG fun i j=>.int (i^j.toNat)):=opI fun _ _ _ _ _ _ _ hc q=>pow_int_small hc.1 hc.2.1 hc.2.2 q
theorem unI{f:Value→Sem Value}{g:Int→Int}
  (rule:∀(i:Int) (t:Tok) (s:ae) (Q:Value→ae→Prop) (E:Value→ae→Prop),Q (.int (g i) s.toks) {s with toks:=s.toks+1}→wpAny (model X.prog X.w) X.A (f (.int i t)) Q E s):
  UnR X f (rU fun i=>.int (g i)):=by
 intro pins s σ H x v Q I rx h;obtain⟨i,rfl,q⟩:=h;obtain⟨t,rfl⟩:=rx;exact rule i t s _ _ ⟨.int (g i),H,I.tok _,⟨_,rfl⟩,q⟩
theorem xlM:UnR X (unaryOp .USub) (rU fun i=>.int (-i)):=unI fun _ _ _ _ _ q=>neg_int q
end
def xlN:V→V→Bool
 | .non,.non=>true| .non,.int _=>true| .int _,.non=>true| .non,.bl _=>true| .bl _,.non=>true| .non,.str _=>true| .str _,.non=>true
 | .int _,.int _=>true| .bl _,.bl _=>true| .str _,.str _=>true| .byt _,.byt _=>true
 | .int _,.str _=>true| .str _,.int _=>true| .bl _,.str _=>true| .str _,.bl _=>true
 |_,_=>false
def rEq:R2:=fun x y H Q=>xlN x y=true∧Q (.bl (decide (x=y))) H
def rNe:R2:=fun x y H Q=>xlN x y=true∧Q (.bl (!decide (x=y))) H
theorem xgm{i j:Int}:decide (V.int i=V.int j)=(i==j):=by
 rw[d7];simp
theorem xhW{i j:Bool}:decide (V.bl i=V.bl j)=(i==j):=by
 rw[d7];simp
theorem xgn{i j:Str}:decide (V.str i=V.str j)=(i==j):=by
 rw[d7];simp
theorem xgo{i j:Array UInt8}:decide (V.byt i=V.byt j)=(i.toList==j.toList):=by
 rw[d7];cases i;cases j;simp
section
variable {X:Cx} {a b c:Expr} {ta tb tc:TE} {pos:Pos}
theorem xJ{pins:List (Addr×Obj)}{σ:St}{H:Hp}{s:ae}{Q:VK}{k k':Bool}(I:Inv X pins σ H s)(q:Q (.bl k) H)(e:k=k'):EP X pins σ Q (.bool k') s:=by
 subst e;exact⟨.bl k,H,I,rfl,q⟩
theorem xj8:OpR X (bD .Eq) rEq:=by
 intro pins s σ H x y v u Q I rx ry h;obtain⟨hs,q⟩:=h;cases x with
 |non=>
  cases rx;cases y with
  |non=>cases ry;exact PySem.EqNone.eq_none_none (xJ I q (by simp))
  |bl j=>cases ry;exact PySem.EqNone.eq_none_bool (xJ I q (by simp))
  |int j=>obtain⟨t',rfl⟩:=ry;exact PySem.EqNone.eq_none_int (xJ I q (by simp))
  |str j=>obtain⟨t',rfl⟩:=ry;exact PySem.EqNone.eq_none_str (xJ I q (by simp))
  |_=>exact absurd (show false=true from hs) aC
 |bl i=>
  cases rx;cases y with
  |non=>cases ry;exact PySem.EqNone.eq_bool_none (xJ I q (by simp))
  |bl j=>cases ry;exact eq_bool (xJ I q xhW)
  |str j=>obtain⟨t',rfl⟩:=ry;exact PySem.EqMixed.eq_bool_str (xJ I q (by simp))
  |_=>exact absurd (show false=true from hs) aC
 |int i=>
  obtain⟨t,rfl⟩:=rx;cases y with
  |non=>cases ry;exact PySem.EqNone.eq_int_none (xJ I q (by simp))
  |int j=>obtain⟨t',rfl⟩:=ry;exact eq_int (xJ I q xgm)
  |str j=>obtain⟨t',rfl⟩:=ry;exact PySem.EqMixed.eq_int_str (xJ I q (by simp))
  |_=>exact absurd (show false=true from hs) aC
 |str i=>
  obtain⟨t,rfl⟩:=rx;cases y with
  |non=>cases ry;exact PySem.EqNone.eq_str_none (xJ I q (by simp))
  |bl j=>cases ry;exact PySem.EqMixed.eq_str_bool (xJ I q (by simp))
  |int j=>obtain⟨t',rfl⟩:=ry;exact PySem.EqMixed.eq_str_int (xJ I q (by simp))
  |str j=>obtain⟨t',rfl⟩:=ry;exact eq_str (xJ I q xgn)
  |_=>exact absurd (show false=true from hs) aC
 |byt i=>
  obtain⟨t,rfl⟩:=rx;cases y with
  |byt j=>obtain⟨t',rfl⟩:=ry;exact W.eq_bytes (xJ I q xgo)
  |_=>exact absurd (show false=true from hs) aC
 |_=>cases y<;> exact absurd (show false=true from hs) aC
theorem xj9:OpR X (bD .NotEq) rNe:=by
 intro pins s σ H x y v u Q I rx ry h;obtain⟨hs,q⟩:=h;cases x with
 |non=>
  cases rx;cases y with
  |non=>cases ry;exact PySem.EqNone.ne_none_none (xJ I q (by simp))
  |bl j=>cases ry;exact PySem.EqNone.ne_none_bool (xJ I q (by simp))
  |int j=>obtain⟨t',rfl⟩:=ry;exact PySem.EqNone.ne_none_int (xJ I q (by simp))
  |str j=>obtain⟨t',rfl⟩:=ry;exact PySem.EqNone.ne_none_str (xJ I q (by simp))
  |_=>exact absurd (show false=true from hs) aC
 |bl i=>
  cases rx;cases y with
  |non=>cases ry;exact PySem.EqNone.ne_bool_none (xJ I q (by simp))
  |bl j=>cases ry;exact ne_bool (xJ I q (congrArg not xhW))
  |str j=>obtain⟨t',rfl⟩:=ry;exact PySem.EqMixed.ne_bool_str (xJ I q (by simp))
  |_=>exact absurd (show false=true from hs) aC
 |int i=>
  obtain⟨t,rfl⟩:=rx;cases y with
  |non=>cases ry;exact PySem.EqNone.ne_int_none (xJ I q (by simp))
  |int j=>obtain⟨t',rfl⟩:=ry;exact ne_int (xJ I q (congrArg not xgm))
  |str j=>obtain⟨t',rfl⟩:=ry;exact PySem.EqMixed.ne_int_str (xJ I q (by simp))
  |_=>exact absurd (show false=true from hs) aC
 |str i=>
  obtain⟨t,rfl⟩:=rx;cases y with
  |non=>cases ry;exact PySem.EqNone.ne_str_none (xJ I q (by simp))
  |bl j=>cases ry;exact PySem.EqMixed.ne_str_bool (xJ I q (by simp))
  |int j=>obtain⟨t',rfl⟩:=ry;exact PySem.EqMixed.ne_str_int (xJ I q (by simp))
  |str j=>obtain⟨t',rfl⟩:=ry;exact ne_str (xJ I q (congrArg not xgn))
  |_=>exact absurd (show false=true from hs) aC
 |byt i=>
  obtain⟨t,rfl⟩:=rx;cases y with
  |byt j=>obtain⟨t',rfl⟩:=ry;exact W.ne_bytes (xJ I q (congrArg not xgo))
  |_=>exact absurd (show false=true from hs) aC
 |_=>cases y<;> exact absurd (show false=true from hs) aC
theorem xmJ:OpR X (bD .Lt) (rI0 fun i j=>.bl (decide (i<j))):=xje fun _ _ _ _ _ _ _ q=>lt_int q
theorem xmK:OpR X (bD .Gt) (rI0 fun i j=>.bl (decide (j<i))):=xje fun _ _ _ _ _ _ _ q=>gt_int q
theorem xmL:OpR X (bD .GtE) (rI0 fun i j=>.bl (decide (j≤i))):=xje fun _ _ _ _ _ _ _ q=>ge_int q
theorem xhX(b:Expr){op:CmpOp}(h:op≠.In:=by decide)(h2:op≠.NotIn:=by decide):df op b=false:=by
 have e1:(op==CmpOp.In)=false:=by cases op<;> first|rfl|exact absurd rfl h
 have e2:(op==CmpOp.NotIn)=false:=by cases op<;> first|rfl|exact absurd rfl h2
 cases b<;> simp[df,e1,e2]
theorem xkq{op:CmpOp}{r:R2}(ho:OpR X (bD op) r)(ha:PE X a ta)(hb:PE X b tb)(hm:df op b=false):PE X (.Compare a [op] [b] pos) (tOp r ta tb):=by
 intro pins s σ H Q I h;exact wpAny_Compare1 (xjd ha hb I h fun v u s2 x y H2 I2 rx ry q=>ho pins s2 σ H2 x y v u Q I2 rx ry q) hm
theorem xez:(aO:Nat)<2^63:=by rw[ay];decide
theorem vals1{x:V}{us:List Value}(r:Vals [x] us):∃u,us=[u]∧RelV x u:=by
 cases r with
 |cons r1 r2=>cases r2;exact⟨_,rfl,r1⟩
theorem vals2{x y:V}{us:List Value}(r:Vals [x,y] us):∃u w',us=[u,w']∧RelV x u∧RelV y w':=by
 cases r with
 |cons r1 r2=>
  cases r2 with
  |cons r3 r4=>cases r4;exact⟨_,_,rfl,r1,r3⟩
theorem xhY(hc:X.calm=true):yt X (.builtin "max") (fun xs H Q=>∃i j,xs=[.int i,.int j]∧Q (.int (if j > i then j else i)) H):=by
 intro pins s σ H xs us Q I r h;obtain⟨i,j,rfl,q⟩:=h;obtain⟨u,w',rfl,⟨t,rfl⟩,⟨t',rfl⟩⟩:=vals2 r;refine max_two_ints (I.ok.hd hc) fun h' tk k=>⟨_,H,I.kept k,?_,q⟩
 by_cases hj:j > i
 ·rw[if_pos hj,if_pos hj];exact⟨_,rfl⟩
 ·rw[if_neg hj,if_neg hj];exact⟨_,rfl⟩
theorem xhZ(hc:X.calm=true):yt X (.builtin "min") (fun xs H Q=>∃i j,xs=[.int i,.int j]∧Q (.int (if j<i then j else i)) H):=by
 intro pins s σ H xs us Q I r h;obtain⟨i,j,rfl,q⟩:=h;obtain⟨u,w',rfl,⟨t,rfl⟩,⟨t',rfl⟩⟩:=vals2 r;refine min_two_ints (I.ok.hd hc) fun h' tk k=>⟨_,H,I.kept k,?_,q⟩
 by_cases hj:j<i
 ·rw[if_pos hj,if_pos hj];exact⟨_,rfl⟩
 ·rw[if_neg hj,if_neg hj];exact⟨_,rfl⟩
end
end L2
namespace L2
open PySem PySem.Spec PyProof.Rows
structure xb5(h:Heap)(x dx C:Addr)(mA:Str→Option Value):Prop where
 obj:h.get? x=some (fY C dx)
 ns:h.Ns1 dx mA
 ne:dx≠x
theorem xh0{h:Heap}{dx:Addr}{mA:Str→Option Value}(n:h.Ns1 dx mA):∃od,h.get? dx=some od∧∀name,W.lookIn name od=some (mA name):=by
 obtain⟨o,es,ep,ho,hd,hk,_,hm⟩:=n;refine⟨o,ho,fun name=>?_⟩;have e:=hm name;unfold nsFind findBy at e;rw[←Array.find?_toList]at e;unfold W.lookIn;rw[hd];dsimp only
 split
 ·rename_i y q;rw[q]at e;exact congrArg some e
 ·rename_i q;rw[q]at e;have a:es.toList.any (·.refKey)=false:=by
   rw[List.any_eq_false];intro y hy;obtain⟨z,t,hkey⟩:=hk y (cb.mp hy);simp[DictEntry.refKey,hkey]
  have a':¬es.toList.any (·.refKey)=true:=by rw[a];exact aC
  rw[if_neg a'];exact congrArg some e
theorem xb5.look{h:Heap}{x dx C:Addr}{mA:Str→Option Value}(I:xb5 h x dx C mA):∃od,W.InstAt h x (fY C dx) C (some od)∧∀name,W.lookIn name od=some (mA name):=
 let⟨od,ho,hl⟩:=xh0 I.ns
 ⟨od,⟨I.obj,rfl,rfl,ho⟩,hl⟩
section
variable {prog:aF} {w:World} {A:aU} {E:Value→ae→Prop} {s:ae} {K:ai} {x dx C f:Addr} {mA:Str→Option Value} {name:Str} {v:Value}
theorem get_map{expr:Bool}{Q:Value→ae→Prop}(X:K.In s.heap)(I:xb5 s.heap x dx C mA)(hg:kO K C name=true)(hh:W.hasDictIn K C=true)
  (ha:cU K (.ref C) name=some none) (hv:mA name=some v) (hv':W.handedIn v=true) (h:Q v {s with toks:=s.toks+1}):
  wpAny (model prog w) A (getAttr (.ref x) name expr) Q E s:=by
 obtain⟨od,J,hl⟩:=I.look;exact W.get_value X J (lh hg).1 (W.findObj_own hh ha rfl (by rw[hl,hv])) hv' h
theorem xjf{pl:Sem Bool}{Q:Value×List Value→ae→Prop}(X:K.In s.heap)(I:xb5 s.heap x dx C mA)(hg:kO K C name=true)
  (hf:cU K (.ref C) name=some (some (.ref f))) (ht:W.isFn K (.ref f)=true) (hv:mA name=none) (h:Q (.ref f,[.ref x]) s):
  wpAny (model prog w) A (getMethod (.ref x) name pl) Q E s:=by
 obtain⟨od,J,hl⟩:=I.look;exact W.method_fn X J (lh hg).1 (lh hg).2 hf (beq_iff_eq.mp ht) (by show(W.lookIn name od).map (·.isSome)=some false;rw[hl,hv];rfl) h
theorem xkr{ns:List Str}{Q:Unit→ae→Prop}(X:K.In s.heap)(I:xb5 s.heap x dx C mA)
  (hs:cU K (.ref C) "__setattr__"=some (some (.builtin "object.__setattr__"))) (hp:W.plainOver K C=true) (ht:W.takerIn K C name=some none) (hh:W.hasDictIn K C=true)
  (hw:PySem.Within mA ns) (hsz:ns.length≤aO)
  (h:∀h',xb5 h' x dx C (fun y=>if y=name then some v else mA y)→f6 dx s.heap h'→Q () {s with heap:=h',toks:=s.toks+2}):
  wpAny (model prog w) A (setAttr (.ref x) name v) Q E s:=by
 obtain⟨od,J,hl⟩:=I.look;refine W.set_plain X J hs (W.osa_open (s:={s with toks:=s.toks+1}) (r:=none) X J hp ht fun b=>?_);obtain⟨cd,hc,hd'⟩:=W.any_some hh;have hx:s.heap.get? x=some ⟨.ref C,some dx,.plain,#[]⟩:=I.obj;refine aa (ah (aa (aa (wpAny_loadPart hx (aa (W.Looks.here (s:={s with toks:=s.toks+1}) (W.looks_clsIn X hc) ?_))))));rw[hd'];refine ah (a:=some dx) (aa (ah (aa ?_)));refine wpAny_nsSet1 (s:={s with toks:=s.toks+1}) I.ns fun h' hn2 hs2=>?_;obtain⟨oD,esD,epD,hoD,hdD,hcD⟩:=hn2.count (PySem.Within.cons name v hw);refine aa (wpAny_lookBehind hoD (by rw[hdD];exact pastItsLine_dict (bp hcD (by rw[aY];lia))) ?_);exact ah (h _ ⟨(hs2.2 _ (bO I.ne)).trans I.obj,hn2,I.ne⟩ hs2)
theorem xjg{R:f7→ae→Prop}{vs:List Value}{kw:List (Str×Value)}(X:K.In s.heap)(hm:W.makesIn K C=true)
  (hi:cU K (.ref C) "__init__"=some (some (.ref f))) (hf:W.typeIn K (.ref f)=some (.type "function"))
  (h:cQ (model prog w) (A.under (.builtin "type.__call__" ⟨.ref C::vs,kw⟩)) (.call (.ref f) ⟨.ref (s.heap.objs.size+1)::vs,kw⟩) (W.InitBack (s.heap.objs.size+1) R)
   {s with heap:=(s.heap.push eN).push (fY C s.heap.objs.size)}):
  cQ (model prog w) A (.call (.ref C) ⟨vs,kw⟩) R s:=by
 obtain⟨hh,g,d,t,os⟩:=s;exact W.make_core (W.makes_of X hm) (W.looks_findIn X hi) (fun self=>W.bind_fn X self hf) (.inl rfl) h
end
def zt(f:Str)(v:V):List (Str×V)→List (Str×V)
 |[]=>[(f,v)]
 |(g,x)::r=>if g=f then(g,v)::r else(g,x)::zt f v r
theorem xbJ(f g:Str)(v:V):∀fs:List (Str×V),(zt f v fs).lookup g=if g=f then some v else fs.lookup g
 |[]=>by
  show fO g [(f,v)]=_
  by_cases h:g=f
  ·have hb:(g==f)=true:=beq_iff_eq.mpr h;simp only[fO,hb,if_pos h]
  ·have hb:(g==f)=false:=beq_eq_false_iff_ne.mpr h;simp only[fO,hb,if_neg h]
 |(k,x)::r=>by
  have ih:=xbJ f g v r;rw[show zt f v ((k,x)::r)=(if k=f then(k,v)::r else(k,x)::zt f v r)from rfl]
  by_cases hk:k=f
  ·rw[if_pos hk]
   by_cases h:g=k
   ·have hb:(g==k)=true:=beq_iff_eq.mpr h;simp only[fO,hb,if_pos (h.trans hk)]
   ·have hb:(g==k)=false:=beq_eq_false_iff_ne.mpr h;simp only[fO,hb,if_neg (fun e:g=f=>h (e.trans hk.symm))]
  ·rw[if_neg hk]
   by_cases h:g=k
   ·have hb:(g==k)=true:=beq_iff_eq.mpr h;simp only[fO,hb,if_neg (fun e:g=f=>hk (h.symm.trans e))]
   ·have hb:(g==k)=false:=beq_eq_false_iff_ne.mpr h;simp only[fO,hb];exact ih
theorem xaF(f:Str)(v:V):∀fs:List (Str×V),f∈(zt f v fs).map (·.1)∧∀g,g∈fs.map (·.1)→g∈(zt f v fs).map (·.1)
 |[]=>⟨by simp[zt],fun g h=>by simp at h⟩
 |(k,x)::r=>by
  obtain⟨i1,i2⟩:=xaF f v r;rw[show zt f v ((k,x)::r)=(if k=f then(k,v)::r else(k,x)::zt f v r)from rfl]
  by_cases hk:k=f
  ·rw[if_pos hk];subst hk;exact⟨by simp,fun g h=>by simpa using h⟩
  ·rw[if_neg hk];refine⟨?_,fun g h=>?_⟩
   ·rw[a9];exact aq _ i1
   ·rw[a9]at h⊢;rcases az.mp h with e|e
    ·exact az.mpr (.inl e)
    ·exact aq _ (i2 g e)
theorem jq(f:Str)(v:V):∀fs:List (Str×V),(zt f v fs).length≤fs.length+1
 |[]=>by simp[zt]
 |(k,x)::r=>by
  have ih:=jq f v r;rw[show zt f v ((k,x)::r)=(if k=f then(k,v)::r else(k,x)::zt f v r)from rfl]
  by_cases hk:k=f
  ·rw[if_pos hk,aY,aY];lia
  ·rw[if_neg hk,aY,aY];lia
theorem zQ.some_of{v:V}{o:Option Value}(r:zQ (some v) o):∃u,o=some u∧RelV v u:=by
 cases o with
 |none=>exact(show False from r).elim
 |some u=>exact⟨u,rfl,r⟩
theorem zQ.none_of{o:Option Value}(r:zQ none o):o=none:=by
 cases o with
 |none=>rfl
 |some u=>exact(show False from r).elim
theorem xh1{v:V}{u:Value}(r:RelV v u):W.handedIn u=true:=by
 cases v with
 |non=>cases (show u=aZ from r);rfl
 |bl b=>cases (show u=eE b from r);rfl
 |int i=>obtain⟨t,e⟩:=(show∃t,u=ff i t from r);cases e;rfl
 |str x=>obtain⟨t,e⟩:=(show∃t,u=gJ x t from r);cases e;rfl
 |byt b=>obtain⟨t,e⟩:=(show∃t,u=Value.bytes b t from r);cases e;rfl
 |flt b=>obtain⟨t,e⟩:=(show∃t,u=l8 b t from r);cases e;rfl
 |ref a=>cases (show u=bf a from r);rfl
 |ty n=>cases (show u=ck n from r);rfl
section
variable {P:aF} {w:World} {H H':Hp} {h h':Heap} {a C dx:Addr} {fs fs':List (Str×V)}
theorem xbp(hok:HOk P w H h)(e:H a=some (.ins C dx fs)):∃mA,xb5 h a dx C mA∧(∀f,zQ (fs.lookup f) (mA f))∧PySem.Within mA (fs.map (·.1))∧fs.length≤1000∧H dx=some (.own a):=by
 obtain⟨d,z,ne,ob,mA,n,r,q⟩:=(show xE P w H h a (.ins C dx fs)from hok a _ e);exact⟨mA,⟨ob,n,ne⟩,r,q,z,d⟩
end
structure Cls(K:ai)(C:Addr):Prop where
 pg:kO K C Str.empty=true
 hd:W.hasDictIn K C=true
 po:W.plainOver K C=true
 sa:cU K (.ref C) "__setattr__"=some (some (.builtin "object.__setattr__"))
theorem Cls.get{K:ai}{C:Addr}(c:Cls K C)(f:Str):kO K C f=true:=c.pg
def xW(K:ai)(C:Addr)(f:Str):Prop:=cU K (.ref C) f=some none
theorem xW.taker{K:ai}{C:Addr}{f:Str}(n:xW K C f):W.takerIn K C f=some none:=by
 unfold W.takerIn;rw[show cU K (.ref C) f=some none from n];rfl
structure Meth(K:ai)(C:Addr)(m:Str)(f:Addr):Prop where
 at_:cU K (.ref C) m=some (some (.ref f))
 fn:W.isFn K (.ref f)=true
 kp:dQ K (.ref f)=true
section
variable {X:Cx} {pins:List (Addr×Obj)} {σ:St} {H:Hp} {s:ae} {a C dx:Addr} {fs:List (Str×V)} {f:Str} {v:V} {A:aU} {E:Value→ae→Prop}
theorem xgX{b:Bool}{Q:Value→ae→Prop}(I:Inv X pins σ H s)(e:H a=some (.ins C dx fs))(c:Cls X.K C)(n:xW X.K C f)(l:fs.lookup f=some v)
  (h:∀u s',Inv X pins σ H s'→RelV v u→Q u s'):wpAny (model X.prog X.w) A (getAttr (.ref a) f b) Q E s:=by
 obtain⟨mA,O,r,_,_,_⟩:=xbp I.hok e;obtain⟨u,hu,ru⟩:=zQ.some_of (v:=v) (o:=mA f) (by rw[←l];exact r f);exact get_map I.kIn O (c.get f) c.hd n hu (xh1 ru) (h u _ (I.tok _) ru)
theorem xgY{m:Str}{g:Addr}{pl:Sem Bool}{Q:Value×List Value→ae→Prop}(I:Inv X pins σ H s)(e:H a=some (.ins C dx fs))(c:Cls X.K C)(k:Meth X.K C m g)(l:fs.lookup m=none)
  (h:Q (.ref g,[.ref a]) s):wpAny (model X.prog X.w) A (getMethod (.ref a) m pl) Q E s:=by
 obtain⟨mA,O,r,_,_,_⟩:=xbp I.hok e;have hn:mA m=none:=zQ.none_of (by rw[←l];exact r m);exact xjf I.kIn O (c.get m) k.at_ k.fn hn h
theorem xgZ{y:V}{u:Value}{Q:Unit→ae→Prop}(I:Inv X pins σ H s)(e:H a=some (.ins C dx fs))(c:Cls X.K C)(n:xW X.K C f)(hl:fs.length<1000)(ry:RelV y u)
  (h:∀s',Inv X pins σ (upd H a (.ins C dx (zt f y fs))) s'→Q () s'):wpAny (model X.prog X.w) A (setAttr (.ref a) f u) Q E s:=by
 obtain⟨mA,O,r,wi,_,ho⟩:=xbp I.hok e;have hz:(fs.map (·.1)).length≤aO:=by rw[ab,ay];lia
 refine xkr I.kIn O c.sa c.po n.taker c.hd wi hz fun h' O' sb=>h _ ?_;have hd:∃o,h'.get? dx=some o:=let⟨o,_,_,e',_⟩:=O'.ns;⟨o,e'⟩
 refine I.write (x:=a) (e:=dx) (by rw[e];exact cZ) (.inr ho) (fun b q hb z=>(sb.2 b hb).trans z) hd ?_;refine⟨by rw[xk O.ne];exact ho,?_,O.ne,O'.obj,_,O'.ns,fun g=>?_,fun g hg=>?_⟩
 ·have:=jq f y fs;lia
 ·show zQ ((zt f y fs).lookup g) (if g=f then some u else mA g);rw[xbJ]
  by_cases q:g=f
  ·rw[if_pos q,if_pos q];exact ry
  ·rw[if_neg q,if_neg q];exact r g
 ·by_cases q:g=f
  ·rw[q];exact(xaF f y fs).1
  ·refine(xaF f y fs).2 g (wi g fun z=>hg ?_);show(if g=f then some u else mA g)=none;rw[if_neg q];exact z
theorem Inv.made(I:Inv X pins σ H s):Inv X pins σ (upd (upd H s.heap.objs.size (.own (s.heap.objs.size+1))) (s.heap.objs.size+1) (.ins C s.heap.objs.size []))
  {s with heap:=(s.heap.push eN).push (fY C s.heap.objs.size)}:=by
 have e1:(s.heap.push eN).get? s.heap.objs.size=some eN:=aB s.heap rfl;have e2:((s.heap.push eN).push (fY C s.heap.objs.size)).get? (s.heap.objs.size+1)=some (fY C s.heap.objs.size):=by
  have:=aB (s.heap.push eN) (o:=fY C s.heap.objs.size) rfl
  rwa [c5]at this
 have e3:(s.heap.push eN).Ns s.heap.objs.size (fun _=>none):=⟨eN,#[],_,e1,rfl,(fun e he=>absurd he (by simp)),fun _=>rfl⟩;have I1:=I.laid (a:=s.heap.objs.size) (o:=.own (s.heap.objs.size+1)) (h':=s.heap.push eN) (t':=s.toks) (fun b u q=>af _ q) (ao _) ⟨_,e1⟩;refine I1.laid (a:=s.heap.objs.size+1) (o:=.ins C s.heap.objs.size []) (t':=s.toks) (fun b u q=>af _ q) (gT (c5 _ _)) ?_;have ne:s.heap.objs.size≠s.heap.objs.size+1:=ar (cL _);refine⟨by rw[xk ne,xj],aJ _,ne,e2,fun _=>none,(Heap.Ns1.of_empty e3).at fun o q=>af _ q,fun _=>cZ,fun y hy=>absurd rfl hy⟩
theorem xks{prog:aF}{w:World}{env:Env}{e:Expr}{f:Str}{pos:Pos}{s:ae}{Q:Value→ae→Prop}(hb:gD e f env (eval e env)=eval e env)
  (h:wpAny (model prog w) A (eval e env) (fun o s₁=>wpAny (model prog w) A (getAttr o f true) Q E s₁) E s):wpAny (model prog w) A (eval (.Attribute e f pos) env) Q E s:=
 Attribute_any_ h (by rw[arm_eval_Attribute,hb])
end
def xnq(K:ai)(ta:TE)(f:Str):TE:=fun σ H Q=>ta σ H fun x H1=>∃a C dx fs v,x= .ref a∧H1 a=some (.ins C dx fs)∧Cls K C∧xW K C f∧fs.lookup f=some v∧Q v H1
def xnr(K:ai)(ta tv:TE)(f:Str):TS:=fun D σ H=>tv σ H fun y H1=>ta σ H1 fun x H2=>∃a C dx fs,x= .ref a∧H2 a=some (.ins C dx fs)∧Cls K C∧xW K C f∧fs.length<1000∧
 D.nx σ (upd H2 a (.ins C dx (zt f y fs)))
section
variable {X:Cx} {o e value:Expr} {f:Str} {pos pos' tpos:Pos} {ta tv:TE}
theorem xX(he:PE X e ta)(hb:gD e f X.env (eval e X.env)=eval e X.env):PE X (.Attribute e f pos) (xnq X.K ta f):=by
 intro pins s σ H Q I h;refine xks hb (thn (he pins s σ H _ I h) fun u s1 ⟨x,H1,I1,rx,a,C,dx,fs,v,ex,ea,c,n,l,q⟩=>?_);subst ex;obtain rfl:u=bf a:=rx;exact xgX I1 ea c n l fun u' s2 I2 ru=>⟨v,H1,I2,ru,q⟩
theorem uX(ha:PE X o ta)(hv:PE X value tv)(hs:j6 value (some (.Attribute o f pos')) pos.line X.env=pure false):PS X (.Assign [.Attribute o f pos'] value pos) (xnr X.K ta tv f):=by
 intro pins s σ H D I h;refine plainObj_wpAny_Assign_Attribute (thn (hv pins s σ H _ I h) fun u s1 ⟨y,H1,I1,ry,q⟩=>thn (ha pins s1 σ H1 _ I1 q) fun ov s2 ⟨x,H2,I2,rx,a,C,dx,fs,ex,ea,c,n,l,q2⟩=>?_) hs;subst ex;obtain rfl:ov=bf a:=rx;exact xgZ I2 ea c n l ry fun s3 I3=>⟨σ,_,I3,q2⟩
end
section
variable {X:Cx} {pins:List (Addr×Obj)} {σ:St} {H:Hp} {s:ae} {A:aU} {E:Value→ae→Prop} {Q:Value→ae→Prop} {c:Value} {b:Bool}
inductive yG(K:ai)(H:Hp):V→Value→Prop where
 |non:yG K H .non (.type "NoneType")
 |bl (x:Bool):yG K H (.bl x) (.type "bool")
 |int (i:Int):yG K H (.int i) (.type "int")
 |str (x:Str):yG K H (.str x) (.type "str")
 |flt (x:UInt64):yG K H (.flt x) (.type "float")
 |lst {a:Addr} {xs:List V} (e:H a=some (.lst xs)):yG K H (.ref a) (.type "list")
 |frz {a:Addr} {o:Obj} {xs:List V} (e:H a=some (.frz o (.lst xs))):yG K H (.ref a) (.type "list")
 |tup {a:Addr} {xs:List V} (e:H a=some (.tup xs)):yG K H (.ref a) (.type "tuple")
 |dK {a:Addr} {kvs:List (Key×V)} (e:H a=some (.dK kvs)):yG K H (.ref a) (.type "dict")
 |dT {a:Addr} {kvs:List (List Key×V)} (e:H a=some (.dT kvs)):yG K H (.ref a) (.type "dict")
 |ins {a C dx:Addr} {fs:List (Str×V)} (e:H a=some (.ins C dx fs)) (cl:Cls K C) (ha:cU K (.ref C) "__class__"=some (some (.builtin "object.__class__")))
   (hn:kg K (.builtin "object.__class__") "__get__"=some (some (.builtin "getset_descriptor.__get__"))) (htk:W.takesIn K (.builtin "object.__class__")=some true)
   (hm:W.mroIn K C (.type "object")=some true):yG K H (.ref a) (.ref C)
theorem xh2{x:V}{u t:Value}(I:Inv X pins σ H s)(rx:RelV x u)(ty:yG X.K H x t)(e:fK X.K t c=some b)(h:∀tk,Q (.bool b) {s with toks:=tk}):
  wpAny (model X.prog X.w) A (call (.builtin "isinstance") [u,c]) Q E s:=by
 cases ty with
 |non=>cases (show u=aZ from rx);exact eO W.kitx_none I.kIn cZ e (fun z=>nomatch z) h
 |bl y=>cases (show u=eE y from rx);exact eO W.kitx_bool I.kIn cZ e (fun z=>nomatch z) h
 |int i=>obtain⟨t,q⟩:=(show∃t,u=ff i t from rx);cases q;exact eO W.kitx_int I.kIn cZ e (fun z=>nomatch z) h
 |str y=>obtain⟨t,q⟩:=(show∃t,u=gJ y t from rx);cases q;exact eO W.kitx_str I.kIn cZ e (fun z=>nomatch z) h
 |flt y=>obtain⟨t,q⟩:=(show∃t,u=l8 y t from rx);cases q;exact eO W.kitx_float I.kIn cZ e (fun z=>nomatch z) h
 | @lst a xs ea=>
  cases (show u=bf a from rx);obtain⟨_,_,n,_,h1⟩:=(show xE X.prog X.w H s.heap a (.lst xs)from I.hok a _ ea);exact eO W.kitx_list I.kIn ⟨_,h1,rfl⟩ e (fun z=>nomatch z) h
 | @frz a ob xs ea=>
  cases (show u=bf a from rx);obtain⟨_,_,_,n,_,h1⟩:=(show xE X.prog X.w H s.heap a (.frz ob (.lst xs))from I.hok a _ ea);exact eO W.kitx_list I.kIn ⟨_,h1,rfl⟩ e (fun z=>nomatch z) h
 | @tup a xs ea=>
  cases (show u=bf a from rx);obtain⟨_,_,_,p⟩:=(show xE X.prog X.w H s.heap a (.tup xs)from I.hok a _ ea);obtain⟨o,h1,h2,_⟩:=p;exact eO W.kitx_tuple I.kIn ⟨o,h1,h2⟩ e (fun z=>nomatch z) h
 | @dK a kvs ea=>
  cases (show u=bf a from rx);obtain⟨_,_,vs,_,p⟩:=(show xE X.prog X.w H s.heap a (.dK kvs)from I.hok a _ ea);obtain⟨o,es,ep,h1,h2,_⟩:=p;exact eO W.kitx_dict I.kIn ⟨o,h1,h2.1⟩ e (fun z=>nomatch z) h
 | @dT a kvs ea=>
  cases (show u=bf a from rx);obtain⟨_,_,xs,_,o,es,ep,h1,h2,_⟩:=(show xE X.prog X.w H s.heap a (.dT kvs)from I.hok a _ ea);exact eO W.kitx_dict I.kIn ⟨o,h1,h2.1⟩ e (fun z=>nomatch z) h
 | @ins a C dx fs ea cl ha hn htk hm=>
  cases (show u=bf a from rx);obtain⟨mA,O,_⟩:=xbp I.hok ea;obtain⟨od,J,_⟩:=O.look;exact eO (W.kitx_own (cl.get _) cl.hd ha hn htk hm) I.kIn J e (fun z=>nomatch z) h
end
end L2
namespace L2
open PySem PySem.Spec PyProof.Rows
structure xO(k:Nat)(A:aU):Prop where
 hd:A.handled=none
 dp:A.depth+3*k+5<recursionLimit
 un:A.units+16*k+200<cLine
theorem xO.mono{j k:Nat}{A:aU}(r:xO k A)(h:j≤k):xO j A:=⟨r.hd,by have:=r.dp;lia,by have:=r.un;lia⟩
theorem xO.deeper{k:Nat}{A:aU}(r:xO (k+1) A)(env:Env):xO k (A.deeper env):=
 ⟨r.hd,by have:=r.dp;show A.depth+1+3*k+5<_;lia,by have:=r.un;show A.units+3+16*k+200<_;lia⟩
theorem xO.in1{k:Nat}{A:aU}(r:xO (k+1) A):xO k A.in1:=
 ⟨r.hd,by have:=r.dp;show A.depth+3*k+5<_;lia,by have:=r.un;show A.units+1+16*k+200<_;lia⟩
theorem xg0{A:aU}{C:Addr}{us:List Value}{kw:List (Str×Value)}:(A.under (.builtin "type.__call__" ⟨.ref C::us,kw⟩)).depth=A.depth+1:=by
 first|rfl|simp[lL,Code.weight,Code.isCreation,Code.isGuard,Code.isCaller,Code.frames,lM,guardIds]
theorem xg1{A:aU}{C:Addr}{us:List Value}{kw:List (Str×Value)}:(A.under (.builtin "type.__call__" ⟨.ref C::us,kw⟩)).units=A.units+1:=by
 first|rfl|simp[lL,Code.cUnits,Code.frames,lM]
theorem xO.make{k:Nat}{A:aU}(r:xO (k+1) A)(C:Addr)(us:List Value)(kw:List (Str×Value)):xO k (A.under (.builtin "type.__call__" ⟨.ref C::us,kw⟩)):=
 ⟨r.hd,by have:=r.dp;rw[xg0];lia,by have:=r.un;rw[xg1];lia⟩
theorem xO.depth{k:Nat}{A:aU}(r:xO k A):A.depth<recursionLimit:=by have:=r.dp;lia
theorem xO.units{k:Nat}{A:aU}(r:xO k A):A.units+64<cLine:=by have:=r.un;lia
theorem xO.units0{k:Nat}{A:aU}(r:xO k A):A.units<cLine:=by have:=r.un;lia
def xg2:TA:=fun _ H Q=>Q [] H
def xmM(ta:TE)(tr:TA):TA:=fun σ H Q=>ta σ H fun x H1=>tr σ H1 fun xs H2=>Q (x::xs) H2
section
variable {X:Cx} {e:Expr} {es:List Expr} {te:TE} {t:TA} {pos:Pos}
theorem xf:PA X [] xg2:=fun _ _ _ _ H Q I h=>gv ⟨[],H,I,.nil,h⟩
theorem xa(ha:PE X e te)(hr:PA X es t)(hs:bh (e::es) X.env=(false,eval e X.env)::bh es X.env:=by rfl):PA X (e::es) (xmM te t):=by
 intro pos pins s σ H Q I h;rw[hs];show wpAny _ _ (spliced ((false,eval e X.env)::de pos (bh es X.env))) _ _ s;refine f9 (thn (ha pins s σ H _ I h) fun u s1 ⟨x,H1,I1,r1,q1⟩=>?_);exact thn (hr pos pins s1 σ H1 _ I1 q1) fun us s2 ⟨xs,H2,I2,r2,q2⟩=>⟨x::xs,H2,I2,.cons r1 r2,q2⟩
def xns(t:TA):TE:=fun σ H Q=>t σ H fun xs H1=>xs.length≤aO∧∀p,H1 p=none→Q (.ref p) (upd H1 p (.tup xs))
def xnt(t:TA):TE:=fun σ H Q=>t σ H fun xs H1=>xs.length≤aO∧∀p,H1 p=none→Q (.ref p) (upd H1 p (.lst xs))
theorem yj{x1}(h:PA X es t):PE X (.Tuple es x1 pos) (xns t):=by
 intro pins s σ H Q I hq;refine wpAny_Tuple_spliced (thn (h pos pins s σ H _ I hq) fun us s1 ⟨xs,H1,I1,r,z,q⟩=>⟨by rw[←r.length];exact z,?_⟩);have hf:H1 s1.heap.objs.size=none:=I1.hok.fresh (ao _);refine⟨.ref s1.heap.objs.size,upd H1 s1.heap.objs.size (.tup xs),I1.laid (t':=s1.toks) (fun b u e=>af _ e) (ao _) ?_,rfl,q _ hf⟩;exact⟨z,us,r,⟨_,aB _ rfl,rfl,_,rfl⟩⟩
theorem yB(h:PA X es t):PE X (.List es pos) (xnt t):=by
 intro pins s σ H Q I hq;refine wpAny_List_spliced (thn (h pos pins s σ H _ I hq) fun us s1 ⟨xs,H1,I1,r,z,q⟩=>⟨by rw[←r.length];exact z,?_⟩);have hf:H1 s1.heap.objs.size=none:=I1.hok.fresh (ao _);refine⟨.ref s1.heap.objs.size,upd H1 s1.heap.objs.size (.lst xs),I1.laid (t':=s1.toks) (fun b u e=>af _ e) (ao _) ?_,rfl,q _ hf⟩;exact⟨z,us,0,r,aB _ rfl⟩
end
abbrev Sp:=List V→Hp→VK→XK→Prop
abbrev CXT:=List Env→Hp→ae→XK→Value→ae→Prop
structure vm(P:aF)(w:World)(K:ai)(mg:Str→Option Value)(base:Heap)(A:aU)(outer:List Env)(s:ae)(H:Hp):Prop where
 frames:A.frames=some outer
 mod:Mod K mg base
 bs:∀b o,base.get? b=some o→s.heap.get? b=some o∧H b=none
 bsz:base.objs.size≤s.heap.objs.size
 funs:s.heap.FunFrames base outer
 frf:∀b∈frs outer,H b=none
 hok:HOk P w H s.heap
 bare:fB s.gens
def CE(outer:List Env)(P:aF)(w:World)(H:Hp)(s:ae)(Q:VK)(u:Value)(s':ae):Prop:=
 ∃v H',s'.os=s.os∧fB s'.gens∧Un (frs outer) [] H H' s.heap s'.heap∧HOk P w H' s'.heap∧RelV v u∧Q v H'
def CR(CX:CXT)(outer:List Env)(P:aF)(w:World)(H:Hp)(s:ae)(Q:VK)(E:XK)(r:f7)(s':ae):Prop:=
 match r with
 | .ok (.ret u)=>CE outer P w H s Q u s'
 | .ok _=>False
 | .error e=>CX outer H s E e s'
structure xG(P:aF)(w:World)(K:ai)(mg:Str→Option Value)(base:Heap)(CX:CXT)(k:Nat)(f:Addr)(fd:aR)(ps:List Str)(sp:Sp):Prop where
 len:∀vs H Q E,sp vs H Q E→vs.length=ps.length
 run:∀(A:aU) (outer:List Env) (s:ae) (H:Hp) (args:Args) (us:List Value) (vs:List V) (Q:VK) (E:XK),xO k A→vm P w K mg base A outer s H→BindsTo s fd args (ps.zip us)→Vals vs us→sp vs H Q E→
  cQ (model P w) A (.call (.ref f) args) (CR CX outer P w H s Q E) s
theorem vm.make{P:aF}{w:World}{K:ai}{mg:Str→Option Value}{base:Heap}{A:aU}{outer:List Env}{s:ae}{H:Hp}(e:vm P w K mg base A outer s H)(C:Addr)(us:List Value)(kw:List (Str×Value)):
  vm P w K mg base (A.under (.builtin "type.__call__" ⟨.ref C::us,kw⟩)) outer s H:=⟨by first|exact e.frames|(simpa [lL,Code.envs,lM,pushEnvs]using e.frames),e.mod,e.bs,e.bsz,e.funs,e.frf,e.hok,e.bare⟩
section
variable {X:Cx} {pins:List (Addr×Obj)} {σ:St} {H:Hp} {s s':ae}
theorem Inv.env0(I:Inv X pins σ H s):vm X.prog X.w X.K X.mg X.base X.A X.stack s H:=
 ⟨I.ok.frames,I.ok.mod,I.bs,bp I.ok.bsz I.sz,I.stack,I.stkFree,I.hok,I.bare⟩
theorem Inv.after{Q:VK}{u:Value}(I:Inv X pins σ H s)(h:CE X.stack X.prog X.w H s Q u s'):EP X pins σ Q u s':=by
 obtain⟨v,H',os,bare,un,hok,r,q⟩:=h;obtain⟨hh,g,d,t,os'⟩:=s';obtain rfl:os'=s.os:=os;exact⟨v,H',I.call (h':=hh) (g':=g) (d':=d) (t':=t) (ch:=[]) un hok bare (fun b z=>absurd z (by simp)),r,q⟩
end
def xka(sp:Sp)(dvs:List V)(E:XK)(t:TA):TE:=fun σ H Q=>t σ H fun vs H1=>sp (vs++dvs) H1 Q E
def xcx(C:Addr)(m:Str)(sp:Sp)(dvs:List V)(E:XK)(ta:TE)(t:TA):TE:=fun σ H Q=>ta σ H fun x H1=>∃a dx fs,x= .ref a∧H1 a=some (.ins C dx fs)∧fs.lookup m=none∧
 t σ H1 fun vs H2=>sp (x::(vs++dvs)) H2 Q E
def xmN(C:Addr)(sp:Sp)(dvs:List V)(E:XK)(t:TA):TE:=fun σ H Q=>t σ H fun vs H1=>∀x dx,H1 x=none→H1 dx=none→dx≠x→
 sp (.ref x::(vs++dvs)) (upd (upd H1 dx (.own x)) x (.ins C dx [])) (fun v H2=>v= .non∧Q (.ref x) H2) E
def Binds(K:ai)(fd:aR)(ps:List Str)(ds:List Value):Prop:=
 ∀(s:ae) (us:List Value),K.In s.heap→(us++ds).length=ps.length→BindsTo s fd ⟨us,[]⟩ (ps.zip (us++ds))
theorem Binds.all{K:ai}{fd:aR}{ps:List Str}(h:∀us:List Value,us.length=ps.length→gc fd ⟨us,[]⟩=pure (ps.zip us)):Binds K fd ps []:=fun s us _ hl=>by
 rw[gU]at hl⊢;exact .of_eq (h us hl)
def Passes(CX:CXT)(X:Cx)(E:XK):Prop:=∀(pins:List (Addr×Obj)) (σ:St) (H:Hp) (s:ae) (e:Value) (s':ae),Inv X pins σ H s→CX X.stack H s E e s'→X.xe e s'
section
variable {X:Cx} {CX:CXT} {k:Nat} {f C:Addr} {fd:aR} {ps:List Str} {sp:Sp} {dvs:List V} {ds:List Value} {E:XK} {x m:Str} {p pos apos:Pos} {e o:Expr} {es:List Expr} {ta:TE} {t:TA}
theorem xeA{pins:List (Addr×Obj)}{σ:St}{H:Hp}{s:ae}{Q:VK}{us:List Value}{vs:List V}(F:xG X.prog X.w X.K X.mg X.base CX k f fd ps sp)(hr:xO k X.A)(hb:Binds X.K fd ps ds)(hd:Vals dvs ds)(hx:Passes CX X E)
  (I:Inv X pins σ H s) (r:Vals vs us) (h:sp (vs++dvs) H Q E):wpAny (model X.prog X.w) X.A (call (.ref f) us) (EP X pins σ Q) X.xe s:=by
 have r2:Vals (vs++dvs) (us++ds):=r.append hd;have hl:(us++ds).length=ps.length:=by rw[←r2.length];exact F.len _ _ _ _ h
 refine gW (dB (F.run X.A X.stack s H ⟨us,[]⟩ (us++ds) (vs++dvs) Q E hr I.env0 (hb s us I.kIn hl) r2 h) fun r s' hq=>?_);cases r with
 |error e=>exact hx pins σ H s e s' I hq
 |ok fl=>
  cases fl with
  |ret u=>exact I.after hq
  |next=>exact bS hq
  |brk=>exact bS hq
  |cont=>exact bS hq
theorem xx(F:xG X.prog X.w X.K X.mg X.base CX k f fd ps sp)(hr:xO k X.A)(hg:Gl X x)(hm:X.mg x=some (.ref f))(hk:dQ X.K (.ref f)=true)(hb:Binds X.K fd ps ds)(hd:Vals dvs ds)(hx:Passes CX X E)
  (ha:PA X (e::es) t) (hdb:(x==("__debug__":Str))=false:=by decide) (he:bh (e::es) X.env=(false,eval e X.env)::bh es X.env:=by rfl) (hpl:(de pos (bh es X.env)).any (·.1)=false:=by rfl):
  PE X (.Call (.Name x p) (e::es) [] pos) (xka sp dvs E t):=by
 intro pins s σ H Q I h;refine cy (xbo I hg hm ?_ hdb);refine lN (h₀:=X.base) I.ok.mod.kin hk (thn (ha pos pins s σ H _ I h) fun us s1 ⟨vs,H1,I1,r,q⟩=>⟨I1.kIn,?_⟩) he hpl;exact xeA F hr hb hd hx I1 r q
theorem yP{pl:Sem Bool}(he:PE X o ta)(c:Cls X.K C)(hm:Meth X.K C m f)(F:xG X.prog X.w X.K X.mg X.base CX k f fd ps sp)(hr:xO k X.A)(hb:Binds X.K fd ps ds)(hd:Vals dvs ds)(hx:Passes CX X E)
  (ht:eval (.Call (.Attribute o m apos) [] [] pos) X.env=(do
   let ov ←eval o X.env
   standAt apos.atName
   let(f,first) ←gq [ov] (getMethod ov m pl)
   callWith pos f first (de pos (bh [] X.env)) (backToKw pos (kh [] X.env))):=by rfl):
  PE X (.Call (.Attribute o m apos) [] [] pos) (xcx C m sp dvs E ta xg2):=by
 intro pins s σ H Q I h;refine W.methodCall_KW (pl:=pl) (thn (he pins s σ H _ I h) fun u s1 ⟨x,H1,I1,rx,a,dx,fs,ex,ea,l,q⟩=>?_) ht;subst ex;obtain rfl:u=bf a:=rx;refine xgY I1 ea c hm l ?_;exact W.callWith_K0 (first:=[.ref a]) I1.kIn hm.kp (xeA (us:=[.ref a]) (vs:=[.ref a]) F hr hb hd hx I1 (.cons rfl .nil) q)
structure Mk(K:ai)(C f:Addr):Prop where
 makes:W.makesIn K C=true
 init:cU K (.ref C) "__init__"=some (some (.ref f))
 fn:W.isFn K (.ref f)=true
 kp:dQ K (.ref C)=true
theorem xjh{pins:List (Addr×Obj)}{σ:St}{H:Hp}{s:ae}{Q:VK}{us:List Value}{vs:List V}(M:Mk X.K C f)(F:xG X.prog X.w X.K X.mg X.base CX k f fd ps sp)(hr:xO (k+1) X.A)(hb:Binds X.K fd ps ds)(hd:Vals dvs ds)
  (hx:Passes CX X E) (I:Inv X pins σ H s) (r:Vals vs us)
  (h:∀x dx,H x=none→H dx=none→dx≠x→sp (.ref x::(vs++dvs)) (upd (upd H dx (.own x)) x (.ins C dx [])) (fun v H2=>v= .non∧Q (.ref x) H2) E):
  wpAny (model X.prog X.w) X.A (call (.ref C) us) (EP X pins σ Q) X.xe s:=by
 have hq:=h (s.heap.objs.size+1) s.heap.objs.size (I.hok.fresh (dz _)) (I.hok.fresh (ao _)) (ar (cL _));have I2:=Inv.made (C:=C) I;have r2:Vals (V.ref (s.heap.objs.size+1)::(vs++dvs)) (bf (s.heap.objs.size+1)::(us++ds)):=.cons rfl (r.append hd);have hl:(bf (s.heap.objs.size+1)::us++ds).length=ps.length:=by
  have e:=r2.length;rw[F.len _ _ _ _ hq]at e;exact e.symm
 refine gW (xjg (f:=f) I.kIn M.makes M.init (beq_iff_eq.mp M.fn) (dB (F.run _ X.stack _ _ ⟨bf (s.heap.objs.size+1)::us,[]⟩ (bf (s.heap.objs.size+1)::(us++ds)) _ _ E (hr.make C us [])
  (I2.env0.make C us []) (hb _ (bf (s.heap.objs.size+1)::us) I2.kIn hl) r2 hq) fun r s' hq'=>?_))
 cases r with
 |error e=>exact hx pins σ _ _ e s' I2 hq'
 |ok fl=>
  cases fl with
  |ret u=>
   obtain⟨v,H',I3,rv,ev,q3⟩:=I2.after hq';subst ev;exact⟨rv,⟨V.ref (s.heap.objs.size+1),H',I3,rfl,q3⟩⟩
  |next=>exact bS hq'
  |brk=>exact bS hq'
  |cont=>exact bS hq'
theorem xbq(M:Mk X.K C f)(F:xG X.prog X.w X.K X.mg X.base CX k f fd ps sp)(hr:xO (k+1) X.A)(hg:Gl X x)(hm:X.mg x=some (.ref C))(hb:Binds X.K fd ps ds)(hd:Vals dvs ds)(hx:Passes CX X E)
  (ha:PA X (e::es) t) (hdb:(x==("__debug__":Str))=false:=by decide) (he:bh (e::es) X.env=(false,eval e X.env)::bh es X.env:=by rfl) (hpl:(de pos (bh es X.env)).any (·.1)=false:=by rfl):
  PE X (.Call (.Name x p) (e::es) [] pos) (xmN C sp dvs E t):=by
 intro pins s σ H Q I h;refine cy (xbo I hg hm ?_ hdb);refine lN (h₀:=X.base) I.ok.mod.kin M.kp (thn (ha pos pins s σ H _ I h) fun us s1 ⟨vs,H1,I1,r,q⟩=>⟨I1.kIn,?_⟩) he hpl;exact xjh M F hr hb hd hx I1 r q
end
section
variable {X:Cx} {CX:CXT} {k:Nat} {f C:Addr} {fd:aR} {ps ks:List Str} {sp:Sp} {E:XK} {x m:Str} {p pos apos kpos:Pos} {e o:Expr} {es:List Expr} {kws:List Keyword} {te ta:TE} {t tk:TA} {nm:Option Str}
variable {g:List Value→List Value→List Value} {gV:List V→List V→List V}
end
structure xy(N P:List Str)(sc:Scope):Prop where
 kind:sc.kind= .function
 co:sc.isCoroutine=false
 gen:sc.isGenerator=false
 nd:N.Nodup
 pre:N.take P.length=P
 par:∀x∈P,sc.names.lookup x=some .local∨sc.names.lookup x=some .cell
 nofree:∀y∈sc.names,y.2≠.free
theorem xdN{kindOf:Str→Option dS}{x:Str}:∀{binds:List (Str×Value)} {m:Str→Option Value},(∀v,(x,v)∉binds)→bindL kindOf binds m x=m x
 |[],_,_=>rfl
 |(n,v)::r,m,h=>by
  unfold bindL;rw[xdN fun w hw=>h w (aq _ hw)]
  split
  ·have:x≠n:=by rintro rfl;exact h v aA
   simp[this]
  ·rfl
theorem xdO{kindOf:Str→Option dS}{x:Str}:∀{binds:List (Str×Value)} {m:Str→Option Value},(∀v,(x,v)∉binds)→bindC kindOf binds m x=m x
 |[],_,_=>rfl
 |(n,v)::r,m,h=>by
  unfold bindC;rw[xdO fun w hw=>h w (aq _ hw)]
  split
  ·rfl
  ·have:x≠n:=by rintro rfl;exact h v aA
   simp[this]
theorem xdP{kindOf:Str→Option dS}{x:Str}{v:Value}:∀{P:List Str} {vs:List Value} {i:Nat} {m:Str→Option Value},P.Nodup→P[i]? =some x→vs[i]? =some v→kindOf x=some .local→
  bindL kindOf (P.zip vs) m x=some v
 |[],_,_,_,_,h,_,_=>by simp at h
 |_::_,[],_,_,_,_,h,_=>by simp at h
 |p::P,w::vs,0,m,nd,h1,h2,hk=>by
  simp at h1 h2;subst h1;subst h2;show bindL kindOf ((p,w)::P.zip vs) m p=_;unfold bindL;rw[xdN fun v hv=>(bZ.mp nd).1 (fT hv).1,if_pos hk];simp
 |p::P,w::vs,i+1,m,nd,h1,h2,hk=>by
  show bindL kindOf ((p,w)::P.zip vs) m x=_;unfold bindL;exact xdP (i:=i) (bZ.mp nd).2 (by simpa using h1) (by simpa using h2) hk
theorem xdQ{kindOf:Str→Option dS}{x:Str}{v:Value}:∀{P:List Str} {vs:List Value} {i:Nat} {m:Str→Option Value},P.Nodup→P[i]? =some x→vs[i]? =some v→kindOf x≠some .local→
  bindC kindOf (P.zip vs) m x=some v
 |[],_,_,_,_,h,_,_=>by simp at h
 |_::_,[],_,_,_,_,h,_=>by simp at h
 |p::P,w::vs,0,m,nd,h1,h2,hk=>by
  simp at h1 h2;subst h1;subst h2;show bindC kindOf ((p,w)::P.zip vs) m p=_;unfold bindC;rw[xdO fun v hv=>(bZ.mp nd).1 (fT hv).1,if_neg hk];simp
 |p::P,w::vs,i+1,m,nd,h1,h2,hk=>by
  show bindC kindOf ((p,w)::P.zip vs) m x=_;unfold bindC;exact xdQ (i:=i) (bZ.mp nd).2 (by simpa using h1) (by simpa using h2) hk
def start(N:List Str)(vs:List V):St:=vs.map some++b7 (N.length - vs.length) none
def jP(CX:CXT)(P:aF)(w:World)(K:ai)(mg:Str→Option Value)(base:Heap)(N:List Str)(qual:Str)(scope:Scope)(f:Addr)(cd:Value)(A:aU)(outer:List Env)(s:ae)(H:Hp)(E:XK):Cx where
 prog:=P
 w:=w
 K:=K
 mg:=mg
 base:=base
 A:=A.deeper (gy qual scope s.heap.objs.size f cd)
 N:=N
 s₀:=s
 H₀:=H
 env:=gy qual scope s.heap.objs.size f cd
 outer:=outer
 stack:=gy qual scope s.heap.objs.size f cd::outer
 ex:=[]
 calm:=true
 cp:=fun _=>true
 fn:=fun _=>true
 pn:=[]
 xe:=fun e s'=>wpAny (model P w) (A.deeper (gy qual scope s.heap.objs.size f cd)) (leaving (gy qual scope s.heap.objs.size f cd) e) (fun _ s''=>CX outer H s E e s'') (fun e' s''=>CX outer H s E e' s'') s'
theorem xeB{sc:Scope}{n:Nat}{x:Str}(h:sc.names.lookup x=some .cell):∃c,(cellsFrom n sc.names []).lookup x=some c:=by
 have q:=iW sc.names n [] (.inl h);exact gd.mp q
theorem xdR{CX:CXT}{P:aF}{w:World}{K:ai}{mg:Str→Option Value}{base:Heap}{N ps:List Str}{qual:Str}{scope:Scope}{f:Addr}{cd:Value}{A:aU}{outer:List Env}{s s1:ae}{H:Hp}{E:XK}{us:List Value}{vs:List V}
  (S:xy N ps scope) (hd:A.handled=none) (e0:vm P w K mg base A outer s H) (hl:vs.length=ps.length) (r:Vals vs us)
  (x:InCallC s s.heap.objs.size (bindL (gy qual scope s.heap.objs.size f cd).kindOf (ps.zip us) fun _=>none) (cellsFrom (s.heap.objs.size+1) scope.names []) (bindC (gy qual scope s.heap.objs.size f cd).kindOf (ps.zip us) fun _=>none) s1):
  Inv (jP CX P w K mg base N qual scope f cd A outer s H E) [] (start N vs) H s1:=by
 have hpl:ps.length≤N.length:=by have:=congrArg cn S.pre;rw[bF]at this;lia
 obtain⟨h1,tk,rfl,hk⟩:=x.done;have noA:∀b:Addr,b∉(jP CX P w K mg base N qual scope f cd A outer s H E).ex:=fun b z=>absurd (show b∈([]:List Addr)from z) (by simp);refine⟨⟨e0.mod,S.kind,rfl,rfl,ao _,fun y z c h1 h2=>?_,fun y hy=>?_,fun y c _ h=>?_,fun _=>hd,kP e0.frames,.inr ⟨rfl,rfl⟩,fun b z=>absurd z (noA b),e0.bs,e0.bsz,fun b _ _=>noA b,fun b z=>absurd z (noA b),e0.funs,e0.frf,fun y c _ h=>cx (x.above y c (PySem.mem_of_lookup h)),fun b hb=>e0.hok.fresh hb⟩,
  rfl,e0.bare,Un.kept hk,⟨_,x.toInCall.ns,fun i y v h1 h2 h3=>?_⟩,fun y c h=>⟨_,x.cell y c h⟩,e0.hok.fresh (ao _),fun y c h=>.inl ?_,fun p hp=>absurd (show p∈([]:List (Addr×Obj))from hp) (by simp),e0.hok.kept hk,?_⟩
 ·exact name_of_addr x.apart (PySem.mem_of_lookup h1) (PySem.mem_of_lookup h2)
 ·have hy:scope.names.lookup y=some .cell∨scope.names.lookup y=some .free:=hy;rcases hy with hy|hy
  ·exact xeB hy
  ·exact absurd rfl (S.nofree _ (PySem.mem_of_lookup hy))
 ·exact cx (x.above y c (PySem.mem_of_lookup h))
 ·have hi:i<vs.length:=by
   unfold start at h2
   by_cases hi:i<vs.length
   ·exact hi
   ·rw[bP (by simpa using hi)]at h2;rw[i9]at h2
    split at h2<;> cases h2
  have ha:vs[i]? =some v:=by
   unfold start at h2;rw[bH (by simpa using hi),au]at h2;cases e:vs[i]? with
   |none=>rw[e]at h2;cases h2
   |some a=>rw[e]at h2;cases h2;rfl
  obtain⟨u,hu,rv⟩:=r.get ha;have hp:ps[i]? =some y:=by
   rw[←S.pre,dC (by lia)];exact h1
  have ndP:ps.Nodup:=by rw[←S.pre];exact S.nd.sublist (List.take_sublist _ _)
  refine⟨u,rv,?_⟩;rcases S.par y (aL hp)with k|k
  ·exact .inl ⟨k,xdP ndP hp hu k⟩
  ·obtain⟨c,e⟩:=xeB (n:=s.heap.objs.size+1) k;refine .inr ⟨.inl k,c,e,?_⟩;have q:=x.cell y c e;rw[xdQ ndP hp hu (by show scope.names.lookup y≠_;rw[k];decide)]at q;exact q
 ·exact e0.hok.fresh (cx (x.above y c (PySem.mem_of_lookup h)))
 ·unfold start;show _=N.length;rw[ax,ab,gL];lia
theorem xkb{CX:CXT}{P:aF}{w:World}{K:ai}{mg:Str→Option Value}{base:Heap}{k:Nat}{f:Addr}{name qual:Str}{params:cG}{body:List Stmt}{scope:Scope}{dV kV doc pm cdv ct oc:Value}{an od:Option Addr}
  {osl:Array (Option Value)} {N ps:List Str} {sp:Sp} (lk:K.lookup f=some ⟨oc,od,.func (dD name qual params body scope dV kV doc pm an cdv ct),osl⟩) (hcd:fj K cdv qual=true) (S:xy N ps scope)
  (len:∀vs H Q E,sp vs H Q E→vs.length=ps.length)
  (hbody:∀(A:aU) (outer:List Env) (s:ae) (H:Hp) (vs:List V) (Q:VK) (E:XK),xO k (A.deeper (gy qual scope s.heap.objs.size f cdv))→sp vs H Q E→
   ∃t,PSs (jP CX P w K mg base N qual scope f cdv A outer s H E) body t∧t {nx:=fun _ H'=>Q .non H',rt:=Q} (start N vs) H):
  xG P w K mg base CX (k+1) f (dD name qual params body scope dV kV doc pm an cdv ct) ps sp:=by
 refine⟨len,fun A outer s H args us vs Q E hr e0 hb r hsp=>?_⟩;have hl:=len _ _ _ _ hsp;have KX:K.In s.heap:=e0.mod.kin.keeps fun b o e=>(e0.bs b o e).1;have lim:s.heap.NoLimit:=e0.mod.nolimit.keeps fun b o e=>(e0.bs b o e).1;have hkind:∀y∈ps.zip us,scope.names.lookup y.1=some .local∨(scope.names.lookup y.1=some .cell∧((cellsFrom (s.heap.objs.size+1) scope.names []).lookup y.1).isSome=true):=fun⟨n,v⟩ hy=>by
  rcases S.par n (fT hy).1 with q|q
  ·exact .inl q
  ·exact .inr ⟨q,iW _ _ _ (.inl q)⟩
 refine gN hr.depth (KX _ _ lk) rfl S.co S.gen rfl (W.codeRec_of KX hcd) (hb _ _ _ _ ?_);refine ix S.kind hkind fun env he s1 x=>?_;subst he;refine⟨lim.keeps x.toInCall.keep,codeAny_func ?_⟩;obtain⟨t,ht,hq⟩:=hbody A outer s H vs Q E (hr.deeper _) hsp;have I:Inv (jP CX P w K mg base N qual scope f cdv A outer s H E) [] (start N vs) H s1:=xdR S hr.hd e0 hl r x;refine a8 (ht [] s1 (start N vs) H _ I hq) (fun fl s' hs=>?_) fun e s' hs=>hs;have fin:∀{σ':St} {H':Hp} {v:V} {u:Value},Inv (jP CX P w K mg base N qual scope f cdv A outer s H E) [] σ' H' s'→RelV v u→Q v H'→CE outer P w H s Q u s':=
  fun{σ' H' v u} J rv q=>⟨v,H',J.os,J.bare,J.base,J.hok,rv,q⟩
 cases fl with
 |ret u=>
  obtain⟨v,σ',H',J,rv,q⟩:=hs;exact fin J rv q
 |next=>
  obtain⟨σ',H',J,q⟩:=hs;exact fin (v:=V.non) (u:=aZ) J rfl q
 |brk=>
  obtain⟨_,_,_,q⟩:=hs;exact bS q
 |cont=>
  obtain⟨_,_,_,q⟩:=hs;exact bS q
end L2
namespace L2
open PySem PySem.Spec PyProof.Rows
section
variable {X:Cx} {x:Str} {p pos:Pos} {e:Expr} {es:List Expr} {t:TA} {id T:String} {r:List V→Hp→VK→Prop}
def tCB(r:List V→Hp→VK→Prop)(t:TA):TE:=fun σ H Q=>t σ H fun vs H1=>r vs H1 Q
theorem xo(hc:yt X (.builtin id) r)(hg:Gl X x)(hm:X.mg x=none)(hv:bX x=some (.builtin id))(ha:PA X (e::es) t)(hn:x≠"__name__":=by decide)(hdb:(x==("__debug__":Str))=false:=by decide)
  (he:bh (e::es) X.env=(false,eval e X.env)::bh es X.env:=by rfl) (hpl:(de pos (bh es X.env)).any (·.1)=false:=by rfl):PE X (.Call (.Name x p) (e::es) [] pos) (tCB r t):=by
 intro pins s σ H Q I h;refine cy (zg I hg hm hv ?_ hn hdb);exact PyProof.Rows.callWith_builtin1 (thn (ha pos pins s σ H _ I h) fun us s1 ⟨vs,H1,I1,r1,q1⟩=>hc pins s1 σ H1 vs us Q I1 r1 q1) he hpl
theorem yK(hc:yt X (.type T) r)(hg:Gl X x)(hm:X.mg x=none)(hv:bX x=some (.type T))(ha:PA X (e::es) t)(hn:x≠"__name__":=by decide)(hdb:(x==("__debug__":Str))=false:=by decide)
  (he:bh (e::es) X.env=(false,eval e X.env)::bh es X.env:=by rfl) (hpl:(de pos (bh es X.env)).any (·.1)=false:=by rfl):PE X (.Call (.Name x p) (e::es) [] pos) (tCB r t):=by
 intro pins s σ H Q I h;refine cy (zg I hg hm hv ?_ hn hdb);exact cK (thn (ha pos pins s σ H _ I h) fun us s1 ⟨vs,H1,I1,r1,q1⟩=>hc pins s1 σ H1 vs us Q I1 r1 q1) he hpl
end
end L2
namespace HT
open PySem PyProof.Rows
def lexLt:List Int→List Int→Bool
 |[],[]=>false
 |[],_::_=>true
 |_::_,[]=>false
 |x::xs,y::ys=>if x=y then lexLt xs ys else decide (x<y)
theorem yn(x y:Int)(xs ys:List Int):lexLt (x::xs) (y::ys)=if x=y then lexLt xs ys else decide (x<y):=rfl
theorem xau:lexLt [] []=false:=rfl
theorem xdb(y:Int)(ys:List Int):lexLt [] (y::ys)=true:=rfl
theorem xdc(x:Int)(xs:List Int):lexLt (x::xs) []=false:=rfl
theorem xeC(A:aU)(s:ae)(a:Int)(t:Tok)(c:Int)(u:Tok):∃e,me A s (.int a t) (.int c u) e∧(e=true↔a=c):=
 ⟨(a==c),lO a t c u,by simp⟩
theorem xeD(A:aU)(s:ae)(a:Int)(t:Tok)(c:Int)(u:Tok)(prog:aF)(w:World)(E:Value→ae→Prop)(Q:Value→ae→Prop)(h:Q (.bool (decide (a<c))) s):
  wpAny (model prog w) A (richCompare .Lt (.int a t) (.int c u)) Q E s:=
 (PyProof.Rows.lt_int h:wpAny (model prog w) A (bD .Lt (.int a t) (.int c u)) Q E s)
section
open PySem.SeqAt
open PySem.AutoSeq1 (wpAny_loadPart')
open PySem.MeetsSeq PySem.MeetsSeq2 PySem.MeetsSeq3
theorem xee(l b:Addr)(items items2:Array Value)(n n2:Nat)(dd dd2:Option Addr)(sl sl2:Array (Option Value))(ns ms:List Int)(hi:cE items.toList ns)(hj:cE items2.toList ms):
  Meets (eP.«tuple.__lt__» ⟨[.ref l,.ref b],[]⟩)
   (fun _ R s=>s.heap.get? l=some {cls:=.type "tuple",dict:=dd,data:=.seq items n,slots:=sl}∧s.heap.get? b=some {cls:=.type "tuple",dict:=dd2,data:=.seq items2 n2,slots:=sl2}∧
    R (.ok (.ret (.bool (lexLt ns ms)))) s):=
 .of_wp fun prog w A R s h=>by
  obtain⟨hp,g,d,tk,os⟩:=s;obtain⟨hl,hb,h⟩:=h;have f2:=AutoSeq1.sub_tuple_tuple;have z1:items.size=ns.length:=by rw[←hi.length];simp
  have z2:items2.size=ms.length:=by rw[←hj.length];simp
  wp_walk using bC hl,bC hb,gF _ (fun rest b s'=>b.1=none∧s'=⟨hp,g,d,tk,os⟩∧∃(vs ws:List Value) (ns' ms':List Int),rest=vs.zip ws∧
   cE vs ns'∧cE ws ms'∧ns'.length+items2.size=ms'.length+items.size∧R (.ok (.ret (.bool (lexLt ns' ms')))) ⟨hp,g,d,tk,os⟩) _
  case turn=>
   rintro⟨y,x⟩ rest b s' ⟨hb',rfl,vs,ws,ns',ms',hz,hvi,hwi,hlen,hR⟩;cases hvi with
   |nil=>rw[List.zip_nil_left]at hz;cases hz
   |cons a t hvi'=>
    cases hwi with
    |nil=>rw[List.zip_nil_right]at hz;cases hz
    |cons c u hwi'=>
     rw[lP]at hz;injection hz with hyx hrest;injection hyx with hy hx;subst hy hx;rw[yn]at hR;simp only[aY]at hlen;obtain⟨e,he,hiff⟩:=xeC A.in1 ⟨hp,g,d,tk,os⟩ a t c u;refine aa (he prog w _ _ ?_);cases e with
     |true=>
      rw[if_pos (hiff.mp rfl)]at hR
      wp_walk
      exact⟨rfl,rfl,_,_,_,_,hrest,hvi',hwi',by lia,hR⟩
     |false=>
      rw[if_neg (fun q=>absurd (hiff.mpr q) aC)]at hR;have hri:=xeD A.in1 ⟨hp,g,d,tk,os⟩ a t c u prog w
      wp_walk using hri
      exact⟨_,rfl,by simpa using hR⟩
  case fin=>
   rintro⟨b1,b2⟩ s' ⟨hb',rfl,vs,ws,ns',ms',hz,hvi,hwi,hlen,hR⟩;simp only at hb';subst hb';have hv:lexLt ns' ms'=decide (items.size<items2.size):=by
    cases hvi with
    |nil=>
     cases hwi with
     |nil=>
      simp only[j7]at hlen;rw[xau];exact(decide_eq_false (by lia)).symm
     |cons c u hw=>
      simp only[j7,aY]at hlen;rw[xdb];exact(decide_eq_true (by lia)).symm
    |cons a t hv=>
     cases hwi with
     |nil=>
      simp only[j7,aY]at hlen;rw[xdc];exact(decide_eq_false (by lia)).symm
     |cons c u hw=>
      rw[lP]at hz;cases hz
   rw[hv]at hR
   wp_walk
   exact⟨_,rfl,by simpa [Builtin.Tuple.tupleCompareSizes]using hR⟩
  case h=>
   exact⟨rfl,rfl,items.toList,items2.toList,ns,ms,rfl,hi,hj,by lia,h⟩
end
section
variable {prog:aF} {w:World} {A:aU} {E:Value→ae→Prop} {s:ae}
theorem xcy{l b:Addr}{items items2:Array Value}{ns ms:List Int}{Q:Value→ae→Prop}(hl:IsTup s.heap l items)(hb:IsTup s.heap b items2)(hi:cE items.toList ns)(hj:cE items2.toList ms)
  (hu:A.units<cLine) (h:Q (.bool (lexLt ns ms)) s):wpAny (model prog w) A (bD .Lt (.ref l) (.ref b)) Q E s:=by
 obtain⟨⟨cls,dd,data,sl⟩,ho,hc,n,hd⟩:=id hl;obtain⟨⟨cls2,dd2,data2,sl2⟩,ho2,hc2,n2,hd2⟩:=id hb;simp only at hc hd hc2 hd2;subst hc hd hc2 hd2;exact richCompare_meets_room (op:=.Lt) ⟨_,ho,rfl⟩ ⟨_,ho2,rfl⟩ PySem.F.slot_tuple_lt PySem.F.entry_tuple_lt (PySem.F.args_tuple_lt_2 _ _) (xee l b items items2 n n2 dd dd2 sl sl2 ns ms hi hj)
  ⟨ho,ho2,show eE (lexLt ns ms)≠kQ∧Q (.bool (lexLt ns ms)) s from⟨(fun x=>nomatch x),h⟩⟩ hu
theorem xkt{t b:Addr}{vs ws:List Value}{Q:Value→ae→Prop}(ht:IsTup s.heap t vs.toArray)(hb:IsTup s.heap b ws.toArray)(hv:vs≠[])
  (h1:ws=[]→Q (.ref t) s) (h2:ws≠[]→Q (.ref s.heap.objs.size) {s with heap:=s.heap.push {cls:=.type "tuple",data:=.seq (vs++ws).toArray}})
  (hsz:vs.length+ws.length≤aO):wpAny (model prog w) A (dg .Add (.ref t) (.ref b)) Q E s:=by
 obtain⟨⟨cls,dd,data,sl⟩,ho,hc,n,hd⟩:=id ht;obtain⟨⟨cls2,dd2,data2,sl2⟩,ho2,hc2,n2,hd2⟩:=id hb;simp only at hc hd hc2 hd2;subst hc hd hc2 hd2;have e:vs.toArray++ws.toArray=(vs++ws).toArray:=by simp
 by_cases hw:ws=[]
 ·exact concat_meets ⟨_,ho,rfl⟩ ⟨_,ho2,rfl⟩ noFill_tuple_add seq_tuple_add PySem.F.slot_tuple_add PySem.F.entry_tuple_add (PySem.F.args_tuple_add_2 _ _)
   (tuple_addW1 t b vs.toArray ws.toArray n n2 dd dd2 sl sl2 (by simpa using hv) (by simp[hw])) ⟨ho,ho2,h1 hw⟩
 ·refine concat_meets ⟨_,ho,rfl⟩ ⟨_,ho2,rfl⟩ noFill_tuple_add seq_tuple_add PySem.F.slot_tuple_add PySem.F.entry_tuple_add (PySem.F.args_tuple_add_2 _ _)
   (tuple_addW2 t b vs.toArray ws.toArray n n2 dd dd2 sl sl2 (by simpa using hv) (by simpa using hw) (by rw[av,av];exact hsz)) ⟨ho,ho2,?_⟩
  rw[e];exact h2 hw
def sIx(n d:Nat):Option Int→Nat
 |none=>d
 |some v=>if v<0 then(v+(n:Int)).toNat else min v.toNat n
theorem zR(n d:Nat):sIx n d none=d:=rfl
theorem xlO(n d:Nat)(hd:d≤n)(o:Option Int):sIx n d o≤n:=by
 cases o with
 |none=>exact hd
 |some v=>
  show(if v<0 then(v+(n:Int)).toNat else min v.toNat n)≤n
  by_cases hv:v<0
  ·rw[if_pos hv];lia
  ·rw[if_neg hv];exact Nat.min_le_right _ _
theorem xgp(v:Int)(n d:Nat):(if v<0 then max (v+(n:Int)) 0 else min v (n:Int))=((sIx n d (some v):Nat):Int):=by
 show(if v<0 then max (v+(n:Int)) 0 else min v (n:Int))=(((if v<0 then(v+(n:Int)).toNat else min v.toNat n):Nat):Int)
 by_cases hv:v<0
 ·simp only[if_pos hv];lia
 ·simp only[if_neg hv];lia
theorem xg3(lo hi:Option Int)(n:Nat):fU lo hi 1 (n:Int)=(((sIx n 0 lo:Nat):Int),((sIx n n hi:Nat):Int)):=by
 have h1:¬((1:Int)<0):=by lia
 unfold fU;simp only[h1,if_false];refine Prod.ext ?_ ?_
 ·cases lo with
  |none=>rfl
  |some v=>exact xgp v n 0
 ·cases hi with
  |none=>rfl
  |some v=>exact xgp v n n
theorem xg4(i j:Nat):eH (i:Int) (j:Int) 1=j - i:=by
 unfold eH;have h1:(1:Int) > 0:=by lia
 simp only[h1,if_true,Int.ediv_one]
 split<;> lia
theorem xcz{v:Value}{o:Option Int}{Q:Option Int→ae→Prop}(p:gX v o)(h:Q o s):wpAny (model prog w) A (Builtin.Slice.slicePartIndex v) Q E s:=by
 cases p with
 |none=>exact slicePart_none h
 |int i t=>exact slicePart_int h
theorem vK{sl:Addr}{vl vu:Value}{lo hi:Option Int}{n:Nat}{Q:Int×Int×Nat→ae→Prop}(hs:s.heap.IsSliceOf sl vl vu .none)(pl:gX vl lo)(pu:gX vu hi)
  (h:Q (((sIx n 0 lo:Nat):Int),1,sIx n n hi - sIx n 0 lo) s):wpAny (model prog w) A (iy (.ref sl) (pure (n:Int))) Q E s:=by
 obtain⟨os,hos,hcs,hds⟩:=id hs;unfold iy Builtin.Slice.sliceFields;refine aa (aa (wpAny_field hos hds (x:=vl) rfl (aa (wpAny_field hos hds (x:=vu) rfl (aa (wpAny_field hos hds (x:=.none) rfl (ah ?_)))))));refine aa (slicePart_none ?_);show wpAny _ _ (if ((1:Int)==0)=true then _ else _) _ _ s;rw[if_neg (by decide)];refine aa (xcz pl (aa (xcz pu (aa (ah ?_)))));show wpAny _ _ (match fU lo hi 1 (n:Int)with|(lo,hi)=>pure (lo,(1:Int),eH lo hi 1)) _ _ s;rw[xg3 lo hi n];show wpAny _ _ (pure (((sIx n 0 lo:Nat):Int),(1:Int),eH ((sIx n 0 lo:Nat):Int) ((sIx n n hi:Nat):Int) 1)) _ _ s;rw[xg4];exact ah h
theorem xji(xs:Array Value)(i k:Nat):((aI k).filterMap fun(m:Nat)=>xs[((i:Int)+(m:Int)*1).toNat]?).toArray=((xs.toList.drop i).take k).toArray:=by
 have e:(fun(m:Nat)=>xs[((i:Int)+(m:Int)*1).toNat]?)=fun m=>xs[i+m]? :=by
  funext m
  have:((i:Int)+(m:Int)*1).toNat=i+m:=by lia
  rw[this]
 rw[e];have:=pick_run xs i k;rw[lQ]at this;have e2:((fun x=>xs[x]?)∘fun x=>i+x)=fun m=>xs[i+m]? :=rfl;rw[e2]at this;rw[this]
theorem xbA{t sl:Addr}{items:Array Value}{vl vu:Value}{lo hi:Option Int}{Q:Value→ae→Prop}(ht:IsTup s.heap t items)(hs:s.heap.IsSliceOf sl vl vu .none)(pl:gX vl lo)(pu:gX vu hi)
  (hw:¬(sIx items.size 0 lo=0∧sIx items.size items.size hi=items.size))
  (h:Q (.ref s.heap.objs.size) {s with heap:=s.heap.push {cls:=.type "tuple",data:=.seq ((items.toList.drop (sIx items.size 0 lo)).take (sIx items.size items.size hi - sIx items.size 0 lo)).toArray}})
  (hsz:items.size≤aO):wpAny (model prog w) A (iR (.ref t) (.ref sl)) Q E s:=by
 have htake:sizeOk (.seq ((items.toList.drop (sIx items.size 0 lo)).take (sIx items.size items.size hi - sIx items.size 0 lo)).toArray):=by
  show((items.toList.drop (sIx items.size 0 lo)).take (sIx items.size items.size hi - sIx items.size 0 lo)).toArray.size≤aO;rw[av,bF,aQ,aM];lia
 have hj:sIx items.size items.size hi≤items.size:=xlO _ _ (ao _) hi;obtain⟨os,hos,hcs,hds⟩:=id hs;have hTs:s.TypeIs (.ref sl) "slice":=⟨os,hos,hcs⟩;unfold iR
 try with_reducible refine bB ?_
 first|refine aa (ah ?_)|skip
 refine aa (wpAny_sequenceKey ht.typeIs (by decide) ?_);refine aa (j3 (name:=cj "__getitem__") ht.typeIs cq
  (iX cq ht.typeIs entry_tuple_getitem ?_ (args_tuple_getitem _ _)))
 show wpAny _ _ (iz (.ref t) >>= _) _ _ s;refine aa (tupleItemsOf_ ht ?_);refine aa (fC hTs ?_);rw[if_pos (by decide)];refine aa (vK hs pl pu ?_);have hno:¬((((sIx items.size 0 lo:Nat):Int)==0&&(1:Int)==1&&(sIx items.size items.size hi - sIx items.size 0 lo)==items.size)=true):=by
  intro q;rw[dh,dh]at q;have q1:((sIx items.size 0 lo:Nat):Int)=0:=eq_of_beq q.1.1;have q2:sIx items.size items.size hi - sIx items.size 0 lo=items.size:=eq_of_beq q.2;exact hw ⟨by lia,by lia⟩
 show wpAny _ _ (if (((sIx items.size 0 lo:Nat):Int)==0&&(1:Int)==1&&(sIx items.size items.size hi - sIx items.size 0 lo)==items.size)=true then _ else _) _ _ s;rw[if_neg hno,xji]
 first
  |exact aa (m:=eT _) (c6 (ah ⟨_,rfl,ah h⟩) htake)
  |exact aa (m:=eT _) (c6 (aa (ah (ah ⟨_,rfl,ah h⟩))) htake)
  |exact aa (aa (m:=eT _) (c6 (ah (ah ⟨_,rfl,ah h⟩)) htake))
  |exact aa (aa (m:=eT _) (c6 (ah ⟨_,rfl,ah h⟩) htake))
end
end HT
namespace L2
open PySem PySem.Spec PyProof.Rows
abbrev TO:=St→Hp→(Option Int→Hp→Prop)→Prop
def PO(X:Cx)(e:Option Expr)(t:TO):Prop:=
 ∀(pins:List (Addr×Obj)) (s:ae) (σ:St) (H:Hp) (Q:Option Int→Hp→Prop),Inv X pins σ H s→t σ H Q→
  wpAny (model X.prog X.w) X.A (evalPart e X.env) (fun u s'=>∃o H',Inv X pins σ H' s'∧gX u o∧Q o H') X.xe s
def xku:TO:=fun _ H Q=>Q none H
def xmO(t:TE):TO:=fun σ H Q=>t σ H fun x H1=>∃i,x= .int i∧Q (some i) H1
theorem intsAre_of{ns:List Int}:∀{us:List Value},Vals (ns.map V.int) us→cE us ns:=by
 induction ns with
 |nil=>intro us r;rw[lR]at r;cases r;exact .nil
 |cons n ns ih=>
  intro us r;rw[a9]at r;cases r with
  |cons r1 r2=>
   obtain⟨t,e⟩:=r1;subst e;exact .cons n t (ih r2)
section
variable {X:Cx} {e:Expr} {te:TE} {lo hi:Option Expr} {tl th:TO} {pos p2:Pos}
theorem yU:PO X none xku:=by
 intro pins s σ H Q I h;rw[evalPart_none];exact ah ⟨none,H,I,.none,h⟩
theorem xM(h:PE X e te):PO X (some e) (xmO te):=by
 intro pins s σ H Q I hw;rw[evalPart_some];refine thn (h pins s σ H _ I hw) fun u s1 ⟨x,H1,I1,r1,q1⟩=>?_;obtain⟨i,rfl,q⟩:=q1;obtain⟨t,rfl⟩:=r1;exact⟨some i,H1,I1,.int i t,q⟩
def SlR(X:Cx)(r:V→Option Int→Option Int→Hp→VK→Prop):Prop:=
 ∀(pins:List (Addr×Obj)) (s:ae) (σ:St) (H:Hp) (x:V) (v vl vu:Value) (lo hi:Option Int) (sl:Addr) (Q:VK),Inv X pins σ H s→RelV x v→s.heap.IsSliceOf sl vl vu .none→gX vl lo→gX vu hi→r x lo hi H Q→
  ∃T id,kR (.type T) "__getitem__"=pure (some (.builtin id))∧s.TypeIs v T∧wpAny (model X.prog X.w) X.A (iR v (.ref sl)) (EP X pins σ Q) X.xe s
def tSl(r:V→Option Int→Option Int→Hp→VK→Prop)(te:TE)(tl th:TO):TE:=fun σ H Q=>te σ H fun x H1=>tl σ H1 fun l H2=>th σ H2 fun u H3=>r x l u H3 Q
theorem ya{r:V→Option Int→Option Int→Hp→VK→Prop}(hr:SlR X r)(he:PE X e te)(hl:PO X lo tl)(hu:PO X hi th):PE X (.Subscript e (.Slice lo hi none p2) pos) (tSl r te tl th):=by
 intro pins s σ H Q I h;refine Subscript_ (thn (he pins s σ H _ I h) fun v s1 ⟨x,H1,I1,r1,q1⟩=>?_);refine wpAny_Slice (thn (hl pins s1 σ H1 _ I1 q1) fun vl s2 ⟨l,H2,I2,pl,q2⟩=>thn (hu pins s2 σ H2 _ I2 q2) fun vu s3 ⟨u,H3,I3,pu,q3⟩=>?_);rw[evalPart_none];refine ah ?_;have I4:Inv X pins σ H3 {s3 with heap:=s3.heap.push {cls:=.type "slice",data:=.fields #[vl,vu,.none]}}:=I3.kept (t':=s3.toks) fun b ob q=>af _ q;obtain⟨T,id,hT,ht,hg⟩:=hr pins {s3 with heap:=s3.heap.push {cls:=.type "slice",data:=.fields #[vl,vu,.none]}} σ H3 x v vl vu l u s3.heap.objs.size Q I4 r1 (Heap.IsSliceOf.new ..) pl pu q3;show wpAny (model X.prog X.w) X.A (subscriptTail e (.Slice lo hi none p2) v (.ref s3.heap.objs.size)) (EP X pins σ Q) X.xe {s3 with heap:=s3.heap.push {cls:=.type "slice",data:=.fields #[vl,vu,.none]}};exact tail_any (ops:=[.ref s3.heap.objs.size,v]) ht hT hg (by with_unfolding_all rfl)
def yA(xs:List V)(lo hi:Option Int):List V:=(xs.drop (HT.sIx xs.length 0 lo)).take (HT.sIx xs.length xs.length hi - HT.sIx xs.length 0 lo)
theorem xbK(xs:List V)(lo hi:Option Int):(yA xs lo hi).length≤xs.length:=by
 unfold yA;rw[bF,aQ];lia
def xnu(K:ai):V→Option Int→Option Int→Hp→VK→Prop:=fun x lo hi H Q=>∃a xs,x= .ref a∧SqT K H a xs∧
 ¬(HT.sIx xs.length 0 lo=0∧HT.sIx xs.length xs.length hi=xs.length)∧∀p,H p=none→Q (.ref p) (upd H p (.tup (yA xs lo hi)))
theorem xh3:SlR X (xnu X.K):=by
 intro pins s σ H x v vl vu lo hi sl Q I rx hs pl pu h;obtain⟨a,xs,rfl,hx,hw,q⟩:=h;cases rx;obtain⟨its,r,ht,hz⟩:=I.tuple hx;have hlen:its.toArray.size=xs.length:=by rw[av];exact r.length.symm
 refine⟨"tuple",_,cq.lookup,ht.typeIs,?_⟩;refine HT.xbA ht hs pl pu (by rw[hlen];exact hw) ?_ (by rw[hlen];exact hz);rw[hlen];refine⟨.ref s.heap.objs.size,_,I.laid (t':=s.toks) (o:=.tup (yA xs lo hi)) (fun b ob q=>af _ q) (ao _) ?_,rfl,q _ (I.hok.fresh (ao _))⟩;exact⟨bp (xbK xs lo hi) hz,_,(r.drop (HT.sIx xs.length 0 lo)).take (HT.sIx xs.length xs.length hi - HT.sIx xs.length 0 lo),IsTup.new _ _⟩
def xnv(K:ai):R2:=fun x y H Q=>∃a b ns ms,x= .ref a∧y= .ref b∧SqT K H a (ns.map V.int)∧SqT K H b (ms.map V.int)∧Q (.bl (HT.lexLt ns ms)) H
theorem xlP(hu:X.A.units<cLine):OpR X (bD .Lt) (xnv X.K):=by
 intro pins s σ H x y v u Q I rx ry h;obtain⟨a,b,ns,ms,rfl,rfl,ha,hb,q⟩:=h;cases rx;cases ry;obtain⟨its,r1,p1,_⟩:=I.tuple ha;obtain⟨its2,r2,p2,_⟩:=I.tuple hb;have i1:cE its.toArray.toList ns:=intsAre_of r1;have i2:cE its2.toArray.toList ms:=intsAre_of r2;exact HT.xcy p1 p2 i1 i2 hu ⟨.bl (HT.lexLt ns ms),H,I,rfl,q⟩
def xmP(K:ai):R2:=fun x y H Q=>∃a b xs ys,x= .ref a∧y= .ref b∧SqT K H a xs∧SqT K H b ys∧xs≠[]∧xs.length+ys.length≤aO∧
 (ys=[]→Q (.ref a) H)∧(ys≠[]→∀p,H p=none→Q (.ref p) (upd H p (.tup (xs++ys))))
theorem Vals.nil_iff{xs:List V}{us:List Value}(r:Vals xs us):us=[]↔xs=[]:=by
 cases r with
 |nil=>simp
 |cons _ _=>simp
theorem xkv:OpR X (dg .Add) (xmP X.K):=by
 intro pins s σ H x y v u Q I rx ry h;obtain⟨a,b,xs,ys,rfl,rfl,ha,hb,hx,hz,q1,q2⟩:=h;cases rx;cases ry;obtain⟨its,r1,p1,_⟩:=I.tuple ha;obtain⟨its2,r2,p2,_⟩:=I.tuple hb;refine HT.xkt p1 p2 (fun z=>hx (r1.nil_iff.mp z)) (fun z=>⟨.ref a,H,I,rfl,q1 (r2.nil_iff.mp z)⟩) (fun z=>?_) (by rw[←r1.length,←r2.length];exact hz);refine⟨.ref s.heap.objs.size,_,I.laid (t':=s.toks) (o:=.tup (xs++ys)) (fun b ob q=>af _ q) (ao _) ?_,rfl,q2 (fun w=>z (r2.nil_iff.mpr w)) _ (I.hok.fresh (ao _))⟩;exact⟨by rw[ax];exact hz,_,r1.append r2,IsTup.new _ _⟩
end
end L2
namespace L2
open PySem PySem.Spec PyProof.Rows
def ixN(n:Nat)(i:Int):Option Nat:=if 0≤i then(if i<n then some i.toNat else none)else if -(n:Int)≤i then some (i+n).toNat else none
def atI{α:Type}(xs:List α)(i:Int):Option α:=(ixN xs.length i).bind fun j=>xs[j]?
theorem xkw{n:Nat}{i:Int}{j:Nat}(h:ixN n i=some j):seqIndex? i n=some j∧j<n∧-(n:Int)≤i∧i<n:=by
 unfold ixN at h
 by_cases h0:0≤i
 ·rw[if_pos h0]at h
  by_cases h1:i<n
  ·rw[if_pos h1]at h;have e:i.toNat=j:=bw h;exact⟨by rw[seqIndex_of h0 h1,e],by lia,by lia,h1⟩
  ·rw[if_neg h1]at h;cases h
 ·rw[if_neg h0]at h
  by_cases h1: -(n:Int)≤i
  ·rw[if_pos h1]at h;have e:(i+n).toNat=j:=bw h;exact⟨by rw[seqIndex_neg (by lia) h1,e],by lia,h1,by lia⟩
  ·rw[if_neg h1]at h;cases h
theorem xgq{α:Type}{xs:List α}{i:Int}{v:α}(h:atI xs i=some v):∃j,seqIndex? i xs.length=some j∧xs[j]? =some v∧j<xs.length∧-(xs.length:Int)≤i∧i<xs.length:=by
 unfold atI at h;cases e:ixN xs.length i with
 |none=>rw[e]at h;cases h
 |some j=>
  rw[e]at h;obtain⟨h1,h2,h3,h4⟩:=xkw e;exact⟨j,h1,h,h2,h3,h4⟩
theorem yd{α:Type}{xs:List α}{j:Nat}{v:α}(h:xs[j]? =some v):atI xs (j:Int)=some v:=by
 have hj:j<xs.length:=(aW.mp h).1;have e:ixN xs.length (j:Int)=some j:=by
  unfold ixN;rw[if_pos (by lia),if_pos (by lia)];simp
 unfold atI;rw[e];exact h
def xkx(b:Expr):Prop:=∀o i,subscripted b false o i=operate [o,i] (iR o i)
def IxR(X:Cx)(r:R2):Prop:=
 ∀(value slice:Expr) (pins:List (Addr×Obj)) (s:ae) (σ:St) (H:Hp) (x y:V) (v u:Value) (Q:VK),Inv X pins σ H s→RelV x v→RelV y u→r x y H Q→
  subscripted slice false v u=operate [v,u] (iR v u)→wpAny (model X.prog X.w) X.A (subscriptTail value slice v u) (EP X pins σ Q) X.xe s
def MtR(X:Cx)(id:String)(r:V→List V→Hp→VK→Prop):Prop:=
 ∀(pins:List (Addr×Obj)) (s:ae) (σ:St) (H:Hp) (x:V) (xs:List V) (v:Value) (us:List Value) (Q:VK),Inv X pins σ H s→RelV x v→Vals xs us→r x xs H Q→
  wpAny (model X.prog X.w) X.A (call (.builtin id) (v::us)) (EP X pins σ Q) X.xe s
section
variable {X:Cx} {a b:Expr} {ta tb:TE} {pos:Pos}
theorem xr{r:R2}(hr:IxR X r)(ha:PE X a ta)(hb:PE X b tb)(hs:xkx b):PE X (.Subscript a b pos) (tOp r ta tb):=by
 intro pins s σ H Q I h;exact Subscript_ (xjd ha hb I h fun v u s2 x y H2 I2 rx ry q=>hr a b pins s2 σ H2 x y v u Q I2 rx ry q (hs _ _))
def xlQ(K:ai):R2:=fun x y H Q=>∃p xs i v,x= .ref p∧y= .int i∧SqL K H p xs∧atI xs i=some v∧Q v H
def xlR(K:ai):R2:=fun x y H Q=>∃p xs i v,x= .ref p∧y= .int i∧SqT K H p xs∧atI xs i=some v∧Q v H
theorem xN:IxR X (xlQ X.K):=by
 intro value slice pins s σ H x y v u Q I rx ry h hs;obtain⟨p,xs,i,z,rfl,rfl,hq,he,q⟩:=h;cases rx;obtain⟨t,rfl⟩:=ry;obtain⟨its,r,pl,hz⟩:=I.list hq;obtain⟨j,h1,h2,h3,h4,h5⟩:=xgq he;obtain⟨w,ew,rw'⟩:=r.get h2;have hl:=r.length;have hn:=xez;have fin:EP X pins σ Q w s:=⟨z,H,I,rw',q⟩
 by_cases h0:0≤i
 ·have hj:i.toNat=j:=by
   rw[seqIndex_of h0 h5]at h1;exact bw h1
  exact item_listR pl.isList h0 (by lia) (by rw[hj];simpa using ew) fin hs
 ·have hj:(i+(its.toArray.size:Int)).toNat=j:=by
   rw[seqIndex_neg (by lia) h4]at h1;rw[av,←hl];exact bw h1
  exact subscriptTail_builtinR (x:=w) pl.isList.typeIs slot_list_getitem.lookup
   (wpAny_getItem_list_neg (Q:=fun r s'=>r=w∧EP X pins σ Q r s') pl.isList (by lia) (by rw[av]<;> lia) (by lia) (by rw[hj];simpa using ew) ⟨rfl,fin⟩) hs
theorem xA:IxR X (xlR X.K):=by
 intro value slice pins s σ H x y v u Q I rx ry h hs;obtain⟨p,xs,i,z,rfl,rfl,hq,he,q⟩:=h;cases rx;obtain⟨t,rfl⟩:=ry;obtain⟨its,r,pl,hz⟩:=I.tuple hq;obtain⟨j,h1,h2,h3,h4,h5⟩:=xgq he;obtain⟨w,ew,rw'⟩:=r.get h2;have hl:=r.length;have hn:=xez;have fin:EP X pins σ Q w s:=⟨z,H,I,rw',q⟩;exact subscriptTail_builtinR (x:=w) pl.typeIs slot_tuple_getitem.lookup
  (getItem_tuple (j:=j) (Q:=fun r s'=>r=w∧EP X pins σ Q r s') pl (by lia) (by lia) (by rw[av,←hl];exact h1) (by simpa using ew) ⟨rfl,fin⟩) hs
theorem xeE(lo hi:Option Int)(n:Nat):(fP lo hi none n).1=((HT.sIx n 0 lo:Nat):Int)∧(fP lo hi none n).2.1=((HT.sIx n n hi:Nat):Int)∧(fP lo hi none n).2.2=1:=by
 refine⟨?_,?_,rfl⟩
 ·cases lo with
  |none=>simp[fP,HT.sIx]
  |some i=>
   simp only[fP,HT.sIx,ma,show(1:Int) > 0 by decide,if_true]
   by_cases h:i<0
   ·simp only[h,if_true]<;> lia
   ·simp only[h,if_false]<;> lia
 ·cases hi with
  |none=>simp[fP,HT.sIx]
  |some i=>
   simp only[fP,HT.sIx,ma,show(1:Int) > 0 by decide,if_true]
   by_cases h:i<0
   ·simp only[h,if_true]<;> lia
   ·simp only[h,if_false]<;> lia
theorem xef(its:List Value)(lo hi:Option Int):slicePick its.toArray lo hi none=((its.drop (HT.sIx its.length 0 lo)).take (HT.sIx its.length its.length hi - HT.sIx its.length 0 lo)).toArray:=by
 obtain⟨h1,h2,h3⟩:=xeE lo hi its.toArray.size;unfold slicePick;rw[h1,h2,h3];simp only[sliceRange_one,pick_run,av]<;> rfl
def xlS(K:ai):V→Option Int→Option Int→Hp→VK→Prop:=fun x lo hi H Q=>∃a xs,x= .ref a∧SqL K H a xs∧∀p,H p=none→Q (.ref p) (upd H p (.lst (yA xs lo hi)))
theorem yw:SlR X (xlS X.K):=by
 intro pins s σ H x v vl vu lo hi sl Q I rx hs pl pu h;obtain⟨a,xs,rfl,hx,q⟩:=h;cases rx;obtain⟨its,r,ht,hz⟩:=I.list hx;have hlen:=r.length;refine⟨"list",_,slot_list_getitem.lookup,ht.isList.typeIs,?_⟩;refine wpAny_getItem_list_slice ht.isList hs pl pu .none (by simp) ?_ (by rw[av]<;> lia);rw[xef,←hlen];refine⟨.ref s.heap.objs.size,_,I.laid (t':=s.toks) (o:=.lst (yA xs lo hi)) (fun b ob q=>af _ q) (ao _) ?_,rfl,q _ (I.hok.fresh (ao _))⟩;exact⟨bp (xbK xs lo hi) hz,_,0,(r.drop (HT.sIx xs.length 0 lo)).take (HT.sIx xs.length xs.length hi - HT.sIx xs.length 0 lo),aB _ rfl⟩
def vq:V→Bool
 | .non=>true
 | .bl _=>true
 | .int _=>true
 | .str _=>true
 |_=>false
def eqV:V→V→Bool
 | .non,.non=>true
 | .bl a,.bl b=>a==b
 | .bl a,.int b=>(if a then 1 else 0)==b
 | .int a,.bl b=>a==(if b then 1 else 0)
 | .int a,.int b=>a==b
 | .str a,.str b=>a==b
 |_,_=>false
theorem xlT{A:aU}{s:ae}{y x:V}{u v:Value}(ry:RelV y u)(rx:RelV x v)(fy:vq y=true)(fx:vq x=true):me A s u v (eqV y x):=by
 cases y with
 |non=>
  cases ry;cases x with
  |non=>cases rx;exact mh _
  |bl b=>cases rx;exact SeqAt.EqAt.none_bool b
  |int b=>obtain⟨t,rfl⟩:=rx;exact SeqAt.EqAt.none_int b t
  |str b=>obtain⟨t,rfl⟩:=rx;exact SeqAt.EqAt.none_str b t
  |_=>exact absurd (show false=true from fx) aC
 |bl a=>
  cases ry;cases x with
  |non=>cases rx;exact SeqAt.EqAt.bool_none a
  |bl b=>cases rx;exact SeqAt.EqAt.bool_bool a b
  |int b=>obtain⟨t,rfl⟩:=rx;exact SeqAt.EqAt.bool_int a b t
  |str b=>obtain⟨t,rfl⟩:=rx;exact SeqAt.EqAt.bool_str a b t
  |_=>exact absurd (show false=true from fx) aC
 |int a=>
  obtain⟨t',rfl⟩:=ry;cases x with
  |non=>cases rx;exact SeqAt.EqAt.int_none a t'
  |bl b=>cases rx;exact SeqAt.EqAt.int_bool a t' b
  |int b=>obtain⟨t,rfl⟩:=rx;exact lO a t' b t
  |str b=>obtain⟨t,rfl⟩:=rx;exact lI a t' b t
  |_=>exact absurd (show false=true from fx) aC
 |str a=>
  obtain⟨t',rfl⟩:=ry;cases x with
  |non=>cases rx;exact SeqAt.EqAt.str_none a t'
  |bl b=>cases rx;exact SeqAt.EqAt.str_bool a t' b
  |int b=>obtain⟨t,rfl⟩:=rx;exact lJ a t' b t
  |str b=>obtain⟨t,rfl⟩:=rx;exact SeqAt.EqAt.str_str a t' b t
  |_=>exact absurd (show false=true from fx) aC
 |_=>exact absurd (show false=true from fy) aC
def eqU(x:V)(u:Value):Bool:=match u with
 | .none=>eqV .non x
 | .bool b=>eqV (.bl b) x
 | .int i _=>eqV (.int i) x
 | .str z _=>eqV (.str z) x
 |_=>false
theorem xh4{x y:V}{u:Value}(r:RelV y u)(f:vq y=true):eqU x u=eqV y x:=by
 cases y with
 |non=>cases r;rfl
 |bl b=>cases r;rfl
 |int i=>obtain⟨t,rfl⟩:=r;rfl
 |str z=>obtain⟨t,rfl⟩:=r;rfl
 |_=>exact absurd (show false=true from f) aC
theorem xdd{x:V}:∀{xs:List V} {us:List Value},Vals xs us→xs.all vq=true→us.any (eqU x)=xs.any fun y=>eqV y x
 |_,_,.nil,_=>rfl
 |y::xs,u::us,.cons r t,f=>by
  rw[List.all_cons,dh]at f;rw[List.any_cons,List.any_cons,xh4 r f.1,xdd t f.2]
theorem xb6{A:aU}{s:ae}{x:V}{v:Value}(rx:RelV x v)(fx:vq x=true):∀{xs:List V} {us:List Value},Vals xs us→xs.all vq=true→∀u∈us,me A s u v (eqU x u)
 |_,_,.nil,_=>fun u hu=>by cases hu
 |y::xs,u::us,.cons r t,f=>fun u' hu=>by
  rw[List.all_cons,dh]at f;rcases az.mp hu with rfl|hu
  ·rw[xh4 r f.1];exact xlT r rx f.1 fx
  ·exact xb6 rx fx t f.2 u' hu
def inV(x:V)(xs:List V):Bool:=xs.any fun y=>eqV y x
def rIn(K:ai)(neg:Bool):R2:=fun x y H Q=>∃p xs,y= .ref p∧(SqL K H p xs∨SqT K H p xs)∧vq x=true∧xs.all vq=true∧Q (.bl (if neg then !inV x xs else inV x xs)) H
theorem xeF:OpR X (bD .NotIn) (rIn X.K true):=by
 intro pins s σ H x y v u Q I rx ry h;obtain⟨p,xs,rfl,hq,fx,fs,q⟩:=h;cases ry;rcases hq with hq|hq
 ·obtain⟨its,r,pl,hz⟩:=I.list hq;refine SeqAt.notIn_listAt (eqU x) pl.isList (fun w hw=>xb6 rx fx r fs w (by simpa using hw)) ⟨.bl _,H,I,rfl,?_⟩;rw[show its.toArray.any (eqU x)=its.any (eqU x)by simp,xdd r fs];exact q
 ·obtain⟨its,r,pl,hz⟩:=I.tuple hq;refine SeqAt.notIn_tupleAt (eqU x) pl (fun w hw=>xb6 rx fx r fs w (by simpa using hw)) ⟨.bl _,H,I,rfl,?_⟩;rw[show its.toArray.any (eqU x)=its.any (eqU x)by simp,xdd r fs];exact q
theorem xq:yt X (.builtin "len") (fun xs H Q=>∃p ys,xs=[.ref p]∧(SqL X.K H p ys∨SqT X.K H p ys)∧Q (.int ys.length) H):=by
 intro pins s σ H xs us Q I r h;obtain⟨p,ys,rfl,hq,q⟩:=h;obtain⟨u,rfl,rx⟩:=vals1 r;cases rx;have hn:=xez;rcases hq with hq|hq
 ·obtain⟨its,r',pl,hz⟩:=I.list hq;have hlen:=r'.length;exact Calls.call_len_list pl.isList (by simp only[av]<;> lia) ⟨.int ys.length,H,I.tok _,⟨s.toks+1,by rw[av,hlen]⟩,q⟩
 ·obtain⟨its,r',pl,hz⟩:=I.tuple hq;have hlen:=r'.length;exact len_tuple pl (by simp only[av]<;> lia) ⟨.int ys.length,H,I.tok _,⟨s.toks+1,by rw[av,hlen]⟩,q⟩
theorem uf:yt X (.type "list") (fun xs H Q=>∃p ys,xs=[.ref p]∧(SqL X.K H p ys∨SqT X.K H p ys)∧∀l,H l=none→Q (.ref l) (upd H l (.lst ys))):=by
 intro pins s σ H xs us Q I r h;obtain⟨p,ys,rfl,hq,q⟩:=h;obtain⟨u,rfl,rx⟩:=vals1 r;cases rx;have fin:∀(its:List Value),Vals ys its→ys.length≤aO→∀(h':Heap) (c':Nat),(∀b o',s.heap.get? b=some o'→h'.get? b=some o')→
   h'.get? s.heap.objs.size=some {cls:=.type "list",dict:=none,data:=.seq its.toArray c',slots:=#[]}→EP X pins σ Q (.ref s.heap.objs.size) {s with heap:=h'}:=fun its r' hz h' c' kp e=>
  ⟨.ref s.heap.objs.size,_,I.laid (t':=s.toks) kp (ao _) (show xE X.prog X.w _ h' _ (.lst ys)from⟨hz,its,c',r',e⟩),rfl,q _ (I.hok.fresh (ao _))⟩
 rcases hq with hq|hq
 ·obtain⟨its,r',pl,hz⟩:=I.list hq;have hlen:=r'.length;obtain⟨o,ho,hc,n,hd⟩:=pl.isList;exact call_list_seq p (.inl rfl) ho hc hd (fun h' c' kp e=>fin its r' hz h' c' kp e) (by simp only[av]<;> lia)
 ·obtain⟨its,r',pl,hz⟩:=I.tuple hq;have hlen:=r'.length;obtain⟨o,ho,hc,n,hd⟩:=pl;exact call_list_seq p (.inr rfl) ho hc hd (fun h' c' kp e=>fin its r' hz h' c' kp e) (by simp only[av]<;> lia)
theorem vn:yt X (.type "tuple") (fun xs H Q=>∃p ys,xs=[.ref p]∧((SqL X.K H p ys∧∀l,H l=none→Q (.ref l) (upd H l (.tup ys)))∨(SqT X.K H p ys∧Q (.ref p) H))):=by
 intro pins s σ H xs us Q I r h;obtain⟨p,ys,rfl,h⟩:=h;obtain⟨u,rfl,rx⟩:=vals1 r;cases rx;rcases h with⟨hq,q⟩|⟨hq,q⟩
 ·obtain⟨its,r',pl,hz⟩:=I.list hq;have hlen:=r'.length;refine call_tuple_list pl.isList (fun h' kp=>?_) (by simp only[av]<;> lia);have I1:Inv X pins σ H {s with heap:=h'}:=I.kept (t':=s.toks) kp;have I2:Inv X pins σ (upd H h'.objs.size (.tup ys)) {s with heap:=h'.push {cls:=.type "tuple",data:=.seq its.toArray}}:=
   I1.laid (t':=s.toks) (fun b o e=>af _ e) (ao _) (show xE X.prog X.w _ _ _ (.tup ys)from⟨hz,its,r',IsTup.new _ _⟩)
  exact⟨.ref h'.objs.size,_,I2,rfl,q _ (I1.hok.fresh (ao _))⟩
 ·obtain⟨its,r',pl,hz⟩:=I.tuple hq;exact call_tuple_same pl ⟨.ref p,H,I,rfl,q⟩
def tyV(K:ai)(T:String)(x:V)(H:Hp):Prop:=match x with
 | .str _=>T="str"
 | .int _=>T="int"
 | .ref p=>(T="list"∧∃xs,SqL K H p xs)∨(T="tuple"∧∃o,K.lookup p=some o∧o.cls= .type "tuple"∧o.dict=none)∨
   (T="dict"∧((∃kvs,H p=some (.dK kvs))∨∃kvs,H p=some (.dT kvs)))∨(T="set"∧∃S n,H p=some (.set S n))
 |_=>False
theorem xh5{pins:List (Addr×Obj)}{σ:St}{H:Hp}{s:ae}{T:String}{x:V}{v:Value}(I:Inv X pins σ H s)(r:RelV x v)(ty:tyV X.K T x H):
  s.TypeIs v T∧∀a,v= .ref a→∃ob,s.heap.get? a=some ob∧ob.dict=none:=by
 cases x with
 |str z=>
  obtain⟨t,rfl⟩:=r;cases (show T="str" from ty);exact⟨typeIs_str s z t,fun _ e=>nomatch e⟩
 |int i=>
  obtain⟨t,rfl⟩:=r;cases (show T="int" from ty);exact⟨typeIs_int s i t,fun _ e=>nomatch e⟩
 |ref p=>
  cases r;rcases ty with⟨rfl,xs,hq⟩|⟨rfl,o,hk,hc,hd⟩|⟨rfl,hk⟩|⟨rfl,S,n,hk⟩
  ·obtain⟨its,_,pl,_⟩:=I.list hq;refine⟨pl.isList.typeIs,fun a e=>?_⟩;cases e;obtain⟨o,n,e,c,hd,_⟩:=pl;exact⟨o,e,hd⟩
  ·refine⟨⟨o,I.kIn p o hk,hc⟩,fun a e=>?_⟩;cases e;exact⟨o,I.kIn _ o hk,hd⟩
  ·have z:∃o,s.heap.get? p=some o∧o.ExactDict:=by
    rcases hk with⟨kvs,hk⟩|⟨kvs,hk⟩
    ·obtain⟨_,_,_,_,o,_,_,e,ex,_⟩:=I.hok p _ hk;exact⟨o,e,ex⟩
    ·obtain⟨_,_,_,_,o,_,_,e,ex,_⟩:=I.hok p _ hk;exact⟨o,e,ex⟩
   obtain⟨o,e,ex⟩:=z;refine⟨⟨o,e,ex.1⟩,fun a e2=>?_⟩;cases e2;exact⟨o,e,ex.2.1⟩
  ·obtain⟨o,_,_,_,e,ex,_⟩:=I.hok p _ hk;refine⟨⟨o,e,ex.1⟩,fun a e2=>?_⟩;cases e2;exact⟨o,e,ex.2.1⟩
 |_=>exact bS ty
def xnw(K:ai)(T:String)(r:V→List V→Hp→VK→Prop)(to:TE):TE:=fun σ H Q=>to σ H fun x H1=>tyV K T x H1∧r x [] H1 Q
def tBM(K:ai)(T:String)(r:V→List V→Hp→VK→Prop)(to:TE)(t:TA):TE:=fun σ H Q=>to σ H fun x H1=>tyV K T x H1∧t σ H1 fun xs H2=>r x xs H2 Q
variable {o e:Expr} {es:List Expr} {to:TE} {t:TA} {name:Str} {apos cpos:Pos} {T id:String} {r:V→List V→Hp→VK→Prop}
theorem xlU(pa:PlainAttrs T)(slot:Slot T name id)(hty:typeOf (.builtin id)=pure (.type "method_descriptor"))(hm:MtR X id r)(ho:PE X o to)
  (hbase:gD o name X.env (eval o X.env)=eval o X.env:=by rfl) (hline:(apos.endLine==cpos.line)=true:=by rfl):PE X (.Call (.Attribute o name apos) [] [] cpos) (xnw X.K T r to):=by
 intro pins s σ H Q I h;refine wpAny_Call_method0_late hbase hline (thn (ho pins s σ H _ I h) fun v s1 ⟨x,H1,I1,r1,ty,q1⟩=>?_);obtain⟨h1,h2⟩:=xh5 I1 r1 ty;exact⟨T,id,pa,slot,hty,h1,h2,gz rfl (PySem.evalArgs_none (hm pins s1 σ H1 x [] v [] Q I1 r1 .nil q1))⟩
theorem zb(pa:PlainAttrs T)(slot:Slot T name id)(hty:typeOf (.builtin id)=pure (.type "method_descriptor"))(hm:MtR X id r)(ho:PE X o to)(ha:PA X (e::es) t)
  (hbase:gD o name X.env (eval o X.env)=eval o X.env:=by rfl)
  (hfew:((de cpos (bh (e::es) X.env)).all (fun x=> !x.1)&&(backToKw cpos (kh [] X.env)).all (fun x=>x.1.isSome)
   &&decide ((e::es).length+([]:List Keyword).length+(if ([]:List Keyword).isEmpty then 0 else 1)<30))=true:=by rfl)
  (hline:(apos.endLine==cpos.line)=true:=by rfl) (hs:bh (e::es) X.env=(false,eval e X.env)::bh es X.env:=by rfl) (hplain:(de cpos (bh es X.env)).any (·.1)=false:=by rfl):
  PE X (.Call (.Attribute o name apos) (e::es) [] cpos) (tBM X.K T r to t):=by
 intro pins s σ H Q I h;refine wpAny_Call_method_late hbase hfew hline rfl (thn (ho pins s σ H _ I h) fun v s1 ⟨x,H1,I1,r1,ty,q1⟩=>?_);obtain⟨h1,h2⟩:=xh5 I1 r1 ty;refine⟨T,id,pa,slot,hty,h1,h2,?_⟩;have hA:=ha cpos pins s1 σ H1 _ I1 q1;rw[hs]at hA⊢;refine gz (by show(false||(de cpos (bh es X.env)).any (·.1))=false;rw[hplain]<;> rfl) (kT ?_);exact thn hA fun us s2 ⟨vs,H2,I2,r2,q2⟩=>hm pins s2 σ H2 x vs v us Q I2 r1 r2 q2
end
end L2
namespace L2
open PySem PySem.Spec PyProof.Rows
def MtM(X:Cx)(id:String)(r:V→List V→Hp→VK→Prop):Prop:=
 ∀(pins:List (Addr×Obj)) (s:ae) (σ:St) (H:Hp) (x:V) (xs:List V) (v:Value) (us:List Value) (Q:VK),Inv X pins σ H s→RelV x v→Vals xs us→r x xs H Q→
  wpAny (model X.prog X.w) X.A (call (.builtin id) (v::us)) (EP X pins σ Q) X.xe s
theorem Vals.one:∀{x:V} {us:List Value},Vals [x] us→∃u,us=[u]∧RelV x u
 |_,_,.cons r .nil=>⟨_,rfl,r⟩
theorem Vals.two:∀{x y:V} {us:List Value},Vals [x,y] us→∃u v,us=[u,v]∧RelV x u∧RelV y v
 |_,_,_,.cons r (.cons q .nil)=>⟨_,_,rfl,r,q⟩
theorem Vals.zero:∀{us:List Value},Vals [] us→us=[]
 |_,.nil=>rfl
theorem Vals.dropLast{xs:List V}{us:List Value}(h:Vals xs us):Vals xs.dropLast us.dropLast:=by
 induction h with
 |nil=>exact .nil
 |cons r t ih=>
  cases t with
  |nil=>exact .nil
  |cons q t'=>exact .cons r ih
theorem Vals.reverse{xs:List V}{us:List Value}(h:Vals xs us):Vals xs.reverse us.reverse:=by
 induction h with
 |nil=>exact .nil
 |cons r t ih=>rw[List.reverse_cons,List.reverse_cons];exact Vals.append ih (.cons r .nil)
theorem Vals.rep{xs:List V}{us:List Value}(h:Vals xs us):∀k:Nat,Vals (b7 k xs).flatten (b7 k us).flatten
 |0=>.nil
 |k+1=>by
  rw[eZ,eZ,gw,gw];exact Vals.append h (Vals.rep h k)
theorem xg5{α:Type}(l:List α):l.eraseIdx (l.length - 1)=l.dropLast:=by
 induction l with
 |nil=>rfl
 |cons a r ih=>
  cases r with
  |nil=>rfl
  |cons b r=>
   have e:(a::b::r).length - 1=((b::r).length - 1)+1:=by
    have h1:(a::b::r).length=r.length+2:=rfl;have h2:(b::r).length=r.length+1:=rfl;lia
   rw[e,gs,ih]
   all_goals rfl
theorem foldl_rep(its:List Value):∀(k:Nat) (acc:List Value),
  List.foldl (fun x1 x2=>x1++x2) acc.toArray (b7 k its.toArray)=(acc++(b7 k its).flatten).toArray
 |0,acc=>by simp
 |k+1,acc=>by
  have e:acc.toArray++its.toArray=(acc++its).toArray:=by simp
  have e2:(acc++its)++(b7 k its).flatten=acc++(b7 (k+1) its).flatten:=by
   rw[eZ,gw,gx]
  rw[←e2,←foldl_rep its k (acc++its),←e,eZ,j8]
section
variable {X:Cx} {pins:List (Addr×Obj)} {σ:St} {H:Hp} {s:ae} {l b:Addr} {xs ys zs:List V}
theorem Inv.lset{its its':List Value}{n:Nat}{f:Array Value→Array Value}{t':Nat}(I:Inv X pins σ H s)(hH:H l=some (.lst xs))
  (e:s.heap.get? l=some {cls:=.type "list",data:=.seq its.toArray n}) (hf:f its.toArray=its'.toArray) (hv:Vals ys its') (hz:ys.length≤aO):
  Inv X pins σ (upd H l (.lst ys)) {s with heap:=s.heap.update l (aN f),toks:=t'}:=by
 have q:=PySem.IsL.update e f;rw[hf]at q;refine I.write (x:=l) (e:=l) (by rw[hH];exact trivial) (.inl rfl) (fun b' u hb hu=>(bL s.heap (aN f) (bO hb)).trans hu) ⟨_,q⟩ ?_;exact⟨hz,its',_,hv,q⟩
theorem Inv.lnew{its:List Value}{t':Nat}(I:Inv X pins σ H s)(hv:Vals ys its)(hz:ys.length≤aO):
  Inv X pins σ (upd H s.heap.objs.size (.lst ys)) {s with heap:=s.heap.push {cls:=.type "list",data:=.seq its.toArray},toks:=t'}:=
 I.laid (fun _ _ q=>af _ q) (ao _) ⟨hz,its,0,hv,aB _ rfl⟩
theorem Inv.fresh(I:Inv X pins σ H s):H s.heap.objs.size=none:=I.hok.fresh (ao _)
theorem Inv.lstM(I:Inv X pins σ H s)(hH:H l=some (.lst xs)):xs.length≤aO∧∃(its:List Value) (n:Nat),Vals xs its∧xs.length=its.length∧s.heap.get? l=some {cls:=.type "list",data:=.seq its.toArray n}:=by
 obtain⟨z,its,n,r,e⟩:=I.hok l _ hH;exact⟨z,its,n,r,r.length,e⟩
theorem xeG{n:Nat}(h:n≤aO):eU n=false:=by
 unfold eU;exact decide_eq_false (by lia)
end
section
variable {X:Cx}
def xky:V→List V→Hp→VK→Prop:=fun x vs H Q=>∃l xs y,x= .ref l∧vs=[y]∧H l=some (.lst xs)∧xs.length<aO∧Q .non (upd H l (.lst (xs++[y])))
theorem yk:MtM X "list.append" xky:=by
 intro pins s σ H x vs v us Q I rx rv h;obtain⟨l,xs,y,rfl,rfl,hH,hz,q⟩:=h;cases rx;obtain⟨u,rfl,ru⟩:=rv.one;obtain⟨z,its,n,r,hl,e⟩:=I.lstM hH;refine fL F.slot_list_append ⟨_,e,rfl⟩ F.entry_list_append (F.args_list_append_2 _ _) (PySem.list_append l its.toArray n u (by rw[av];lia)) ⟨e,?_⟩;refine⟨.non,_,I.lset (its':=its++[u]) hH e (by simp) (r.append (.cons ru .nil)) ?_,rfl,q⟩;rw[ax,bQ];lia
def xkz:V→List V→Hp→VK→Prop:=fun x vs H Q=>∃l b xs zs,x= .ref l∧vs=[.ref b]∧H l=some (.lst xs)∧H b=some (.lst zs)∧xs.length+zs.length≤aO∧Q .non (upd H l (.lst (xs++zs)))
theorem xdS:MtM X "list.extend" xkz:=by
 intro pins s σ H x vs v us Q I rx rv h;obtain⟨l,b,xs,zs,rfl,rfl,hH,hB,hz,q⟩:=h;cases rx;obtain⟨u,rfl,ru⟩:=rv.one;cases ru;obtain⟨z,its,n,r,hl,e⟩:=I.lstM hH;obtain⟨z2,its2,n2,r2,hl2,e2⟩:=I.lstM hB;have hsz:its.toArray.size+its2.toArray.size≤aO:=by rw[av,av];lia
 have hlong:¬(!its.toArray.isEmpty&&eU (its.toArray.size+its2.toArray.size))=true:=by
  rw[xeG hsz,ku];exact aC
 refine fL F.slot_list_extend ⟨_,e,rfl⟩ F.entry_list_extend (F.args_list_extend_2 _ _)
  (AutoSeq1.list_extend_list_list_0 l its.toArray n b its2.toArray n2 hlong (by rw[av];lia) (by lia)) ⟨e,e2,?_⟩
 refine⟨.non,_,I.lset (its':=its++its2) hH e (by simp) (r.append r2) ?_,rfl,q⟩;rw[ax];lia
def xnx:V→List V→Hp→VK→Prop:=fun x vs H Q=>∃l xs y,x= .ref l∧vs=[]∧H l=some (.lst xs)∧xs[xs.length - 1]? =some y∧Q y (upd H l (.lst xs.dropLast))
theorem xlV:MtM X "list.pop" xnx:=by
 intro pins s σ H x vs v us Q I rx rv h;obtain⟨l,xs,y,rfl,rfl,hH,hy,q⟩:=h;cases rx;have hus:=rv.zero;subst hus;obtain⟨z,its,n,r,hl,e⟩:=I.lstM hH;obtain⟨u,hu,ru⟩:=r.get hy;have hy':its.toArray[its.toArray.size - 1]? =some u:=by
  show its.toArray[its.length - 1]? =some u;rw[←du,←hl];exact hu
 refine fL F.slot_list_pop ⟨_,e,rfl⟩ F.entry_list_pop (F.args_list_pop_1 _) (MeetsSeq.list_pop_last l its.toArray n u hy' (by rw[av];lia)) ⟨e,?_⟩;refine⟨y,_,I.lset (its':=its.dropLast) hH e ?_ r.dropLast ?_,ru,q⟩
 ·show its.toArray.eraseIdxIfInBounds (its.toArray.size - 1)=its.dropLast.toArray;rw[av,List.eraseIdxIfInBounds_toArray,xg5]
 ·rw[List.length_dropLast];lia
def xny:R2:=fun x y H Q=>∃l b xs zs,x= .ref l∧y= .ref b∧H l=some (.lst xs)∧H b=some (.lst zs)∧xs.length+zs.length≤aO∧∀p,H p=none→Q (.ref p) (upd H p (.lst (xs++zs)))
theorem vL:OpR X (dg .Add) xny:=by
 intro pins s σ H x y v u Q I rx ry h;obtain⟨l,b,xs,zs,rfl,rfl,hH,hB,hz,q⟩:=h;cases rx;cases ry;obtain⟨z,its,n,r,hl,e⟩:=I.lstM hH;obtain⟨z2,its2,n2,r2,hl2,e2⟩:=I.lstM hB;refine PySem.P.add_list e e2 ?_ (by rw[av,av];lia);have ea:its.toArray++its2.toArray=(its++its2).toArray:=by simp
 rw[ea];exact⟨.ref _,_,I.lnew (t':=s.toks) (r.append r2) (by rw[ax];lia),rfl,q _ I.fresh⟩
def xnz:R2:=fun x y H Q=>∃l k xs,x= .ref l∧y= .int k∧H l=some (.lst xs)∧-(2^63)≤k∧k<2^63∧xs.length*k.toNat≤aO∧
 ∀p,H p=none→Q (.ref p) (upd H p (.lst (b7 k.toNat xs).flatten))
theorem len_rep{α:Type}(xs:List α)(k:Nat):(b7 k xs).flatten.length=k*xs.length:=by
 induction k with
 |zero=>simp
 |succ k ih=>rw[eZ,gw,ax,ih,Nat.succ_mul,Nat.add_comm]
theorem xlW:OpR X (dg .Mult) xnz:=by
 intro pins s σ H x y v u Q I rx ry h;obtain⟨l,k,xs,rfl,rfl,hH,h1,h2,hz,q⟩:=h;cases rx;obtain⟨t,rfl⟩:=ry;obtain⟨z,its,n,r,hl,e⟩:=I.lstM hH;have hlen:its.toArray.size*k.toNat≤aO:=by rw[av,←hl];exact hz
 have hcap:¬its.toArray.size*k.toNat > (2^63 - 1) / 8:=by
  have:(aO:Nat)≤(2^63 - 1) / 8:=by decide
  lia
 have hfit:¬(!Builtin.List.listFitsIndex k)=true:=by
  rw[fitsIndex_both h1 h2];exact aC
 have hlong:¬eU (its.toArray.size*k.toNat)=true:=by
  rw[xeG hlen];exact aC
 have hnew:List.foldl (fun x1 x2=>x1++x2) #[] (b7 (if its.toArray.isEmpty=true then 0 else k.toNat) its.toArray)=(b7 k.toNat its).flatten.toArray:=by
  have f0:∀m:Nat,List.foldl (fun x1 x2=>x1++x2) #[] (b7 m its.toArray)=(b7 m its).flatten.toArray:=fun m=>by
   have:=foldl_rep its m [];rw[List.nil_append]at this;exact this
  rw[f0];cases its with
  |nil=>simp
  |cons a r'=>rw[if_neg (by simp)]
 refine wpAny_binaryOp_repeat_ref (T:="list") (U:="int") (by decide) ⟨_,e,rfl⟩ (fun s'=>typeIs_int s' k t) noFill_list_mul F.fills_int_mul F.slot_int_rmul repeat_list F.slot_int_index.lookup
  (fL F.slot_int_rmul (typeIs_int s k t) F.entry_int_rmul (F.args_int_rmul_2 _ _) (int___rmul___int_list k t l its.toArray n)
   ⟨e,rfl,⟨_,e,rfl⟩,fL F.slot_list_mul ⟨_,e,rfl⟩ F.entry_list_mul (F.args_list_mul_2 _ _) (AutoListH.list___mul___list_int_3 l its.toArray n k t hfit hcap hlong) ⟨e,?_⟩⟩)
 rw[hnew];exact⟨.ref _,_,I.lnew (t':=s.toks) (r.rep k.toNat) (by rw[len_rep,Nat.mul_comm];exact hz),rfl,q _ I.fresh⟩
end
section
variable {prog:aF} {w:World} {A:aU} {E:Value→ae→Prop} {s:ae}
set_option maxRecDepth 100000 in
end
section
variable {X:Cx}
end
end L2
namespace L2
open PySem PySem.Spec PyProof.Rows
section
variable {κ:Type} [DecidableEq κ]
def zk(kvs:List (κ×V))(k:κ):Option V:=(kvs.find? fun kv=>decide (kv.1=k)).map (·.2)
def vt(kvs:List (κ×V))(k:κ):List (κ×V):=kvs.filter fun kv=>decide (kv.1≠k)
theorem xnA{k:κ}:zk ([]:List (κ×V)) k=none:=rfl
theorem xeH{p:κ×V}{r:List (κ×V)}{k:κ}(e:p.1=k):zk (p::r) k=some p.2:=by simp[zk,fg,e]
theorem xeI{p:κ×V}{r:List (κ×V)}{k:κ}(e:¬p.1=k):zk (p::r) k=zk r k:=by simp[zk,fg,e]
theorem zQ.isSome_eq{o:Option V}{u:Option Value}(r:zQ o u):o.isSome=u.isSome:=by
 cases o with
 |none=>cases u with
  |none=>rfl
  |some _=>exact(show False from r).elim
 |some _=>cases u with
  |none=>exact(show False from r).elim
  |some _=>rfl
theorem KV.val{kvs:List (κ×V)}{vs:List (κ×Value)}(r:KV kvs vs)(k:κ):zQ (zk kvs k) (iS vs k):=by
 unfold KV at r
 induction r with
 |nil=>exact cZ
 | @cons p q ps qs h t ih=>
  obtain⟨h1,h2⟩:=h
  by_cases e:p.1=k
  ·have e':q.1=k:=h1.symm.trans e;have b:iS (q::qs) k=some q.2:=by simp[iS,fg,e']
   rw[xeH e,b];exact h2
  ·have e':¬q.1=k:=fun z=>e (h1.trans z);have b:iS (q::qs) k=iS qs k:=by simp[iS,fg,e']
   rw[xeI e,b];exact ih
theorem KV.drop{kvs:List (κ×V)}{vs:List (κ×Value)}(r:KV kvs vs)(k:κ):KV (vt kvs k) (without vs k):=by
 unfold KV at r⊢;unfold vt without
 induction r with
 |nil=>exact .nil
 | @cons p q ps qs h t ih=>
  obtain⟨h1,h2⟩:=h;rw[gG,gG]
  by_cases e:p.1=k
  ·have a:¬decide (p.1≠k)=true:=by simp[e]
   have b:¬decide (q.1≠k)=true:=by simp[h1.symm.trans e]
   rw[if_neg a,if_neg b];exact ih
  ·have e':¬q.1=k:=fun z=>e (h1.trans z);have a:decide (p.1≠k)=true:=by simp[e]
   have b:decide (q.1≠k)=true:=by simp[e']
   rw[if_pos a,if_pos b];exact .cons ⟨h1,h2⟩ ih
theorem KV.length{kvs:List (κ×V)}{vs:List (κ×Value)}(r:KV kvs vs):kvs.length=vs.length:=Paired.length r
theorem xjj(kvs:List (κ×V))(k:κ):(vt kvs k).length≤kvs.length:=bR _ _
end
theorem xg6{P:aF}{w:World}{k:Key}{u:Value}(r:RelV (kV k) u):(xK P w).is k u=true:=by
 cases k with
 |inl i=>obtain⟨t,e⟩:=(show∃t,u=ff i t from r);subst e;exact xfU P w i t
 |inr x=>obtain⟨t,e⟩:=(show∃t,u=gJ x t from r);subst e;exact xfV P w x t
theorem xdT{P:aF}{w:World}:∀{ks:List Key} {us:List Value},Vals (ks.map kV) us→ItemsAre (xK P w) ks us
 |[],_,r=>by rw[lR]at r;cases r;exact .nil
 |k::ks,_,r=>by
  rw[a9]at r;cases r with
  |cons h t=>exact .cons (xg6 h) (xdT t)
abbrev KT(H:Hp):List (List Key×V)→List (List Key×Addr×Value)→Prop:=Paired fun p q=>p.1=q.1∧H q.2.1=some (.tup (p.1.map kV))∧RelV p.2 q.2.2
theorem KT.val{H:Hp}{kvs:List (List Key×V)}{xs:List (List Key×Addr×Value)}(r:KT H kvs xs)(k:List Key):zQ (zk kvs k) ((atKey xs k).map (·.2)):=by
 induction r with
 |nil=>exact cZ
 | @cons p q ps qs h t ih=>
  obtain⟨h1,_,h2⟩:=h
  by_cases e:p.1=k
  ·have e':q.1=k:=h1.symm.trans e;have b:atKey (q::qs) k=some q.2:=by simp[atKey,fg,e']
   rw[xeH e,b];exact h2
  ·have e':¬q.1=k:=fun z=>e (h1.trans z);have b:atKey (q::qs) k=atKey qs k:=by simp[atKey,fg,e']
   rw[xeI e,b];exact ih
section
variable {P:aF} {w:World} {H:Hp} {h:Heap} {a:Addr}
theorem xkc{u:HO}(ok:HOk P w H h)(e:Rd H a u):xE P w H h a u:=e.ok ok
theorem xel{kvs:List (Key×V)}(ok:HOk P w H h)(e:Rd H a (.dK kvs)):kvs.length≤aO∧(a==fG)=false∧∃vs,KV kvs vs∧h.DictOf (xK P w) a vs:=
 show xE P w H h a (.dK kvs)from xkc ok e
theorem xmQ{kvs:List (Key×V)}(ok:HOk P w H h)(e:H a=some (.dK kvs)):kvs.length≤aO∧(a==fG)=false∧∃vs,KV kvs vs∧h.DictOf (xK P w) a vs:=xel ok (.inl e)
theorem xeJ{ks:List Key}(ok:HOk P w H h)(e:H a=some (.tup (ks.map kV))):(tupleKind (xK P w)).is h ks a:=by
 obtain⟨_,its,r,o,h1,h2,n,h3⟩:=(show xE P w H h a (.tup (ks.map kV))from ok a _ e);exact⟨o,its.toArray,n,h1,h2,h3,by simpa using xdT r⟩
theorem xkd{kvs:List (List Key×V)}(ok:HOk P w H h)(e:Rd H a (.dT kvs)):kvs.length≤aO∧(a==fG)=false∧
  ∃xs,KT H kvs xs∧h.DictOfH (tupleKind (xK P w)) a xs:=by
 obtain⟨z,y,xs,r,o,es,ep,h1,h2,h3,h4,h5⟩:=(show xE P w H h a (.dT kvs)from xkc ok e);refine⟨z,y,xs,r,o,es,ep,h1,h2,h3,h4,fun x hx=>?_,h5⟩;have all:∀{l:List (List Key×V)} {m:List (List Key×Addr×Value)},KT H l m→∀x∈m,(tupleKind (xK P w)).is h x.1 x.2.1:=by
  intro l m q
  induction q with
  |nil=>intro x hx;exact nomatch hx
  | @cons p q ps qs hq t ih=>
   intro x hx;rcases az.mp hx with e|hx
   ·subst e;exact xeJ ok (by rw[←hq.1];exact hq.2.1)
   ·exact ih x hx
 exact all r x hx
end
def xlX(H:Hp)(a:Addr)(y:V)(r:Option V):Prop:=
 (∃kvs k,Rd H a (.dK kvs)∧y=kV k∧r=zk kvs k)∨∃kvs k b,Rd H a (.dT kvs)∧y= .ref b∧H b=some (.tup (k.map kV))∧r=zk kvs k
section
variable {X:Cx} {pins:List (Addr×Obj)} {σ:St} {H:Hp} {s:ae} {a:Addr} {y v:V} {u r:Value} {o:Option V} {A:aU} {E:Value→ae→Prop}
theorem Inv.big(I:Inv X pins σ H s):fG<s.heap.objs.size:=by
 have h:bA<s.heap.objs.size:=(I.mod.glob.keeps I.bk).lt;exact lS (by decide) h
theorem xnB{Q:Value→ae→Prop}(hu:A.units+1<cLine)(I:Inv X pins σ H s)(g:xlX H a y o)(ry:RelV y u)(h:∀s',Inv X pins σ H s'→Q (.bool o.isSome) s'):
  wpAny (model X.prog X.w) A (bD .In u (.ref a)) Q E s:=by
 rcases g with⟨kvs,k,e,ey,l⟩|⟨kvs,k,b,e,ey,eb,l⟩
 ·subst ey;obtain⟨z,hd,vs,rel,dd⟩:=xel I.hok e;refine wpAny_in_of (xg6 ry) hd dd.mapOf ?_;rw[←(rel.val k).isSome_eq,←l];exact h _ (I.tok _)
 ·subst ey;cases (show u=bf b from ry);obtain⟨z,hd,xs,rel,dd⟩:=xkd I.hok e;refine wpAny_in_heap (tupleKind_room_in1 hu) (xeJ I.hok eb) hd dd ?_;have q:=(rel.val k).isSome_eq;rw[lZ]at q;rw[←q,←l];exact h _ (I.tok _)
theorem xkA{h':Heap}{t':Nat}{ob:HO}(I:Inv X pins σ H s)(mu:Mut (H a))(hs:f6 a s.heap h')(he:∃q,h'.get? a=some q)(new:xE X.prog X.w (upd H a ob) h' a ob):
  Inv X pins σ (upd H a ob) {s with heap:=h',toks:=t'}:=
 I.write (x:=a) (e:=a) mu (.inl rfl) (fun b q hb z=>(hs.2 b hb).trans z) he new
theorem xh6{P:aF}{w:World}{H':Hp}{h':Heap}{kvs:List (Key×V)}{vs:List (Key×Value)}(z:kvs.length≤aO)(hd:(a==fG)=false)(rel:KV kvs vs)(dd:h'.DictOf (xK P w) a vs):
  xE P w H' h' a (.dK kvs):=⟨z,hd,vs,rel,dd⟩
end
section
variable {X:Cx} {pins:List (Addr×Obj)} {σ:St} {H:Hp} {s:ae} {a:Addr} {kvs:List (Key×V)} {k:Key} {u:Value} {A:aU} {E:Value→ae→Prop}
theorem xmR{v:V}{more:List Value}{Q:Value→ae→Prop}(I:Inv X pins σ H s)(e:H a=some (.dK kvs))(ry:RelV (kV k) u)(l:zk kvs k=some v)(hm:more=[]∨∃x,more=[x])
  (h:∀w' s',Inv X pins σ (upd H a (.dK (vt kvs k))) s'→RelV v w'→Q w' s'):wpAny (model X.prog X.w) A (call (.builtin "dict.pop") (.ref a::u::more)) Q E s:=by
 obtain⟨z,hd,vs,rel,dd⟩:=xmQ I.hok e;obtain⟨w',hw,rw'⟩:=zQ.some_of (v:=v) (o:=iS vs k) (by rw[←l];exact rel.val k);have hp:(keyPart u).isSome=true:=by
  cases k with
  |inl i=>obtain⟨t,q⟩:=(show∃t,u=ff i t from ry);subst q;rfl
  |inr x=>obtain⟨t,q⟩:=(show∃t,u=gJ x t from ry);subst q;rfl
 have ha:argsOk "dict.pop" ⟨.ref a::u::more,[]⟩:=by
  rcases hm with q|⟨x,q⟩
  ·subst q;exact PySem.F.args_dict_pop_2 _ _
  ·subst q;exact PySem.F.args_dict_pop_3 _ _ _
 refine call_meetsIn PySem.F.slot_dict_pop dd.typeIs PySem.F.entry_dict_pop ha (meets_dict_pop_there (xK X.prog X.w) a (xg6 ry) more hm hp)
  ⟨vs,w',dd,by rw[←rel.length];exact z,hw,fun h' dd' hs=>h w' _ ?_ rw'⟩
 have he:∃q,h'.get? a=some q:=let⟨q,_,_,hq,_⟩:=dd';⟨q,hq⟩
 exact xkA I (by rw[e];exact cZ) hs he (xh6 (bp (xjj kvs k) z) hd (rel.drop k) dd')
theorem xmS{Q:Value→ae→Prop}(I:Inv X pins σ H s)(e:Rd H a (.dK kvs))(h:∀t s',Inv X pins σ H s'→Q (.int kvs.length t) s'):wpAny (model X.prog X.w) A (call (.builtin "len") [.ref a]) Q E s:=by
 obtain⟨z,hd,vs,rel,dd⟩:=xel I.hok e;refine call_len_dict hd dd (by rw[←rel.length];rw[ay]at z;lia) ?_;rw[←rel.length];exact h _ _ (I.tok _)
end
def xnC(ty td:TE):TE:=fun σ H Q=>ty σ H fun y H1=>td σ H1 fun x H2=>∃a o,x= .ref a∧xlX H2 a y o∧Q (.bl o.isSome) H2
section
variable {X:Cx} {o i e value:Expr} {pos pos' tpos:Pos} {td ty tv:TE}
theorem xh7(hu:X.A.units+1<cLine)(hi:PE X i ty)(ho:PE X o td):PC X .In i o (xnC ty td):=by
 intro pins s σ H Q I h;refine thn (hi pins s σ H _ I h) fun iv s1 ⟨y,H1,I1,ry,q1⟩=>thn (ho pins s1 σ H1 _ I1 q1) fun u s2 ⟨x,H2,I2,rx,a,ov,ex,g,q2⟩=>?_;subst ex;obtain rfl:u=bf a:=rx;exact xnB hu I2 g ry fun s3 I3=>⟨.bl ov.isSome,H2,I3,rfl,q2⟩
end
section
variable {X:Cx} {pos:Pos}
end
structure M1(X:Cx)(o:Expr)(m:Str)(apos:Pos)(e:Expr)(cpos:Pos):Prop where
 base:gD o m X.env (eval o X.env)=eval o X.env
 few:((de cpos (bh [e] X.env)).all (fun x=> !x.1)&&(backToKw cpos (kh [] X.env)).all (fun x=>x.1.isSome)
  &&decide (([e]:List Expr).length+([]:List Keyword).length+(if ([]:List Keyword).isEmpty then 0 else 1)<30))=true
 line:(apos.endLine==cpos.line)=true
 trees:de cpos (bh [e] X.env)=[(false,eval e X.env)]
def IsD(H:Hp)(a:Addr):Prop:=(∃kvs,Rd H a (.dK kvs))∨∃kvs,Rd H a (.dT kvs)
theorem xlY{X:Cx}{pins:List (Addr×Obj)}{σ:St}{H:Hp}{s:ae}{a:Addr}(I:Inv X pins σ H s)(d:IsD H a):
  s.TypeIs (.ref a) "dict"∧(∀b,bf a= .ref b→∃ob,s.heap.get? b=some ob∧ob.dict=none)∧(a==fG)=false:=by
 rcases d with⟨kvs,e⟩|⟨kvs,e⟩
 ·obtain⟨_,hd,vs,_,dd⟩:=xel I.hok e;refine⟨dd.typeIs,fun b q=>?_,hd⟩;cases q;obtain⟨ob,_,_,h1,h2,_⟩:=dd;exact⟨ob,h1,h2.2.1⟩
 ·obtain⟨_,hd,xs,_,dd⟩:=xkd I.hok e;refine⟨dd.typeIs,fun b q=>?_,hd⟩;cases q;obtain⟨ob,_,_,h1,h2,_⟩:=dd;exact⟨ob,h1,h2.2.1⟩
section
variable {X:Cx} {pins:List (Addr×Obj)} {σ:St} {H:Hp} {s:ae} {a:Addr} {y d:V} {u r:Value} {o:Option V} {A:aU} {E:Value→ae→Prop}
end
def xlZ(td ty:TE):TE:=fun σ H Q=>td σ H fun x H1=>∃a,x= .ref a∧IsD H1 a∧ty σ H1 fun y H2=>∃kvs k v,H2 a=some (.dK kvs)∧y=kV k∧zk kvs k=some v∧Q v (upd H2 a (.dK (vt kvs k)))
section
variable {X:Cx} {o e f:Expr} {apos cpos:Pos} {td ty tx:TE}
theorem xjk(ho:PE X o td)(he:PE X e ty)(m:M1 X o "pop" apos e cpos):PE X (.Call (.Attribute o "pop" apos) [e] [] cpos) (xlZ td ty):=by
 intro pins s σ H Q I h;refine wpAny_Call_method m.base m.few m.line PySem.F.plainAttrs_dict PySem.F.slot_dict_pop PySem.F.type_dict_pop (thn (ho pins s σ H _ I h) fun u s1 ⟨x,H1,I1,rx,a,ex,d,q1⟩=>?_);subst ex;obtain rfl:u=bf a:=rx;obtain⟨t1,t2,_⟩:=xlY I1 d;refine⟨t1,t2,?_⟩;rw[m.trees];refine gz rfl (kT (f9 (thn (he pins s1 σ H1 _ I1 q1) fun iv s2 ⟨y,H2,I2,ry,kvs,k,v,ea,ey,l,q2⟩=>gv ?_)));subst ey;exact xmR I2 ea ry l (.inl rfl) fun w' s3 I3 rw'=>⟨v,_,I3,rw',q2⟩
end
section
variable {X:Cx} {pins:List (Addr×Obj)} {σ:St} {H:Hp} {s:ae} {a:Addr} {kvs:List (Key×V)} {A:aU} {E:Value→ae→Prop}
end
section
variable {X:Cx} {pins:List (Addr×Obj)} {σ:St} {H:Hp} {s:ae} {a:Addr} {y:V} {u:Value} {A:aU} {E:Value→ae→Prop}
end
end L2
namespace Att
open PySem PySem.W PySem.Calls PyProof.Rows
theorem xcA{P:Params}{h:Heap}:∀(ns:List Int) (vs:List Value),WellAll P h vs (ns.map WData.int)→cE vs ns:=by
 intro ns
 induction ns with
 |nil=>
  intro vs w;rw[lR]at w;cases w;exact .nil
 |cons n ns ih=>
  intro vs w;rw[a9]at w;cases w with
  |cons a b=>
   cases a;exact .cons _ _ (ih _ b)
theorem xh8{l:OpenLaw}{n:Nat}(hn:l.most=some n){P:Params}{h:Heap}{args:List WData}{vals:List Value}
  (hpre:l.row.toRowW.claim.pre args=true) (hwl:WellAll P h vals args):
  ∃a vs ns,vals=[bf a]∧args=[WData.list (ns.map WData.int)]∧h.get? a=some {cls:=.type "list",data:=.seq vs.toArray}∧cE vs ns∧ns.length≤n:=by
 have hsh:WShape.hasAll [] args [.list .int]=true:=(pre_splitW hpre).1;have hc:l.pre.holds [] {args:=args}=true:=(pre_splitW hpre).2;obtain⟨d,r,rfl,h1,h2⟩:=hasAllW_cons hsh;obtain rfl:=hasAllW_nil h2;obtain⟨xs,rfl,h3⟩:=hasW_list h1;obtain⟨ns,rfl⟩:=items_int h3;have hlen:ns.length≤n:=by
  unfold OpenLaw.pre at hc;have h4:(WTm.not (.lt (.lit (.int (n:Int))) (.len (.arg 0)))).holds [] {args:=[.list (ns.map .int)]}=true:=by
   have h4:=(holds_andW hc).1;rw[hn]at h4;exact h4
  have h5:=condW_of h4 (w_not (w_lt w_lit (w_len_list (w_arg rfl))));rw[ab]at h5;refine Nat.le_of_not_lt fun q=>?_;have q':(n:Int)<((ns.length:Nat):Int):=by omega
  first
   |(rw[decide_eq_true q']at h5;exact absurd h5 (by decide))
   |(simp at h5;omega)
 cases hwl with
 |cons w1 w2=>
  cases w2;cases w1 with
  |list ho hall=>exact⟨_,_,ns,rfl,rfl,ho,xcA ns _ hall,hlen⟩
theorem xh9(l:OpenLaw)(args:List WData):l.row.toRowW.claim.post args (.bool true) args=true:=
 postW_of (r:=l.row.toRowW) (X:=(true==true))
  (show WShape.has [] (.bool true) .bool=true by first|rfl|decide|simp[WShape.has,WShape.arms,WShape.armsAll])
  (show(WTm.eq .res (.lit (.bool true))).value [] {args:=args,res:=some (.bool true),after:=args}=some (.bool (true==true))from w_eq_bool (w_res rfl) w_lit) rfl
theorem xfW{l:OpenLaw}{n:Nat}{q:aF}{loose:List Str}{XP:(Str→Option Value)→Heap→Prop}{YP:World→Heap→Prop}{d:DefRec}
  (hn:l.most=some n) (hdf:d.params.defaults=[])
  (call:∀(w:World) (s₀ s₁:ae) (mg mb:Str→Option Value) (fa:Addr) (o:Obj) (pm cd doc:Value) (a:Addr) (vs:List Value) (ns:List Int),
   Ground q loose [] XP w s₀ mg mb s₁.heap→YP w s₁.heap→
   s₁.heap.get? fa=some o→o.data= .func (docDef d.name d.params d.body d.scope pm cd doc)→s₁.heap.CodeRec cd d.name→mg d.name=some (.ref fa)→
   s₁.heap.get? a=some {cls:=.type "list",data:=.seq vs.toArray}→cE vs ns→ns.length≤n→s₁.gens=#[]→
   cQ (model l.prog w) iT (.call (.ref fa) ⟨[.ref a],[]⟩) (fun r s'=>r= .ok (.ret (.bool true))∧OldK s₁.heap s'.heap∧s'.os=s₁.os∧fB s'.gens) s₁):
  WalkO q loose XP YP l.row.toRowW d [] (fun f vs=>PySem.call f vs):=by
 intro w s₀ s₁ mg mb G Y fa o pm cd doc dV kV ho hd hcd hD hmg hg args vals as hpre hlay hrd hwl hlo;obtain rfl:dV= .none:=Dflts.none hD hdf;obtain rfl:kV= .none:=Dflts.noKw hD;obtain⟨a,vs,ns,rfl,rfl,hobj,hints,hlen⟩:=xh8 hn hpre hwl;refine enter_call (dB (call w s₀ s₁ mg mb fa o pm cd doc a vs ns G Y ho (fd_plain hd) hcd hmg hobj hints hlen hg) fun r s' hq=>?_);obtain⟨rfl,h2,h3,h4⟩:=hq;exact⟨.inl ⟨.bool true,.bool true,[],rfl,fun _=>rfl,.bool true,xh9 l _,fun _=>⟨List.Pairwise.nil,fun _ hm=>(nomatch hm)⟩⟩,h2,h3,h4⟩
section
variable {prog:aF} {w:World} {A:aU} {E:Value→ae→Prop} {s:ae} {K:Frag}
end
end Att
namespace L2
open PySem PySem.Spec PyProof.Rows
theorem xaG:∀{vs:List Value} {ns:List Int},cE vs ns→Vals (ns.map V.int) vs
 |_,_,.nil=>.nil
 |_,_,.cons n t h=>.cons ⟨t,rfl⟩ (xaG h)
end L2
namespace L2
open PySem PySem.Spec PyProof.Rows
end L2
namespace L2
open PySem PySem.Spec PyProof.Rows
def inClass(s:Stmt)(j:Nat):Stmt:=match s with
 | .ClassDef _ _ _ body _ _ _ _ _ _ _=>body.getD j (.Pass ⟨0,0,0,0⟩)
 |_=>.Pass ⟨0,0,0,0⟩
def ye(s:Stmt):cG:=match s with
 | .FunctionDef _ a _ _ _ _ _ _ _ _=>a
 |_=>{posonlyargs:=[],args:=[],vararg:=none,kwonlyargs:=[],kw_defaults:=[],kwarg:=none,defaults:=[]}
def xQ(s:Stmt):List Stmt:=match s with
 | .FunctionDef _ _ b _ _ _ _ _ _ _=>b
 |_=>[]
def xn(s:Stmt):Scope:=match s with
 | .FunctionDef _ _ _ _ _ _ sc _ _ _=>sc
 |_=>{kind:=.function,names:=[],isGenerator:=false,isCoroutine:=false}
abbrev CX0:CXT:=fun _ _ _ _ _ _=>False
abbrev E0:XK:=fun _ _ _=>False
theorem xw{X:Cx}:Passes CX0 X E0:=fun _ _ _ _ _ _ _ h=>h.elim
structure Fun(K:ai)(x qual:Str)(st:Stmt)(f:Addr)(fd:aR):Prop where
 ex:∃(oc:Value) (od:Option Addr) (kV doc pm:Value) (an:Option Addr) (cdv ct:Value) (osl:Array (Option Value)),
  fd=dD x qual (ye st) (xQ st) (xn st) .none kV doc pm an cdv ct∧K.lookup f=some ⟨oc,od,.func fd,osl⟩∧fj K cdv qual=true
 kp:dQ K (.ref f)=true
section
variable {P:aF} {w:World} {K:ai} {mg:Str→Option Value} {base:Heap}
theorem Fun.ok{x qual:Str}{st:Stmt}{f:Addr}{fd:aR}{N ps:List Str}{k:Nat}{sp:Sp}(F:Fun K x qual st f fd)(S:xy N ps (xn st))(len:∀vs H Q E,sp vs H Q E→vs.length=ps.length)
  (hbody:∀(cdv:Value) (A:aU) (outer:List Env) (s:ae) (H:Hp) (vs:List V) (Q:VK) (E:XK),xO k (A.deeper (gy qual (xn st) s.heap.objs.size f cdv))→sp vs H Q E→
   ∃t,PSs (jP CX0 P w K mg base N qual (xn st) f cdv A outer s H E).nox (xQ st) t∧t {nx:=fun _ H'=>Q .non H',rt:=Q} (start N vs) H):xG P w K mg base CX0 (k+1) f fd ps sp:=by
 obtain⟨oc,od,kV,doc,pm,an,cdv,ct,osl,rfl,lk,hcd⟩:=F.ex;refine xkb lk hcd S len fun A outer s H vs Q E hr hsp=>?_;obtain⟨t,h,q⟩:=hbody cdv A outer s H vs Q E hr hsp;exact⟨t,h.nox,q⟩
theorem Fun.binds{x qual:Str}{st:Stmt}{f:Addr}{fd:aR}{ps:List Str}(F:Fun K x qual st f fd)
  (h:∀(kV doc pm:Value) (an:Option Addr) (cdv ct:Value) (us:List Value),us.length=ps.length→gc (dD x qual (ye st) (xQ st) (xn st) .none kV doc pm an cdv ct) ⟨us,[]⟩=pure (ps.zip us)):Binds K fd ps []:=by
 obtain⟨oc,od,kV,doc,pm,an,cdv,ct,osl,rfl,lk,hcd⟩:=F.ex;exact .all (h kV doc pm an cdv ct)
theorem xaH{x qual:Str}{st:Stmt}{f:Addr}{oc:Value}{od an:Option Addr}{osl:Array (Option Value)}{kV doc pm cdv ct:Value}(l:K.lookup f=some ⟨oc,od,.func (dD x qual (ye st) (xQ st) (xn st) .none kV doc pm an cdv ct),osl⟩)
  (c:fj K cdv qual=true) (k:dQ K (.ref f)=true):Fun K x qual st f (dD x qual (ye st) (xQ st) (xn st) .none kV doc pm an cdv ct):=⟨⟨oc,od,kV,doc,pm,an,cdv,ct,osl,rfl,l,c⟩,k⟩
end
theorem xke{A:aU}{k:Nat}(hr:xO k A):A.units+1<cLine:=fh (Nat.add_le_add_left (by decide:1≤64) _) hr.units
section
variable {X:Cx}
end
def xc(H H':Hp):Prop:=∀b o,H b=some o→H' b=some o
theorem xc.refl(H:Hp):xc H H:=fun _ _ h=>h
theorem xc.trans{H H1 H2:Hp}(a:xc H H1)(b:xc H1 H2):xc H H2:=fun c o h=>b c o (a c o h)
theorem xc.free{H H':Hp}(e:xc H H'){l:Addr}(h:H' l=Option.none):H l=Option.none:=by
 cases q:H l with
 |none=>rfl
 |some o=>
  rw[e l o q]at h;cases h
theorem xc.seq{K:ai}{H H':Hp}{a:Addr}{xs:List V}(e:xc H H')(h:SqL K H a xs):SqL K H' a xs:=by
 rcases h with(h|⟨o,h⟩)|h
 ·exact .inl (.inl (e _ _ h))
 ·exact .inl (.inr ⟨o,e _ _ h⟩)
 ·exact .inr h
section
variable {X:Cx}
theorem xia:yt X (.builtin "len") (fun xs H Q=>∃a kvs,xs=[V.ref a]∧H a=some (.dK kvs)∧Q (.int kvs.length) H):=by
 intro pins s σ H xs us Q I r h;obtain⟨a,kvs,rfl,ha,q⟩:=h;obtain⟨u,rfl,ru⟩:=vals1 r;cases ru;exact xmS I (.inl ha) fun t s' I'=>⟨.int kvs.length,H,I',⟨t,rfl⟩,q⟩
end
section
variable {κ:Type} [DecidableEq κ]
theorem xgr:∀{l:List κ} {k:κ},l.Nodup→¬k∈l→(l++[k]).Nodup
 |[],k,_,_=>by simp
 |a::r,k,h,hk=>by
  obtain⟨h1,h2⟩:=bZ.mp h;show(a::(r++[k])).Nodup;refine bZ.mpr ⟨fun m=>?_,xgr h2 fun m=>hk (az.mpr (gf m))⟩;rcases bb.mp m with q|q
  ·exact h1 q
  ·exact hk (az.mpr (aS (aH.mp q).symm))
end
end L2
set_option maxHeartbeats 4000000
namespace L2
open PySem PySem.Spec PyProof.Rows
section
variable {X:Cx}
theorem PE.imp{e:Expr}{t t':TE}(h:PE X e t)(i:∀σ H Q,t' σ H Q→t σ H Q):PE X e t':=
 fun pins s σ H Q I q=>h pins s σ H Q I (i σ H Q q)
theorem PT.imp{e:Expr}{t t':TT}(h:PT X e t)(i:∀σ H Q,t' σ H Q→t σ H Q):PT X e t':=
 fun pins s σ H Q I q=>h pins s σ H Q I (i σ H Q q)
theorem OpR.imp{f:Value→Value→Sem Value}{r r':R2}(h:OpR X f r)(i:∀x y H Q,r' x y H Q→r x y H Q):OpR X f r':=
 fun pins s σ H x y v u Q I rx ry q=>h pins s σ H x y v u Q I rx ry (i x y H Q q)
theorem UnR.imp{f:Value→Sem Value}{r r':V→Hp→VK→Prop}(h:UnR X f r)(i:∀x H Q,r' x H Q→r x H Q):UnR X f r':=
 fun pins s σ H x v Q I rx q=>h pins s σ H x v Q I rx (i x H Q q)
theorem yt.imp{f:Value}{r r':List V→Hp→VK→Prop}(h:yt X f r)(i:∀xs H Q,r' xs H Q→r xs H Q):yt X f r':=
 fun pins s σ H xs us Q I rv q=>h pins s σ H xs us Q I rv (i xs H Q q)
theorem xib{e:Expr}{t u:TE}(h:PE X e t)(k:PE X e u):PE X e (fun σ H Q=>t σ H Q∨u σ H Q):=
 fun pins s σ H Q I q=>q.elim (fun z=>h pins s σ H Q I z) (fun z=>k pins s σ H Q I z)
def jr(i:Nat):TE:=fun σ H Q=>match σ[i]? with
 |some (some v)=>Q v H
 |_=>False
theorem xjl{i:Nat}{σ:St}{H:Hp}{Q:VK}(q:jr i σ H Q):xlv i σ H Q:=by
 unfold jr at q
 split at q
 ·rename_i v e;exact⟨v,e,q⟩
 ·exact q.elim
theorem cv(i:Nat){x:Str}{pos:Pos}(hN:X.N[i]? =some x:=by rfl)(hv:Vis X.env.scope x:=by first|exact aS rfl|exact gf (aS rfl)|exact gf (gf rfl))(hd:(x==("__debug__":Str))=false:=by decide)
  (hcd:(x==("__classdict__":Str))=false:=by decide):PE X (.Name x pos) (jr i):=(xlw hN hv hd hcd).imp fun _ _ _ q=>xjl q
def kI(C:Int→Int→Prop)(g:Int→Int→V):R2:=fun x y H Q=>match x with
 | .int i=>(match y with
  | .int j=>C i j∧Q (g i j) H
  |_=>False)
 |_=>False
def kI0(g:Int→Int→V):R2:=fun x y H Q=>match x with
 | .int i=>(match y with
  | .int j=>Q (g i j) H
  |_=>False)
 |_=>False
theorem xcB{C:Int→Int→Prop}{g:Int→Int→V}{x y:V}{H:Hp}{Q:VK}(q:kI C g x y H Q):rI C g x y H Q:=by
 cases x with
 |int i=>
  cases y with
  |int j=>exact⟨i,j,rfl,rfl,q.1,q.2⟩
  |_=>exact bS q
 |_=>exact bS q
theorem uE{g:Int→Int→V}{x y:V}{H:Hp}{Q:VK}(q:kI0 g x y H Q):rI0 g x y H Q:=by
 cases x with
 |int i=>
  cases y with
  |int j=>exact⟨i,j,rfl,rfl,q⟩
  |_=>exact bS q
 |_=>exact bS q
theorem xI:OpR X (dg .Add) (kI0 fun i j=>.int (i+j)):=xlH.imp fun _ _ _ _=>uE
theorem vw:OpR X (dg .Sub) (kI0 fun i j=>.int (i - j)):=xlI.imp fun _ _ _ _=>uE
theorem xbr:OpR X (dg .Mult) (kI xgW fun i j=>.int (i*j)):=xlJ.imp fun _ _ _ _=>xcB
def xkf(_i j:Int):Prop:=0<j∧j.natAbs.log2<9000
theorem yg:OpR X (dg .FloorDiv) (kI xkf fun i j=>.int (i / j)):=
 (opI (C:=xkf) (g:=fun i j=>i / j) fun i j _ _ _ _ _ hc q=>by
  have h0:0<j:=hc.1;rw[←Int.fdiv_eq_ediv_of_nonneg i (Int.le_of_lt h0)]at q;exact floordiv_int (Int.ne_of_gt h0) q (.inl (PyProof.noPylong_of_log2 hc.2))).imp fun _ _ _ _=>xcB
theorem xS:OpR X (dg .Mod) (kI (fun _ j=>0<j) fun i j=>.int (i%j)):=xlK.imp fun _ _ _ _=>xcB
theorem xg7:OpR X (dg .Pow) (kI xlG fun i j=>.int (i^j.toNat)):=xlL.imp fun _ _ _ _=>xcB
theorem jQ:OpR X (bD .Lt) (kI0 fun i j=>.bl (decide (i<j))):=xmJ.imp fun _ _ _ _=>uE
theorem xeK:OpR X (bD .Gt) (kI0 fun i j=>.bl (decide (j<i))):=xmK.imp fun _ _ _ _=>uE
theorem xl0:OpR X (bD .GtE) (kI0 fun i j=>.bl (decide (j≤i))):=xmL.imp fun _ _ _ _=>uE
theorem xem{a b:V}{p:Prop}[Decidable p](h:a=b↔p):decide (a=b)=decide p:=by
 by_cases e:p
 ·rw[decide_eq_true e,decide_eq_true (h.mpr e)]
 ·rw[decide_eq_false e,decide_eq_false (fun q=>e (h.mp q))]
theorem zc:OpR X (bD .Eq) (kI0 fun i j=>.bl (decide (i=j))):=xj8.imp fun x y H Q q=>by
 obtain⟨i,j,rfl,rfl,q⟩:=uE q;exact⟨rfl,by rw[xem (p:=i=j) ⟨fun e=>V.int.inj e,fun e=>by rw[e]⟩];exact q⟩
theorem xen:OpR X (bD .NotEq) (kI0 fun i j=>.bl (!decide (i=j))):=xj9.imp fun x y H Q q=>by
 obtain⟨i,j,rfl,rfl,q⟩:=uE q;exact⟨rfl,by rw[xem (p:=i=j) ⟨fun e=>V.int.inj e,fun e=>by rw[e]⟩];exact q⟩
def kS0(g:Str→Str→V):R2:=fun x y H Q=>match x with
 | .str i=>(match y with
  | .str j=>Q (g i j) H
  |_=>False)
 |_=>False
theorem xgs{g:Str→Str→V}{x y:V}{H:Hp}{Q:VK}(q:kS0 g x y H Q):∃i j,x= .str i∧y= .str j∧Q (g i j) H:=by
 cases x with
 |str i=>
  cases y with
  |str j=>exact⟨i,j,rfl,rfl,q⟩
  |_=>exact bS q
 |_=>exact bS q
theorem xkg:OpR X (bD .Eq) (kS0 fun i j=>.bl (decide (i=j))):=xj8.imp fun x y H Q q=>by
 obtain⟨i,j,rfl,rfl,q⟩:=xgs q;exact⟨rfl,by rw[xem (p:=i=j) ⟨fun e=>V.str.inj e,fun e=>by rw[e]⟩];exact q⟩
theorem xmT:OpR X (bD .NotEq) (kS0 fun i j=>.bl (!decide (i=j))):=xj9.imp fun x y H Q q=>by
 obtain⟨i,j,rfl,rfl,q⟩:=xgs q;exact⟨rfl,by rw[xem (p:=i=j) ⟨fun e=>V.str.inj e,fun e=>by rw[e]⟩];exact q⟩
def kU(g:Int→V):V→Hp→VK→Prop:=fun x H Q=>match x with
 | .int i=>Q (g i) H
 |_=>False
theorem xmU:UnR X (unaryOp .USub) (kU fun i=>.int (-i)):=xlM.imp fun x H Q q=>by
 cases x with
 |int i=>exact⟨i,rfl,q⟩
 |_=>exact bS q
def xg8(Q:Bool→Hp→Prop):VK:=fun x H1=>match x with
 | .bl k=>Q k H1
 |_=>False
theorem jR{Q:Bool→Hp→Prop}{x:V}{H1:Hp}(q:xg8 Q x H1):∃k,x= .bl k∧Q k H1:=by
 cases x with
 |bl k=>exact⟨k,rfl,q⟩
 |_=>exact bS q
def cB(t:TE):TT:=fun σ H Q=>t σ H (xg8 Q)
variable {a b c:Expr} {ta tb tc:TE} {tA tB':TT} {pos:Pos} {rest:List Expr}
theorem xC{op:CmpOp}{r:R2}(ho:OpR X (bD op) r)(ha:PE X a ta)(hb:PE X b tb)(hm:df op b=false:=by exact xhX _):PT X (.Compare a [op] [b] pos) (cB (tOp r ta tb)):=by
 intro pins s σ H Q I h;refine gK (thn (ha pins s σ H _ I h) fun v s1 ⟨x,H1,I1,r1,q1⟩=>thn (hb pins s1 σ H1 _ I1 q1) fun u s2 ⟨y,H2,I2,r2,q2⟩=>
  thn (ho pins s2 σ H2 x y v u _ I2 r1 r2 q2) fun c s3 ⟨z,H3,I3,r3,q3⟩=>?_) hm
 obtain⟨k,rfl,q⟩:=jR q3;cases r3;exact cS ⟨H3,I3,q⟩
theorem xaI{op:CmpOp}{r:R2}(ho:OpR X (bD op) r)(ha:PE X a ta)(hb:PE X b tb)(hm:df op b=false:=by exact xhX _):PE X (.Compare a [op] [b] pos) (tOp r ta tb):=xkq ho ha hb hm
theorem yv{e:Expr}{t:TE}(h:PE X e t)(he:∀whole,isTrue e X.env whole=(do let v ←whole;standAt e.pos;gq [v] (truthy v)):=by intro _;rfl):PT X e (cB t):=by
 intro pins s σ H Q I hw;refine isTrue_plain (thn (h pins s σ H _ I hw) fun v s1 ⟨x,H1,I1,r1,q1⟩=>?_) (he _);obtain⟨d,rfl,q⟩:=jR q1;cases r1;exact cS ⟨H1,I1,q⟩
def xnD(t u:TT):TT:=fun σ H Q=>t σ H fun c H1=>(c=true→u σ H1 Q)∧(c=false→Q false H1)
def cOr(t u:TT):TT:=fun σ H Q=>t σ H fun c H1=>(c=true→Q true H1)∧(c=false→u σ H1 Q)
theorem ug(ha:PT X a tA)(hb:PW X (.BoolOp .And (b::rest) pos) tB'):PW X (.BoolOp .And (a::b::rest) pos) (xnD tA tB'):=by
 intro wh pins s σ H Q I h;refine isTrue_and (thn (ha pins s σ H _ I h) fun c s1 ⟨H1,I1,q1⟩=>?_);cases c with
 |true=>exact hb wh pins s1 σ H1 Q I1 (q1.1 rfl)
 |false=>exact⟨H1,I1,q1.2 rfl⟩
theorem zp(ha:PT X a tA)(hb:PW X (.BoolOp .Or (b::rest) pos) tB'):PW X (.BoolOp .Or (a::b::rest) pos) (cOr tA tB'):=by
 intro wh pins s σ H Q I h;refine isTrue_or (thn (ha pins s σ H _ I h) fun c s1 ⟨H1,I1,q1⟩=>?_);cases c with
 |true=>exact⟨H1,I1,q1.1 rfl⟩
 |false=>exact hb wh pins s1 σ H1 Q I1 (q1.2 rfl)
def xmV(ta tb:TE):TE:=fun σ H Q=>ta σ H (xg8 fun c H1=>(c=true→tb σ H1 Q)∧(c=false→Q (.bl false) H1))
theorem xl1(ha:PE X a ta)(hb:PE X (.BoolOp .And (b::rest) pos) tb):PE X (.BoolOp .And (a::b::rest) pos) (xmV ta tb):=by
 intro pins s σ H Q I h;refine BoolOp_and (thn (ha pins s σ H _ I h) fun v s1 ⟨x,H1,I1,r1,q1⟩=>?_);obtain⟨c,rfl,q1⟩:=jR q1;cases r1;refine cS ?_;cases c with
 |true=>exact hb pins s1 σ H1 Q I1 (q1.1 rfl)
 |false=>exact⟨.bl false,H1,I1,rfl,q1.2 rfl⟩
def xnE(c:TT)(t u:TS):TS:=fun D σ H=>c σ H fun b H1=>(b=true→t D σ H1)∧(b=false→u D σ H1)
theorem xT{c:Expr}{p q:List Stmt}{tc:TT}{t u:TS}(hc:PT X c tc)(ha:PSs X p t)(hb:PSs X q u):PS X (.If c p q pos) (xnE tc t u):=by
 intro pins s σ H D I h;refine wpAny_If (thn (hc pins s σ H _ I h) fun d s1 ⟨H1,I1,q1⟩=>?_);cases d with
 |true=>exact ha pins s1 σ H1 D I1 (q1.1 rfl)
 |false=>exact hb pins s1 σ H1 D I1 (q1.2 rfl)
@[irreducible] def xbs(c:TT)(tb:TS)(D:Ends)(σ:St)(H:Hp):Prop:=∃W:Nat→St→Hp→Prop,(∃m,W m σ H)∧∀m σ H,W m σ H→
 c σ H fun b H1=>(b=true→∃N:St→Hp→Prop,(∀σ' H',N σ' H'→∃m',m'<m∧W m' σ' H')∧tb {D with nx:=N,ct:=N,bk:=D.nx} σ H1)∧(b=false→D.nx σ H1)
def xic(c:TT)(tb:TS):TS:=fun D σ H=>xbs c tb D σ H
@[irreducible] def uh(J:It)(g:TG)(tb:TS)(D:Ends)(σ:St)(H1:Hp):Prop:=∃W:Nat→Nat→St→Hp→Prop,(∃m,W 0 m σ H1)∧∀i m σ H,W i m σ H→
 (J.stop i H∧D.nx σ H)∨(J.go i H∧∃N:St→Hp→Prop,(∀σ' H',N σ' H'→∃m',m'<m∧W (i+1) m' σ' H')∧∀x H',J.yld i H x H'→g x σ H' fun σ2 H2=>tb {D with nx:=N,ct:=N,bk:=D.nx} σ2 H2)
def xg9(wi:TI)(g:TG)(tb:TS):TS:=fun D σ H=>wi σ H fun J H1=>uh J g tb D σ H1
theorem xgt(wi:TI)(g:TG)(tb:TS):xg9 wi g tb=xgV wi g tb:=by
 funext D σ H
 unfold xg9 xgV
 congr 1
 funext J H1
 unfold uh;rfl
theorem uY{tg iter:Expr}{body:List Stmt}{wi:TI}{g:TG}{tb:TS}{pos:Pos}(hp:PassesOwn (model X.prog X.w) X.A X.env X.xe)(hc:X.calm=true)(hi:PI X tg iter wi)(hg:PG X tg g)(hb:PSs X body tb)
  (hs:∀x,eA iter X.env x=pure x:=by intro _;rfl):PS X (.For tg iter body [] pos) (xg9 wi g tb):=by
 rw[xgt];exact xhV hp hc hi hg hb hs
def xnF(t:TS):TS:=fun D σ H=>∃M:L2.St→Hp→Prop,t {D with nx:=M} σ H∧∀σ' H',M σ' H'→D.nx σ' H'
theorem xeL{st:Stmt}{t:TS}(h:PS X st t):PS X st (xnF t):=by
 intro pins s σ H D I q;obtain⟨M,q1,q2⟩:=q;refine thn (h pins s σ H _ I q1) fun f s' z=>?_;cases f with
 |next=>obtain⟨σ',H',I',m⟩:=z;exact⟨σ',H',I',q2 σ' H' m⟩
 |brk=>exact z
 |cont=>exact z
 |ret v=>exact z
def xl2(i:Nat):TG:=fun v σ H Q=>∀y,y=v→Q (σ.set i (some y)) H
theorem xkB(te:TE)(i:Nat):xb4 te (xl2 i)=xb4 te (jN i):=by
 funext D σ H
 unfold xb4
 congr 1
 funext x H1
 exact propext ⟨fun q=>q x rfl,fun q y e=>by rw[e];exact q⟩
theorem ui{i:Nat}{x:Str}{e:Expr}{te:TE}{pos':Pos}(hN:X.N.Nodup)(hi:X.N[i]? =some x)(hx:Loc X.env.scope x)(he:PE X e te)(hs:j6 e (some (.Name x pos')) pos.line X.env=pure false:=by rfl)
  (hf:X.fn x=true∨X.env.scope.names.lookup x=some .local:=by first|exact .inl rfl|exact .inr rfl|assumption):PS X (.Assign [.Name x pos'] e pos) (xb4 te (xl2 i)):=by
 rw[xkB];exact xt hN hi hx he hs hf
theorem vD{e:Int}{G:V→Prop}(h:∀i,i=e→G (.int i)):∀y,y=V.int e→G y:=fun y q=>by rw[q];exact h e rfl
theorem xde{v:V}{G:V→Prop}(h:G v):∀y,y=v→G y:=fun y q=>by rw[q];exact h
end
end L2
namespace L2
open PySem PySem.Spec PyProof.Rows
def yr(cells:List (Str×Addr)):List (Str×dS)→List (Str×Addr)→List (Str×Addr)
 |[],cs=>cs
 |(n,k)::r,cs=>yr cells r (if k== .free then(n,(cells.lookup n).getD 0)::cs else cs)
theorem vx{scope:Scope}{env:Env}(h:∀y∈scope.names,y.2= .free→∃c,env.cells.lookup y.1=some c):kW scope env=pure (yr env.cells scope.names []):=by
 have all:∀(l:List (Str×dS)) (cs:List (Str×Addr)),(∀y∈l,y.2= .free→∃c,env.cells.lookup y.1=some c)→
   (forIn l cs fun x r=>match x with
    |(name,kind)=>if (kind==b9)=true then do let a ←cellOf env name;pure (fi ((name,a)::r))else pure (fi r):Sem (List (Str×Addr)))=pure (yr env.cells l cs):=by
  intro l
  induction l with
  |nil=>intro cs _;rfl
  |cons y r ih=>
   intro cs hl;obtain⟨n,k⟩:=y;rw[j9]
   by_cases hk:k= .free
   ·subst hk;obtain⟨c,hc⟩:=hl (n,.free) aA rfl;have e:cellOf env n=pure c:=by unfold cellOf;rw[hc]
    simp only[beq_self_eq_true,if_true,e,pure_bind];rw[ih _ fun z hz=>hl z (aq _ hz)];simp[yr,hc]
   ·have hb:(k==b9)=false:=by simpa using hk
    simp only[hb,aV,if_false,pure_bind];rw[ih _ fun z hz=>hl z (aq _ hz)];simp[yr,hb]
 unfold kW;have:=all scope.names [] h;simp only[bind_pure]at this⊢;exact this
theorem jS{cells:List (Str×Addr)}:∀{l:List (Str×dS)} {cs:List (Str×Addr)} {x:Str} {c:Addr},(∀y∈l,y.2= .free→∃c,cells.lookup y.1=some c)→(yr cells l cs).lookup x=some c→
  cs.lookup x=some c∨cells.lookup x=some c
 |[],cs,x,c,_,h=>.inl h
 |(n,k)::r,cs,x,c,hl,h=>by
  unfold yr at h;rcases jS (fun z hz=>hl z (aq _ hz)) h with q|q
  ·split at q
   ·rename_i hk;rw[cC]at q
    split at q
    ·rename_i hx;obtain⟨c',hc⟩:=hl (n,k) aA (by simpa using hk);have e:x=n:=by simpa using hx
     subst e;rw[hc]at q
     right
     rw[hc];simpa using q
    ·exact .inl q
   ·exact .inl q
  ·exact .inr q
theorem uF{cells:List (Str×Addr)}:∀{l:List (Str×dS)} {cs:List (Str×Addr)} {x:Str},(x,b9)∈l∨(∃c,cs.lookup x=some c)→∃c,(yr cells l cs).lookup x=some c
 |[],cs,x,h=>by
  rcases h with h|h
  ·simp at h
  ·exact h
 |(n,k)::r,cs,x,h=>by
  unfold yr;refine uF ?_;rcases h with h|⟨c,h⟩
  ·rcases az.mp h with h|h
   ·cases h
    right
    simp
   ·exact .inl h
  ·right
   split
   ·rw[cC]
    split
    ·exact⟨_,rfl⟩
    ·exact⟨c,h⟩
   ·exact⟨c,h⟩
def Cx.blk(X:Cx)(scope:Scope)(C:Addr)(Nc:List Str)(s₂:ae)(H₂:Hp)(fp:List Addr):Cx:=
 {X with N:=Nc,s₀:=s₂,H₀:=H₂,env:=compEnvC scope (yr X.env.cells scope.names []) C X.env,outer:=X.stack,stack:=X.stack,ex:=fp,fn:=fun _=>false,pn:=[],xe:=fun _ _=>False,cp:=fun _=>false}
def jT(X:Cx)(scope:Scope):List Nat→List Str→Prop
 |[],[]=>True
 |j::js,y::ys=>(X.N[j]? =some y∧scope.names.lookup y=some .free∧(X.env.kindOf y=some .cell∨X.env.kindOf y=some .free))∧jT X scope js ys
 |_,_=>False
def yV(σ:St)(cap:List Nat):St:=cap.map fun j=>(σ[j]?).getD none
structure zq(X:Cx)(scope:Scope)(x:Str)(cap:List Nat)(ys:List Str):Prop where
 kind:scope.kind= .function
 nocell:∀y∈scope.names,y.2≠.cell
 locs:∀y∈scope.names,y.2= .local→scope.names.lookup y.1=some .local
 lx:scope.names.lookup x=some .local
 fr:∀y∈scope.names,y.2= .free→X.env.kindOf y.1=some .cell∨X.env.kindOf y.1=some .free
 cap:jT X scope cap ys
 nd:(x::ys).Nodup
theorem yy{X:Cx}{scope:Scope}{x:Str}{cap:List Nat}{ys:List Str}(kind:scope.kind= .function)(h1:(scope.names.all fun y=> !(y.2== .cell))=true)(h2:(scope.names.all fun y=> !(y.2== .local)||scope.names.lookup y.1==some .local)=true)
  (hx:scope.names.lookup x=some .local) (h3:(scope.names.all fun y=> !(y.2== .free)||(X.env.kindOf y.1==some .cell||X.env.kindOf y.1==some .free))=true) (hcap:jT X scope cap ys) (hnd:(x::ys).Nodup):zq X scope x cap ys:=by
 refine⟨kind,fun y hy e=>?_,fun y hy e=>?_,hx,fun y hy e=>?_,hcap,hnd⟩
 ·have:=cM.mp h1 y hy;rw[e]at this;exact absurd this (by decide)
 ·have:=cM.mp h2 y hy;rw[e]at this;simpa using this
 ·have:=cM.mp h3 y hy;rw[e]at this;simpa using this
theorem uZ{X:Cx}{scope:Scope}{σ:St}:∀{cap:List Nat} {ys:List Str} {i:Nat} {y:Str} {v:V},jT X scope cap ys→ys[i]? =some y→(yV σ cap)[i]? =some (some v)→
  ∃j:Nat,X.N[j]? =some y∧σ[j]? =some (some v)∧scope.names.lookup y=some .free∧(X.env.kindOf y=some .cell∨X.env.kindOf y=some .free)
 |[],[],i,y,v,_,h,_=>by simp at h
 |j::js,z::zs,0,y,v,⟨⟨h1,h2,h3⟩,_⟩,e1,e2=>by
  simp at e1;subst e1;refine⟨j,h1,?_,h2,h3⟩;simp only[yV,a9,List.getElem?_cons_zero,l5]at e2;cases q:σ[j]? with
  |none=>rw[q]at e2;cases e2
  |some w=>rw[q]at e2;simp at e2;rw[e2]
 |j::js,z::zs,i+1,y,v,⟨_,h⟩,e1,e2=>uZ (i:=i) h (by simpa using e1) (by simpa [yV]using e2)
 |[],_::_,_,_,_,h,_,_=>h.elim
 |_::_,[],_,_,_,h,_,_=>h.elim
theorem xaJ{X:Cx}{scope:Scope}:∀{cap:List Nat} {ys:List Str},jT X scope cap ys→cap.length=ys.length
 |[],[],_=>rfl
 |_::_,_::_,⟨_,h⟩=>by simp[xaJ h]
 |[],_::_,h=>h.elim
 |_::_,[],h=>h.elim
theorem vM{l:List (Str×dS)}{y:Str}{k:dS}(h:l.lookup y=some k):(y,k)∈l:=PySem.mem_of_lookup h
theorem vN{env:Env}:∀{names:List (Str×dS)} {x:Str},names.lookup x=some .free→
  (names.map fun(n,k)=>if (k==b9&&env.scope.kind== .function&&env.kindOf n==some .cell)then(n,lj)else(n,k)).lookup x=some .cell∨
  (names.map fun(n,k)=>if (k==b9&&env.scope.kind== .function&&env.kindOf n==some .cell)then(n,lj)else(n,k)).lookup x=some .free
 |[],_,h=>by simp at h
 |(n,k)::r,x,h=>by
  have ih:= @vN env r x;rw[a9];rw[cC]at h;cases hx:x==n with
  |true=>
   rw[hx]at h;simp only[l5]at h;subst h;dsimp only
   split
   ·left;rw[cC,hx]
   ·right;rw[cC,hx]
  |false=>
   rw[hx]at h;dsimp only
   split
   ·rw[cC,hx];exact ih h
   ·rw[cC,hx];exact ih h
theorem zF{env:Env}:∀{names:List (Str×dS)} {x:Str} {k:dS},
  (names.map fun(n,k)=>if (k==b9&&env.scope.kind== .function&&env.kindOf n==some .cell)then(n,lj)else(n,k)).lookup x=some k→(k= .cell∨k= .free)→(∀y∈names,y.2≠.cell)→(x,b9)∈names
 |[],_,_,h,_,_=>by simp at h
 |(n,k')::r,x,k,h,hk,hc=>by
  rw[a9]at h;have hc':∀y∈r,y.2≠.cell:=fun y hy=>hc y (aq _ hy);have nk:k'≠.cell:=hc (n,k') aA;dsimp only at h
  split at h
  ·rename_i q;rw[cC]at h
   split at h
   ·rename_i hx;have e:x=n:=by simpa using hx
    have e2:k'= .free:=by
     simp only[dh,beq_iff_eq]at q;exact q.1.1
    rw[e,e2];exact aA
   ·exact aq _ (zF h hk hc')
  ·rw[cC]at h
   split at h
   ·rename_i hx;have e:x=n:=by simpa using hx
    have e3:k'=k:=by simpa using h
    rcases hk with q|q
    ·exact absurd (e3.trans q) nk
    ·rw[e,e3,q];exact aA
   ·exact aq _ (zF h hk hc')
section
variable {X:Cx} {scope:Scope} {x:Str} {cap:List Nat} {ys:List Str}
theorem zq.clos(B:zq X scope x cap ys)(ok:X.Ok):∀y∈scope.names,y.2= .free→∃c,X.env.cells.lookup y.1=some c:=fun y hy e=>ok.has y.1 (B.fr y hy e)
theorem zq.sub(B:zq X scope x cap ys)(ok:X.Ok){z:Str}{c:Addr}(h:(yr X.env.cells scope.names []).lookup z=some c):X.env.cells.lookup z=some c:=by
 rcases jS (B.clos ok) h with q|q
 ·simp at q
 ·exact q
theorem zq.start{pins:List (Addr×Obj)}{σ:St}{H₂:Hp}{s₂:ae}{fp:List Addr}{h₁:Heap}{tk:Nat}{C D:Addr}(B:zq X scope x cap ys)(I:Inv X pins σ H₂ s₂)
  (hf:∀b∈fp,uD X pins H₂ b) (hD:s₂.heap.objs.size≤D) (hC:s₂.heap.objs.size≤C) (hDC:D≠C) (hk:∀b o,s₂.heap.get? b=some o→h₁.get? b=some o)
  (hns:∃m,h₁.Ns C m) (hl:h₁.get? D=some {cls:=.type "list",data:=.seq ([]:List Value).toArray}) (hfp:∀b∈fp,b<s₂.heap.objs.size):
  Inv (X.blk scope C (x::ys) s₂ H₂ fp) [] (none::yV σ cap) (upd H₂ D (.lst [])) {s₂ with heap:=h₁,toks:=tk}:=by
 have ok:=I.ok;have freshC:H₂ C=none:=I.hok.fresh hC;have freshD:H₂ D=none:=I.hok.fresh hD;have lt:∀b o,s₂.heap.get? b=some o→b<s₂.heap.objs.size:=fun b o e=>aj e;refine⟨⟨ok.mod,B.kind,ok.glob,ok.blt,hC,fun y z c h1 h2=>ok.inj y z c (B.sub ok h1) (B.sub ok h2),fun y hy=>?_,fun y c h=>(aC h).elim,ok.hd,ok.frames,.inl rfl,fun b hb=>⟨?_,fun y c h e=>?_⟩,I.bs,bp ok.bsz I.sz,fun b o e hb=>?_,fun b hb hs=>?_,I.stack,I.stkFree,fun y c h=>(aC h).elim,fun b hb=>I.hok.fresh hb⟩,
  rfl,I.bare,Un.laid hk hD freshD,?_,fun y c h=>?_,?_,fun y c h=>?_,fun p hp=>?_,?_,?_⟩
 ·have hy':(ky scope X.env).names.lookup y=some .cell∨(ky scope X.env).names.lookup y=some .free:=hy;have m:(y,b9)∈scope.names:=by
   rcases hy' with q|q
   ·exact zF q (.inl rfl) B.nocell
   ·exact zF q (.inr rfl) B.nocell
  exact uF (.inl m)
 ·exact ar (aw (hfp b hb) hC)
 ·exact(hf b hb).2.2.2.2.1 y c (B.sub ok h) e
 ·rcases(hf b hb).2.2.2.1 with q|q
  ·exact ok.noex b o e q
  ·exact absurd (aw (aj (ok.bs b o e).1) q) (bV _)
 ·rcases az.mp (I.stkSub b hs)with q|q
  ·exact(hf b hb).2.1 q
  ·exact(hf b hb).2.2.1 q
 ·obtain⟨m,hm⟩:=hns;refine⟨m,hm,fun i y v e1 e2 e3=>?_⟩;cases i with
  |zero=>simp at e2
  |succ i=>
   obtain⟨j,n1,n2,n3,n4⟩:=uZ (i:=i) B.cap (by simpa [Cx.blk]using e1) (by simpa using e2);obtain⟨m0,hn0,hl0⟩:=I.loc;have vis:Vis X.env.scope y:=by
    rcases n4 with q|q
    ·exact .inr (.inl q)
    ·exact .inr (.inr q)
   obtain⟨u,ru,l⟩:=hl0 j y v n1 n2 vis;refine⟨u,ru,.inr ⟨vN n3,?_⟩⟩;rcases l with⟨k,_⟩|⟨_,c,ec,z⟩
   ·rw[k]at n4;rcases n4 with q|q<;> cases q
   ·obtain⟨c',ec'⟩:=uF (cells:=X.env.cells) (cs:=[]) (.inl (vM n3));have:=B.sub ok ec';rw[ec]at this;cases this;obtain⟨o,ho,hd⟩:=z;exact⟨c,ec',o,hk c o ho,hd⟩
 ·obtain⟨v,o,ho,hd⟩:=I.cell y c (B.sub ok h);exact⟨v,o,hk c o ho,hd⟩
 ·show upd H₂ D _ C=none;rw[xk (bO hDC)];exact freshC
 ·obtain⟨v,o,ho,hd⟩:=I.cell y c (B.sub ok h);rw[xk (ar (aw (lt c o ho) hD))];refine(I.freeC y c (B.sub ok h)).imp id fun⟨_,o',ho',hno⟩=>⟨rfl,o',ho',fun z i v e1 k e2=>?_⟩;cases i with
  |zero=>simp at e2
  |succ i=>
   obtain⟨j,n1,n2,n3,n4⟩:=uZ (i:=i) B.cap (by simpa [Cx.blk]using e1) (by simpa using e2);exact hno z j v n1 n4 n2
 ·exact absurd (show p∈([]:List (Addr×Obj))from hp) (by simp)
 ·exact I.hok.laid hk hD ⟨aJ _,[],0,.nil,hl⟩
 ·simp[Cx.blk,yV,xaJ B.cap]
theorem zq.back{pins:List (Addr×Obj)}{σ:St}{H₂ H':Hp}{s₂ s':ae}{fp:List Addr}{C:Addr}{pl:List (Addr×Obj)}{σ':St}(B:zq X scope x cap ys)(I:Inv X pins σ H₂ s₂)
  (hf:∀b∈fp,uD X pins H₂ b) (J:Inv (X.blk scope C (x::ys) s₂ H₂ fp) pl σ' H' s'):Inv X pins σ H' s':=
 I.call' (ch:=fp) J.os J.base J.hok J.bare fun b hb=>by
  obtain⟨f0,f1,f2,f3,f4,f5⟩:=hf b hb;refine⟨?_,f1,f4,f5⟩;rcases f3 with q|q
  ·exact .inl q
  ·exact .inr q
theorem zq.far{pins:List (Addr×Obj)}{σ:St}{H₂ H':Hp}{s₂ s':ae}{fp:List Addr}{C:Addr}{pl:List (Addr×Obj)}{σ':St}(I:Inv X pins σ H₂ s₂)
  (hC:s₂.heap.objs.size≤C) (J:Inv (X.blk scope C (x::ys) s₂ H₂ fp) pl σ' H' s'):
  H' C=none∧C≠X.env.locals∧X.s₀.heap.objs.size≤C∧(∀z c,X.env.cells.lookup z=some c→c≠C)∧∀p∈X.pn++pins,p.1≠C:=by
 refine⟨J.free,eR (aw I.lt hC),bp I.sz hC,fun z c e q=>?_,fun p hp q=>?_⟩
 ·obtain⟨v,w⟩:=I.cell z c e;exact absurd (aw w.lt (by rw[q];exact hC)) (bV _)
 ·exact absurd (aw (aj (I.pin p hp).1) (by rw[q];exact hC)) (bV _)
end
theorem xcC{prog:aF}{w:World}{A:aU}{R:f7→ae→Prop}{s:ae}{elt tg iter:Expr}{ifs:List Expr}{scope:Scope}{pos:Pos}{it acc:Value}{env:Env}(J:Nat→ae→Prop)
  (go:∀n s,J n s→wpAny (model prog w) A (gR it) (fun r s1=>match r with
   |none=>R (.ok .next) s1
   |some v=>wpAny (model prog w) A (gS tg it v) (fun _ s2=>wpAny (model prog w) A (iV tg env v) (fun _ s3=>
     wpAny (model prog w) A (forIn ifs true fun c r=>if r=true then do let ok ←isTrue c env (eval c env);pure (fi ok)else pure (fi r)) (fun ok s4=>
      if ok=true then wpAny (model prog w) A (eval elt env) (fun y s5=>wpAny (model prog w) A (call (.builtin "list.append") [acc,y]) (fun _ s6=>∃m,m<n∧J m s6) (fun _ _=>False) s5) (fun _ _=>False) s4
      else∃m,m<n∧J m s4) (fun _ _=>False) s3) (fun _ _=>False) s2) (fun _ _=>False) s1) (fun _ _=>False) s)
  (n:Nat) (h:J n s):cQ (model prog w) A (.compLoop (.ListComp elt [⟨tg,iter,ifs,0⟩] scope pos) 0 it acc env) R s:=by
 refine codeAny_loop rfl J (fun n s hJ=>?_) n h;show wpAny _ A ((compTurn (.ListComp elt [⟨tg,iter,ifs,0⟩] scope pos) 0 it acc env).onRaise (fun x=>do noteFrame x env;theTreesLotGoes x)) _ _ s;refine wpAny_noted ?_;rw[compTurn_list];refine aa (wpAny_standAt (aa (a8 (go n s hJ) (fun r s1 h1=>?_) fun _ _ z=>z.elim)));cases r with
 |none=>exact ah h1
 |some v=>
  refine aa (a8 h1 (fun _ s2 h2=>aa (a8 h2 (fun _ s3 h3=>aa (a8 h3 (fun ok s4 h4=>?_) fun _ _ z=>z.elim)) fun _ _ z=>z.elim)) fun _ _ z=>z.elim);cases ok with
  |false=>exact ah ⟨rfl,h4⟩
  |true=>
   exact aa (aa (a8 h4 (fun y s5 h5=>aa (a8 h5 (fun _ s6 h6=>ah (ah ⟨rfl,h6⟩)) fun _ _ z=>z.elim)) fun _ _ z=>z.elim))
def CTs(Xc:Cx)(ifs:List Expr)(t:TT):Prop:=
 ∀(pins:List (Addr×Obj)) (s:ae) (σ:St) (H:Hp) (Q:Bool→Hp→Prop),Inv Xc pins σ H s→t σ H Q→
  wpAny (model Xc.prog Xc.w) Xc.A (forIn ifs true fun c r=>if r=true then do let ok ←isTrue c Xc.env (eval c Xc.env);pure (fi ok)else pure (fi r)) (TP Xc pins σ Q) Xc.xe s
def xdf:TT:=fun _ H Q=>Q true H
theorem yz{Xc:Cx}:CTs Xc [] xdf:=fun _ _ _ H _ I q=>wpAny_tests_nil ⟨H,I,q⟩
theorem vE{Xc:Cx}{c:Expr}{t:TT}(h:PT Xc c t):CTs Xc [c] t:=fun pins s σ H Q I q=>wpAny_tests_one (h pins s σ H Q I q)
abbrev CW:=Nat→Nat→List V→Hp→Prop
@[irreducible] def yW(J:It)(caps:St)(tt:TT)(te:TE)(Q:VK)(H2:Hp):Prop:=∀D,H2 D=none→∃W:CW,(∃m,W 0 m [] (upd H2 D (.lst [])))∧
 ∀i m acc H3,W i m acc H3→H3 D=some (.lst acc)∧((J.stop i H3∧Q (.ref D) H3)∨(J.go i H3∧acc.length<aO∧∀v H4,J.yld i H3 v H4→tt (some v::caps) H4 fun b H5=>
  (b=true→te (some v::caps) H5 fun u H6=>H6 D=some (.lst acc)∧∃m',m'<m∧W (i+1) m' (acc++[u]) (upd H6 D (.lst (acc++[u]))))∧(b=false→∃m',m'<m∧W (i+1) m' acc H5)))
def xkh(cap:List Nat)(wi:TI)(tt:TT)(te:TE):TE:=fun σ H Q=>wi σ H fun J H2=>yW J (yV σ cap) tt te Q H2
section
variable {X:Cx} {scope:Scope} {x:Str} {cap:List Nat} {ys:List Str} {elt iter:Expr} {ifs:List Expr} {px pos:Pos} {wi:TI} {tt:TT} {te:TE}
theorem xcD(B:zq X scope x cap ys)(hc:X.calm=true)(he:∀C s H fp,PE (X.blk scope C (x::ys) s H fp) elt te)(ht:∀C s H fp,CTs (X.blk scope C (x::ys) s H fp) ifs tt)
  {pins:List (Addr×Obj)} {σ:St} {s₂:ae} {Q:VK} {RR:Value→Addr→f7→ae→Prop} {itv:Value} {E:Value→ae→Prop}
  (hp:PIE X pins σ (.Name x px) (fun J H2=>yW J (yV σ cap) tt te Q H2) itv s₂)
  (hR:∀(D C:Addr) (H':Hp) (s':ae),Inv X pins σ H' s'→(∃m,s'.heap.Ns C m)→H' C=none→C≠X.env.locals→X.s₀.heap.objs.size≤C→(∀z c,X.env.cells.lookup z=some c→c≠C)→(∀p∈X.pn++pins,p.1≠C)→Q (.ref D) H'→RR (.ref D) C (.ok .next) s'):
  wpAny (model X.prog X.w) X.A (newList []) (fun acc s₃=>wpAny (model X.prog X.w) X.A (kz scope X.env.globals (yr X.env.cells scope.names []) [] X.env.qual none .none (some X.env)) (fun cenv s₄=>
   cQ (model X.prog X.w) X.A (.compStart (.ListComp elt [⟨.Name x px,iter,ifs,0⟩] scope pos) 0 itv acc {cenv with scope:=ky scope X.env}) (RR acc cenv.locals) s₄) E s₃) E s₂:=by
 obtain⟨it,fp,tn,J,H2,e,I2,T,st2,f2,hw⟩:=hp;subst e;unfold yW at hw;refine c6 (gY B.nocell (by intro y hy;simp at hy) (fun h₁ hns₁ hsb₁=>?_) B.kind);dsimp only at hns₁ hsb₁⊢;generalize hG:s₂.heap.push {cls:=.type "list",dict:=none,data:=.seq ([]:List Value).toArray}=G at hns₁ hsb₁⊢;have hsz:G.objs.size=s₂.heap.objs.size+1:=by rw[←hG,c5]
 have hCle:s₂.heap.objs.size≤G.objs.size:=by lia
 have hDC:s₂.heap.objs.size≠G.objs.size:=by lia
 have old:∀b o,s₂.heap.get? b=some o→h₁.get? b=some o:=fun b o q=>by
  have lt:=aj q;refine hsb₁.extBut b o (ar (aw lt hCle)) (af _ ?_);rw[←hG];exact af _ q
 have accAt:h₁.get? s₂.heap.objs.size=some {cls:=.type "list",data:=.seq ([]:List Value).toArray}:=by
  refine hsb₁.extBut _ _ hDC (af _ ?_);rw[←hG];exact aB _ rfl
 have hfp:∀b∈fp,b<s₂.heap.objs.size:=fun b hb=>by
  obtain⟨o,ho,_⟩:=T.obj _ _ st2 b hb;exact aj ho
 obtain⟨W,⟨m0,w0⟩,turn⟩:=hw s₂.heap.objs.size (I2.hok.fresh (ao _));generalize htk:s₂.toks+([]:List (Str×Value)).length=tk;have I0:=B.start (tk:=tk) (C:=G.objs.size) I2 f2 (ao _) hCle hDC old ⟨_,hns₁⟩ accAt hfp;have st0:tn 0 h₁:=T.keep _ _ _ st2 fun b hb o q=>old b o q
 -- what stays true of the iterator's objects
 have f3:∀{H':Hp},(∀b∈fp,H' b=none)→∀b∈fp,uD (X.blk scope G.objs.size (x::ys) s₂ H2 fp) [] H' b:=fun hn b hb=>by
  obtain⟨f0,f1,f2',f3',f4,f5⟩:=f2 b hb;refine⟨hn b hb,ar (aw (hfp b hb) hCle),fun hs=>?_,.inl hb,fun z c q=>f4 z c (B.sub I2.ok q),fun p hp=>absurd (show p∈([]:List (Addr×Obj))from hp) (by simp)⟩;rcases az.mp (I2.stkSub b hs)with q|q
  ·exact f1 q
  ·exact f2' q
 have n0:∀b∈fp,upd H2 s₂.heap.objs.size (.lst []) b=none:=fun b hb=>by
  rw[xk (ar (hfp b hb))];exact(f2 b hb).1
 have loop:∀sx:ae,sx={s₂ with heap:=h₁,toks:=tk}→
   cQ (model X.prog X.w) X.A (.compLoop (.ListComp elt [⟨.Name x px,iter,ifs,0⟩] scope pos) 0 (.ref it) (.ref s₂.heap.objs.size) (compEnvC scope (yr X.env.cells scope.names []) G.objs.size X.env)) (RR (.ref s₂.heap.objs.size) G.objs.size) sx:=by
  rintro sx rfl;refine xcC (fun n s'=>∃i acc H',Inv (X.blk scope G.objs.size (x::ys) s₂ H2 fp) [] (none::yV σ cap) H' s'∧tn i s'.heap∧(∀b∈fp,H' b=none)∧W i n acc H') ?_ m0 ⟨0,[],_,I0,st0,n0,w0⟩;rintro n s3 ⟨i,acc,H3,I3,st3,fr3,w3⟩;obtain⟨hD3,alt⟩:=turn i n acc H3 w3;rcases alt with⟨stop,q⟩|⟨go,hlen,step⟩
  ·refine a8 (T.done (X.blk scope G.objs.size (x::ys) s₂ H2 fp) rfl rfl rfl hc i [] s3 _ H3 (fun _ _=>False) I3 (f3 fr3) st3 stop) (fun r s4 ⟨hr,I4⟩=>?_) fun _ _ z=>z.elim;subst hr;obtain⟨g1,g2,g3,g4,g5⟩:=zq.far I2 hCle I4;obtain⟨m4,hm4,_⟩:=I4.loc;exact hR _ _ H3 s4 (B.back I2 f2 I4) ⟨m4,hm4⟩ g1 g2 g3 g4 g5 q
  ·refine a8 (T.item (X.blk scope G.objs.size (x::ys) s₂ H2 fp) rfl rfl rfl hc i [] s3 _ H3 (fun _ _=>False) I3 (f3 fr3) st3 go) (fun r s4 ⟨u,hr,h4⟩=>?_) fun _ _ z=>z.elim;subst hr;refine a8 h4 (fun _ s4 ⟨v,H4,I4,rv,y4,st4,fr4⟩=>?_) fun _ _ z=>z.elim;have I4':=I4.pinned (f3 fr4) (T.obj _ _ st4);refine iK (xb3 (X:=X.blk scope G.objs.size (x::ys) s₂ H2 fp) (i:=0) I4' B.nd rfl (.inl (dE B.lx)) rv (fun s5 I5=>?_) (.inr (dE B.lx)));have I5':Inv (X.blk scope G.objs.size (x::ys) s₂ H2 fp) ([]++zO fp s4.heap) (some v::yV σ cap) H4 s5:=I5;refine a8 (ht _ _ _ _ _ s5 _ H4 _ I5' (step v H4 y4)) (fun ok s6 ⟨H6,I6,q6⟩=>?_) fun _ _ z=>z.elim;have pinned:∀{σ7:St} {H7:Hp} {s7:ae},Inv (X.blk scope G.objs.size (x::ys) s₂ H2 fp) ([]++zO fp s4.heap) σ7 H7 s7→tn (i+1) s7.heap∧∀b∈fp,H7 b=none:=fun{σ7 H7 s7} I7=>by
    refine⟨T.keep _ _ _ st4 fun b hb o e=>(I7.pin (b,o) (aT _ (aT _ (zE hb e)))).1,fun b hb=>?_⟩;obtain⟨o,e,d⟩:=T.obj _ _ st4 b hb;exact(I7.pin (b,o) (aT _ (aT _ (zE hb e)))).2.1
   have weak:∀{H7:Hp} {s7:ae},Inv (X.blk scope G.objs.size (x::ys) s₂ H2 fp) ([]++zO fp s4.heap) (some v::yV σ cap) H7 s7→Inv (X.blk scope G.objs.size (x::ys) s₂ H2 fp) [] (none::yV σ cap) H7 s7:=fun I7=>
    (I7.unpinned (pins:=[])).weak rfl fun j z e=>by
     cases j with
     |zero=>simp at e
     |succ j=>simpa using e
   cases ok with
   |false=>
    rw[if_neg aC];obtain⟨m',hm',w'⟩:=q6.2 rfl;exact⟨m',hm',i+1,acc,H6,weak I6,(pinned I6).1,(pinned I6).2,w'⟩
   |true=>
    rw[if_pos rfl];refine a8 (he _ _ _ _ _ s6 _ H6 _ I6 (q6.1 rfl)) (fun y s7 ⟨z,H7,I7,rz,hD7,m',hm',w'⟩=>?_) fun _ _ z=>z.elim;refine a8 (yk (X:=X.blk scope G.objs.size (x::ys) s₂ H2 fp) _ s7 _ H7 (.ref s₂.heap.objs.size) [z] (.ref s₂.heap.objs.size) [y] (fun _ H8=>H8=upd H7 s₂.heap.objs.size (.lst (acc++[z]))) I7 rfl (.cons rz .nil) ⟨_,acc,z,rfl,rfl,hD7,hlen,rfl⟩) (fun _ s8 ⟨_,H8,I8,_,e8⟩=>?_) fun _ _ z=>z.elim;subst e8;exact⟨m',hm',i+1,_,_,weak I8,(pinned I8).1,(pinned I8).2,w'⟩
 exact codeAny_compStart_list (loop _ rfl) (T.self _ 0 _ _ _ st0 (loop _ rfl))
theorem yq(B:zq X scope x cap ys)(hc:X.calm=true)(hi:PI X (.Name x px) iter wi)(he:∀C s H fp,PE (X.blk scope C (x::ys) s H fp) elt te)(ht:∀C s H fp,CTs (X.blk scope C (x::ys) s H fp) ifs tt)
  (hs:∀x,eA iter X.env x=pure x:=by intro _;rfl):PE X (.ListComp elt [⟨.Name x px,iter,ifs,0⟩] scope pos) (xkh cap wi tt te):=by
 intro pins s σ H Q I h;rw[eval_ListComp];refine gg (use:=none) rfl hs (vx (B.clos I.ok)) B.kind B.locs ?_;refine thn (hi pins s σ H _ I h) fun v s1 h1=>thn h1 fun itv s2 h2=>?_;refine xcD (Q:=Q) (RR:=fun acc C=>compPost (model X.prog X.w) X.A X.xe none (EP X pins σ Q) acc C) B hc he ht h2 ?_;rintro D C H' s' J ⟨m,hm⟩ g1 g2 g3 g4 g5 q;exact⟨m,hm,fun h' sb=>⟨.ref D,H',J.turned (t':=s'.toks) (fun b o hb e=>(sb.2 b hb).trans e) g1 g2 (.inr g3) g4 g5,rfl,q⟩⟩
theorem xha{i:Nat}{y:Str}{pos' spos:Pos}(B:zq X scope x cap ys)(hc:X.calm=true)(hN:X.N.Nodup)(hi:X.N[i]? =some y)(hy:X.env.scope.names.lookup y=some .local)(hit:PI X (.Name x px) iter wi)
  (he:∀C s H fp,PE (X.blk scope C (x::ys) s H fp) elt te) (ht:∀C s H fp,CTs (X.blk scope C (x::ys) s H fp) ifs tt)
  (hsw:j6 (.ListComp elt [⟨.Name x px,iter,ifs,0⟩] scope pos) (some (.Name y pos')) spos.line X.env=pure true:=by rfl)
  (hs:∀x,eA iter X.env x=pure x:=by intro _;rfl):
  PS X (.Assign [.Name y pos'] (.ListComp elt [⟨.Name x px,iter,ifs,0⟩] scope pos) spos) (xb4 (xkh cap wi tt te) (jN i)):=by
 intro pins s σ H D I h;rw[exec_Assign_Name_used _ _ _ _ hsw];refine aa (wpAny_standAt (aa ?_));show wpAny _ X.A (do let _ ←comprehension (.ListComp elt [⟨.Name x px,iter,ifs,0⟩] scope pos) scope X.env _ (newList []) false (eval iter X.env) (some (iV (.Name y pos') X.env))) _ _ s;refine aa (a8 (gg (use:=some (iV (.Name y pos') X.env)) (Q:=fun _ s'=>SP X pins D .next s') rfl hs (vx (B.clos I.ok)) B.kind B.locs
  (thn (hit pins s σ H _ I h) fun v s1 h1=>thn h1 fun itv s2 h2=>?_)) (fun _ s' hq=>ah (ah hq)) fun _ _ e=>e)
 refine xcD (Q:=fun v H1=>jN i v σ H1 D.nx) (RR:=fun acc C=>compPost (model X.prog X.w) X.A X.xe (some (iV (.Name y pos') X.env)) (fun _ s'=>SP X pins D .next s') acc C) B hc he ht h2 ?_;rintro Da C H' s' J ⟨m,hm⟩ g1 g2 g3 g4 g5 q;show wpAny _ X.A (iV (.Name y pos') X.env (.ref Da)) _ _ s';refine(iK (xdM (v:=.ref Da) J hN hi (.inl hy) rfl (fun s4 J4 ⟨a,sb,ha⟩=>?_) (.inr hy)));have hCa:C≠a:=by
  rcases ha with z|z
  ·rw[z];exact g2
  ·exact fun w=>g4 y a z w.symm
 refine⟨m,hm.sameBut sb hCa,fun h' sb'=>?_⟩;exact⟨_,H',J4.turned (t':=s4.toks) (fun b o hb e=>(sb'.2 b hb).trans e) g1 g2 (.inr g3) g4 g5,q⟩
end
end L2
namespace L2
open PySem PySem.Spec PyProof.Rows
def Its(lo st:Int)(n:Nat):It:=⟨fun i _=>i<n,fun i H x H'=>H'=H∧x= .int (lo+i*st),fun i _=>n≤i⟩
theorem xhb{P:aF}{w:World}{K:ai}{tg:Expr}(it:Addr)(lo st:Int)(n:Nat):Turn P w K tg (Its lo st n) [it] it (fun i h=>IsRangeIter h it (lo+(i:Nat)*st) ((n:Int) - (i:Nat)) st) where
 mem:=by simp
 obj:=fun i h q b hb=>by
  have e:b=it:=by simpa using hb
  subst e;exact⟨_,q,fun v z=>by
   have z':l9 _=Data.cell v:=z;cases z'⟩
 keep:=fun i h h' q k=>k it (by simp) _ q
 item:=by
  intro X hP hw hK hc i pins s σ H E I hf q hg;subst hP hw hK;obtain⟨f0,f1,f2,f3,f4,f5⟩:=hf it (by simp);refine(Walks.range (prog:=X.prog) (w:=X.w) (I.ok.hd hc) it lo st n).item i s _ _ hg q fun v h' tk hv q' kk=>?_;obtain⟨t,rfl⟩:=hv;have I1:Inv X pins σ H {s with heap:=h',toks:=tk}:=I.turned (fun b o hb e=>kk b o (by simpa using hb) e) f0 f1 f3 f4 f5;exact⟨_,rfl,xcw (s:={s with heap:=h',toks:=tk}) (n:="range_iterator") q' rfl rfl (by decide) ⟨.int (lo+i*st),H,I1,⟨t,rfl⟩,⟨rfl,rfl⟩,q',fun b hb=>(hf b hb).1⟩⟩
 done:=by
  intro X hP hw hK hc i pins s σ H E I hf q hg;subst hP hw hK;obtain⟨f0,f1,f2,f3,f4,f5⟩:=hf it (by simp);exact wpAny_pyNext_range_end (I.ok.hd hc) q (by have:n≤i:=hg;lia) fun h' eb=>⟨rfl,I.turned (t':=s.toks) (fun b o hb e=>eb b o hb e) f0 f1 f3 f4 f5⟩
 self:=fun _ _ _ _ _ q h=>wpAny_pyIter_rangeiter q h
theorem xid{P:aF}{w:World}{K:ai}{tg:Expr}(it:Addr)(lo st:Int)(n:Nat):Turn P w K tg (Its lo st n) [it] it (fun i h=>kX h it (lo+(i:Nat)*st) ((n:Int) - (i:Nat)) st) where
 mem:=by simp
 obj:=fun i h q b hb=>by
  have e:b=it:=by simpa using hb
  subst e;exact⟨_,q,fun v z=>by
   have z':l9 _=Data.cell v:=z;cases z'⟩
 keep:=fun i h h' q k=>k it (by simp) _ q
 item:=by
  intro X hP hw hK hc i pins s σ H E I hf q hg;subst hP hw hK;obtain⟨f0,f1,f2,f3,f4,f5⟩:=hf it (by simp);refine(Walks.longrange (prog:=X.prog) (w:=X.w) (I.ok.hd hc) it lo st n).item i s _ _ hg q fun v h' tk hv q' kk=>?_;obtain⟨t,rfl⟩:=hv;have I1:Inv X pins σ H {s with heap:=h',toks:=tk}:=I.turned (fun b o hb e=>kk b o (by simpa using hb) e) f0 f1 f3 f4 f5;exact⟨_,rfl,xcw (s:={s with heap:=h',toks:=tk}) (n:="longrange_iterator") q' rfl rfl (by decide) ⟨.int (lo+i*st),H,I1,⟨t,rfl⟩,⟨rfl,rfl⟩,q',fun b hb=>(hf b hb).1⟩⟩
 done:=by
  intro X hP hw hK hc i pins s σ H E I hf q hg;subst hP hw hK;obtain⟨f0,f1,f2,f3,f4,f5⟩:=hf it (by simp);exact wpAny_pyNext_long_end (I.ok.hd hc) q (by have:n≤i:=hg;lia) fun h' eb=>⟨rfl,I.turned (t':=s.toks) (fun b o hb e=>eb b o hb e) f0 f1 f3 f4 f5⟩
 self:=fun _ _ _ _ _ q h=>wpAny_pyIter_longiter q h
def zd(a b c:Int):Nat:=(bz a b c).toNat
theorem xeM(a b c:Int):0≤bz a b c:=by
 unfold bz
 split
 ·split
  ·have:=Int.ediv_nonneg (a:=b - a - 1) (b:=c) (by lia) (by lia);lia
  ·lia
 ·split
  ·have:=Int.ediv_nonneg (a:=a - b - 1) (b:= -c) (by lia) (by lia);lia
  ·lia
theorem xie(a b c:Int):((zd a b c:Nat):Int)=bz a b c:=cH (xeM a b c)
theorem ze(a b:Int):zd a b 1=(b - a).toNat:=by
 unfold zd bz;simp only[show(1:Int) > 0 by decide,if_true]
 split<;> simp<;> lia
section
variable {X:Cx} {tg:Expr}
theorem xl3{pins:List (Addr×Obj)}{σ:St}{H:Hp}{s:ae}{R:It→Hp→Prop}{E:Value→ae→Prop}{a b c:Int}{t u v:Tok}{r:Addr}(I:Inv X pins σ H s)(hr:IsRange s.heap r a b c t u v)
  (q:R (Its a c (zd a b c)) H):wpAny (model X.prog X.w) X.A (pyIter (.ref r)) (PIE X pins σ tg R) E s:=by
 have e2:bz a b c=((zd a b c:Nat):Int) - ((0:Nat):Int):=by rw[xie];simp
 have e1:a=a+((0:Nat):Int)*c:=by simp
 have fp:∀b'∈[s.heap.objs.size],uD X pins H b':=fun b' hb=>by
  have e:b'=s.heap.objs.size:=by simpa using hb
  subst e;exact I.fpOk (ao _) (I.hok.fresh (ao _))
 cases hsm:ie a b c with
 |true=>
  refine wpAny_pyIter_range hr hsm ⟨s.heap.objs.size,[s.heap.objs.size],_,_,H,rfl,I.kept (t':=s.toks) fun b o e=>af _ e,xhb _ a c (zd a b c),?_,fp,q⟩;show IsRangeIter _ _ (a+((0:Nat):Int)*c) (((zd a b c:Nat):Int) - ((0:Nat):Int)) c;rw[←e1,←e2];exact aB _ rfl
 |false=>
  refine wpAny_pyIter_longrange hr hsm ⟨s.heap.objs.size,[s.heap.objs.size],_,_,H,rfl,I.kept (t':=s.toks) fun b o e=>af _ e,xid _ a c (zd a b c),?_,fp,q⟩;show kX _ _ (a+((0:Nat):Int)*c) (((zd a b c:Nat):Int) - ((0:Nat):Int)) c;rw[←e1,←e2];exact aB _ rfl
def xhc(k:Int→Hp→Prop):List V→Hp→Prop:=fun vs H=>match vs with
 |[.int j]=>k j H
 |_=>False
def xeo(k:Int→Int→Hp→Prop):List V→Hp→Prop:=fun vs H=>match vs with
 |[.int i,.int j]=>k i j H
 |_=>False
theorem xgu{k:Int→Hp→Prop}{vs:List V}{H:Hp}(h:xhc k vs H):∃j,vs=[.int j]∧k j H:=by
 unfold xhc at h
 split at h
 ·exact⟨_,rfl,h⟩
 ·exact h.elim
theorem xeN{k:Int→Int→Hp→Prop}{vs:List V}{H:Hp}(h:xeo k vs H):∃i j,vs=[.int i,.int j]∧k i j H:=by
 unfold xeo at h
 split at h
 ·exact⟨_,_,rfl,h⟩
 ·exact h.elim
theorem xgv{us:List Value}{i:Int}(r:Vals [.int i] us):∃t,us=[.int i t]:=by
 obtain⟨u,rfl,t,rfl⟩:=Vals.one r;exact⟨t,rfl⟩
def xmW(ta:TA):TI:=fun σ H R=>ta σ H (xhc fun j H1=>R (Its 0 1 (zd 0 j 1)) H1)
theorem yL{a:Expr}{ta:TA}{p pos:Pos}(hg:Gl X "range")(hm:X.mg "range"=none)(ha:PA X [a] ta)(hs:bh [a] X.env=[(false,eval a X.env)]:=by rfl):PI X tg (.Call (.Name "range" p) [a] [] pos) (xmW ta):=by
 intro pins s σ H R I h;refine Call_ (zg I hg hm boot_range (cK (thn (ha pos pins s σ H _ I h) fun us s1 ⟨vs,H1,I1,r1,q1⟩=>?_) hs rfl));obtain⟨j,rfl,q⟩:=xgu q1;obtain⟨t,rfl⟩:=xgv r1;refine call_range_1 (xl3 (I1.kept (t':=_) fun b o e=>af _ e) (IsRange.new ..) q)
def xl4(ta:TA):TE:=fun σ H Q=>ta σ H (xhc fun j H1=>∀p,H1 p=none→Q (.ref p) (upd H1 p (.rng 0 j)))
theorem xif{a:Expr}{ta:TA}{p pos:Pos}(hg:Gl X "range")(hm:X.mg "range"=none)(ha:PA X [a] ta)(hs:bh [a] X.env=[(false,eval a X.env)]:=by rfl):
  PE X (.Call (.Name "range" p) [a] [] pos) (xl4 ta):=by
 intro pins s σ H Q I h;refine Call_ (zg I hg hm boot_range (cK (thn (ha pos pins s σ H _ I h) fun us s1 ⟨vs,H1,I1,r1,q1⟩=>?_) hs rfl));obtain⟨j,rfl,q⟩:=xgu q1;obtain⟨t,rfl⟩:=xgv r1;refine call_range_1 ⟨.ref s1.heap.objs.size,upd H1 s1.heap.objs.size (.rng 0 j),I1.laid (fun b o e=>af _ e) (ao _) ⟨_,_,_,aB _ rfl⟩,rfl,q _ (I1.hok.fresh (ao _))⟩
end
end L2
namespace PySem
open Sem (wp)
section
variable {prog:aF} {w:World} {A:aU} {E:Value→ae→Prop} {s:ae}
theorem xhd{R:f7→ae→Prop}{r:Addr}{a b c:Int}{t u v:Tok}{k:Nat}(hnd:A.handled=none)(hr:IsRange s.heap r a b c t u v)(hbig:ie a b c=false)
  (hk:bz a b c=k) (hle:k≤2^24) (D:Addr) (z:Value) (m₀:Nat) (hD:s.heap.get? D=some {cls:=.type "list",data:=.seq #[] m₀})
  (hR:∀g tk xs m,(∀b o,b≠D→s.heap.get? b=some o→g.get? b=some o)→g.get? D=some {cls:=.type "list",dict:=none,data:=.seq xs m,slots:=#[]}→
   ItemsOf (fun i v=>∃t,v= .int (a+i*c) t) xs k→R (.ok (.ret z)) {s with heap:=g,toks:=tk}):
  wpAny (model prog w) A.in1 (bY (.ref D) (.ref r) z)
   (fun fin s'=>match fin with| .done f=>R (.ok f) s'| .again d=>d.quiet=true∧cQ (model prog w) A d R s') (fun e s'=>R (.error e) s') s:=by
 have nDr:D≠r:=fun e=>by rw[e,hr]at hD;simp at hD
 have nDI:D≠s.heap.objs.size:=ar (aj hD);have nDf:D∉[s.heap.objs.size]:=fun q=>nDI (aH.mp q);have Wk:=(Walks.longrange (prog:=prog) (w:=w) (A:=A.in1) hnd s.heap.objs.size a c k).toS;have fin:∀(g:Heap) (m₁ tk:Nat),kX g s.heap.objs.size (a+((0:Nat):Int)*c) ((k:Int) - ((0:Nat):Int)) c→(∀b o,b≠D→s.heap.get? b=some o→g.get? b=some o)→
   g.get? D=some {cls:=.type "list",data:=.seq #[] m₁}→cQ (model prog w) A (.builtin "list.extend.loop" ⟨[.ref D,.ref s.heap.objs.size,z],[]⟩) R {s with heap:=g,toks:=tk}:=by
  intro g m₁ tk q1 q2 q3;refine codeAny_extend_loopS Wk (by rw[ay];omega) D nDf z k 0 _ #[] m₁ rfl (aJ _) q1 q3 (ItemsOf.nil _) fun s' xs m hm hD' hx=>?_;rw[Moved.eq_with hm];refine hR s'.heap s'.toks xs m (fun b o hb e=>hm.heap b o (fun hq=>?_) (q2 b o hb e)) hD' hx;rcases az.mp hq with e'|hq
  ·exact hb e'
  ·exact absurd (aj e) (by rw[aH.mp hq];exact bV _)
 unfold bY;refine aa (fC (T:="range") ⟨_,hr,rfl⟩ ?_);have x1:eV (.ref D) (.ref r)=false:=by simp[eV,nDr]
 have x2:(ck "range"==ck "list")=false:=by decide
 have x3:(ck "range"==ck "tuple")=false:=by decide
 simp only[x1,x2,x3,Bool.or_false,aV,if_false];refine aa (wpAny_pyIter_longrange hr hbig ?_);refine aa (bB (wpAny_hint_range (n:=k) (af _ hr) hk hle ?_));generalize hG:s.heap.push {cls:=.type "longrange_iterator",data:=.fields #[dP a,dP (bz a b c),dP c]}=G;have i1:kX G s.heap.objs.size (a+((0:Nat):Int)*c) ((k:Int) - ((0:Nat):Int)) c:=by
  have q:G.get? s.heap.objs.size=some {cls:=.type "longrange_iterator",data:=.fields #[dP a,dP (bz a b c),dP c]}:=by rw[←hG];exact aB _ rfl
  rw[hk]at q;show G.get? _=_;rw[q];simp
 have old:∀b o,s.heap.get? b=some o→G.get? b=some o:=fun b o e=>by rw[←hG];exact af _ e
 have d1:=old D _ hD;refine wpAny_ite_split (fun _=>?_) (fun _=>ah ⟨bI ig _,fin _ m₀ _ i1 (fun b o _ e=>old b o e) d1⟩);refine aa (gZ ?_);refine aa ?_;show wpAny _ _ (gO D (·.push .none) >>= fun _=>gO D (·.pop)) _ _ _;refine aa (cV d1 rfl ?_);have d2:=cW (aN (·.push aZ)) d1 rfl;refine cV (hz:=by seq_fits) d2 rfl ?_;have d3:=cW (aN (·.pop)) d2 rfl;refine ah ⟨bI ig _,fin _ _ _ ?_ (fun b o hb e=>?_) d3⟩
 ·exact(bL _ _ nDI).trans ((bL _ _ nDI).trans i1)
 ·exact(bL _ _ (bO hb)).trans ((bL _ _ (bO hb)).trans (old b o e))
theorem xhe{R:f7→ae→Prop}{r:Addr}{a b c:Int}{t u v:Tok}{k:Nat}(hnd:A.handled=none)(hr:IsRange s.heap r a b c t u v)
  (hk:bz a b c=k) (hle:k≤2^24) (D:Addr) (z:Value) (m₀:Nat) (hD:s.heap.get? D=some {cls:=.type "list",data:=.seq #[] m₀})
  (hR:∀g tk xs m,(∀b o,b≠D→s.heap.get? b=some o→g.get? b=some o)→g.get? D=some {cls:=.type "list",dict:=none,data:=.seq xs m,slots:=#[]}→
   ItemsOf (fun i v=>∃t,v= .int (a+i*c) t) xs k→R (.ok (.ret z)) {s with heap:=g,toks:=tk}):
  wpAny (model prog w) A.in1 (bY (.ref D) (.ref r) z)
   (fun fin s'=>match fin with| .done f=>R (.ok f) s'| .again d=>d.quiet=true∧cQ (model prog w) A d R s') (fun e s'=>R (.error e) s') s:=by
 cases hs:ie a b c with
 |true=>exact wpAny_extend_range hnd hr hs hk hle D z m₀ hD hR
 |false=>exact xhd hnd hr hs hk hle D z m₀ hD hR
end
end PySem
namespace L2
open PySem PySem.Spec PyProof.Rows
theorem uQ:∀{xs:List V} {us:List Value},xs.length=us.length→(∀(j:Nat) (x:V) (u:Value),xs[j]? =some x→us[j]? =some u→RelV x u)→Vals xs us
 |[],[],_,_=>.nil
 |[],_::_,h,_=>by simp at h
 |_::_,[],h,_=>by simp at h
 |x::xs,u::us,h,k=>.cons (k 0 x u rfl rfl) (uQ (by simpa using h) fun j y v e1 e2=>k (j+1) y v (by simpa using e1) (by simpa using e2))
section
variable {X:Cx}
end
end L2
namespace L2
open PySem PySem.Spec PyProof.Rows
mutual
inductive Rp(K:ai)(H:Hp):V→dF→Prop
 |non:Rp K H .non .none
 |bl (b:Bool):Rp K H (.bl b) (.bool b)
 |int (i:Int):Rp K H (.int i) (.int i)
 |str (x:Str):Rp K H (.str x) (.str x)
 |lst {a:Addr} {xs:List V} {ds:List dF}:SqL K H a xs→Rps K H xs ds→Rp K H (.ref a) (.list ds)
 |tup {a:Addr} {xs:List V} {ds:List dF}:SqT K H a xs→Rps K H xs ds→Rp K H (.ref a) (.tuple ds)
inductive Rps(K:ai)(H:Hp):List V→List dF→Prop
 |nil:Rps K H [] []
 |cons {x:V} {d:dF} {xs:List V} {ds:List dF}:Rp K H x d→Rps K H xs ds→Rps K H (x::xs) (d::ds)
end
theorem xc.seqT{K:ai}{H H':Hp}{a:Addr}{xs:List V}(e:xc H H')(h:SqT K H a xs):SqT K H' a xs:=by
 rcases h with(h|⟨o,h⟩)|h
 ·exact .inl (.inl (e _ _ h))
 ·exact .inl (.inr ⟨o,e _ _ h⟩)
 ·exact .inr h
theorem Rps.ints{K:ai}{H:Hp}:∀ns:List Int,Rps K H (ns.map V.int) (ns.map cz)
 |[]=>.nil
 |i::r=>.cons (.int i) (Rps.ints r)
theorem Rp.ints{K:ai}{H:Hp}{a:Addr}{ns:List Int}(h:SqL K H a (ns.map V.int)):Rp K H (.ref a) (.list (ns.map cz)):=.lst h (.ints ns)
section
variable {X:Cx} {pins:List (Addr×Obj)} {σ:St} {H:Hp} {s:ae}
mutual
theorem Rp.reads(I:Inv X pins σ H s):∀{v:V} {d:dF} {u:Value},Rp X.K H v d→RelV v u→∃as,Reads s.heap u d as
 |_,_,u,.non,r=>by cases (show u=aZ from r);exact⟨_,.none⟩
 |_,_,u,.bl b,r=>by cases (show u=eE b from r);exact⟨_,.bool b⟩
 |_,_,u,.int i,r=>by obtain⟨t,e⟩:=(show∃t,u=ff i t from r);subst e;exact⟨_,.int i t⟩
 |_,_,u,.str x,r=>by obtain⟨t,e⟩:=(show∃t,u=gJ x t from r);subst e;exact⟨_,.str x t⟩
 |_,_,u,.lst (a:=a) q rr,r=>by
  cases (show u=bf a from r);obtain⟨its,rv,p,hz⟩:=I.list q;obtain⟨as,ra⟩:=Rps.reads I rr rv;obtain⟨o,ho,hc,n,hd⟩:=p.isList;exact⟨_,.list ho hc hd (by simpa using ra)⟩
 |_,_,u,.tup (a:=a) q rr,r=>by
  cases (show u=bf a from r);obtain⟨its,rv,p,hz⟩:=I.tuple q;obtain⟨as,ra⟩:=Rps.reads I rr rv;obtain⟨o,ho,hc,n,hd⟩:=p;exact⟨_,.tuple ho hc hd (by simpa using ra)⟩
theorem Rps.reads(I:Inv X pins σ H s):∀{v:List V} {d:List dF} {u:List Value},Rps X.K H v d→Vals v u→∃as,ReadsAll s.heap u d as
 |_,_,_,.nil,.nil=>⟨_,.nil⟩
 |_,_,_,.cons q rr,.cons r t=>by
  obtain⟨as,h1⟩:=Rp.reads I q r;obtain⟨bs,h2⟩:=Rps.reads I rr t;exact⟨_,.cons h1 h2⟩
end
end
def xb7(K:ai)(f:Bool→Bool):R2:=fun x y H Q=>∃da db,Rp K H x da∧Rp K H y db∧bT da=true∧bT db=true∧Q (.bl (f (cm da db))) H
section
variable {X:Cx}
theorem xhf(hu:X.A.units+64<cLine):OpR X (bD .Eq) (xb7 X.K fun b=>b):=by
 intro pins s σ H x y v u Q I rx ry q;obtain⟨da,db,hx,hy,sa,sb,q⟩:=q;obtain⟨as,ra⟩:=hx.reads I rx;obtain⟨bs,rb⟩:=hy.reads I ry;exact eq_dataH ra rb sa sb hu ⟨.bl (cm da db),H,I,rfl,q⟩
theorem xcE(hu:X.A.units+64<cLine):OpR X (bD .NotEq) (xb7 X.K fun b=> !b):=by
 intro pins s σ H x y v u Q I rx ry q;obtain⟨da,db,hx,hy,sa,sb,q⟩:=q;obtain⟨as,ra⟩:=hx.reads I rx;obtain⟨bs,rb⟩:=hy.reads I ry;exact ne_dataH ra rb sa sb hu ⟨.bl (!PyData.eqv da db),H,I,rfl,q⟩
def xnG(K:ai)(f:Bool→Bool):R2:=fun x y H Q=>∃(a b:Addr) (ns ms:List Int),x= .ref a∧y= .ref b∧SqL K H a (ns.map V.int)∧SqL K H b (ms.map V.int)∧Q (.bl (f (decide (ns=ms)))) H
theorem xkC{K:ai}{f:Bool→Bool}{x y:V}{H:Hp}{Q:VK}(q:xnG K f x y H Q):xb7 K f x y H Q:=by
 obtain⟨a,b,ns,ms,rfl,rfl,ha,hb,q⟩:=q;refine⟨_,_,.ints ha,.ints hb,W.ke_shaped_ints ns,W.ke_shaped_ints ms,?_⟩;have e:cm (.list (ns.map cz)) (.list (ms.map cz))=decide (ns=ms):=W.ked_eqvAll ns ms;rw[e];exact q
def xl5:V→Option Value
 | .ty n=>some (.type n)
 | .ref a=>some (.ref a)
 |_=>none
theorem xjm{c:V}{cv v:Value}(h:xl5 c=some cv)(r:RelV c v):v=cv:=by
 cases c with
 |ref a=>cases h;exact r
 |ty n=>cases h;exact r
 |_=>cases h
def xl6(K:ai):List V→Hp→VK→Prop:=fun xs H Q=>∃x c t cv b,xs=[x,c]∧xl5 c=some cv∧yG K H x t∧fK K t cv=some b∧Q (.bl b) H
theorem yQ:yt X (.builtin "isinstance") (xl6 X.K):=by
 intro pins s σ H xs us Q I r h;obtain⟨x,c,t,cv,b,rfl,rc,ty,e,q⟩:=h;obtain⟨u,v,rfl,ru,rv⟩:=Vals.two r;have e2:=xjm rc rv;subst e2;exact xh2 I ru ty e fun tk=>⟨.bl b,H,I.tok _,rfl,q⟩
structure xjn(K:ai)(C:Addr)(m:Str)(f:Addr):Prop where
 sp:kg K (.ref C) "__getattribute__"=some (some (.builtin "type.__getattribute__"))
 rd:W.readsIn K C (.type "type")=true
 fd:W.findCls K (.ref C) (.type "type") m=some (.val (.ref f))
 kp:dQ K (.ref f)=true
theorem xdg{x m:Str}{C f:Addr}{fd:aR}{ps:List Str}{sp:Sp}{dvs:List V}{ds:List Value}{E:XK}{CX:CXT}{k:Nat}{p apos pos:Pos}{e:Expr}{es:List Expr}{t:TA}{pl:Sem Bool}
  (hg:Gl X x) (hm:X.mg x=some (.ref C)) (M:xjn X.K C m f) (F:xG X.prog X.w X.K X.mg X.base CX k f fd ps sp) (hr:xO k X.A) (hb:Binds X.K fd ps ds) (hd:Vals dvs ds) (hx:Passes CX X E) (ha:PA X (e::es) t)
  (hst:bh (e::es) X.env=(false,eval e X.env)::bh es X.env:=by rfl) (hpl:(de pos (bh es X.env)).any (·.1)=false:=by rfl) (hdb:(x==("__debug__":Str))=false:=by decide)
  (ht:eval (.Call (.Attribute (.Name x p) m apos) (e::es) [] pos) X.env=(do
   let ov ←eval (.Name x p) X.env
   standAt apos.atName
   let(f,first) ←gq [ov] (getMethod ov m pl)
   callWith pos f first (de pos (bh (e::es) X.env)) (backToKw pos (kh [] X.env))):=by rfl):
  PE X (.Call (.Attribute (.Name x p) m apos) (e::es) [] pos) (xka sp dvs E t):=by
 intro pins s σ H Q I h;refine W.methodCall_KW (pl:=pl) (xbo I hg hm ?_ hdb) ht;refine W.method_cls I.kIn M.sp (W.cls_value I.kIn M.rd M.fd rfl ?_);have I1:=I.tok (s.toks+1);refine lN (first:=[]) (h₀:=X.base) I.ok.mod.kin M.kp (thn (ha pos pins _ σ H _ I1 h) fun us s2 ⟨vs,H2,I2,r,q2⟩=>⟨I2.kIn,?_⟩) hst hpl;exact xeA F hr hb hd hx I2 r q2
end
end L2
namespace L2
open PySem PySem.Spec PyProof.Rows
theorem xH:bX "len"=some (.builtin "len"):=by decide+kernel
theorem xeO:bX "max"=some (.builtin "max"):=by decide+kernel
theorem xaK:bX "min"=some (.builtin "min"):=by decide+kernel
theorem xZ:bX "isinstance"=some (.builtin "isinstance"):=by decide+kernel
theorem va:bX "sorted"=some (.builtin "sorted"):=by decide+kernel
theorem xl7:bX "any"=some (.builtin "any"):=by decide+kernel
theorem uG:bX "list"=some (.type "list"):=by decide+kernel
theorem zu:bX "tuple"=some (.type "tuple"):=by decide+kernel
theorem xkD:bX "dict"=some (.type "dict"):=by decide+kernel
theorem xeP:bX "enumerate"=some (.type "enumerate"):=by decide+kernel
theorem xfX:bX "reversed"=some (.type "reversed"):=by decide+kernel
theorem xkE{f:Str}{v:V}{fs:List (Str×V)}{n:Nat}(h:fs.length<n):(zt f v fs).length<n+1:=fh (jq f v fs) (by lia)
section
variable {X:Cx} {a b c:Expr} {ta tb:TE} {pos:Pos}
theorem xig(hc:X.calm=true):yt X (.builtin "max") (fun xs H Q=>xeo (fun i j H1=>Q (.int (max i j)) H1) xs H):=(xhY hc).imp fun xs H Q q=>by
 obtain⟨i,j,rfl,q⟩:=xeN q;refine⟨i,j,rfl,?_⟩;have e:(if j > i then j else i)=max i j:=by split<;> lia
 rw[e];exact q
theorem xl8(hc:X.calm=true):yt X (.builtin "min") (fun xs H Q=>xeo (fun i j H1=>Q (.int (min i j)) H1) xs H):=(xhZ hc).imp fun xs H Q q=>by
 obtain⟨i,j,rfl,q⟩:=xeN q;refine⟨i,j,rfl,?_⟩;have e:(if j<i then j else i)=min i j:=by split<;> lia
 rw[e];exact q
def isN:V→Bool
 | .non=>true
 |_=>false
theorem xkF(x:V):decide (x= .non)=isN x:=by cases x<;> simp[isN]
def xmX(ta:TE):TT:=fun σ H Q=>ta σ H fun x H1=>Q (isN x) H1
theorem xih{j pos'}(ha:PE X a ta):PT X (.Compare a [.Is] [.Constant .none j pos'] pos) (xmX ta):=(xlz (xlx ha)).imp fun σ H Q q=>by
 show ta σ H _;have e:(fun x H1=>∃c,V.bl (decide (x=V.non))= .bl c∧Q c H1)=fun x H1=>Q (isN x) H1:=by
  funext x H1;rw[xkF];apply propext;exact⟨fun⟨c,e,q⟩=>by cases e;exact q,fun q=>⟨_,rfl,q⟩⟩
 rw[e];exact q
theorem vO{body:List Stmt}{tc:TT}{tb:TS}(hp:PassesOwn (model X.prog X.w) X.A X.env X.xe)(hc:PT X c tc)(hb:PSs X body tb):PS X (.While c body [] pos) (xic tc tb):=by
 intro pins s σ H D I h;unfold xic xbs at h;obtain⟨W,⟨m0,w0⟩,turn⟩:=h;refine wpAny_While (codeAny_whileLoop (fun n s'=>∃σ' H',Inv X pins σ' H' s'∧W n σ' H') ?_ m0 ⟨σ,H,I,w0⟩);rintro n s1 ⟨σ1,H1,I1,w1⟩;refine d6 hp (thn (hc pins s1 σ1 H1 _ I1 (turn n σ1 H1 w1)) fun b s2 ⟨H2,I2,q2⟩=>?_);cases b with
 |true=>
  obtain⟨N,hN,q2⟩:=q2.1 rfl;rw[if_pos rfl];refine d6 hp (thn (hb pins s2 σ1 H2 _ I2 q2) fun f s3 q3=>?_);cases f with
  |next=>
   obtain⟨σ3,H3,I3,n3⟩:=q3;obtain⟨m',hm,w3⟩:=hN σ3 H3 n3;exact⟨m',hm,σ3,H3,I3,w3⟩
  |cont=>
   obtain⟨σ3,H3,I3,n3⟩:=q3;obtain⟨m',hm,w3⟩:=hN σ3 H3 n3;exact⟨m',hm,σ3,H3,I3,w3⟩
  |brk=>exact q3
  |ret v=>exact q3
 |false=>
  rw[if_neg aC];exact gP ⟨σ1,H2,I2,q2.2 rfl⟩
end
theorem vc{lo st:Int}{n:Nat}{g:TG}{tb:TS}{D:Ends}{σ:St}{H:Hp}(Pv:Nat→St→Hp→Prop)(h0:Pv 0 σ H)
  (hs:∀(i:Nat) σ H,i<n→Pv i σ H→g (.int (lo+i*st)) σ H fun σ2 H2=>tb {D with nx:=Pv (i+1),ct:=Pv (i+1),bk:=D.nx} σ2 H2) (hd:∀σ H,Pv n σ H→D.nx σ H):uh (Its lo st n) g tb D σ H:=by
 unfold uh;refine⟨fun i m σ H=>m=n - i∧i≤n∧Pv i σ H,⟨n,by simp,aJ _,h0⟩,?_⟩;rintro i m σ H ⟨rfl,hi,p⟩
 by_cases hlt:i<n
 ·refine .inr ⟨hlt,Pv (i+1),fun σ' H' p'=>⟨n - (i+1),by lia,rfl,hlt,p'⟩,fun x H' y=>?_⟩;obtain⟨e,y⟩:=y;subst e y;exact hs i σ _ hlt p
 ·have e:i=n:=by lia
  subst e;exact .inl ⟨ao _,hd σ H p⟩
theorem xcF{K:ai}{l:Addr}{xs:List V}{g:TG}{tb:TS}{D:Ends}{σ:St}{H:Hp}(Pv:Nat→St→Hp→Prop)(h0:Pv 0 σ H)(hl:∀i σ H,i≤xs.length→Pv i σ H→SqL K H l xs)
  (hs:∀i x σ H,xs[i]? =some x→Pv i σ H→g x σ H fun σ2 H2=>tb {D with nx:=Pv (i+1),ct:=Pv (i+1),bk:=D.nx} σ2 H2) (hd:∀σ H,Pv xs.length σ H→D.nx σ H):uh (Itl K l) g tb D σ H:=by
 unfold uh;exact xjc Pv h0 hl hs hd
theorem xii{K:ai}{l:Addr}{xs:List V}{g:TG}{tb:TS}{D:Ends}{σ:St}{H:Hp}(Pv:Nat→St→Hp→Prop)(h0:Pv 0 σ H)(hl:∀i σ H,i≤xs.length→Pv i σ H→SqT K H l xs)
  (hs:∀i x σ H,xs[i]? =some x→Pv i σ H→g x σ H fun σ2 H2=>tb {D with nx:=Pv (i+1),ct:=Pv (i+1),bk:=D.nx} σ2 H2) (hd:∀σ H,Pv xs.length σ H→D.nx σ H):uh (Itt K l) g tb D σ H:=by
 unfold uh;exact xkp Pv h0 hl hs hd
theorem xc.new{H:Hp}{p:Addr}{o:HO}(h:H p=none):xc H (upd H p o):=fun b u e=>by rw[xk (xF e h)];exact e
theorem xc.put{H H':Hp}{p:Addr}{o:HO}(e:xc H H')(h:H p=none):xc H (upd H' p o):=fun b u q=>by rw[xk (xF q h)];exact e b u q
theorem xc.at{H H':Hp}{p:Addr}{o:HO}(e:xc H H')(h:H p=some o):H' p=some o:=e p o h
end L2
namespace L2
open PySem PySem.Spec PyProof.Rows
theorem xc.of_eq{H H':Hp}{p:Addr}{o:HO}(h:H p=none)(e:upd H p o=H'):xc H H':=by rw[←e];exact xc.new h
theorem xm{H H':Hp}{p:Addr}{o:HO}(e:upd H p o=H'):H' p=some o:=by rw[←e];exact xj
theorem xc.back{H H':Hp}{p:Addr}(e:xc H H')(h:H' p=none):H p=none:=xc.free e h
theorem xc.wr{H0 H H':Hp}{p:Addr}{o:HO}(s:xc H0 H)(f:H0 p=none)(e:upd H p o=H'):xc H0 H':=by rw[←e];exact s.put f
end L2
namespace L2
open PySem PySem.Spec PyProof.Rows
structure yH(H0 H:Hp)(l:Addr)(as:List Addr)(xss:List (List Int)):Prop where
 top:H l=some (.lst (as.map V.ref))
 nd:(l::as).Nodup
 len:as.length=xss.length
 each:∀(i:Nat) (a:Addr) (xs:List Int),as[i]? =some a→xss[i]? =some xs→H a=some (.lst (xs.map V.int))
 fr:H0 l=none
 frs:∀a∈as,H0 a=none
theorem yH.same{H0 H H':Hp}{l:Addr}{as:List Addr}{xss:List (List Int)}(L:yH H0 H l as xss)(s:xc H H'):yH H0 H' l as xss:=
 ⟨s.at L.top,L.nd,L.len,fun i a xs h1 h2=>s.at (L.each i a xs h1 h2),L.fr,L.frs⟩
theorem yH.base{H0 H0' H:Hp}{l:Addr}{as:List Addr}{xss:List (List Int)}(L:yH H0 H l as xss)(s:xc H0' H0):yH H0' H l as xss:=
 ⟨L.top,L.nd,L.len,L.each,s.back L.fr,fun a ha=>s.back (L.frs a ha)⟩
theorem yH.nil{H0 H H':Hp}{l:Addr}(h:H0 l=none)(e:H l=some (.lst [])):yH H0 H l [] []:=
 ⟨e,by simp,rfl,fun i a xs h1 _=>by simp at h1,h,fun a ha=>by simp at ha⟩
theorem yH.tracked{H0 H:Hp}{l:Addr}{as:List Addr}{xss:List (List Int)}(L:yH H0 H l as xss){a:Addr}(ha:a∈as):∃xs:List Int,H a=some (.lst (xs.map V.int)):=by
 obtain⟨i,hi,rfl⟩:=cA.mp ha;have h2:i<xss.length:=by rw[←L.len];exact hi
 exact⟨xss[i],L.each i _ _ (ag hi) (ag h2)⟩
theorem yH.apart{H0 H:Hp}{l:Addr}{as:List Addr}{xss:List (List Int)}(L:yH H0 H l as xss){p:Addr}(h:H p=none):p∉l::as:=by
 intro z;rcases az.mp z with rfl|z
 ·rw[L.top]at h;cases h
 ·obtain⟨xs,e⟩:=L.tracked z;rw[e]at h;cases h
theorem yH.push{H0 H H':Hp}{l p:Addr}{as:List Addr}{xss:List (List Int)}{xs:List Int}(L:yH H0 H l as xss)(hp:H p=some (.lst (xs.map V.int)))(hne:p∉l::as)(hf:H0 p=none)
  (e:upd H l (.lst (as.map V.ref++[.ref p]))=H'):yH H0 H' l (as++[p]) (xss++[xs]):=by
 subst e;have hpl:p≠l:=fun z=>hne (by rw[z];exact aA);have hpa:p∉as:=fun z=>hne (aq _ z);obtain⟨n1,n2⟩:=bZ.mp L.nd;refine⟨by rw[xj,aD];rfl,?_,by simp[L.len],fun i a ys h1 h2=>?_,L.fr,fun a ha=>?_⟩
 ·refine bZ.mpr ⟨fun z=>?_,xgr n2 hpa⟩;rcases bb.mp z with z|z
  ·exact n1 z
  ·exact hpl (aH.mp z).symm
 ·have hla:a∈as++[p]:=aL h1;have nal:a≠l:=fun z=>by
   subst z;rcases bb.mp hla with z|z
   ·exact n1 z
   ·exact hpl (aH.mp z).symm
  rw[xk nal]
  by_cases hi:i<as.length
  ·rw[bH hi]at h1;rw[bH (by rw[←L.len];exact hi)]at h2;exact L.each i a ys h1 h2
  ·rw[bP (by lia)]at h1;rw[bP (by rw[←L.len];lia)]at h2;have e1:i - as.length=0:=by
    cases hq:i - as.length with
    |zero=>rfl
    |succ k=>rw[hq]at h1;simp at h1
   rw[e1]at h1;rw[←L.len,e1]at h2;simp at h1 h2;rw[←h1,←h2];exact hp
 ·rcases bb.mp ha with z|z
  ·exact L.frs a z
  ·have z':a=p:=by simpa using z
   rw[z'];exact hf
def zG(xs:List Int):dF:=.list (xs.map cz)
def dLL(xss:List (List Int)):dF:=.list (xss.map zG)
theorem xij(xs:List Int):bx (zG xs)=true:=by unfold zG bx;exact hO xs
theorem xfY(xs:List Int):bG (zG xs)≤1:=by unfold zG bG;rw[iA];exact ao _
theorem xaL:∀xss:List (List Int),br (xss.map zG)=true
 |[]=>by simp[br]
 |x::r=>by simp only[a9,br,xij,xaL r,gE]
theorem jF:∀xss:List (List Int),bM (xss.map zG)≤1
 |[]=>by simp[bM]
 |x::r=>by
  simp only[a9,bM];exact Nat.max_le.mpr ⟨xfY x,jF r⟩
theorem xcG(xss:List (List Int)):bT (dLL xss)=true:=by
 unfold bT dLL;have h1:bx (.list (xss.map zG))=true:=by unfold bx;exact xaL xss
 have h2:bG (.list (xss.map zG))≤64:=by unfold bG;have:=jF xss;lia
 rw[h1,decide_eq_true h2];rfl
theorem xaM:∀a b:List (List Int),fc (a.map zG) (b.map zG)=decide (a=b)
 |[],[]=>by simp[fc]
 |[],_::_=>by simp[fc]
 |_::_,[]=>by simp[fc]
 |x::r,y::t=>by
  have e:cm (zG x) (zG y)=decide (x=y):=W.ked_eqvAll x y;simp only[a9,fc,e,xaM r t]
  by_cases h:x=y<;> by_cases h':r=t<;> simp[h,h']
theorem xkG(a b:List (List Int)):cm (dLL a) (dLL b)=decide (a=b):=xaM a b
theorem xjo{K:ai}{f:Bool→Bool}{x y:V}{H:Hp}{Q:VK}{xss yss:List (List Int)}(hx:Rp K H x (dLL xss))(hy:Rp K H y (dLL yss))(q:Q (.bl (f (decide (xss=yss)))) H):xb7 K f x y H Q:=
 ⟨_,_,hx,hy,xcG _,xcG _,by rw[xkG];exact q⟩
theorem xhg{lo st:Int}{n:Nat}{te:TE}{caps:L2.St}{Q:VK}{H2:Hp}(f:Nat→List Int)(hn:n≤aO)
  (hs:∀(i:Nat) (H3:Hp),i<n→xc H2 H3→∀R:VK,(∀l H6,xc H3 H6→H3 l=none→H6 l=some (.lst ((f i).map V.int))→R (.ref l) H6)→te (some (.int (lo+i*st))::caps) H3 R)
  (hd:∀D H' as,xc H2 H'→yH H2 H' D as ((aI n).map f)→Q (.ref D) H'):yW (Its lo st n) caps xdf te Q H2:=by
 unfold yW;intro D hD;refine⟨fun i m acc H3=>m=n - i∧i≤n∧xc H2 H3∧∃as,acc=as.map V.ref∧yH H2 H3 D as ((aI i).map f),⟨n,by simp,aJ _,xc.new hD,[],rfl,yH.nil (H':=H2) hD xj⟩,?_⟩;rintro i m acc H3 ⟨rfl,hi,s3,as,rfl,L⟩;refine⟨L.top,?_⟩
 by_cases hlt:i<n
 ·have hl:as.length=i:=by rw[L.len];simp
  refine .inr ⟨hlt,by simp[hl];lia,fun v H4 y=>?_⟩;obtain⟨e,y⟩:=y;subst e y;refine⟨fun _=>?_,fun z=>by cases z⟩;refine hs i _ hlt s3 _ fun l H6 s6 hl0 hl6=>⟨s6.at L.top,n - (i+1),by lia,rfl,hlt,(s3.trans s6).put hD,as++[l],by rw[aD];rfl,?_⟩;rw[fV,aD];exact(L.same s6).push hl6 (L.apart hl0) (s3.back hl0) rfl
 ·have e:i=n:=by lia
  subst e;exact .inl ⟨ao _,hd D H3 as s3 L⟩
section
variable {X:Cx}
end
end L2
namespace L2
open PySem PySem.Spec PyProof.Rows
abbrev HO.any:HO:=.ext fun _=>True
theorem xE.anyOf{P:aF}{w:World}{H:Hp}{h:Heap}{a:Addr}{o:Obj}(e:h.get? a=some o):xE P w H h a (.frz o HO.any):=⟨e,trivial,⟨o,e⟩,fun _ _ _ _=>trivial⟩
def uj(H:Hp)(f:Addr)(nm qual:Str)(params:cG)(body:dk)(scope:Scope)(fv:List (Str×V)):Prop:=
 ∃(clos:List (Str×Addr)) (c:Addr) (o:Obj) (u u':HO) (vs:Array Value) (t:Tok) (doc pm ctv:Value),
  H f=some (.frz {cls:=.type "function",data:=.func {name:=nm,qualname:=qual,params,body,scope,globals:=bA,closure:=clos,defaults:=.none,kwdefaults:=.none,doc,pyModule:=pm,annotations:=none,code:=.ref c,closureTuple:=ctv,builtins:=dA}} u)∧
  H c=some (.frz o u')∧o.data= .fields vs∧vs[1]? =some (.str qual t)∧
  (∀x y a,clos.lookup x=some a→clos.lookup y=some a→x=y)∧(∀x,(x,b9)∈scope.names→∃a,clos.lookup x=some a)∧
  (∀x v,(x,v)∈fv→∃a,clos.lookup x=some a∧H a=some (.cel (some v)))∧∀x a,clos.lookup x=some a→∃v,H a=some (.cel (some v))
theorem uj.same{H H':Hp}{f:Addr}{nm qual:Str}{params:cG}{body:dk}{scope:Scope}{fv:List (Str×V)}(h:uj H f nm qual params body scope fv)(e:xc H H'):uj H' f nm qual params body scope fv:=by
 obtain⟨clos,c,o,u,u',vs,t,doc,pm,ctv,h1,h2,h3,h4,h5,h6,h7,h8⟩:=h;exact⟨clos,c,o,u,u',vs,t,doc,pm,ctv,e _ _ h1,e _ _ h2,h3,h4,h5,h6,fun x v m=>let⟨a,q1,q2⟩:=h7 x v m;⟨a,q1,e _ _ q2⟩,fun x a q=>let⟨v,q2⟩:=h8 x a q;⟨v,e _ _ q2⟩⟩
theorem xkH{pos pos':Pos}{c:Value}(l:List Value)(h:j5 l):
  fZ pos' (l++[dP pos.line,dP pos.col,c])=(match fZ pos' l with
   |some d=>some d
   |none=>if ((pos.line:Int)==pos'.line&&(pos.col:Int)==pos'.col)=true then some c else none):=by
 fun_induction j5 l with
 |case1=>simp[fZ,dP]
 |case2 a t b u x rest ih=>
  simp only[List.cons_append,fZ]
  split
  ·rfl
  ·exact ih h
 |case3 l h1 h2=>exact h.elim
def jt(K:ai)(c P:Addr):Prop:=∀h:Heap,K.In h→kY h c P
theorem xdU{cells:List (Str×Addr)}:∀{l:List (Str×dS)} {cs:List (Str×Addr)} {x:Str} {c:Addr},(yr cells l cs).lookup x=some c→(x,b9)∈l∨∃a,cs.lookup x=some a
 |[],cs,x,c,h=>.inr ⟨c,h⟩
 |(n,k)::r,cs,x,c,h=>by
  unfold yr at h;rcases xdU h with q|⟨a,q⟩
  ·exact .inl (aq _ q)
  ·split at q
   ·rename_i hk;rw[cC]at q
    split at q
    ·rename_i hx;have e:x=n:=by simpa using hx
     have e2:k= .free:=by simpa using hk
     subst e;subst e2;exact .inl aA
    ·exact .inr ⟨a,q⟩
   ·exact .inr ⟨a,q⟩
abbrev jG(name qual:Str)(params:cG)(body:dk)(scope:Scope)(clos:List (Str×Addr))(doc pm cdv ctv:Value):Obj:=
 {cls:=.type "function",data:=.func {name,qualname:=qual,params,body,scope,globals:=bA,closure:=clos,defaults:=.none,kwdefaults:=.none,doc,pyModule:=pm,annotations:=none,code:=cdv,closureTuple:=ctv,builtins:=dA}}
section
variable {M:Model} {A:aU} {E:Value→ae→Prop} {s:ae} {name qual:Str} {params:cG} {body:dk} {scope:Scope} {env:Env} {c P:Addr} {ps:Array Value} {pos:Pos} {firstLine:Nat} {mg:Str→Option Value}
 {clos:List (Str×Addr)} {Q:Value→ae→Prop}
theorem xkI(hcl:kW scope env=pure clos)(hge0:env.globals=bA)(hg:s.heap.Ns bA mg)(hcode:env.code= .ref c)(C:kY s.heap c P)(hP:s.heap.get? P=some (gH ps))(ht:j5 ps.toList)
  (hnf:fZ pos ps.toList=none) (hgP:bA≠P) (hb:s.heap.BuiltinsAt mg P)
  (h:∀c' ctv doc h' tk,Heap.ExtBut P s.heap h'→s.heap.objs.size≤c'→c'<h'.objs.size→h'.CodeRec (.ref c') qual→h'.get? P=some (gH (ps++#[dP pos.line,dP pos.col,.ref c']))→
   Q (.ref h'.objs.size) {s with heap:=h'.push (jG name qual params body scope clos doc ((mg "__name__").getD .none) (.ref c') ctv),toks:=tk}):
  wpAny M A (makeFunction name qual params body scope env [] [] [] pos firstLine) Q E s:=by
 cases body with
 |stmts b=>exact W.makeFunction_K hcl hge0 hg hcode C hP ht hnf hgP hb h
 |expr e=>exact W.kla_makeFunction hcl hge0 hg hcode C hP ht hnf hgP hb fun c' ctv h' tk=>h c' ctv .none h' tk
theorem xl9{cv:Value}(hcl:kW scope env=pure clos)(hge0:env.globals=bA)(hg:s.heap.Ns bA mg)(hcode:env.code= .ref c)(C:kY s.heap c P)(hP:s.heap.get? P=some (gH ps))(ht:j5 ps.toList)
  (hf:fZ pos ps.toList=some cv) (hb:s.heap.BuiltinsAt mg P)
  (h:∀(ctv doc:Value) (h':Heap) (tk:Tok),(∀b o,s.heap.get? b=some o→h'.get? b=some o)→s.heap.objs.size≤h'.objs.size→
   Q (.ref h'.objs.size) {s with heap:=h'.push (jG name qual params body scope clos doc ((mg "__name__").getD .none) cv ctv),toks:=tk}):
  wpAny M A (makeFunction name qual params body scope env [] [] [] pos firstLine) Q E s:=by
 cases body with
 |stmts b=>exact W.makeFunction_hit hcl hge0 hg hcode C hP ht hf hb h
 |expr e=>exact W.kla_makeFunctionHit hcl hge0 hg hcode C hP ht hf hb fun ctv h' tk=>h ctv .none h' tk
end
section
variable {X:Cx} {pins:List (Addr×Obj)} {σ:St} {H:Hp} {s:ae} {c P:Addr} {qs:List (Pos×Str)} {name qual:Str} {params:cG} {body:dk} {scope:Scope} {pos:Pos} {fv:List (Str×V)} {Q:VK} {fns:List Str}
def tFn(X:Cx)(P:Addr)(qs:List (Pos×Str))(fns:List Str)(name qual:Str)(params:cG)(body:dk)(scope:Scope):TE:=fun σ H Q=>
 H P=some (.tbl qs)∧∃fv:List (Str×V),fv.map (·.1)=fns∧(∀x v,(x,v)∈fv→∃a,X.env.cells.lookup x=some a∧H a=some (.cel (some v)))∧
  ∀f H',H f=none→xc H H'→uj H' f name qual params body scope fv→Q (.ref f) H'
theorem xkJ(I:Inv X pins σ H s)(hcode:X.env.code= .ref c)(T:jt X.K c P)(hq:(pos,qual)∈qs)(hu:(qs.all fun p=> !((pos.line==p.1.line)&&(pos.col==p.1.col))||(p.2==qual))=true)
  (hfr:(scope.names.filter fun y=>y.2== .free).map (·.1)=fns) (h:tFn X P qs fns name qual params body scope σ H Q) {n:Nat}:
  wpAny (model X.prog X.w) X.A (makeFunction name qual params body scope X.env [] [] [] pos n) (EP X pins σ Q) X.xe s:=by
 obtain⟨hP,fv,hn,hf,h⟩:=h;have isfr:∀x,(x,b9)∈scope.names↔x∈fns:=fun x=>by
  rw[←hfr,aG];constructor
  ·exact fun m=>⟨(x,.free),aE.mpr ⟨m,rfl⟩,rfl⟩
  ·rintro⟨⟨y,k⟩,m,rfl⟩;have m2:=aE.mp m;have e:k= .free:=by simpa using m2.2
   subst e;exact m2.1
 have names:∀x,(x,b9)∈scope.names→∃v a,(x,v)∈fv∧X.env.cells.lookup x=some a∧H a=some (.cel (some v)):=fun x hx=>by
  have m:=(isfr x).mp hx;rw[←hn]at m;obtain⟨⟨x',v⟩,hm,rfl⟩:=aG.mp m;obtain⟨a,h1,h2⟩:=hf _ _ hm;exact⟨v,a,hm,h1,h2⟩
 have hcs:∀y∈scope.names,y.2= .free→∃c,X.env.cells.lookup y.1=some c:=fun y hy e=>by
  obtain⟨y1,y2⟩:=y;have e:y2= .free:=e;subst e;obtain⟨_,a,_,h1,_⟩:=names y1 hy;exact⟨a,h1⟩
 have hcl:=vx (scope:=scope) (env:=X.env) hcs;have sub:∀{z:Str} {a:Addr},(yr X.env.cells scope.names []).lookup z=some a→X.env.cells.lookup z=some a:=fun{z a} e=>by
  rcases jS hcs e with q|q
  ·cases q
  ·exact q
 have subF:∀{z:Str} {a:Addr},(yr X.env.cells scope.names []).lookup z=some a→(z,b9)∈scope.names:=fun{z a} e=>by
  rcases xdU e with q|⟨_,q⟩
  ·exact q
  ·cases q
 have cInj:∀x y a,(yr X.env.cells scope.names []).lookup x=some a→(yr X.env.cells scope.names []).lookup y=some a→x=y:=fun x y a e1 e2=>I.ok.inj x y a (sub e1) (sub e2);have cHas:∀x,(x,b9)∈scope.names→∃a,(yr X.env.cells scope.names []).lookup x=some a:=fun x m=>uF (.inl m);have cVal:∀x v,(x,v)∈fv→∃a,(yr X.env.cells scope.names []).lookup x=some a∧H a=some (.cel (some v)):=fun x v m=>by
  obtain⟨a,e1,e2⟩:=hf x v m;obtain⟨a',e3⟩:=cHas x ((isfr x).mpr (by rw[←hn];exact fQ m));have e4:=sub e3;rw[e1]at e4;cases e4;exact⟨a,e3,e2⟩
 have cAll:∀x a,(yr X.env.cells scope.names []).lookup x=some a→∃v,H a=some (.cel (some v)):=fun x a e=>by
  obtain⟨v,a',_,e1,e2⟩:=names x (subF e);rw[sub e]at e1;cases e1;exact⟨v,e2⟩
 have hg:s.heap.Ns bA X.mg:=I.mod.glob.keeps I.bk;obtain⟨ps,hPo,ht,hent⟩:=I.hok P _ hP;have C:=T s.heap I.kIn;have hgP:bA≠P:=fun q=>by
  obtain⟨o,es,ep,e,hd,_⟩:=hg;rw[q,hPo]at e;cases e;cases hd
 have hB:s.heap.BuiltinsAt X.mg P:=by
  obtain⟨bm,ob,b1,b2,b3,b4,b5,b6⟩:=I.mod.bm;have b3':=I.bk _ _ b3;refine⟨bm,ob,b1,b2,fun q=>?_,fun q=>?_,b3',b4,b5,b6⟩
  ·obtain⟨o,es,ep,e,hd,_⟩:=hg;rw[←q,b3']at e;cases e;rw[b6]at hd;cases hd
  ·rw[q,hPo]at b3';cases b3';cases b4
 rcases hent pos qual hq with hnf|⟨c',o,u,vs,t,hit,hc',hd,hv⟩
 ·refine xkI hcl I.ok.glob hg hcode C hPo ht hnf hgP hB fun c' ctv doc h' tk hx hge hlt hrec htb=>?_;obtain⟨c2,oc,vs,t,e2,hoc,hd,hv⟩:=hrec;cases e2;have hc0:H c'=none:=I.hok.fresh hge;have hsz:s.heap.objs.size≤h'.objs.size:=cx (fh hge hlt);have hf0:H h'.objs.size=none:=I.hok.fresh hsz;have hcf:c'≠h'.objs.size:=ar hlt
  let fo:=jG name qual params body scope (yr X.env.cells scope.names []) doc ((X.mg "__name__").getD .none) (.ref c') ctv
  let H':=upd (upd H c' (.frz oc HO.any)) h'.objs.size (.frz fo HO.any)
  have sm:∀b u,H b=some u→H' b=some u:=fun b u e=>by
   show upd _ _ _ b=_;rw[xk (xF e hf0),xk (xF e hc0)];exact e
  have H'c:H' c'=some (.frz oc HO.any):=by
   show upd _ _ _ c'=_;rw[xk hcf,xj]
  have H'f:H' h'.objs.size=some (.frz fo HO.any):=xj;have keep:∀b o,b≠P→s.heap.get? b=some o→(h'.push fo).get? b=some o:=fun b o hb e=>af _ (hx b o hb e);have nP:∀b,H b=none→b≠P:=fun b e q=>by rw[q,hP]at e;cases e
  refine⟨.ref h'.objs.size,H',I.un ⟨fun b o e n _ _=>keep b o (nP b n) e,fun b o e n _ _=>⟨o.slots,keep b o (nP b n) e⟩,fun b o e n _=>?_,fun b o e _=>?_,fun b u e _=>sm b u e⟩ fun b u e=>?_,rfl,?_⟩
  ·have lt:=aj e;show upd _ _ _ b=_;rw[xk (ar (aw lt hsz)),xk (ar (aw lt hge))];exact n
  ·by_cases hb:b=P
   ·exact⟨_,af _ (by rw[hb];exact htb)⟩
   ·exact⟨o,keep b o hb e⟩
  ·by_cases h1:b=h'.objs.size
   ·subst h1;rw[H'f]at e;cases e;exact xE.anyOf (aB _ rfl)
   ·have e1:upd H c' (.frz oc HO.any) b=some u:=(xk h1).symm.trans e
    by_cases h2:b=c'
    ·subst h2;rw[xj]at e1;cases e1;exact xE.anyOf (af _ hoc)
    ·rw[xk h2]at e1
     by_cases hb:b=P
     ·subst hb;rw[hP]at e1;cases e1;refine⟨_,af _ htb,?_,fun pos' q m=>?_⟩
      ·simpa using TriplesOk_snoc (pos.line:Int) (pos.col:Int) (.ref c') ps.toList ht
      ·have e3:(ps++#[dP pos.line,dP pos.col,bf c']).toList=ps.toList++[dP pos.line,dP pos.col,bf c']:=by simp
       rw[e3,xkH _ ht];rcases hent pos' q m with z|⟨d,o,u,vs',t',z1,z2,z3,z4⟩
       ·rw[z]
        by_cases hl:((pos.line:Int)==pos'.line&&(pos.col:Int)==pos'.col)=true
        ·right
         have hqq:q=qual:=by
          have:=cM.mp hu (pos',q) m;simp only[dh,beq_iff_eq,Int.ofNat_inj,Int.natCast_inj]at hl;have a1:pos.line=pos'.line:=by have:=hl.1;omega
          have a2:pos.col=pos'.col:=by have:=hl.2;omega
          simpa [a1,a2]using this
         subst hqq;exact⟨c',oc,HO.any,vs,t,if_pos hl,H'c,hd,hv⟩
        ·exact .inl (if_neg hl)
       ·right
        rw[z1];exact⟨d,o,u,vs',t',rfl,sm _ _ z2,z3,z4⟩
     ·refine(I.hok b u e1).stay (fun d v hc q=>keep d v ?_ q) (fun d q=>sm _ _ q) fun d u q _=>sm _ _ q;rcases hc with rfl|hc
      ·exact hb
      ·intro z;rw[z,hP]at hc;cases hc
  ·exact h h'.objs.size H' hf0 sm ⟨_,c',oc,HO.any,HO.any,vs,t,doc,_,ctv,H'f,H'c,hd,hv,cInj,cHas,fun x v m=>let⟨a,q1,q2⟩:=cVal x v m;⟨a,q1,sm _ _ q2⟩,fun x a q=>let⟨v,q2⟩:=cAll x a q;⟨v,sm _ _ q2⟩⟩
 ·refine xl9 hcl I.ok.glob hg hcode C hPo ht hit hB fun ctv doc h' tk hk hsz=>?_;have hf0:H h'.objs.size=none:=I.hok.fresh hsz;have sm:xc H (upd H h'.objs.size (.frz (jG name qual params body scope (yr X.env.cells scope.names []) doc ((X.mg "__name__").getD .none) (.ref c') ctv) HO.any)):=fun b u e=>by
   rw[xk (xF e hf0)];exact e
  refine⟨.ref h'.objs.size,_,I.laid (o:=.frz (jG name qual params body scope (yr X.env.cells scope.names []) doc ((X.mg "__name__").getD .none) (.ref c') ctv) HO.any) (fun b o e=>af _ (hk b o e)) hsz (xE.anyOf (aB _ rfl)),rfl,?_⟩;exact h _ _ hf0 sm ⟨_,c',o,HO.any,u,vs,t,doc,_,ctv,xj,sm _ _ hc',hd,hv,cInj,cHas,fun x v m=>let⟨a,q1,q2⟩:=cVal x v m;⟨a,q1,sm _ _ q2⟩,fun x a q=>let⟨v,q2⟩:=cAll x a q;⟨v,sm _ _ q2⟩⟩
theorem xik{e:Expr}(hcode:X.env.code= .ref c)(T:jt X.K c P)(hq:(pos,X.env.qual++"<lambda>")∈qs)(hu:(qs.all fun p=> !((pos.line==p.1.line)&&(pos.col==p.1.col))||(p.2==X.env.qual++"<lambda>"))=true)
  (hfr:(scope.names.filter fun y=>y.2== .free).map (·.1)=fns) (hdef:defaultsOf params X.env=([],[]):=by rfl):
  PE X (.Lambda params e scope pos) (tFn X P qs fns "<lambda>" (X.env.qual++"<lambda>") params (.expr e) scope):=fun _ _ _ _ _ I h=>
 W.kla_eval hdef (xkJ I hcode T hq hu hfr h)
theorem Inv.track{x:Str}{a:Addr}{i:Nat}(I:Inv X pins σ H s)(hN:X.N.Nodup)(hi:X.N[i]? =some x)(hk:X.env.kindOf x=some .cell)(hcp:X.cp x=true)(hfn:X.fn x=false)(ha:X.env.cells.lookup x=some a)(hH:H a=none):
  Inv X pins σ (upd H a (.cel (σ[i]?.join))) s:=by
 have hab:∀b o,X.s₀.heap.get? b=some o→b≠a:=fun b o e=>ar (aw (aj e) (I.ok.cab2 x a hcp ha));obtain⟨v0,hv0⟩:=I.cell x a ha;refine⟨I.ok,I.os,I.bare,⟨I.base.keep,I.base.slot,fun b o e n hx=>?_,I.base.there,fun b u e f=>?_⟩,I.loc,I.cell,?_,fun y c e=>?_,fun p hp=>?_,fun b u e=>?_,I.len⟩
 ·rw[xk (hab b o e)];exact I.base.free b o e n hx
 ·have:=I.base.fix b u e f;rw[xk (xF this hH)];exact this
 ·rw[xk (bO (I.cne x a ha))];exact I.free
 ·by_cases hc:c=a
  ·subst hc;obtain rfl:=I.ok.inj _ _ _ e ha;refine .inr ⟨hfn,_,xj,fun z j v e1 k e2=>?_⟩;have:=xb2 hN e1 hi;subst this;rw[e2]at z;cases z
  ·rw[xk hc];exact I.freeC y c e
 ·obtain⟨e,n,ne,nf,d⟩:=I.pin p hp;refine⟨e,?_,ne,nf,d⟩;rw[xk fun z=>?_]
  ·exact n
  ·obtain⟨o,q1,q2⟩:=hv0;rw[←z,e]at q1;cases q1;exact d _ q2
 ·by_cases hb:b=a
  ·subst hb;rw[xj]at e;cases e;cases hσ:σ[i]?.join with
   |none=>exact⟨v0,hv0,fun x z=>by cases z⟩
   |some v=>
    have hσ':σ[i]? =some (some v):=by
     cases q:σ[i]? with
     |none=>rw[q]at hσ;cases hσ
     |some w=>rw[q]at hσ;cases w with
      |none=>cases hσ
      |some w=>cases hσ;rfl
    obtain⟨m,hn,hl⟩:=I.loc;obtain⟨u,r,l⟩:=hl i x v hi hσ' (.inr (.inl hk));rcases l with⟨k,_⟩|⟨_,c,hc,hcell⟩
    ·rw[hk]at k;cases k
    ·rw[ha]at hc;cases hc;exact⟨_,hcell,fun y z=>by cases z;exact⟨u,rfl,r⟩⟩
  ·rw[xk hb]at e;exact(I.hok b u e).stay (fun _ _ _ q=>q) (fun d q=>by rw[xk (xF q hH)];exact q) fun d u q _=>by rw[xk (xF q hH)];exact q
def xma(X:Cx)(x:Str)(i:Nat)(t:TS):TS:=fun D σ H=>∀a,X.env.cells.lookup x=some a→X.H₀ a=none→(∀y b,X.env.cells.lookup y=some b→y≠x→b≠a)→H a=none∧t D σ (upd H a (.cel (σ[i]?.join)))
theorem xdV{x:Str}{i:Nat}{b:List Stmt}{t:TS}(hN:X.N.Nodup)(hi:X.N[i]? =some x)(hk:X.env.kindOf x=some .cell)(hcp:X.cp x=true)(hfn:X.fn x=false)
  (h:PSs X b t):PSs X b (xma X x i t):=fun pins s σ H D I q=>by
 obtain⟨a,ha⟩:=I.ok.has x (.inl hk);obtain⟨z,q⟩:=q a ha (I.ok.hz a (I.ok.cab2 x a hcp ha)) fun y b e ne z=>ne (I.ok.inj y x b e (z▸ha));exact h pins s σ _ D (I.track hN hi hk hcp hfn ha z) q
end
end L2
namespace L2
open PySem PySem.Spec PyProof.Rows
theorem xil{P:aF}{w:World}{K:ai}{mg mb:Str→Option Value}{CX:CXT}{k:Nat}{fa a:Addr}{fd:aR}{x:Str}{sp:Sp}{s₁:ae}{vs:List Value}{ns:List Int}{tabs:List (Addr×Addr×List (Pos×Str))}
  (KX:K.In s₁.heap) (hns:s₁.heap.Ns bA mg) (hb:s₁.heap.Ns dA mb) (hbb:∀x:Str,x≠"__name__"→mb x=bX x) (hlim:s₁.heap.NoLimit) (hbm:∃b o,mg "__builtins__"=some (.ref b)∧b≠dA∧s₁.heap.get? b=some o∧o.cls= .type "module"∧o.dict=some dA∧o.data= .plain) (hg:s₁.gens=#[])
  (ha:s₁.heap.get? a=some {cls:=.type "list",data:=.seq vs.toArray}) (hi:cE vs ns) (hl:ns.length≤aO) (hr:xO k iT)
  (hT:∀q∈tabs,kY s₁.heap q.1 q.2.1∧s₁.heap.get? q.2.1=some (gH #[])) (hnt:W.noTabs K=true) (nd:(tabs.map fun q=>q.2.1).Nodup)
  (F:∀base:Heap,K.In base→base.Ns bA mg→xG P w K mg base CX k fa fd [x] sp) (hbind:∀(s:ae) (u:Value),BindsTo s fd ⟨[u],[]⟩ [(x,u)])
  (hsp:∀H:Hp,SqL K H a (ns.map V.int)→(∀q∈tabs,H q.2.1=some (.tbl q.2.2))→sp [.ref a] H (fun v _=>v= .bl true) fun _ _ _=>False)
  (hCX:∀H e s',CX [] H s₁ (fun _ _ _=>False) e s'→False):
  cQ (model P w) iT (.call (.ref fa) ⟨[.ref a],[]⟩) (fun r s'=>r= .ok (.ret (.bool true))∧OldK s₁.heap s'.heap∧s'.os=s₁.os∧fB s'.gens) s₁:=by
 have rv:=xaG hi;have lenV:=hi.length;have aP:∀q∈tabs,q.2.1≠a:=fun q hq z=>by
  have e:=(hT q hq).2;rw[z,ha]at e;cases e
 have core:∀H:Hp,SqL K H a (ns.map V.int)→(∀q∈tabs,H q.2.1=some (.tbl q.2.2))→
   (∀b u,H b=some u→(b=a∧K.lookup a=none∧∃xs,u= .frz {cls:=.type "list",data:=.seq vs.toArray} (.lst xs))∨∃q∈tabs,b=q.2.1∧u= .tbl q.2.2)→HOk P w H s₁.heap→
   cQ (model P w) iT (.call (.ref fa) ⟨[.ref a],[]⟩) (fun r s'=>r= .ok (.ret (.bool true))∧OldK s₁.heap s'.heap∧s'.os=s₁.os∧fB s'.gens) s₁:=by
  intro H hS hP hA hok;have base_of:∀{b:Addr} {o:Obj},s₁.heap.get? b=some o→H b=none→(jM s₁.heap H).get? b=some o:=fun e n=>xjb e n;have noA:∀{b:Addr} {o:Obj},s₁.heap.get? b=some o→o.cls≠.type "list"∨(∀n,o.data≠.seq vs.toArray n)→o≠gH #[]→H b=none:=fun{b o} e d1 d2=>by
   cases q:H b with
   |none=>rfl
   |some u=>
    rcases hA b u q with⟨rfl,_,_⟩|⟨t,ht,rfl,_⟩
    ·rw[ha]at e;cases e;rcases d1 with d1|d1
     ·exact absurd rfl d1
     ·exact absurd rfl (d1 _)
    ·have e2:=(hT t ht).2;rw[e]at e2;cases e2;exact absurd rfl d2
  have nsK:∀{b:Addr} {m:Str→Option Value},s₁.heap.Ns b m→(jM s₁.heap H).Ns b m:=fun{b m} ⟨o,es,ep,e,d,r⟩=>
   ⟨o,es,ep,base_of e (noA e (.inr fun n z=>by rw[d]at z;cases z) fun z=>by rw[z]at d;cases d),d,r⟩
  have hKb:K.In (jM s₁.heap H):=fun b o e=>base_of (KX b o e) (by
   cases q:H b with
   |none=>rfl
   |some u=>
    rcases hA b u q with⟨rfl,z,_⟩|⟨t,ht,rfl,_⟩
    ·rw[z]at e;cases e
    ·have e2:=KX _ _ e;rw[(hT t ht).2]at e2;cases e2;have h2:=cM.mp hnt _ (W.mem_of_lookupK e);exact absurd (show false=true from h2) aC)
  have hM:Mod K mg (jM s₁.heap H):=⟨hKb,nsK hns,⟨mb,nsK hb,hbb⟩,let⟨mc,h1,h2⟩:=hlim;⟨mc,nsK h1,h2⟩,let⟨b,o,a1,a2,a3,a4⟩:=hbm;⟨b,o,a1,a2,base_of a3 (noA a3 (.inl fun z=>by rw[a4.1]at z;simp at z) fun z=>by rw[z]at a4;cases a4.1),a4⟩⟩;have e0:vm P w K mg (jM s₁.heap H) iT [] s₁ H:=⟨rfl,hM,fun b o e=>xko e,gT (xhR _ _),trivial,fun b hb=>absurd (show b∈([]:List Addr)from hb) (by simp),hok,.of_eq hg⟩;refine dB ((F _ hKb (nsK hns)).run iT [] s₁ H ⟨[.ref a],[]⟩ [.ref a] [.ref a] _ _ hr e0 (hbind s₁ (.ref a)) (.cons rfl .nil) (hsp H hS hP)) fun r s' h=>?_;cases r with
  |error e=>exact(hCX H e s' h).elim
  |ok fl=>
   cases fl with
   |next=>exact bS h
   |brk=>exact bS h
   |cont=>exact bS h
   |ret u=>
    obtain⟨v,H',os,bare,un,hok',r',q⟩:=h;have q':v= .bl true:=q;subst q';obtain rfl:u=eE true:=r';have old:∀b o,s₁.heap.get? b=some o→s'.heap.get? b=some o∨∃t∈tabs,b=t.2.1∧o=gH #[]∧∃ps,s'.heap.get? b=some (gH ps):=fun b o e=>by
     cases q:H b with
     |none=>exact .inl (un.keep b o e q (by intro z;exact absurd (show b∈([]:List Addr)from z) (by simp)) (by simp))
     |some u=>
      rcases hA b u q with⟨rfl,_,xs,rfl⟩|⟨t,ht,rfl,rfl⟩
      ·obtain⟨e1,_⟩:=hok _ _ q;obtain⟨e2,_⟩:=hok' _ _ (un.fix _ _ q trivial);rw[e]at e1;cases e1;exact .inl e2
      ·obtain⟨ps,e2,_⟩:=hok' _ _ (un.fix _ _ q trivial);have e3:=(hT t ht).2;rw[e]at e3;cases e3;exact .inr ⟨t,ht,rfl,rfl,ps,e2⟩
    refine⟨rfl,⟨fun b o e=>?_,fun b o e=>?_⟩,os,bare⟩
    ·rcases old b o e with z|⟨t,ht,rfl,rfl,ps,z⟩
     ·exact .inl z
     ·exact .inr (.inl ⟨((hT t ht).1.tab (hT t ht).2).isCodeTable,rfl,#[],ps,rfl,by rw[Array.empty_append];exact z⟩)
    ·rcases old b o e with z|⟨t,ht,rfl,rfl,ps,z⟩
     ·exact⟨o,z⟩
     ·exact⟨_,z⟩
 let Ht:Hp:=fun b=>(tabs.find? fun q=>q.2.1==b).map fun q=>HO.tbl q.2.2
 have HtP:∀q∈tabs,Ht q.2.1=some (.tbl q.2.2):=fun q hq=>by
  show kZ _ (tabs.find? _)=_;cases e:tabs.find? fun r=>r.2.1==q.2.1 with
  |none=>
   have:=iq.mp e q hq;simp at this
  |some r=>
   have h1:=ka e;have h2:=iO e;have h3:r.2.1=q.2.1:=by simpa using h1
   have:r=q:=by
    obtain⟨i,hi⟩:=dv.mp h2;obtain⟨j,hj⟩:=dv.mp hq;have ei:(tabs.map fun q=>q.2.1)[i]? =some r.2.1:=by rw[au,hi];rfl
    have ej:(tabs.map fun q=>q.2.1)[j]? =some r.2.1:=by rw[au,hj,h3];rfl
    obtain⟨i1,i2⟩:=aW.mp ei;obtain⟨j1,j2⟩:=aW.mp ej;have:=(fH nd).mp (i2.trans j2.symm);subst this;rw[hi]at hj;exact bw hj
   subst this;rfl
 have HtA:∀b u,Ht b=some u→∃q∈tabs,b=q.2.1∧u= .tbl q.2.2:=fun b u e=>by
  have e:kZ (fun q=>HO.tbl q.2.2) (tabs.find? fun q=>q.2.1==b)=some u:=e;obtain⟨q,hq,rfl⟩:=cD.mp e;have h1:=ka hq;exact⟨q,iO hq,(show q.2.1=b by simpa using h1).symm,rfl⟩
 have tok:∀{H:Hp} {q},q∈tabs→xE P w H s₁.heap q.2.1 (.tbl q.2.2):=fun{H q} hq=>⟨#[],(hT q hq).2,trivial,fun _ _ _=>.inl rfl⟩;cases hk:K.lookup a with
 |some o=>
  have e:=KX a o hk;rw[ha]at e;cases e;refine core Ht (.inr ⟨_,vs.toArray,_,hk,rfl,rfl,rfl,by rw[av,lenV];exact hl,by simpa using rv⟩) HtP (fun b u z=>.inr (HtA b u z)) fun b u z=>?_;obtain⟨q,hq,rfl,rfl⟩:=HtA b u z;exact tok hq
 |none=>
  refine core (fun b=>if b=a then some (.frz {cls:=.type "list",data:=.seq vs.toArray} (.lst (ns.map V.int)))else Ht b) (.inl (.inr ⟨{cls:=.type "list",data:=.seq vs.toArray},if_pos rfl⟩)) (fun q hq=>(if_neg (aP q hq)).trans (HtP q hq)) (fun b u z=>?_) fun b u z=>?_
  ·by_cases hb:b=a
   ·have z':=(if_pos hb).symm.trans z;cases z';exact .inl ⟨hb,hk,_,rfl⟩
   ·exact .inr (HtA b u ((if_neg hb).symm.trans z))
  ·by_cases hb:b=a
   ·have z':=(if_pos hb).symm.trans z;cases z';subst hb;exact⟨ha,by rw[ab];exact hl,vs,_,rv,ha⟩
   ·obtain⟨q,hq,rfl,rfl⟩:=HtA b u ((if_neg hb).symm.trans z);exact tok hq
theorem xjp{l:W.OpenLaw}{n k:Nat}{q:aF}{loose:List Str}{XP:(Str→Option Value)→Heap→Prop}{YP:World→Heap→Prop}{d:DefRec}{K:Params→ai}{CX:CXT}{sp:ai→Sp}{x:Str}{tabs:List (Addr×Addr×List (Pos×Str))}
  (hn:l.most=some n) (hn2:n≤aO) (hdf:d.params.defaults=[]) (hr:xO k iT)
  (hY:∀(w:World) (h:Heap),YP w h→(K w.params).In h)
  (hT:∀(w:World) (h:Heap),YP w h→(K w.params).In h→∀t∈tabs,kY h t.1 t.2.1∧h.get? t.2.1=some (gH #[])) (hnt:∀w:World,W.noTabs (K w.params)=true) (nd:(tabs.map fun q=>q.2.1).Nodup)
  (F:∀(w:World) (mg:Str→Option Value) (fa:Addr) (h:Heap),(K w.params).In h→h.Ns bA mg→mg d.name=some (.ref fa)→
   ∃fd:aR,(∀(s:ae) (u:Value),BindsTo s fd ⟨[u],[]⟩ [(x,u)])∧
    ∀base:Heap,(K w.params).In base→base.Ns bA mg→xG l.prog w (K w.params) mg base CX k fa fd [x] (sp (K w.params)))
  (hsp:∀(K:ai) (H:Hp) (a:Addr) (ns:List Int),ns.length≤n→SqL K H a (ns.map V.int)→(∀q∈tabs,H q.2.1=some (.tbl q.2.2))→sp K [.ref a] H (fun v _=>v= .bl true) fun _ _ _=>False)
  (hCX:∀(H:Hp) (s:ae) (e:Value) (s':ae),CX [] H s (fun _ _ _=>False) e s'→False):
  W.WalkO q loose XP YP l.row.toRowW d [] (fun f vs=>PySem.call f vs):=by
 refine Att.xfW hn hdf fun w s₀ s₁ mg mb fa o pm cd doc a vs ns G Y ho hd hcd hmg hobj hints hlen hg=>?_;have KX:=hY w _ Y;obtain⟨fd,hb,hF⟩:=F w mg fa _ KX G.T.g hmg;exact xil KX G.T.g G.T.b G.T.builtins G.T.nolimit G.T.bmain hg hobj hints (bp hlen hn2) hr (hT w _ Y KX) (hnt w) nd hF hb (fun H hS hP=>hsp (K w.params) H a ns hlen hS hP) fun H e s'=>hCX H s₁ e s'
end L2
namespace L2
open PySem PySem.Spec PyProof.Rows
structure uH(N ps fns:List Str)(sc:Scope):Prop where
 kind:sc.kind= .function
 co:sc.isCoroutine=false
 gen:sc.isGenerator=false
 nd:N.Nodup
 pre:N.take (ps.length+fns.length)=ps++fns
 par:∀x∈ps,sc.names.lookup x=some .local
 fre:∀x∈fns,sc.names.lookup x=some .free
 nocell:∀y∈sc.names,y.2≠.cell
def xaN(N:List Str)(vs:List V)(fv:List (Str×V)):St:=vs.map some++fv.map (fun p=>some p.2)++b7 (N.length - vs.length - fv.length) none
def xep(CX:CXT)(P:aF)(w:World)(K:ai)(mg:Str→Option Value)(base:Heap)(N:List Str)(qual:Str)(scope:Scope)(f:Addr)(cd:Value)(clos:List (Str×Addr))(A:aU)(outer:List Env)(s:ae)(H:Hp)(E:XK):Cx where
 prog:=P
 w:=w
 K:=K
 mg:=mg
 base:=base
 A:=A.deeper (iY qual scope s.heap.objs.size f cd clos)
 N:=N
 s₀:=s
 H₀:=H
 env:=iY qual scope s.heap.objs.size f cd clos
 outer:=outer
 stack:=iY qual scope s.heap.objs.size f cd clos::outer
 ex:=[]
 calm:=true
 cp:=fun _=>false
 fn:=fun _=>false
 pn:=[]
 xe:=fun e s'=>wpAny (model P w) (A.deeper (iY qual scope s.heap.objs.size f cd clos)) (leaving (iY qual scope s.heap.objs.size f cd clos) e) (fun _ s''=>CX outer H s E e s'') (fun e' s''=>CX outer H s E e' s'') s'
theorem xdW{α:Type}:∀{l:List (Str×α)} {x:Str} {v:α},(l.map (·.1)).Nodup→(x,v)∈l→l.lookup x=some v
 |[],_,_,_,m=>by simp at m
 |(y,u)::r,x,v,nd,m=>by
  obtain⟨n1,n2⟩:=bZ.mp nd;rw[cC];rcases az.mp m with e|m
  ·cases e;simp
  ·have:x≠y:=fun e=>n1 (by rw[←e];exact fQ (f:=(·.1)) m);rw[beq_false_of_ne this];exact xdW n2 m
theorem xeQ:∀{ps:List Str} {us:List Value},us.length=ps.length→(ps.zip us).map (·.1)=ps
 |[],[],_=>rfl
 |p::ps,u::us,h=>by simp[xeQ (ps:=ps) (us:=us) (by simpa using h)]
 |[],_::_,h=>by simp at h
 |_::_,[],h=>by simp at h
theorem xdh{ps:List Str}{us:List Value}{i:Nat}{x:Str}{u:Value}(hl:us.length=ps.length)(nd:ps.Nodup)(h1:ps[i]? =some x)(h2:us[i]? =some u):(ps.zip us).reverse.lookup x=some u:=by
 refine xdW ?_ (List.mem_reverse.mpr ?_)
 ·rw[List.map_reverse,xeQ hl];exact kA.mpr (nd.imp fun h=>bO h)
 ·refine dv.mpr ⟨i,?_⟩;rw[List.getElem?_zip_eq_some];exact⟨h1,h2⟩
def codeOf(body:dk)(env:Env):Code:=match body with
 | .stmts b=>.func b env
 | .expr e=>.expr e env
section
variable {CX:CXT} {P:aF} {w:World} {K:ai} {mg:Str→Option Value} {base:Heap} {N ps fns:List Str} {nm qual:Str} {params:cG} {scope:Scope} {f:Addr} {cd:Value} {clos:List (Str×Addr)} {A:aU} {outer:List Env} {s:ae} {H:Hp} {E:XK} {us:List Value} {vs:List V} {fv:List (Str×V)} {k:Nat}
theorem xhh{h':Heap}{tk:Tok}(S:uH N ps fns scope)(hd:A.handled=none)(e0:vm P w K mg base A outer s H)(hl:vs.length=ps.length)(r:Vals vs us)(hfv:fv.map (·.1)=fns)
  (hin:∀x y a,clos.lookup x=some a→clos.lookup y=some a→x=y) (hhas:∀x,(x,b9)∈scope.names→∃a,clos.lookup x=some a)
  (hval:∀x v,(x,v)∈fv→∃a,clos.lookup x=some a∧H a=some (.cel (some v))) (hall:∀x a,clos.lookup x=some a→∃v,H a=some (.cel (some v)))
  (hns:h'.Ns s.heap.objs.size fun x=>(ps.zip us).reverse.lookup x) (hk:∀b o,s.heap.get? b=some o→h'.get? b=some o):
  Inv (xep CX P w K mg base N qual scope f cd clos A outer s H E) [] (xaN N vs fv) H {s with heap:=h',toks:=tk}:=by
 have lenF:fv.length=fns.length:=by rw[←hfv,ab]
 have hpl:ps.length+fns.length≤N.length:=by have:=congrArg cn S.pre;rw[bF,ax]at this;lia
 have noA:∀b:Addr,b∉(xep CX P w K mg base N qual scope f cd clos A outer s H E).ex:=fun b z=>absurd (show b∈([]:List Addr)from z) (by simp);have lu:us.length=ps.length:=by rw[←r.length];exact hl
 have ndP:(ps++fns).Nodup:=by rw[←S.pre];exact S.nd.sublist (List.take_sublist _ _)
 refine⟨⟨e0.mod,S.kind,rfl,rfl,ao _,fun y z c h1 h2=>hin y z c h1 h2,fun y hy=>?_,fun y c h _=>(aC h).elim,fun _=>hd,kP e0.frames,.inr ⟨rfl,rfl⟩,fun b z=>absurd z (noA b),e0.bs,e0.bsz,fun b _ _=>noA b,fun b z=>absurd z (noA b),e0.funs,e0.frf,fun y c h _=>(aC h).elim,fun b hb=>e0.hok.fresh hb⟩,
  rfl,e0.bare,Un.kept hk,⟨_,hns,fun i y v h1 h2 h3=>?_⟩,fun y c h=>?_,e0.hok.fresh (ao _),fun y c h=>?_,fun p hp=>absurd (show p∈([]:List (Addr×Obj))from hp) (by simp),e0.hok.kept hk,?_⟩
 ·have hy:scope.names.lookup y=some .cell∨scope.names.lookup y=some .free:=hy;rcases hy with hy|hy
  ·exact absurd rfl (S.nocell _ (PySem.mem_of_lookup hy))
  ·exact hhas y (PySem.mem_of_lookup hy)
 ·have h1:N[i]? =some y:=h1;unfold xaN at h2
  by_cases hi:i<vs.length
  ·rw[bH (by simp;lia),bH (by simpa using hi),au]at h2;cases e:vs[i]? with
   |none=>rw[e]at h2;cases h2
   |some a=>
    rw[e]at h2;cases h2;obtain⟨u,hu,rv⟩:=r.get e;have hp:ps[i]? =some y:=by
     have:(N.take (ps.length+fns.length))[i]? =some y:=by rw[dC (by lia)];exact h1
     rw[S.pre,bH (by lia)]at this;exact this
    exact⟨u,rv,.inl ⟨S.par y (aL hp),xdh lu (ndP.sublist (List.sublist_append_left _ _)) hp hu⟩⟩
  ·by_cases hj:i<vs.length+fv.length
   ·rw[bH (by simp;lia),bP (by simpa using hi),ab,au]at h2;cases e:fv[i - vs.length]? with
    |none=>rw[e]at h2;cases h2
    |some p=>
     obtain⟨z,v'⟩:=p;rw[e]at h2;cases h2;have hp:fns[i - vs.length]? =some y:=by
      have:(N.take (ps.length+fns.length))[i]? =some y:=by rw[dC (by lia)];exact h1
      rw[S.pre,bP (by lia),←hl]at this;exact this
     have hz:z=y:=by
      rw[←hfv,au,e]at hp;exact bw hp
     subst hz;obtain⟨a,q1,q2⟩:=hval _ _ (aL e);obtain⟨u,q3,q4⟩:=e0.hok a _ q2;obtain⟨y',rfl,r'⟩:=q4 v' rfl;exact⟨y',r',.inr ⟨.inr (S.fre z (aL hp)),a,q1,q3.keeps hk⟩⟩
   ·rw[bP (by simp;lia),i9]at h2
    split at h2<;> cases h2
 ·obtain⟨v,q2⟩:=hall y c h;obtain⟨u,q3,_⟩:=e0.hok c _ q2;exact⟨u,q3.keeps hk⟩
 ·obtain⟨v,q2⟩:=hall y c h;exact .inr ⟨rfl,some v,q2,fun z=>by cases z⟩
 ·unfold xaN;show _=N.length;simp only[ax,ab,gL];lia
structure uk(P:aF)(w:World)(K:ai)(mg:Str→Option Value)(base:Heap)(CX:CXT)(k:Nat)(nm qual:Str)(params:cG)(body:dk)(scope:Scope)(ps:List Str)(sp:List (Str×V)→Sp):Prop where
 len:∀fv vs H Q E,sp fv vs H Q E→vs.length=ps.length
 run:∀(A:aU) (outer:List Env) (s:ae) (H:Hp) (f:Addr) (fv:List (Str×V)) (us:List Value) (vs:List V) (Q:VK) (E:XK),xO k A→vm P w K mg base A outer s H→uj H f nm qual params body scope fv→Vals vs us→sp fv vs H Q E→
  cQ (model P w) A (.call (.ref f) ⟨us,[]⟩) (CR CX outer P w H s Q E) s
theorem xim{body:dk}{sp:List (Str×V)→Sp}(S:uH N ps fns scope)(len:∀fv vs H Q E,sp fv vs H Q E→vs.length=ps.length∧fv.map (·.1)=fns)
  (hb:∀(clos:List (Str×Addr)) (doc pm cdv ctv:Value) (us:List Value),us.length=ps.length→
   gc {name:=nm,qualname:=qual,params,body,scope,globals:=bA,closure:=clos,defaults:=.none,kwdefaults:=.none,doc,pyModule:=pm,annotations:=none,code:=cdv,closureTuple:=ctv,builtins:=dA} ⟨us,[]⟩=pure (ps.zip us))
  (hgo:∀(A:aU) (outer:List Env) (s:ae) (H:Hp) (f:Addr) (clos:List (Str×Addr)) (cdv:Value) (fv:List (Str×V)) (vs:List V) (Q:VK) (E:XK) (s1:ae),xO k (A.deeper (iY qual scope s.heap.objs.size f cdv clos))→sp fv vs H Q E→
   Inv (xep CX P w K mg base N qual scope f cdv clos A outer s H E) [] (xaN N vs fv) H s1→
   cQ (model P w) A (codeOf body (iY qual scope s.heap.objs.size f cdv clos)) (CR CX outer P w H s Q E) s1):
  uk P w K mg base CX (k+1) nm qual params body scope ps sp:=by
 refine⟨fun fv vs H Q E h=>(len fv vs H Q E h).1,fun A outer s H f fv us vs Q E hr e0 hc r hsp=>?_⟩;obtain⟨clos,c,o,u,u',xs,t,doc,pm,ctv,h1,h2,h3,h4,h5,h6,h7,h8⟩:=hc;obtain⟨hl,hfv⟩:=len fv vs H Q E hsp;have lu:us.length=ps.length:=by rw[←r.length];exact hl
 obtain⟨hf,_⟩:=e0.hok f _ h1;obtain⟨hcO,_⟩:=e0.hok c _ h2;have lim:s.heap.NoLimit:=e0.mod.nolimit.keeps fun b o e=>(e0.bs b o e).1;have hloc:∀y∈ps.zip us,scope.names.lookup y.1=some .local:=fun⟨n,v⟩ hy=>S.par n (fT hy).1;have cr:s.heap.CodeRec (.ref c) qual:=⟨c,o,xs,t,rfl,hcO,h3,h4⟩;have fin:wpAny (model P w) A.in1 (kz scope bA clos (ps.zip us) (qual++".<locals>.") (some f) (.ref c) none dA)
   (fun env s₂=>s₂.heap.NoLimit∧cQ (model P w) A (codeOf body env) (CR CX outer P w H s Q E) s₂) (fun e s'=>CR CX outer P w H s Q E (.error e) s') s:=by
  refine gY S.nocell hloc (fun h' hns hsb=>?_) S.kind;have hk:∀b o,s.heap.get? b=some o→h'.get? b=some o:=fun b o e=>hsb.extBut b o (ar (aj e)) (af _ e);exact⟨lim.keeps hk,hgo A outer s H f clos (.ref c) fv vs Q E _ (hr.deeper _) hsp (xhh S hr.hd e0 hl r hfv h5 h6 h7 h8 hns hk)⟩
 cases body with
 |stmts b=>
  refine gN hr.depth hf rfl S.co S.gen rfl cr ?_;rw[hb clos doc pm (.ref c) ctv us lu];exact ah fin
 |expr e=>
  refine W.kla_callFunE hr.depth hf rfl S.co S.gen rfl cr ?_;rw[hb clos doc pm (.ref c) ctv us lu];exact ah fin
theorem xb8{e:Expr}{sp:List (Str×V)→Sp}(S:uH N ps fns scope)(len:∀fv vs H Q E,sp fv vs H Q E→vs.length=ps.length∧fv.map (·.1)=fns)
  (hb:∀(clos:List (Str×Addr)) (doc pm cdv ctv:Value) (us:List Value),us.length=ps.length→
   gc {name:=nm,qualname:=qual,params,body:=.expr e,scope,globals:=bA,closure:=clos,defaults:=.none,kwdefaults:=.none,doc,pyModule:=pm,annotations:=none,code:=cdv,closureTuple:=ctv,builtins:=dA} ⟨us,[]⟩=pure (ps.zip us))
  (hbody:∀(A:aU) (outer:List Env) (s:ae) (H:Hp) (f:Addr) (clos:List (Str×Addr)) (cdv:Value) (fv:List (Str×V)) (vs:List V) (Q:VK) (E:XK),xO k (A.deeper (iY qual scope s.heap.objs.size f cdv clos))→sp fv vs H Q E→
   ∃te,PE (xep CX0 P w K mg base N qual scope f cdv clos A outer s H E).nox e te∧te (xaN N vs fv) H Q):uk P w K mg base CX0 (k+1) nm qual params (.expr e) scope ps sp:=
 xim S len hb fun A outer s H f clos cdv fv vs Q E s1 hr hsp I=>by
  obtain⟨te,ht,hq⟩:=hbody A outer s H f clos cdv fv vs Q E hr hsp;refine W.kla_codeExpr (a8 (ht [] s1 _ H Q (I.wish _) hq) (fun v s' ⟨x,H',J,rv,q⟩=>?_) fun _ _ z=>z.elim);exact⟨x,H',J.os,J.bare,J.base,J.hok,rv,q⟩
end
section
variable {X:Cx} {CX:CXT} {k:Nat} {nm qual x:Str} {params:cG} {body:dk} {scope:Scope} {ps:List Str} {sp:List (Str×V)→Sp} {p pos:Pos} {e:Expr} {es:List Expr} {t:TA} {E:XK} {i:Nat}
end
theorem Inv.capd{X:Cx}{pins:List (Addr×Obj)}{σ:St}{H:Hp}{s:ae}(hfn:∀x,X.fn x=true)(I:Inv X pins σ H s)(g:Str→Bool):Inv {X with fn:=g} pins σ H s:=by
 have ok:=I.ok;refine⟨⟨ok.mod,ok.kind,ok.glob,ok.blt,ok.above,ok.inj,ok.has,fun x c _ h=>ok.cab x c (hfn x) h,ok.hd,ok.frames,ok.stk,ok.exf,ok.bs,ok.bsz,ok.noex,ok.exfs,ok.funs,ok.frf,ok.cab2,ok.hz⟩,I.os,I.bare,I.base,I.loc,I.cell,I.free,fun x c e=>?_,I.pin,I.hok,I.len⟩;rcases I.freeC x c e with z|⟨z,_⟩
 ·exact .inl z
 ·rw[hfn x]at z;cases z
abbrev xki(cap:List Str):Str→Bool:=fun x=> !(cap.contains x)
abbrev xhi(cap:List Str)(CX:CXT)(P:aF)(w:World)(K:ai)(mg:Str→Option Value)(base:Heap)(N:List Str)(qual:Str)(scope:Scope)(f:Addr)(cd:Value)(A:aU)(outer:List Env)(s:ae)(H:Hp)(E:XK):Cx:=
 {jP CX P w K mg base N qual scope f cd A outer s H E with fn:=xki cap}
theorem Fun.okC{P:aF}{w:World}{K:ai}{mg:Str→Option Value}{base:Heap}{x qual:Str}{st:Stmt}{f c:Addr}{fd:aR}{N ps:List Str}{k:Nat}{sp:Sp}(cap:List Str)(F:Fun K x qual st f fd)(hc:fd.code= .ref c)(S:xy N ps (xn st))(len:∀vs H Q E,sp vs H Q E→vs.length=ps.length)
  (hbody:∀(A:aU) (outer:List Env) (s:ae) (H:Hp) (vs:List V) (Q:VK) (E:XK),xO k (A.deeper (gy qual (xn st) s.heap.objs.size f (.ref c)))→sp vs H Q E→
   ∃t,PSs (xhi cap CX0 P w K mg base N qual (xn st) f (.ref c) A outer s H E).nox (xQ st) t∧t {nx:=fun _ H'=>Q .non H',rt:=Q} (start N vs) H):xG P w K mg base CX0 (k+1) f fd ps sp:=by
 obtain⟨oc,od,kV,doc,pm,an,cdv,ct,osl,rfl,lk,hcd⟩:=F.ex;obtain rfl:cdv= .ref c:=hc;refine⟨len,fun A outer s H args us vs Q E hr e0 hb r hsp=>?_⟩;have hl:=len _ _ _ _ hsp;have KX:K.In s.heap:=e0.mod.kin.keeps fun b o e=>(e0.bs b o e).1;have lim:s.heap.NoLimit:=e0.mod.nolimit.keeps fun b o e=>(e0.bs b o e).1;have hkind:∀y∈ps.zip us,(xn st).names.lookup y.1=some .local∨((xn st).names.lookup y.1=some .cell∧((cellsFrom (s.heap.objs.size+1) (xn st).names []).lookup y.1).isSome=true):=fun⟨n,v⟩ hy=>by
  rcases S.par n (fT hy).1 with q|q
  ·exact .inl q
  ·exact .inr ⟨q,iW _ _ _ (.inl q)⟩
 refine gN hr.depth (KX _ _ lk) rfl S.co S.gen rfl (W.codeRec_of KX hcd) (hb _ _ _ _ ?_);refine ix S.kind hkind fun env he s1 x=>?_;subst he;refine⟨lim.keeps x.toInCall.keep,codeAny_func ?_⟩;obtain⟨t,ht,hq⟩:=hbody A outer s H vs Q E (hr.deeper _) hsp;have I:Inv (jP CX0 P w K mg base N qual (xn st) f (.ref c) A outer s H E) [] (start N vs) H s1:=xdR S hr.hd e0 hl r x;have I':Inv (xhi cap CX0 P w K mg base N qual (xn st) f (.ref c) A outer s H E).nox [] (start N vs) H s1:=(I.capd (fun _=>rfl) (xki cap)).wish _;refine a8 (ht [] s1 (start N vs) H _ I' hq) (fun fl s' hs=>?_) fun e s' hs=>hs.elim;have fin:∀{σ':St} {H':Hp} {v:V} {u:Value},Inv (xhi cap CX0 P w K mg base N qual (xn st) f (.ref c) A outer s H E).nox [] σ' H' s'→RelV v u→Q v H'→CE outer P w H s Q u s':=
  fun{σ' H' v u} J rv q=>⟨v,H',J.os,J.bare,J.base,J.hok,rv,q⟩
 cases fl with
 |ret u=>
  obtain⟨v,σ',H',J,rv,q⟩:=hs;exact fin J rv q
 |next=>
  obtain⟨σ',H',J,q⟩:=hs;exact fin (v:=V.non) (u:=aZ) J rfl q
 |brk=>
  obtain⟨_,_,_,q⟩:=hs;exact bS q
 |cont=>
  obtain⟨_,_,_,q⟩:=hs;exact bS q
section
variable {X:Cx} {c P:Addr} {qs:List (Pos×Str)} {name q:Str} {params:cG} {scope:Scope} {pos:Pos} {fns:List Str}
theorem xaO{e:Expr}(hcode:X.env.code= .ref c)(T:jt X.K c P)(hql:X.env.qual++"<lambda>"=q)(hq:(pos,q)∈qs)(hu:(qs.all fun p=> !((pos.line==p.1.line)&&(pos.col==p.1.col))||(p.2==q))=true)
  (hfr:(scope.names.filter fun y=>y.2== .free).map (·.1)=fns) (hdef:defaultsOf params X.env=([],[]):=by rfl):
  PE X (.Lambda params e scope pos) (tFn X P qs fns "<lambda>" q params (.expr e) scope):=by
 subst hql;exact xik hcode T hq hu hfr hdef
end
theorem xkK{K:ai}{c P:Addr}(e:W.codeHdIn K c P=true):jt K c P:=fun _ X=>W.codeHd_of_K X e
end L2
namespace L2
open PySem PySem.Spec PyProof.Rows
theorem xmY{X:Cx}{a b:Expr}{pos:Pos}{op:CmpOp}{t:TE}(h:PC X op a b t)(h1:df op b=false):PT X (.Compare a [op] [b] pos) (cB t):=by
 intro pins s σ H Q I hw;refine gK (thn (h pins s σ H _ I hw) fun v s1 h1=>thn h1 fun u s2 h2=>thn h2 fun c s3 ⟨x,H1,I1,r1,q1⟩=>?_) h1;obtain⟨d,rfl,q⟩:=jR q1;cases r1;exact cS ⟨H1,I1,q⟩
end L2
namespace L2
open PySem PySem.Spec PyProof.Rows
theorem xaP{K:ai}{l:Addr}{xs:List V}{te:TE}{caps:L2.St}{Q:VK}{H2:Hp}(f:V→V)(hl:SqL K H2 l xs)(hn:xs.length≤aO)
  (hs:∀(x:V) (H3:Hp),x∈xs→xc H2 H3→∀R:VK,(∀H6,xc H3 H6→R (f x) H6)→te (some x::caps) H3 R)
  (hd:∀D H',H2 D=none→xc H2 H'→H' D=some (.lst (xs.map f))→Q (.ref D) H'):yW (Itl K l) caps xdf te Q H2:=by
 unfold yW;intro D hD;refine⟨fun i m acc H3=>m=xs.length - i∧i≤xs.length∧acc=(xs.take i).map f∧H3 D=some (.lst acc)∧xc H2 H3,⟨xs.length,by simp,aJ _,rfl,xj,xc.new hD⟩,?_⟩;rintro i m acc H3 ⟨rfl,hi,rfl,hD3,s3⟩;refine⟨hD3,?_⟩;have q:=s3.seq hl
 by_cases hlt:i<xs.length
 ·have hx:xs[i]? =some xs[i]:=ag hlt;refine .inr ⟨⟨xs,xs[i],q,hx⟩,by simp;lia,fun v H4 y=>?_⟩;obtain⟨e,y⟩:=y;have ev:=y xs q;rw[hx]at ev;cases ev;subst e;refine⟨fun _=>?_,fun z=>by cases z⟩;refine hs _ _ (cN hlt) s3 _ fun H6 s6=>⟨s6.at hD3,xs.length - (i+1),by lia,rfl,hlt,?_,xj,(s3.trans s6).put hD⟩;rw[cg,hx,aD];rfl
 ·have e:i=xs.length:=by lia
  subst e;rw[cO]at hD3;exact .inl ⟨⟨xs,q,ao _⟩,hd D H3 hD s3 hD3⟩
end L2
namespace L2
open PySem PySem.W PyProof.Rows
structure STO(lt:Nat→Nat→Bool)(n:Nat):Prop where
 irr:∀i,i<n→lt i i=false
 tr:∀i j k,i<n→j<n→k<n→lt i j=true→lt j k=true→lt i k=true
 tot:∀i j,i<n→j<n→i≠j→lt i j=true∨lt j i=true
def Wp{α:Type}(lt:Nat→Nat→Bool)(n:Nat):KasT α→(α→Prop)→Prop
 | .ret a,Q=>Q a
 | .ask i j k,Q=>i<n∧j<n∧Wp lt n (k (lt i j)) Q
section
variable {lt:Nat→Nat→Bool} {n:Nat} {α β:Type}
theorem Wp.bind{f:α→KasT β}{Q:β→Prop}:∀{t:KasT α},Wp lt n t (fun a=>Wp lt n (f a) Q)→Wp lt n (t.bind f) Q
 | .ret _,h=>h
 | .ask _ _ _,⟨h1,h2,h⟩=>⟨h1,h2,Wp.bind h⟩
theorem Wp.kas{cmp:Nat→Nat→(Bool→ae→Prop)→ae→Prop}{Q:α→ae→Prop}{s:ae}(hc:∀i j (C:Bool→ae→Prop),i<n→j<n→C (lt i j) s→cmp i j C s):∀{t:KasT α},Wp lt n t (fun a=>Q a s)→t.kasWp cmp Q s
 | .ret _,h=>h
 | .ask i j k,⟨h1,h2,h⟩=>hc i j _ h1 h2 (Wp.kas hc h)
theorem wp_mono{Q Q':α→Prop}:∀{t:KasT α},Wp lt n t Q→(∀a,Q a→Q' a)→Wp lt n t Q'
 | .ret _,h,k=>k _ h
 | .ask _ _ _,⟨h1,h2,h⟩,k=>⟨h1,h2,wp_mono h k⟩
structure Pm(n:Nat)(p:Array Nat):Prop where
 size:p.size=n
 perm:p.toList.Perm (aI n)
abbrev g0(p:Array Nat)(i:Nat):Nat:=p.getD i 0
theorem uR(p:Array Nat)(i:Nat):g0 p i=(p[i]?).getD 0:=by unfold g0;rw[dY]
theorem Pm.bd{p:Array Nat}(P:Pm n p){i:Nat}(h:i<n):g0 p i<n:=by
 have hi:i<p.size:=by rw[P.size];exact h
 have e:g0 p i=p[i]:=by rw[uR,cF hi];rfl
 rw[e];exact a7.mp (P.perm.mem_iff.mp (cb.mpr (dH hi)))
theorem Pm.inj{p:Array Nat}(P:Pm n p){i j:Nat}(h:i<n)(h':j<n)(ne:i≠j):g0 p i≠g0 p j:=by
 have nd:p.toList.Nodup:=P.perm.nodup_iff.mpr dq;have hi:i<p.toList.length:=by rw[aM,P.size];exact h
 have hj:j<p.toList.length:=by rw[aM,P.size];exact h'
 have e:∀k (hk:k<p.toList.length),g0 p k=p.toList[k]:=fun k hk=>by
  rw[uR,←du,ag hk];rfl
 rw[e i hi,e j hj];exact fun z=>ne ((fH nd).mp z)
def Up(lt:Nat→Nat→Bool)(p:Array Nat)(m:Nat):Prop:=∀i j,i<j→j<m→lt (g0 p i) (g0 p j)=true
def Dn(lt:Nat→Nat→Bool)(p:Array Nat)(m:Nat):Prop:=∀i j,i<j→j<m→lt (g0 p j) (g0 p i)=true
theorem Up.snoc(S:STO lt n){p:Array Nat}(P:Pm n p){m:Nat}(hm:m<n)(h1:1≤m)(U:Up lt p m)(h:lt (g0 p (m - 1)) (g0 p m)=true):Up lt p (m+1):=fun i j hij hj=>by
 by_cases e:j=m
 ·subst e
  by_cases e2:i=j - 1
  ·subst e2;exact h
  ·exact S.tr _ _ _ (P.bd (by lia)) (P.bd (by lia)) (P.bd hm) (U i (j - 1) (by lia) (by lia)) h
 ·exact U i j hij (by lia)
theorem Dn.snoc(S:STO lt n){p:Array Nat}(P:Pm n p){m:Nat}(hm:m<n)(h1:1≤m)(U:Dn lt p m)(h:lt (g0 p m) (g0 p (m - 1))=true):Dn lt p (m+1):=fun i j hij hj=>by
 by_cases e:j=m
 ·subst e
  by_cases e2:i=j - 1
  ·subst e2;exact h
  ·exact S.tr _ _ _ (P.bd hm) (P.bd (by lia)) (P.bd (by lia)) h (U i (j - 1) (by lia) (by lia))
 ·exact U i j hij (by lia)
theorem xeR(S:STO lt n){p:Array Nat}(P:Pm n p){Q:Nat→Prop}:∀(f m:Nat),1≤m→m+f≤n→Up lt p m→(∀m',m≤m'→m'≤m+f→Up lt p m'→(m'<m+f→lt (g0 p m') (g0 p (m' - 1))=true)→Q m')→Wp lt n (kas_asc p f m) Q
 |0,m,_,_,U,h=>h m (ao _) (ao _) U (fun z=>absurd z (by lia))
 |f+1,m,h1,hf,U,h=>by
  refine⟨P.bd (by lia),P.bd (by lia),?_⟩;cases e:lt (p.getD m 0) (p.getD (m - 1) 0)with
  |true=>exact h m (ao _) (by lia) U fun _=>e
  |false=>
   have e2:lt (g0 p (m - 1)) (g0 p m)=true:=(S.tot _ _ (P.bd (by lia)) (P.bd (by lia)) (P.inj (by lia) (by lia) (by lia))).resolve_right (by rw[show lt (g0 p m) (g0 p (m - 1))=false from e];simp);exact xeR S P f (m+1) (by lia) (by lia) (U.snoc S P (by lia) h1 e2) fun m' a1 a2 a3 a4=>h m' (by lia) (by lia) a3 fun z=>a4 (by lia)
theorem xgw(S:STO lt n){p:Array Nat}(P:Pm n p){Q:Array Nat×Nat×Nat→Prop}:∀(f m:Nat),2≤m→m+f≤n→Dn lt p m→(∀m',2≤m'→m'≤n→Dn lt p m'→Q (p,m',0))→Wp lt n (kas_desc f p m 0) Q
 |0,m,_,hf,U,h=>h m (by lia) (by lia) U
 |f+1,m,h1,hf,U,h=>by
  refine⟨P.bd (by lia),P.bd (by lia),?_⟩;cases e:lt (p.getD m 0) (p.getD (m - 1) 0)with
  |true=>exact xgw S P f (m+1) (by lia) (by lia) (U.snoc S P (by lia) (by lia) e) h
  |false=>
   have e2:lt (g0 p (m - 1)) (g0 p m)=true:=(S.tot _ _ (P.bd (by lia)) (P.bd (by lia)) (P.inj (by lia) (by lia) (by lia))).resolve_right (by rw[show lt (g0 p m) (g0 p (m - 1))=false from e];simp);refine⟨P.bd (by lia),P.bd (by lia),?_⟩;rw[show lt (p.getD (m - 1) 0) (p.getD m 0)=true from e2];exact h m (by lia) (by lia) U
theorem Pm.rev{p:Array Nat}(P:Pm n p)(i j:Nat):Pm n (kas_rev p i j):=⟨by unfold kas_rev;rw[mirror_size];exact P.size,(iB.mp (mirror_perm p i j ((j - i) / 2))).trans P.perm⟩
theorem Dn.rev{p:Array Nat}(P:Pm n p){m:Nat}(hm:m≤n)(U:Dn lt p m):Up lt (kas_rev p 0 m) m:=fun i j hij hj=>by
 have e:∀k,k<m→g0 (kas_rev p 0 m) k=g0 p (m - 1 - k):=fun k hk=>by
  rw[uR,uR];unfold kas_rev;rw[getElem?_mirror_all (by rw[P.size];exact hm),if_pos ⟨aJ _,hk⟩]
  congr 2
  lia
 rw[e i (by lia),e j hj];exact U (m - 1 - j) (m - 1 - i) (by lia) (by lia)
theorem xjq(S:STO lt n){p:Array Nat}(P:Pm n p){m:Nat}(h1:1≤m)(hm:m≤n)(U:Dn lt p m):Wp lt n (kas_tail3 m n p) (fun r=>Pm n r.2∧1≤r.1∧r.1≤n∧Up lt r.2 r.1):=
 Wp.bind (xeR S (P.rev 0 m) (n - m) m h1 (by lia) (U.rev P hm) fun m' a1 a2 a3 _=>⟨P.rev 0 m,by show 1≤m';lia,by show m'≤n;lia,a3⟩)
theorem xjr(S:STO lt n){p:Array Nat}(P:Pm n p)(h2:2≤n):Wp lt n (kas_count n p) (fun r=>Pm n r.2∧1≤r.1∧r.1≤n∧Up lt r.2 r.1):=by
 refine Wp.bind (xeR S P (n - 1) 1 (ao _) (by lia) (fun i j h1 h2=>absurd h2 (by lia)) fun m a1 a2 a3 a4=>?_)
 by_cases e:(m==n)=true
 ·rw[if_pos e];exact⟨P,a1,by show m≤n;lia,a3⟩
 ·rw[if_neg e];have hmn:m<n:=by
   have:m≠n:=by simpa using e
   lia
  by_cases e2:m > 1
  ·rw[if_pos e2];refine⟨P.bd (by lia),P.bd (by lia),?_⟩;rw[show lt (p.getD 0 0) (p.getD (m - 1) 0)=true from a3 0 (m - 1) (by lia) (by lia)];exact⟨P,a1,by show m≤n;lia,a3⟩
  ·rw[if_neg e2];have e3:m=1:=by lia
   subst e3;refine Wp.bind (xgw S P (n - 2) 2 (ao _) (by lia) (fun i j h1 h2=>?_) fun m' b1 b2 b3=>?_)
   ·obtain rfl:j=1:=by lia
    obtain rfl:i=0:=by lia
    exact a4 (by lia)
   ·exact xjq S P (by show 1≤m';lia) b2 b3
theorem xb9(S:STO lt n){p:Array Nat}(P:Pm n p){k:Nat}(hk:k<n){Q:Nat→Prop}(h:∀l,l≤k→(∀i,i<l→lt (g0 p i) (g0 p k)=true)→(∀i,l≤i→i<k→lt (g0 p k) (g0 p i)=true)→Q l)(U:Up lt p k):
  ∀(f l r:Nat),l≤r→r≤k→r - l≤f→(∀i,i<l→lt (g0 p i) (g0 p k)=true)→(∀i,r≤i→i<k→lt (g0 p k) (g0 p i)=true)→Wp lt n (kas_place p k f l r) Q
 |0,l,r,a1,a2,a3,b1,b2=>h l (by lia) b1 fun i h1 h2=>b2 i (by lia) h2
 |f+1,l,r,a1,a2,a3,b1,b2=>by
  unfold kas_place
  by_cases e:l≥r
  ·rw[if_pos e];exact h l (by lia) b1 fun i h1 h2=>b2 i (by lia) h2
  ·rw[if_neg e];have hm1:(l+r) / 2<r:=by lia
   have hm2:l≤(l+r) / 2:=by lia
   refine⟨P.bd hk,P.bd (by lia),?_⟩;cases e2:lt (p.getD k 0) (p.getD ((l+r) / 2) 0)with
   |true=>
    refine xb9 S P hk h U f l ((l+r) / 2) hm2 (by lia) (by lia) b1 fun i h1 h2=>?_
    by_cases e3:i=(l+r) / 2
    ·subst e3;exact e2
    ·exact S.tr _ _ _ (P.bd hk) (P.bd (by lia)) (P.bd (by lia)) e2 (U ((l+r) / 2) i (by lia) h2)
   |false=>
    have e4:lt (g0 p ((l+r) / 2)) (g0 p k)=true:=(S.tot _ _ (P.bd (by lia)) (P.bd hk) (P.inj (by lia) hk (by lia))).resolve_right (by rw[show lt (g0 p k) (g0 p ((l+r) / 2))=false from e2];simp);refine xb9 S P hk h U f ((l+r) / 2+1) r (by lia) a2 (by lia) (fun i h1=>?_) b2
    by_cases e3:i=(l+r) / 2
    ·subst e3;exact e4
    ·exact S.tr _ _ _ (P.bd (by lia)) (P.bd (by lia)) (P.bd hk) (U i ((l+r) / 2) (by lia) (by lia)) e4
theorem Up.ins{p:Array Nat}(P:Pm n p){k l:Nat}(hk:k<n)(hl:l≤k)(U:Up lt p k)(b1:∀i,i<l→lt (g0 p i) (g0 p k)=true)(b2:∀i,l≤i→i<k→lt (g0 p k) (g0 p i)=true):Up lt (bubble p k (k - l)) (k+1):=fun i j hij hj=>by
 have e:∀x,g0 (bubble p k (k - l)) x=if x=l then g0 p k else if l<x∧x≤k then g0 p (x - 1)else g0 p x:=fun x=>by
  rw[uR,getElem?_bubble (by rw[P.size];exact hk) (k - l) (by lia),show k - (k - l)=l by lia]
  by_cases h1:x=l
  ·rw[if_pos h1,if_pos h1,uR]
  ·rw[if_neg h1,if_neg h1]
   by_cases h2:l<x∧x≤k
   ·rw[if_pos h2,if_pos h2,uR]
   ·rw[if_neg h2,if_neg h2,uR]
 rw[e i,e j]
 by_cases hi:i=l
 ·rw[if_pos hi,if_neg (by lia),if_pos ⟨by lia,by lia⟩];exact b2 (j - 1) (by lia) (by lia)
 ·rw[if_neg hi]
  by_cases hj':j=l
  ·rw[if_pos hj',if_neg (by lia)];exact b1 i (by lia)
  ·rw[if_neg hj']
   by_cases h1:l<i∧i≤k
   ·rw[if_pos h1,if_pos ⟨by lia,by lia⟩];exact U (i - 1) (j - 1) (by lia) (by lia)
   ·rw[if_neg h1]
    by_cases h2:l<j∧j≤k
    ·rw[if_pos h2];exact U i (j - 1) (by lia) (by lia)
    ·rw[if_neg h2];exact U i j hij (by lia)
theorem Pm.bub{p:Array Nat}(P:Pm n p)(k d:Nat):Pm n (bubble p k d):=⟨by rw[bubble_size];exact P.size,(iB.mp (bubble_perm p k d)).trans P.perm⟩
theorem xin(S:STO lt n):∀(f:Nat) (p:Array Nat) (k:Nat),k+f=n→Pm n p→Up lt p k→Wp lt n (kas_bin f p k) (fun q=>Pm n q∧Up lt q n)
 |0,p,k,e,P,U=>⟨P,by rw[show n=k by lia];exact U⟩
 |f+1,p,k,e,P,U=>by
  refine Wp.bind (xb9 S P (by lia) (fun l hl b1 b2=>?_) U k 0 k (aJ _) (ao _) (by lia) (fun i h=>absurd h (by lia)) fun i h1 h2=>absurd h2 (by lia));exact xin S f _ (k+1) (by lia) (P.bub k (k - l)) (U.ins P (by lia) hl b1 b2)
theorem xdi(S:STO lt n)(h2:2≤n):Wp lt n (kas_sort n) (fun q=>Pm n q∧Up lt q n):=by
 have P0:Pm n (ak (aI n)):=⟨by simp,by simp⟩;refine Wp.bind ?_;refine wp_mono (xjr S P0 h2) fun r hr=>?_;obtain⟨P,a1,a2,U⟩:=hr
 by_cases e:r.1<n
 ·rw[if_pos e,show max r.1 1=r.1 by lia];exact xin S (n - r.1) r.2 r.1 (by lia) P U
 ·rw[if_neg e];exact⟨P,by rw[show n=r.1 by lia];exact U⟩
end
end L2
namespace PySem
open PyProof.Rows
section
variable {prog:aF} {w:World} {A:aU} {E:Value→ae→Prop} {s:ae}
theorem xfZ{r:Addr}{a b c:Int}{t u v:Tok}{k:Nat}{Q:List Value→ae→Prop}(hnd:A.handled=none)(hr:IsRange s.heap r a b c t u v)
  (hk:bz a b c=k) (hle:k≤2^24)
  (hQ:∀g tk xs m,(∀b o,s.heap.get? b=some o→g.get? b=some o)→s.heap.objs.size<g.objs.size→
   g.get? s.heap.objs.size=some {cls:=.type "list",dict:=none,data:=.seq xs m,slots:=#[]}→ItemsOf (fun i v=>∃t,v= .int (a+i*c) t) xs k→Q xs.toList {s with heap:=g,toks:=tk}):
  wpAny (model prog w) A (collect (.ref r)) Q E s:=by
 unfold collect;refine aa (kB (bN entry_proto_collect' ?_));show wpAny _ _ (do again (.builtin "list.__iadd__" ⟨[←newList [],.ref r],[]⟩)) _ _ s;refine aa (ef (ah ⟨lT _ (by decide+kernel),bN entry_list_iadd' ?_⟩));show wpAny _ _ (bY (.ref s.heap.objs.size) (.ref r) (.ref s.heap.objs.size)) _ _ {s with heap:=s.heap.push (aK "list" #[] 0)};have hD:(s.heap.push (aK "list" #[] 0)).get? s.heap.objs.size=some {cls:=.type "list",data:=.seq #[] 0}:=aB _ rfl;have old:∀b o,s.heap.get? b=some o→(s.heap.push (aK "list" #[] 0)).get? b=some o:=fun b o e=>af _ e;refine xhe (prog:=prog) (w:=w) (A:=A) (R:=fun r s'=>match r with| .ok (.ret v)=>wpAny (model prog w) A (match v with| .ref a=>do {let o ←load a;match o.data with| .seq xs _=>pure xs.toList|_=>il "internal:collect"} |_=>il "internal:collect") Q E s'| .ok _=>False| .error e=>E e s') (s:={s with heap:=s.heap.push (aK "list" #[] 0)}) hnd (old r _ hr) hk hle s.heap.objs.size (.ref s.heap.objs.size) 0 hD fun g tk xs m q1 q2 q3=>?_;show wpAny (model prog w) A (do
   let o ←load s.heap.objs.size
   match o.data with
   | .seq xs _=>pure xs.toList
   |_=>il "internal:collect") Q E {s with heap:=g,toks:=tk}
 refine aa (wpAny_load q2 ?_);exact ah (hQ g tk xs m (fun b o e=>q1 b o (ar (aj e)) (old b o e)) (aj q2) q2 q3)
end
end PySem
namespace HT
open PySem PyProof.Rows
open PySem.SeqAt
open PySem.AutoSeq1 (wpAny_loadPart')
open PySem.MeetsSeq PySem.MeetsSeq2 PySem.MeetsSeq3
theorem xgx{vs:List Value}{ns:List Int}(h:cE vs ns){i:Nat}(hi:i<ns.length):∃t,vs[i]? =some (.int ns[i] t):=by
 have hx:(ns.map L2.V.int)[i]? =some (.int ns[i]):=by rw[au,ag hi];rfl
 obtain⟨u,h1,t,rfl⟩:=L2.Vals.get (L2.xaG h) hx;exact⟨t,h1⟩
theorem xkL(l b:Addr)(items items2:Array Value)(n n2:Nat)(dd dd2:Option Addr)(sl sl2:Array (Option Value))(ns ms:List Int)(hi:cE items.toList ns)(hj:cE items2.toList ms)(k:Nat):
  ∀i:Nat,ns.length - i=k→i≤ns.length→i≤ms.length→Meets (eP.«list.__eq__.loop» ⟨[.ref l,.ref b,dP i,dP 0],[]⟩)
   (fun A R s=>s.heap.get? l=some {cls:=.type "list",dict:=dd,data:=.seq items n,slots:=sl}∧s.heap.get? b=some {cls:=.type "list",dict:=dd2,data:=.seq items2 n2,slots:=sl2}∧
    R (.ok (.ret (.bool (lexLt (ns.drop i) (ms.drop i))))) s):=by
 have z1:items.size=ns.length:=by rw[←hi.length];simp
 have z2:items2.size=ms.length:=by rw[←hj.length];simp
 induction k with
 |zero=>
  intro i hk h1 h2 prog w A R s h;obtain⟨hp,g,d,tk,os⟩:=s;obtain⟨hl,hb,h⟩:=h
  wp_walk using bC hl,bC hb
  have hi1:items[((i:Nat):Int).toNat]? =none:=by simp;lia
  rw[hi1]
  wp_walk using bC hl,bC hb
  show R (.ok (.ret (.bool (decide (items.size<items2.size))))) _;rw[cR (by lia)]at h;cases e:ms.drop i with
  |nil=>
   rw[e]at h;have:ms.length≤i:=List.drop_eq_nil_iff.mp e;rw[decide_eq_false (by lia)];exact h
  |cons y r=>
   rw[e]at h;have:¬ms.length≤i:=fun z=>by rw[cR z]at e;cases e
   rw[decide_eq_true (by lia)];exact h
 |succ k ih=>
  intro i hk h1 h2 prog w A R s h;obtain⟨hp,g,d,tk,os⟩:=s;obtain⟨hl,hb,h⟩:=h;have hlt:i<ns.length:=by lia
  obtain⟨t,ht⟩:=xgx hi hlt;have hi1:items[((i:Nat):Int).toNat]? =some (.int ns[i] t):=by simpa using ht
  wp_walk using bC hl,bC hb
  by_cases hlt2:i<ms.length
  ·obtain⟨u,hu⟩:=xgx hj hlt2;have hi2:items2[((i:Nat):Int).toNat]? =some (.int ms[i] u):=by simpa using hu
   rw[hi1,hi2];have e1:ns.drop i=ns[i]::ns.drop (i+1):=eI hlt;have e2:ms.drop i=ms[i]::ms.drop (i+1):=eI hlt2;rw[e1,e2,yn]at h;have hc:((i:Int)+1)=((i+1:Nat):Int):=by push_cast;rfl
   obtain⟨e,he,hiff⟩:=xeC A.in1 ⟨hp,g,d,tk,os⟩ ns[i] t ms[i] u;refine aa (he prog w _ _ ?_);cases e with
   |true=>
    rw[if_pos (hiff.mp rfl)]at h
    wp_walk
    rw[hc];exact⟨bI plain_eq_loop _,bN entry_eq_loop (by
     rw[bE plain_eq_loop _];exact ih (i+1) (by lia) (by lia) (by lia) prog w A R _ ⟨hl,hb,h⟩)⟩
   |false=>
    rw[if_neg (fun q=>absurd (hiff.mpr q) aC)]at h
    wp_walk using bC hl,bC hb
    rw[hi1,hi2];have hri:=xeD A.in1 ⟨hp,g,d,tk,os⟩ ns[i] t ms[i] u prog w
    wp_walk using hri
    simpa using h
  ·have hi2:items2[((i:Nat):Int).toNat]? =none:=by simp;lia
   rw[hi1,hi2]
   wp_walk using bC hl,bC hb
   show R (.ok (.ret (.bool (decide (items.size<items2.size))))) _;rw[decide_eq_false (by lia)];have e1:ns.drop i=ns[i]::ns.drop (i+1):=eI hlt;have e2:ms.drop i=[]:=cR (by lia);rw[e1,e2]at h;exact h
theorem xaQ(l b:Addr)(items items2:Array Value)(n n2:Nat)(dd dd2:Option Addr)(sl sl2:Array (Option Value))(ns ms:List Int)(hi:cE items.toList ns)(hj:cE items2.toList ms):
  Meets (eP.«list.__lt__» ⟨[.ref l,.ref b],[]⟩)
   (fun _ R s=>s.heap.get? l=some {cls:=.type "list",dict:=dd,data:=.seq items n,slots:=sl}∧s.heap.get? b=some {cls:=.type "list",dict:=dd2,data:=.seq items2 n2,slots:=sl2}∧
    R (.ok (.ret (.bool (lexLt ns ms)))) s):=by
 intro prog w A R s h;obtain⟨hp,g,d,tk,os⟩:=s;obtain⟨hl,hb,h⟩:=h;have f3:=AutoSeq1.sub_list_list
 wp_walk using bC hl,bC hb
 exact⟨bI plain_eq_loop _,bN entry_eq_loop (by
  rw[bE plain_eq_loop _];exact xkL l b items items2 n n2 dd dd2 sl sl2 ns ms hi hj _ 0 rfl (aJ _) (aJ _) prog w A R _ ⟨hl,hb,by simpa using h⟩)⟩
end HT
namespace HT
open PySem PyProof.Rows
section
variable {prog:aF} {w:World} {A:aU} {E:Value→ae→Prop} {s:ae}
theorem xf0{l b:Addr}{items items2:Array Value}{ns ms:List Int}{Q:Value→ae→Prop}(hl:s.heap.IsList l items)(hb:s.heap.IsList b items2)(hi:cE items.toList ns)(hj:cE items2.toList ms)
  (hu:A.units<cLine) (h:Q (.bool (lexLt ns ms)) s):wpAny (model prog w) A (bD .Lt (.ref l) (.ref b)) Q E s:=by
 obtain⟨⟨cls,dd,data,sl⟩,ho,hc,n,hd⟩:=id hl;obtain⟨⟨cls2,dd2,data2,sl2⟩,ho2,hc2,n2,hd2⟩:=id hb;simp only at hc hd hc2 hd2;subst hc hd hc2 hd2;exact richCompare_meets_room (op:=.Lt) ⟨_,ho,rfl⟩ ⟨_,ho2,rfl⟩ PySem.F.slot_list_lt PySem.F.entry_list_lt (PySem.F.args_list_lt_2 _ _) (xaQ l b items items2 n n2 dd dd2 sl sl2 ns ms hi hj)
  ⟨ho,ho2,show eE (lexLt ns ms)≠kQ∧Q (.bool (lexLt ns ms)) s from⟨(fun x=>nomatch x),h⟩⟩ hu
end
end HT
namespace L2
open PySem PySem.Spec PyProof.Rows
section
variable {X:Cx}
def xnH(K:ai):R2:=fun x y H Q=>∃a b ns ms,x= .ref a∧y= .ref b∧SqL K H a (ns.map V.int)∧SqL K H b (ms.map V.int)∧Q (.bl (HT.lexLt ns ms)) H
theorem xmb(hu:X.A.units<cLine):OpR X (bD .Lt) (xnH X.K):=by
 intro pins s σ H x y v u Q I rx ry h;obtain⟨a,b,ns,ms,rfl,rfl,ha,hb,q⟩:=h;cases rx;cases ry;obtain⟨its,r1,p1,_⟩:=I.list ha;obtain⟨its2,r2,p2,_⟩:=I.list hb;have i1:cE its.toArray.toList ns:=intsAre_of r1;have i2:cE its2.toArray.toList ms:=intsAre_of r2;exact HT.xf0 p1.isList p2.isList i1 i2 hu ⟨.bl (HT.lexLt ns ms),H,I,rfl,q⟩
end
end L2
namespace HT
open PySem PyProof.Rows
section
variable {prog:aF} {w:World} {A:aU} {E:Value→ae→Prop} {s:ae}
theorem xdj{l b:Addr}{items items2:Array Value}{ns ms:List Int}{Q:Bool→ae→Prop}(hl:s.heap.IsList l items)(hb:s.heap.IsList b items2)(hi:cE items.toList ns)(hj:cE items2.toList ms)
  (hu:A.units<cLine) (h:Q (lexLt ns ms) s):wpAny (model prog w) A (oneLt' true (.ref l) (.ref b)) Q E s:=by
 obtain⟨⟨cls,dd,data,sl⟩,ho,hc,n,hd⟩:=id hl;obtain⟨⟨cls2,dd2,data2,sl2⟩,ho2,hc2,n2,hd2⟩:=id hb;simp only at hc hd hc2 hd2;subst hc hd hc2 hd2;rw[oneLt'_eq];simp only[if_true];refine aa (wpAny_cRoomFor hu ?_);refine aa (wpAny_callSpecialIfBound?_slot (T:="list") ⟨_,ho,rfl⟩ PySem.F.slot_list_lt (fL PySem.F.slot_list_lt ⟨_,ho,rfl⟩ PySem.F.entry_list_lt (PySem.F.args_list_lt_2 _ _) (xaQ l b items items2 n n2 dd dd2 sl sl2 ns ms hi hj) ⟨ho,ho2,?_⟩));exact cS h
end
end HT
namespace L2
open PySem PySem.Spec PyProof.Rows
section
variable {X:Cx}
theorem xcH:∀{bs:List Bool} {us:List Value},Vals (bs.map V.bl) us→us=bs.map eE
 |[],[],_=>rfl
 |[],_::_,h=>by cases h
 |_::_,[],h=>by cases h
 |b::bs,u::us,h=>by
  cases h with
  |cons h1 h2=>
   rw[xcH h2];cases h1;rfl
theorem range_any(bs:List Bool)(d:Bool):(aI bs.length).any (fun i=>bs.getD i d)=bs.any id:=by
 rw[d7,dt,dt];constructor
 ·rintro⟨i,hi,h⟩;have hi':i<bs.length:=by simpa using hi
  exact⟨bs[i],cN hi',by simpa [hi']using h⟩
 ·rintro⟨x,hx,h⟩;obtain⟨i,hi,rfl⟩:=cA.mp hx;exact⟨i,by simpa using hi,by simpa [hi]using h⟩
def xmZ(K:ai)(f:List Bool→Bool):List V→Hp→VK→Prop:=fun xs H Q=>∃p bs,xs=[.ref p]∧SqL K H p (bs.map V.bl)∧Q (.bl (f bs)) H
theorem xf1{prog:aF}{w:World}{A:aU}(bs:List Bool):TruthOf prog w A (fun i v=>(bs.map eE).toArray[i]? =some v) (fun i=>bs.getD i true):=by
 intro i v s Q E hP hQ;have e:v= .bool (bs.getD i true):=by
  simp only[kC,au]at hP;cases q:bs[i]? with
  |none=>rw[q]at hP;cases hP
  |some b=>rw[q]at hP;simp at hP;rw[←hP];simp[aX,q]
 rw[e];exact cS hQ
theorem xio(hc:X.calm=true):yt X (.builtin "any") (xmZ X.K fun bs=>bs.any id):=by
 intro pins s σ H xs us Q I r h;obtain⟨p,bs,rfl,hq,q⟩:=h;obtain⟨u,rfl,rx⟩:=vals1 r;cases rx;obtain⟨its,r',pl,hz⟩:=I.list hq;have e:=xcH r';subst e;have hL:=pl.isList;have hlt:p<s.heap.objs.size:=by obtain⟨_,e,_⟩:=hL;exact aj e
 refine call_any_walk (fq hL ⟨_,_,_,_,_,_,fun i=>bs.getD i true,rfl,iP (A:=X.A.in1) (I.ok.hd hc) _ p (ar hlt) (bs.map eE).toArray,⟨⟨_,aB _ rfl,rfl,rfl⟩,hL.push _⟩,xf1 bs,fun h' tk hk=>?_⟩);refine⟨.bl (bs.any id),H,I.kept (t':=tk) (fun b o e=>hk b o (fun hb=>?_) (af _ e)),?_,q⟩
 ·exact absurd (aj e) (by rw[aH.mp hb];exact bV _)
 ·have e:=range_any bs true;simp only[av,ab];rw[e];rfl
end
end L2
namespace L2
open PySem PySem.Spec PyProof.Rows
section
variable {X:Cx} {pins:List (Addr×Obj)} {σ:St} {H:Hp} {s:ae} {h':Heap}
theorem Inv.turnLaid{t':Nat}{ch:List Addr}{a:Addr}{o:HO}(I:Inv X pins σ H s)(k:∀b u,b∉ch→s.heap.get? b=some u→h'.get? b=some u)(hp:s.heap.objs.size≤a)(new:xE X.prog X.w (upd H a o) h' a o)
  (hn:∀b∈ch,H b=none) (hl:∀b∈ch,b<s.heap.objs.size) (hch:∀b∈ch,(b∈X.ex∨X.s₀.heap.objs.size≤b)∧b≠X.env.locals∧(∀x c,X.env.cells.lookup x=some c→c≠b)∧∀p∈X.pn++pins,p.1≠b):
  Inv X pins σ (upd H a o) {s with heap:=h',toks:=t'}:=by
 have nit:∀b u,H b=some u→b∉ch:=fun b u e z=>by rw[hn b z]at e;cases e
 have fr:=I.hok.fresh hp;refine I.call' (s':={s with heap:=h',toks:=t'}) (ch:=ch) rfl ⟨fun b o q _ _ hx=>k b o hx q,fun b o q _ _ hx=>⟨o.slots,k b o hx q⟩,fun b o q n _=>?_,fun b o q hx=>⟨o,k b o hx q⟩,fun b u q _=>?_⟩ (fun b u e=>?_) I.bare hch
 ·rw[xk (ar (aw (aj q) hp))];exact n
 ·rw[xk (xF q fr)];exact q
 ·by_cases hb:b=a
  ·subst hb;rw[xj]at e;cases e;exact new
  ·rw[xk hb]at e;refine(I.hok b u e).stay (fun c v hc q=>k c v ?_ q) (fun c q=>by rw[xk (xF q fr)];exact q) fun c xs q _=>by rw[xk (xF q fr)];exact q
   rcases hc with z|z
   ·rw[z];exact nit b u e
   ·exact nit c _ z
end
def Ite(K:ai)(a:Addr):It:=
 ⟨fun i H=>∃xs x,SqL K H a xs∧xs[i]? =some x,fun i H v H'=>∃T x,v= .ref T∧H T=none∧H'=upd H T (.tup [.int i,x])∧∀xs,SqL K H a xs→xs[i]? =some x,fun i H=>∃xs,SqL K H a xs∧xs.length≤i⟩
theorem xip{P:aF}{w:World}{K:ai}{es:List Expr}{k:Nat}{pos:Pos}(a e it:Addr)(hne:e≠it):Turn P w K (.Tuple es k pos) (Ite K a) [e,it] e (fun i h=>(∃old,IsEnum h e it (i:Nat) old)∧h.IsListIter it a i) where
 mem:=by simp
 obj:=fun i h st b hb=>by
  obtain⟨⟨old,he⟩,⟨o,e1,c,d⟩⟩:=st;rcases az.mp hb with z|z
  ·subst z;exact⟨_,he,fun v z=>by cases z⟩
  ·rw[aH.mp z];exact⟨o,e1,fun v z=>by rw[d]at z;cases z⟩
 keep:=fun i h h' st kk=>by
  obtain⟨⟨old,he⟩,hit⟩:=st;exact⟨⟨old,kk e (by simp) _ he⟩,hit.at fun o x=>kk it (by simp) o x⟩
 item:=by
  intro X hP hw hK hc i pins s σ H E I hf st hg;subst hP hw hK;obtain⟨xs,x,hq,hx⟩:=hg;obtain⟨its,rv,p,hz⟩:=I.list hq;obtain⟨u,hu,ru⟩:=rv.get hx;obtain⟨⟨old,he⟩,hit⟩:=st;have he':=aj he;have hi':it<s.heap.objs.size:=by obtain⟨o,q,_⟩:=hit;exact aj q
  refine wpAny_pyNext_enum_item he hit p.isList (x:=u) (by simpa using hu) hne fun h' heo hit' hT hsz hk=>?_;refine⟨_,rfl,wpAny_letOwnedTupleGo_enum (s:={s with heap:=h',toks:=s.toks+1}) heo fun h2 he2 hs2=>?_⟩;have hT2:h2.get? s.heap.objs.size=some {cls:=.type "tuple",data:=.seq #[.int i s.toks,u]}:=(hs2.2 _ (eR he')).trans hT;have I2:Inv X pins σ (upd H s.heap.objs.size (.tup [.int i,x])) {s with heap:=h2,toks:=s.toks+1}:=by
   refine I.turnLaid (ch:=[e,it]) (fun b o hb q=>?_) (ao _) ⟨by simp[ay],[.int i s.toks,u],.cons ⟨_,rfl⟩ (.cons ru .nil),⟨_,hT2,rfl,_,rfl⟩⟩ (fun b hb=>(hf b hb).1) (fun b hb=>?_) fun b hb=>?_
   ·have b1:b≠e:=fun z=>hb (by simp[z]);have b2:b≠it:=fun z=>hb (by simp[z]);exact(hs2.2 b b1).trans (hk b o b1 b2 q)
   ·rcases az.mp hb with z|z
    ·rw[z];exact he'
    ·rw[aH.mp z];exact hi'
   ·obtain⟨f0,f1,f2,f3,f4,f5⟩:=hf b hb;exact⟨f3,f1,f4,f5⟩
  refine⟨.ref s.heap.objs.size,_,I2,rfl,⟨_,x,rfl,I.hok.fresh (ao _),rfl,fun ys hy=>by rw[I.list_inj hy hq];exact hx⟩,⟨⟨u,by simpa using he2⟩,hit'.extBut hs2.extBut (bO hne)⟩,fun b hb=>?_⟩;have hb':b≠s.heap.objs.size:=by
   rcases az.mp hb with z|z
   ·rw[z];exact ar he'
   ·rw[aH.mp z];exact ar hi'
  rw[xk hb'];exact(hf b hb).1
 done:=by
  intro X hP hw hK hc i pins s σ H E I hf st hg;subst hP hw hK;obtain⟨xs,hq,hx⟩:=hg;obtain⟨its,rv,p,hz⟩:=I.list hq;obtain⟨⟨old,he⟩,hit⟩:=st;obtain⟨f0,f1,f2,f3,f4,f5⟩:=hf it (by simp);have hl:=rv.length;exact wpAny_pyNext_enum_end (I.ok.hd hc) he hit p.isList (by simp;lia) fun h' eb=>⟨rfl,I.turned (t':=s.toks) (fun b o hb e=>eb b o hb e) f0 f1 f3 f4 f5⟩
 self:=fun _ _ _ _ _ st h=>by
  obtain⟨⟨old,he⟩,_⟩:=st;exact wpAny_pyIter_enum he h
section
variable {X:Cx} {es:List Expr} {k:Nat} {tp:Pos}
def xm0(K:ai)(ta:TA):TI:=fun σ H R=>ta σ H fun vs H1=>∃a,vs=[.ref a]∧(∃xs,SqL K H1 a xs)∧R (Ite K a) H1
theorem xkM{l:Expr}{ta:TA}{p pos:Pos}(hg:Gl X "enumerate")(hm:X.mg "enumerate"=none)(ha:PA X [l] ta)(hs:bh [l] X.env=[(false,eval l X.env)]:=by rfl):PI X (.Tuple es k tp) (.Call (.Name "enumerate" p) [l] [] pos) (xm0 X.K ta):=by
 intro pins s σ H R I h;refine Call_ (zg I hg hm xeP (cK (thn (ha pos pins s σ H _ I h) fun us s1 ⟨vs,H1,I1,r1,q1⟩=>?_) hs rfl));obtain⟨a,e,⟨xs,hq⟩,q⟩:=q1;subst e;obtain⟨u,rfl,ru⟩:=Vals.one r1;cases ru;obtain⟨its,rv,pl,hz⟩:=I1.list hq;refine call_enumerate_list pl.isList fun h' he hi hsz hk=>wpAny_pyIter_enum (s:={s1 with heap:=h'}) he ?_;refine⟨s1.heap.objs.size+1,[s1.heap.objs.size+1,s1.heap.objs.size],_,_,H1,rfl,I1.kept (t':=s1.toks) hk,xip a _ _ (Nat.succ_ne_self _),⟨⟨.none,by simpa using he⟩,hi⟩,fun b hb=>?_,q⟩;rcases az.mp hb with z|z
 ·rw[z];exact I1.fpOk (dz _) (I1.hok.fresh (dz _))
 ·rw[aH.mp z];exact I1.fpOk (ao _) (I1.hok.fresh (ao _))
end
structure yX(X:Cx)(scope:Scope)(x1 x2:Str)(cap:List Nat)(ys:List Str):Prop where
 kind:scope.kind= .function
 nocell:∀y∈scope.names,y.2≠.cell
 locs:∀y∈scope.names,y.2= .local→scope.names.lookup y.1=some .local
 lx1:scope.names.lookup x1=some .local
 lx2:scope.names.lookup x2=some .local
 fr:∀y∈scope.names,y.2= .free→X.env.kindOf y.1=some .cell∨X.env.kindOf y.1=some .free
 cap:jT X scope cap ys
 nd:(x1::x2::ys).Nodup
theorem xdk{X:Cx}{scope:Scope}{x1 x2:Str}{cap:List Nat}{ys:List Str}(kind:scope.kind= .function)(h1:(scope.names.all fun y=> !(y.2== .cell))=true)(h2:(scope.names.all fun y=> !(y.2== .local)||scope.names.lookup y.1==some .local)=true)
  (hx1:scope.names.lookup x1=some .local) (hx2:scope.names.lookup x2=some .local) (h3:(scope.names.all fun y=> !(y.2== .free)||(X.env.kindOf y.1==some .cell||X.env.kindOf y.1==some .free))=true) (hcap:jT X scope cap ys) (hnd:(x1::x2::ys).Nodup):yX X scope x1 x2 cap ys:=by
 refine⟨kind,fun y hy e=>?_,fun y hy e=>?_,hx1,hx2,fun y hy e=>?_,hcap,hnd⟩
 ·have:=cM.mp h1 y hy;rw[e]at this;exact absurd this (by decide)
 ·have:=cM.mp h2 y hy;rw[e]at this;simpa using this
 ·have:=cM.mp h3 y hy;rw[e]at this;simpa using this
section
variable {X:Cx} {scope:Scope} {x1 x2:Str} {cap:List Nat} {ys:List Str}
theorem yX.clos(B:yX X scope x1 x2 cap ys)(ok:X.Ok):∀y∈scope.names,y.2= .free→∃c,X.env.cells.lookup y.1=some c:=fun y hy e=>ok.has y.1 (B.fr y hy e)
theorem yX.sub(B:yX X scope x1 x2 cap ys)(ok:X.Ok){z:Str}{c:Addr}(h:(yr X.env.cells scope.names []).lookup z=some c):X.env.cells.lookup z=some c:=by
 rcases jS (B.clos ok) h with q|q
 ·simp at q
 ·exact q
theorem yX.start{pins:List (Addr×Obj)}{σ:St}{H₂:Hp}{s₂:ae}{fp:List Addr}{h₁:Heap}{tk:Nat}{C D:Addr}(B:yX X scope x1 x2 cap ys)(I:Inv X pins σ H₂ s₂)
  (hf:∀b∈fp,uD X pins H₂ b) (hD:s₂.heap.objs.size≤D) (hC:s₂.heap.objs.size≤C) (hDC:D≠C) (hk:∀b o,s₂.heap.get? b=some o→h₁.get? b=some o)
  (hns:∃m,h₁.Ns C m) (hl:h₁.get? D=some {cls:=.type "list",data:=.seq ([]:List Value).toArray}) (hfp:∀b∈fp,b<s₂.heap.objs.size):
  Inv (X.blk scope C (x1::x2::ys) s₂ H₂ fp) [] (none::none::yV σ cap) (upd H₂ D (.lst [])) {s₂ with heap:=h₁,toks:=tk}:=by
 have ok:=I.ok;have freshC:H₂ C=none:=I.hok.fresh hC;have freshD:H₂ D=none:=I.hok.fresh hD;have lt:∀b o,s₂.heap.get? b=some o→b<s₂.heap.objs.size:=fun b o e=>aj e;refine⟨⟨ok.mod,B.kind,ok.glob,ok.blt,hC,fun y z c h1 h2=>ok.inj y z c (B.sub ok h1) (B.sub ok h2),fun y hy=>?_,fun y c h=>(aC h).elim,ok.hd,ok.frames,.inl rfl,fun b hb=>⟨?_,fun y c h e=>?_⟩,I.bs,bp ok.bsz I.sz,fun b o e hb=>?_,fun b hb hs=>?_,I.stack,I.stkFree,fun y c h=>(aC h).elim,fun b hb=>I.hok.fresh hb⟩,
  rfl,I.bare,Un.laid hk hD freshD,?_,fun y c h=>?_,?_,fun y c h=>?_,fun p hp=>?_,?_,?_⟩
 ·have hy':(ky scope X.env).names.lookup y=some .cell∨(ky scope X.env).names.lookup y=some .free:=hy;have m:(y,b9)∈scope.names:=by
   rcases hy' with q|q
   ·exact zF q (.inl rfl) B.nocell
   ·exact zF q (.inr rfl) B.nocell
  exact uF (.inl m)
 ·exact ar (aw (hfp b hb) hC)
 ·exact(hf b hb).2.2.2.2.1 y c (B.sub ok h) e
 ·rcases(hf b hb).2.2.2.1 with q|q
  ·exact ok.noex b o e q
  ·exact absurd (aw (aj (ok.bs b o e).1) q) (bV _)
 ·rcases az.mp (I.stkSub b hs)with q|q
  ·exact(hf b hb).2.1 q
  ·exact(hf b hb).2.2.1 q
 ·obtain⟨m,hm⟩:=hns;refine⟨m,hm,fun i y v e1 e2 e3=>?_⟩;cases i with
  |zero=>simp at e2
  |succ i=>
   cases i with
   |zero=>simp at e2
   |succ i=>
    obtain⟨j,n1,n2,n3,n4⟩:=uZ (i:=i) B.cap (by simpa [Cx.blk]using e1) (by simpa using e2);obtain⟨m0,hn0,hl0⟩:=I.loc;have vis:Vis X.env.scope y:=by
     rcases n4 with q|q
     ·exact .inr (.inl q)
     ·exact .inr (.inr q)
    obtain⟨u,ru,l⟩:=hl0 j y v n1 n2 vis;refine⟨u,ru,.inr ⟨vN n3,?_⟩⟩;rcases l with⟨k,_⟩|⟨_,c,ec,z⟩
    ·rw[k]at n4;rcases n4 with q|q<;> cases q
    ·obtain⟨c',ec'⟩:=uF (cells:=X.env.cells) (cs:=[]) (.inl (vM n3));have:=B.sub ok ec';rw[ec]at this;cases this;obtain⟨o,ho,hd⟩:=z;exact⟨c,ec',o,hk c o ho,hd⟩
 ·obtain⟨v,o,ho,hd⟩:=I.cell y c (B.sub ok h);exact⟨v,o,hk c o ho,hd⟩
 ·show upd H₂ D _ C=none;rw[xk (bO hDC)];exact freshC
 ·obtain⟨v,o,ho,hd⟩:=I.cell y c (B.sub ok h);rw[xk (ar (aw (lt c o ho) hD))];refine(I.freeC y c (B.sub ok h)).imp id fun⟨_,o',ho',hno⟩=>⟨rfl,o',ho',fun z i v e1 k e2=>?_⟩;cases i with
  |zero=>simp at e2
  |succ i=>
   cases i with
   |zero=>simp at e2
   |succ i=>
    obtain⟨j,n1,n2,n3,n4⟩:=uZ (i:=i) B.cap (by simpa [Cx.blk]using e1) (by simpa using e2);exact hno z j v n1 n4 n2
 ·exact absurd (show p∈([]:List (Addr×Obj))from hp) (by simp)
 ·exact I.hok.laid hk hD ⟨aJ _,[],0,.nil,hl⟩
 ·simp[Cx.blk,yV,xaJ B.cap]
theorem yX.back{pins:List (Addr×Obj)}{σ:St}{H₂ H':Hp}{s₂ s':ae}{fp:List Addr}{C:Addr}{pl:List (Addr×Obj)}{σ':St}(B:yX X scope x1 x2 cap ys)(I:Inv X pins σ H₂ s₂)
  (hf:∀b∈fp,uD X pins H₂ b) (J:Inv (X.blk scope C (x1::x2::ys) s₂ H₂ fp) pl σ' H' s'):Inv X pins σ H' s':=
 I.call' (ch:=fp) J.os J.base J.hok J.bare fun b hb=>by
  obtain⟨f0,f1,f2,f3,f4,f5⟩:=hf b hb;refine⟨?_,f1,f4,f5⟩;rcases f3 with q|q
  ·exact .inl q
  ·exact .inr q
theorem yX.far{pins:List (Addr×Obj)}{σ:St}{H₂ H':Hp}{s₂ s':ae}{fp:List Addr}{C:Addr}{pl:List (Addr×Obj)}{σ':St}(I:Inv X pins σ H₂ s₂)
  (hC:s₂.heap.objs.size≤C) (J:Inv (X.blk scope C (x1::x2::ys) s₂ H₂ fp) pl σ' H' s'):
  H' C=none∧C≠X.env.locals∧X.s₀.heap.objs.size≤C∧(∀z c,X.env.cells.lookup z=some c→c≠C)∧∀p∈X.pn++pins,p.1≠C:=by
 refine⟨J.free,eR (aw I.lt hC),bp I.sz hC,fun z c e q=>?_,fun p hp q=>?_⟩
 ·obtain⟨v,w⟩:=I.cell z c e;exact absurd (aw w.lt (by rw[q];exact hC)) (bV _)
 ·exact absurd (aw (aj (I.pin p hp).1) (by rw[q];exact hC)) (bV _)
end
@[irreducible] def uI(K:ai)(J:It)(caps:St)(tt:TT)(te:TE)(Q:VK)(H2:Hp):Prop:=∀D,H2 D=none→∃W:CW,(∃m,W 0 m [] (upd H2 D (.lst [])))∧
 ∀i m acc H3,W i m acc H3→H3 D=some (.lst acc)∧((J.stop i H3∧Q (.ref D) H3)∨(J.go i H3∧acc.length<aO∧∀v H4,J.yld i H3 v H4→∃T v1 v2,v= .ref T∧SqT K H4 T [v1,v2]∧tt (some v1::some v2::caps) H4 fun b H5=>
  (b=true→te (some v1::some v2::caps) H5 fun u H6=>H6 D=some (.lst acc)∧∃m',m'<m∧W (i+1) m' (acc++[u]) (upd H6 D (.lst (acc++[u]))))∧(b=false→∃m',m'<m∧W (i+1) m' acc H5)))
def xmc(K:ai)(cap:List Nat)(wi:TI)(tt:TT)(te:TE):TE:=fun σ H Q=>wi σ H fun J H2=>uI K J (yV σ cap) tt te Q H2
section
variable {X:Cx} {scope:Scope} {x1 x2:Str} {cap:List Nat} {ys:List Str} {elt iter:Expr} {ifs:List Expr} {px1 px2 px pos:Pos} {kx:Nat} {wi:TI} {tt:TT} {te:TE}
theorem xf2(B:yX X scope x1 x2 cap ys)(hc:X.calm=true)(he:∀C s H fp,PE (X.blk scope C (x1::x2::ys) s H fp) elt te)(ht:∀C s H fp,CTs (X.blk scope C (x1::x2::ys) s H fp) ifs tt)
  {pins:List (Addr×Obj)} {σ:St} {s₂:ae} {Q:VK} {RR:Value→Addr→f7→ae→Prop} {itv:Value} {E:Value→ae→Prop}
  (hp:PIE X pins σ (.Tuple [.Name x1 px1,.Name x2 px2] kx px) (fun J H2=>uI X.K J (yV σ cap) tt te Q H2) itv s₂)
  (hR:∀(D C:Addr) (H':Hp) (s':ae),Inv X pins σ H' s'→(∃m,s'.heap.Ns C m)→H' C=none→C≠X.env.locals→X.s₀.heap.objs.size≤C→(∀z c,X.env.cells.lookup z=some c→c≠C)→(∀p∈X.pn++pins,p.1≠C)→Q (.ref D) H'→RR (.ref D) C (.ok .next) s'):
  wpAny (model X.prog X.w) X.A (newList []) (fun acc s₃=>wpAny (model X.prog X.w) X.A (kz scope X.env.globals (yr X.env.cells scope.names []) [] X.env.qual none .none (some X.env)) (fun cenv s₄=>
   cQ (model X.prog X.w) X.A (.compStart (.ListComp elt [⟨.Tuple [.Name x1 px1,.Name x2 px2] kx px,iter,ifs,0⟩] scope pos) 0 itv acc {cenv with scope:=ky scope X.env}) (RR acc cenv.locals) s₄) E s₃) E s₂:=by
 obtain⟨it,fp,tn,J,H2,e,I2,T,st2,f2,hw⟩:=hp;subst e;unfold uI at hw;refine c6 (gY B.nocell (by intro y hy;simp at hy) (fun h₁ hns₁ hsb₁=>?_) B.kind);dsimp only at hns₁ hsb₁⊢;generalize hG:s₂.heap.push {cls:=.type "list",dict:=none,data:=.seq ([]:List Value).toArray}=G at hns₁ hsb₁⊢;have hsz:G.objs.size=s₂.heap.objs.size+1:=by rw[←hG,c5]
 have hCle:s₂.heap.objs.size≤G.objs.size:=by lia
 have hDC:s₂.heap.objs.size≠G.objs.size:=by lia
 have old:∀b o,s₂.heap.get? b=some o→h₁.get? b=some o:=fun b o q=>by
  have lt:=aj q;refine hsb₁.extBut b o (ar (aw lt hCle)) (af _ ?_);rw[←hG];exact af _ q
 have accAt:h₁.get? s₂.heap.objs.size=some {cls:=.type "list",data:=.seq ([]:List Value).toArray}:=by
  refine hsb₁.extBut _ _ hDC (af _ ?_);rw[←hG];exact aB _ rfl
 have hfp:∀b∈fp,b<s₂.heap.objs.size:=fun b hb=>by
  obtain⟨o,ho,_⟩:=T.obj _ _ st2 b hb;exact aj ho
 obtain⟨W,⟨m0,w0⟩,turn⟩:=hw s₂.heap.objs.size (I2.hok.fresh (ao _));generalize htk:s₂.toks+([]:List (Str×Value)).length=tk;have I0:=B.start (tk:=tk) (C:=G.objs.size) I2 f2 (ao _) hCle hDC old ⟨_,hns₁⟩ accAt hfp;have st0:tn 0 h₁:=T.keep _ _ _ st2 fun b hb o q=>old b o q
 -- what stays true of the iterator's objects
 have f3:∀{H':Hp},(∀b∈fp,H' b=none)→∀b∈fp,uD (X.blk scope G.objs.size (x1::x2::ys) s₂ H2 fp) [] H' b:=fun hn b hb=>by
  obtain⟨f0,f1,f2',f3',f4,f5⟩:=f2 b hb;refine⟨hn b hb,ar (aw (hfp b hb) hCle),fun hs=>?_,.inl hb,fun z c q=>f4 z c (B.sub I2.ok q),fun p hp=>absurd (show p∈([]:List (Addr×Obj))from hp) (by simp)⟩;rcases az.mp (I2.stkSub b hs)with q|q
  ·exact f1 q
  ·exact f2' q
 have n0:∀b∈fp,upd H2 s₂.heap.objs.size (.lst []) b=none:=fun b hb=>by
  rw[xk (ar (hfp b hb))];exact(f2 b hb).1
 have loop:∀sx:ae,sx={s₂ with heap:=h₁,toks:=tk}→
   cQ (model X.prog X.w) X.A (.compLoop (.ListComp elt [⟨.Tuple [.Name x1 px1,.Name x2 px2] kx px,iter,ifs,0⟩] scope pos) 0 (.ref it) (.ref s₂.heap.objs.size) (compEnvC scope (yr X.env.cells scope.names []) G.objs.size X.env)) (RR (.ref s₂.heap.objs.size) G.objs.size) sx:=by
  rintro sx rfl;refine xcC (fun n s'=>∃i acc H',Inv (X.blk scope G.objs.size (x1::x2::ys) s₂ H2 fp) [] (none::none::yV σ cap) H' s'∧tn i s'.heap∧(∀b∈fp,H' b=none)∧W i n acc H') ?_ m0 ⟨0,[],_,I0,st0,n0,w0⟩;rintro n s3 ⟨i,acc,H3,I3,st3,fr3,w3⟩;obtain⟨hD3,alt⟩:=turn i n acc H3 w3;rcases alt with⟨stop,q⟩|⟨go,hlen,step⟩
  ·refine a8 (T.done (X.blk scope G.objs.size (x1::x2::ys) s₂ H2 fp) rfl rfl rfl hc i [] s3 _ H3 (fun _ _=>False) I3 (f3 fr3) st3 stop) (fun r s4 ⟨hr,I4⟩=>?_) fun _ _ z=>z.elim;subst hr;obtain⟨g1,g2,g3,g4,g5⟩:=yX.far I2 hCle I4;obtain⟨m4,hm4,_⟩:=I4.loc;exact hR _ _ H3 s4 (B.back I2 f2 I4) ⟨m4,hm4⟩ g1 g2 g3 g4 g5 q
  ·refine a8 (T.item (X.blk scope G.objs.size (x1::x2::ys) s₂ H2 fp) rfl rfl rfl hc i [] s3 _ H3 (fun _ _=>False) I3 (f3 fr3) st3 go) (fun r s4 ⟨u,hr,h4⟩=>?_) fun _ _ z=>z.elim;subst hr;refine a8 h4 (fun _ s4 ⟨v,H4,I4,rv,y4,st4,fr4⟩=>?_) fun _ _ z=>z.elim;have I4':=I4.pinned (f3 fr4) (T.obj _ _ st4);obtain⟨Tt,v1,v2,ev,hT4,step⟩:=step v H4 y4;have G0:PG (X.blk scope G.objs.size (x1::x2::ys) s₂ H2 fp) (.Tuple [.Name x1 px1,.Name x2 px2] kx px) (xlC X.K 2 (xgT (jN 0) (xgT (jN 1) xlB))):=
    xhS hc (jO (yE (i:=0) B.nd rfl (.inl (dE B.lx1)) (.inr (dE B.lx1))) (jO (yE (i:=1) B.nd rfl (.inl (dE B.lx2)) (.inr (dE B.lx2))) xgl))
   refine a8 (G0 _ s4 _ H4 v u (fun σ5 H5=>σ5=some v1::some v2::yV σ cap∧H4=H5) I4' rv ⟨Tt,[v1,v2],ev,hT4,rfl,⟨v1,_,rfl,v2,_,rfl,⟨rfl,rfl,rfl⟩⟩⟩) (fun _ s5 z5=>?_) fun _ _ z=>z.elim;obtain⟨σ5,H5,I5,e5,e6⟩:=z5;subst e5 e6;have I5':Inv (X.blk scope G.objs.size (x1::x2::ys) s₂ H2 fp) ([]++zO fp s4.heap) (some v1::some v2::yV σ cap) H4 s5:=I5;refine a8 (ht _ _ _ _ _ s5 _ H4 _ I5' step) (fun ok s6 ⟨H6,I6,q6⟩=>?_) fun _ _ z=>z.elim;have pinned:∀{σ7:St} {H7:Hp} {s7:ae},Inv (X.blk scope G.objs.size (x1::x2::ys) s₂ H2 fp) ([]++zO fp s4.heap) σ7 H7 s7→tn (i+1) s7.heap∧∀b∈fp,H7 b=none:=fun{σ7 H7 s7} I7=>by
    refine⟨T.keep _ _ _ st4 fun b hb o e=>(I7.pin (b,o) (aT _ (aT _ (zE hb e)))).1,fun b hb=>?_⟩;obtain⟨o,e,d⟩:=T.obj _ _ st4 b hb;exact(I7.pin (b,o) (aT _ (aT _ (zE hb e)))).2.1
   have weak:∀{H7:Hp} {s7:ae},Inv (X.blk scope G.objs.size (x1::x2::ys) s₂ H2 fp) ([]++zO fp s4.heap) (some v1::some v2::yV σ cap) H7 s7→Inv (X.blk scope G.objs.size (x1::x2::ys) s₂ H2 fp) [] (none::none::yV σ cap) H7 s7:=fun I7=>
    (I7.unpinned (pins:=[])).weak rfl fun j z e=>by
     cases j with
     |zero=>simp at e
     |succ j=>
      cases j with
      |zero=>simp at e
      |succ j=>simpa using e
   cases ok with
   |false=>
    rw[if_neg aC];obtain⟨m',hm',w'⟩:=q6.2 rfl;exact⟨m',hm',i+1,acc,H6,weak I6,(pinned I6).1,(pinned I6).2,w'⟩
   |true=>
    rw[if_pos rfl];refine a8 (he _ _ _ _ _ s6 _ H6 _ I6 (q6.1 rfl)) (fun y s7 ⟨z,H7,I7,rz,hD7,m',hm',w'⟩=>?_) fun _ _ z=>z.elim;refine a8 (yk (X:=X.blk scope G.objs.size (x1::x2::ys) s₂ H2 fp) _ s7 _ H7 (.ref s₂.heap.objs.size) [z] (.ref s₂.heap.objs.size) [y] (fun _ H8=>H8=upd H7 s₂.heap.objs.size (.lst (acc++[z]))) I7 rfl (.cons rz .nil) ⟨_,acc,z,rfl,rfl,hD7,hlen,rfl⟩) (fun _ s8 ⟨_,H8,I8,_,e8⟩=>?_) fun _ _ z=>z.elim;subst e8;exact⟨m',hm',i+1,_,_,weak I8,(pinned I8).1,(pinned I8).2,w'⟩
 exact codeAny_compStart_list (loop _ rfl) (T.self _ 0 _ _ _ st0 (loop _ rfl))
theorem xca(B:yX X scope x1 x2 cap ys)(hc:X.calm=true)(hi:PI X (.Tuple [.Name x1 px1,.Name x2 px2] kx px) iter wi)(he:∀C s H fp,PE (X.blk scope C (x1::x2::ys) s H fp) elt te)(ht:∀C s H fp,CTs (X.blk scope C (x1::x2::ys) s H fp) ifs tt)
  (hs:∀x,eA iter X.env x=pure x:=by intro _;rfl):PE X (.ListComp elt [⟨.Tuple [.Name x1 px1,.Name x2 px2] kx px,iter,ifs,0⟩] scope pos) (xmc X.K cap wi tt te):=by
 intro pins s σ H Q I h;rw[eval_ListComp];refine gg (use:=none) rfl hs (vx (B.clos I.ok)) B.kind B.locs ?_;refine thn (hi pins s σ H _ I h) fun v s1 h1=>thn h1 fun itv s2 h2=>?_;refine xf2 (Q:=Q) (RR:=fun acc C=>compPost (model X.prog X.w) X.A X.xe none (EP X pins σ Q) acc C) B hc he ht h2 ?_;rintro D C H' s' J ⟨m,hm⟩ g1 g2 g3 g4 g5 q;exact⟨m,hm,fun h' sb=>⟨.ref D,H',J.turned (t':=s'.toks) (fun b o hb e=>(sb.2 b hb).trans e) g1 g2 (.inr g3) g4 g5,rfl,q⟩⟩
end
end L2
namespace L2
open PySem PySem.Spec PyProof.Rows
theorem um{α β:Type}{F:α→β→Prop}:∀{as:List α} {bs:List β} {i:Nat} {b:β},Paired F as bs→bs[i]? =some b→∃a,as[i]? =some a∧F a b
 |_,_,i,b,.nil,h=>by simp at h
 |_,_,0,b,.cons x xs,h=>by simp at h;subst h;exact⟨_,rfl,x⟩
 |_,_,i+1,b,.cons x xs,h=>by obtain⟨a,h1,h2⟩:=um (i:=i) xs (by simpa using h);exact⟨a,by simpa using h1,h2⟩
theorem xU{α β:Type}{F:α→β→Prop}:∀{as:List α} {bs:List β} {i:Nat} {a:α},Paired F as bs→as[i]? =some a→∃b,bs[i]? =some b∧F a b
 |_,_,i,b,.nil,h=>by simp at h
 |_,_,0,b,.cons x xs,h=>by simp at h;subst h;exact⟨_,rfl,x⟩
 |_,_,i+1,b,.cons x xs,h=>by obtain⟨a,h1,h2⟩:=xU (i:=i) xs (by simpa using h);exact⟨a,by simpa using h1,h2⟩
def del(H:Hp)(D:Addr):Hp:=fun b=>if b=D then none else H b
theorem zv{H:Hp}{D:Addr}:del H D D=none:=by unfold del;rw[if_pos rfl]
theorem vd{H:Hp}{D b:Addr}(h:b≠D):del H D b=H b:=by unfold del;rw[if_neg h]
theorem zw{H:Hp}{D:Addr}:xc (del H D) H:=fun b u e=>by
 by_cases h:b=D
 ·rw[h,zv]at e;cases e
 ·rw[vd h]at e;exact e
theorem yI{H:Hp}{D:Addr}{o:HO}:del (upd H D o) D=del H D:=by
 funext b
 by_cases h:b=D
 ·rw[h,zv,zv]
 ·rw[vd h,vd h,xk h]
theorem uJ{H:Hp}{D:Addr}(h:H D=none):del H D=H:=by
 funext b
 by_cases e:b=D
 ·rw[e,zv,h]
 ·rw[vd e]
theorem uK{H H':Hp}{D:Addr}(s:xc H H'):xc (del H D) (del H' D):=fun b u e=>by
 by_cases h:b=D
 ·rw[h,zv]at e;cases e
 ·rw[vd h]at e⊢;exact s b u e
theorem xaR{lo st:Int}{n:Nat}{te:TE}{caps:L2.St}{Q:VK}{H2:Hp}(Pv:Nat→List V→Hp→Prop)(hn:n≤aO)(h0:Pv 0 [] H2)
  (hs:∀(i:Nat) acc H3 H3',i<n→xc H2 H3→xc H3 H3'→Pv i acc H3→∀R:VK,(∀u H6',xc H3' H6'→(∀H6,xc H3 H6→(∀p o,(H3' p=none∨∀ys,o≠HO.lst ys)→H6' p=some o→H6 p=some o)→Pv (i+1) (acc++[u]) H6)→R u H6')→te (some (.int (lo+i*st))::caps) H3' R)
  (hd:∀D acc H H',H2 D=none→H D=none→xc H2 H→xc H H'→Pv n acc H→acc.length=n→H' D=some (.lst acc)→Q (.ref D) H'):yW (Its lo st n) caps xdf te Q H2:=by
 unfold yW;intro D hD;refine⟨fun i m acc H3=>m=n - i∧i≤n∧acc.length=i∧H3 D=some (.lst acc)∧xc H2 (del H3 D)∧Pv i acc (del H3 D),⟨n,by simp,aJ _,rfl,xj,?_,?_⟩,?_⟩
 ·rw[yI,uJ hD];exact xc.refl _
 ·rw[yI,uJ hD];exact h0
 rintro i m acc H3 ⟨rfl,hi,hacc,hD3,s3,p3⟩;refine⟨hD3,?_⟩
 by_cases hlt:i<n
 ·refine .inr ⟨hlt,by lia,fun v H4 y=>?_⟩;obtain⟨e,y⟩:=y;subst e y;refine⟨fun _=>?_,fun z=>by cases z⟩;refine hs i acc _ _ hlt s3 zw p3 _ fun u H6' s6 k=>⟨s6.at hD3,n - (i+1),by lia,rfl,hlt,by simp[hacc],xj,?_,?_⟩
  ·rw[yI];exact s3.trans (uK s6)
  ·rw[yI];refine k _ (uK s6) fun p o q1 q2=>?_;rw[vd (fun z=>by
    rcases q1 with q1|q1
    ·rw[z,hD3]at q1;cases q1
    ·rw[z,s6.at hD3]at q2;cases q2;exact q1 _ rfl)]
   exact q2
 ·have e:i=n:=by lia
  subst e;exact .inl ⟨ao _,hd D acc _ H3 hD zv s3 zw p3 hacc hD3⟩
theorem uo{K:ai}{l:Addr}{xs:List V}{te:TE}{caps:L2.St}{Q:VK}{H2:Hp}(Pv:Nat→List V→Hp→Prop)(hl:SqL K H2 l xs)(hn:xs.length≤aO)(h0:Pv 0 [] H2)
  (hs:∀(i:Nat) x acc H3 H3',xs[i]? =some x→xc H2 H3→xc H3 H3'→Pv i acc H3→∀R:VK,(∀u H6',xc H3' H6'→(∀H6,xc H3 H6→(∀p o,(H3' p=none∨∀ys,o≠HO.lst ys)→H6' p=some o→H6 p=some o)→Pv (i+1) (acc++[u]) H6)→R u H6')→te (some x::caps) H3' R)
  (hd:∀D acc H H',H2 D=none→H D=none→xc H2 H→xc H H'→Pv xs.length acc H→acc.length=xs.length→H' D=some (.lst acc)→Q (.ref D) H'):yW (Itl K l) caps xdf te Q H2:=by
 unfold yW;intro D hD;refine⟨fun i m acc H3=>m=xs.length - i∧i≤xs.length∧acc.length=i∧H3 D=some (.lst acc)∧xc H2 (del H3 D)∧Pv i acc (del H3 D),⟨xs.length,by simp,aJ _,rfl,xj,?_,?_⟩,?_⟩
 ·rw[yI,uJ hD];exact xc.refl _
 ·rw[yI,uJ hD];exact h0
 rintro i m acc H3 ⟨rfl,hi,hacc,hD3,s3,p3⟩;refine⟨hD3,?_⟩;have q:=(s3.trans zw).seq hl
 by_cases hlt:i<xs.length
 ·have hx:xs[i]? =some xs[i]:=ag hlt;refine .inr ⟨⟨xs,xs[i],q,hx⟩,by lia,fun v H4 y=>?_⟩;obtain⟨e,y⟩:=y;have ev:=y xs q;rw[hx]at ev;cases ev;subst e;refine⟨fun _=>?_,fun z=>by cases z⟩;refine hs i _ acc _ _ hx s3 zw p3 _ fun u H6' s6 k=>⟨s6.at hD3,xs.length - (i+1),by lia,rfl,hlt,by simp[hacc],xj,?_,?_⟩
  ·rw[yI];exact s3.trans (uK s6)
  ·rw[yI];refine k _ (uK s6) fun p o q1 q2=>?_;rw[vd (fun z=>by
    rcases q1 with q1|q1
    ·rw[z,hD3]at q1;cases q1
    ·rw[z,s6.at hD3]at q2;cases q2;exact q1 _ rfl)]
   exact q2
 ·have e:i=xs.length:=by lia
  subst e;exact .inl ⟨⟨xs,q,ao _⟩,hd D acc _ H3 hD zv s3 zw p3 hacc hD3⟩
theorem uq{K:ai}{l:Addr}{xs:List V}{tt:TT}{te:TE}{caps:L2.St}{Q:VK}{H2:Hp}(p:V→Bool)(f:V→V)(hl:SqL K H2 l xs)(hn:xs.length<aO)
  (ht:∀(x:V) (H3:Hp),x∈xs→xc H2 H3→∀R:Bool→Hp→Prop,(∀H6,xc H3 H6→R (p x) H6)→tt (some x::caps) H3 R)
  (hs:∀(x:V) (H3:Hp),x∈xs→p x=true→xc H2 H3→∀R:VK,(∀H6,xc H3 H6→R (f x) H6)→te (some x::caps) H3 R)
  (hd:∀D H',H2 D=none→xc H2 H'→H' D=some (.lst ((xs.filter p).map f))→Q (.ref D) H'):yW (Itl K l) caps tt te Q H2:=by
 unfold yW;intro D hD;refine⟨fun i m acc H3=>m=xs.length - i∧i≤xs.length∧acc=((xs.take i).filter p).map f∧H3 D=some (.lst acc)∧xc H2 H3,⟨xs.length,by simp,aJ _,rfl,xj,xc.new hD⟩,?_⟩;rintro i m acc H3 ⟨rfl,hi,rfl,hD3,s3⟩;refine⟨hD3,?_⟩;have q:=s3.seq hl
 by_cases hlt:i<xs.length
 ·have hx:xs[i]? =some xs[i]:=ag hlt;have hle:(((xs.take i).filter p).map f).length<aO:=by
   rw[ab];refine fh (bR _ _) ?_;rw[bF];lia
  have et:xs.take (i+1)=xs.take i++[xs[i]]:=by rw[cg,hx];rfl
  refine .inr ⟨⟨xs,xs[i],q,hx⟩,hle,fun v H4 y=>?_⟩;obtain⟨e,y⟩:=y;have ev:=y xs q;rw[hx]at ev;cases ev;subst e;refine ht _ _ (cN hlt) s3 _ fun H5 s5=>⟨fun hp=>?_,fun hp=>?_⟩
  ·refine hs _ _ (cN hlt) hp (s3.trans s5) _ fun H6 s6=>⟨s6.at (s5.at hD3),xs.length - (i+1),by lia,rfl,hlt,?_,xj,(s3.trans (s5.trans s6)).put hD⟩;rw[et,gh,aD];simp[hp]
  ·refine⟨xs.length - (i+1),by lia,rfl,hlt,?_,s5.at hD3,s3.trans s5⟩;rw[et,gh,aD];simp[hp]
 ·have e:i=xs.length:=by lia
  subst e;rw[cO]at hD3⊢;exact .inl ⟨⟨xs,q,ao _⟩,hd D H3 hD s3 hD3⟩
theorem xf3{K:ai}{l:Addr}{xs:List V}{tt:TT}{te:TE}{caps:L2.St}{Q:VK}{H2:Hp}(p:Nat→V→Bool)(hl:SqL K H2 l xs)(hn:xs.length<aO)
  (ht:∀(i:Nat) (x:V) (H3:Hp),xs[i]? =some x→xc H2 H3→∀R:Bool→Hp→Prop,(∀H6,xc H3 H6→R (p i x) H6)→tt (some (.int i)::some x::caps) H3 R)
  (hs:∀(i:Nat) (x:V) (H3:Hp),xs[i]? =some x→xc H2 H3→∀R:VK,(∀H6,xc H3 H6→R (.int i) H6)→te (some (.int i)::some x::caps) H3 R)
  (hd:∀D H',H2 D=none→xc H2 H'→H' D=some (.lst (((aI xs.length).filter fun i=>p i (xs.getD i .non)).map fun(i:Nat)=>V.int i))→Q (.ref D) H'):uI K (Ite K l) caps tt te Q H2:=by
 unfold uI;intro D hD;refine⟨fun i m acc H3=>m=xs.length - i∧i≤xs.length∧acc=((aI i).filter fun i=>p i (xs.getD i .non)).map (fun(i:Nat)=>V.int i)∧H3 D=some (.lst acc)∧xc H2 H3,⟨xs.length,by simp,aJ _,rfl,xj,xc.new hD⟩,?_⟩;rintro i m acc H3 ⟨rfl,hi,rfl,hD3,s3⟩;refine⟨hD3,?_⟩;have q:=s3.seq hl
 by_cases hlt:i<xs.length
 ·have hx:xs[i]? =some xs[i]:=ag hlt;have hle:(((aI i).filter fun i=>p i (xs.getD i .non)).map fun(i:Nat)=>V.int i).length<aO:=by
   rw[ab];refine fh (bR _ _) ?_;rw[c7];lia
  have eg:xs.getD i .non=xs[i]:=by simp[aX,hx]
  refine .inr ⟨⟨xs,xs[i],q,hx⟩,hle,fun v H4 y=>?_⟩;obtain⟨T,x,rfl,hT,rfl,y⟩:=y;have ev:=y xs q;rw[hx]at ev;cases ev;have s4:=xc.new (o:=.tup [.int i,xs[i]]) hT;refine⟨T,.int i,xs[i],rfl,SqT.of xj,?_⟩;refine ht i _ _ hx (s3.trans s4) _ fun H5 s5=>⟨fun hp=>?_,fun hp=>?_⟩
  ·refine hs i _ _ hx (s3.trans (s4.trans s5)) _ fun H6 s6=>⟨s6.at (s5.at (s4.at hD3)),xs.length - (i+1),by lia,rfl,hlt,?_,xj,(s3.trans (s4.trans (s5.trans s6))).put hD⟩;rw[fV,gh,aD,gG,eg,if_pos hp];rfl
  ·refine⟨xs.length - (i+1),by lia,rfl,hlt,?_,s5.at (s4.at hD3),s3.trans (s4.trans s5)⟩;rw[fV,gh,aD,gG,eg,if_neg (by rw[hp];exact aC)];simp
 ·have e:i=xs.length:=by lia
  subst e;exact .inl ⟨⟨xs,q,ao _⟩,hd D H3 hD s3 hD3⟩
theorem jU{K:ai}{f:Bool→Bool}{x y:V}{H:Hp}{Q:VK}{d:dF}(hx:Rp K H x d)(hy:Rp K H y d)(hd:bT d=true)(q:Q (.bl (f true)) H):xb7 K f x y H Q:=
 ⟨d,d,hx,hy,hd,hd,by rw[PySem.SeqAt.eqv_refl d (gA hd)];exact q⟩
end L2
namespace L2
open PySem PySem.Spec PyProof.Rows
section
variable {X:Cx} {K:ai}
theorem jV(e:X.K=K):IxR X (xlQ K):=e▸xN
theorem xgy(e:X.K=K):IxR X (xlR K):=e▸xA
theorem xjs(e:X.K=K):SlR X (xlS K):=e▸yw
theorem xmd(e:X.K=K):yt X (.builtin "isinstance") (xl6 K):=e▸yQ
theorem xnI(e:X.K=K)(hu:X.A.units+64<cLine):OpR X (bD .Eq) (xb7 K fun b=>b):=e▸xhf hu
theorem xnN(e:X.K=K)(hu:X.A.units+64<cLine):OpR X (bD .NotEq) (xb7 K fun b=> !b):=e▸xcE hu
end
end L2
namespace L2
open PySem PySem.Spec PyProof.Rows
theorem vP(i:Int)(own:List Int):inV (.int i) (own.map V.int)=decide (i∈own):=by
 unfold inV;rw[iZ,d7,dt,decide_eq_true_iff];constructor
 ·rintro⟨y,hy,h⟩;have:y=i:=by simpa [eqV,Function.comp]using h
  rw[←this];exact hy
 ·intro h;exact⟨i,h,by simp[eqV,Function.comp]⟩
theorem xiq(xs:List Int):(xs.map V.int).all vq=true:=by
 rw[cM];intro x hx;obtain⟨y,_,rfl⟩:=aG.mp hx;rfl
theorem yC(es:List Int)(lo hi:Option Int):yA (es.map V.int) lo hi=((es.drop (HT.sIx es.length 0 lo)).take (HT.sIx es.length es.length hi - HT.sIx es.length 0 lo)).map V.int:=by
 unfold yA;rw[ab,←iC,←ll]
theorem xf4(p:V→Bool)(xs:List Int):(xs.map V.int).filter p=(xs.filter fun x=>p (.int x)).map V.int:=by
 rw[fW];rfl
end L2
namespace L2
open PySem PySem.Spec PyProof.Rows
theorem yo{n d:Nat}{i:Int}(h0:0≤i):HT.sIx n d (some i)=min i.toNat n:=by
 show(if i<0 then(i+(n:Int)).toNat else min i.toNat n)=_;rw[if_neg (by lia)]
end L2
namespace L2
open PySem PySem.Spec PyProof.Rows
section
variable {X:Cx}
end
def xme:Stmt→Expr
 | .Assign _ v _=>v
 |_=>.Constant .none 0 ⟨0,0,0,0⟩
def xmf:Stmt→Expr
 | .Return (some v) _=>v
 |_=>.Constant .none 0 ⟨0,0,0,0⟩
def xdl:Expr→cG
 | .Lambda a _ _ _=>a
 |_=>ye (.Pass ⟨0,0,0,0⟩)
def xdm:Expr→Expr
 | .Lambda _ b _ _=>b
 |e=>e
def uL:Expr→Scope
 | .Lambda _ _ s _=>s
 |_=>xn (.Pass ⟨0,0,0,0⟩)
theorem xmg{xs:List Int}{x v:Int}(h0:0≤x)(h:xs[x.toNat]? =some v):atI (xs.map V.int) x=some (.int v):=by
 have:=yd (xs:=xs.map V.int) (j:=x.toNat) (v:=.int v) (by rw[au,h];rfl)
 rwa [cH h0]at this
end L2
namespace PySem
open Sem (wp)
open PyProof.Rows
namespace F
theorem xir:kR (.type "list_reverseiterator") "__len__"=pure none:=by rw[typeLookup_type,builtinLookup_eq_fast];kernel_rfl
theorem xjt:kR (.type "list_reverseiterator") "__length_hint__"=pure (some (.builtin "list_reverseiterator.__length_hint__")):=by rw[typeLookup_type,builtinLookup_eq_fast];kernel_rfl
end F
section
variable {prog:aF} {w:World} {A:aU} {E:Value→ae→Prop} {s:ae}
theorem xhj{R:f7→ae→Prop}{r l:Addr}{items:Array Value}(hnd:A.handled=none)(hr:s.heap.IsRevIter r l ((items.size:Int) - 1))(hl:s.heap.IsList l items)(hne:l≠r)(hsz:items.size≤aO)
  (D:Addr) (z:Value) (m₀:Nat) (hD:s.heap.get? D=some {cls:=.type "list",data:=.seq #[] m₀}) (hDl:D≠l)
  (hR:∀g tk xs m,(∀b o,b≠D→b≠r→s.heap.get? b=some o→g.get? b=some o)→g.get? D=some {cls:=.type "list",dict:=none,data:=.seq xs m,slots:=#[]}→
   ItemsOf (fun i v=>items[items.size - 1 - i]? =some v) xs items.size→R (.ok (.ret z)) {s with heap:=g,toks:=tk}):
  wpAny (model prog w) A.in1 (bY (.ref D) (.ref r) z)
   (fun fin s'=>match fin with| .done f=>R (.ok f) s'| .again d=>d.quiet=true∧cQ (model prog w) A d R s') (fun e s'=>R (.error e) s') s:=by
 have nDr:D≠r:=fun e=>by
  obtain⟨o,ho,hc,_⟩:=hr;rw[e,ho]at hD;have e2:=congrArg Obj.cls (bw hD);rw[hc]at e2;have e3:ck "list_reverseiterator"=ck "list":=e2;exact absurd e3 (by decide)
 have nDf:D∉[r,l]:=fun q=>by
  rcases az.mp q with q|q
  ·exact nDr q
  ·exact hDl (aH.mp q)
 have Wk:=(Walks.listRev (prog:=prog) (w:=w) (A:=A.in1) hnd r l hne items).toS;have e0:(items.size:Int) - 1=(items.size:Int) - 1 - ((0:Nat):Int):=by lia
 rw[e0]at hr;have T:s.TypeIs (.ref r) "list_reverseiterator":=hr.typeIs;unfold bY;refine aa (fC T ?_);have x1:eV (.ref D) (.ref r)=false:=by simp[eV,nDr]
 rw[if_neg (by rw[x1];decide)];refine aa (wpAny_pyIter_revIter hr ?_);refine aa (bB ?_);unfold Builtin.List.listLengthHint;refine aa (kc T F.xir ?_);show wpAny _ A.in1 (specialOf (bf r) (cj "__length_hint__") >>= _) _ _ _;refine aa (kc T F.xjt ?_)
 (generalize hid:("list_reverseiterator.__length_hint__":String)=id0;(fail_if_success (clear hid id0));wp_delta;rw[show splitId id0=some ("list_reverseiterator","__length_hint__")from by subst hid;decide+kernel];subst hid)
 refine aa (wpAny_isInstance (b:=true) T (by rw[isSubtype_type];kernel_rfl) ?_);refine ah ?_;rw[if_neg (by decide)];refine ah ⟨bI ig _,codeAny_extend_loopS Wk hsz D nDf z items.size 0 _ #[] m₀ rfl (aJ _) ⟨aJ _,hr,hl⟩ hD (ItemsOf.nil _) fun s' xs m hm hD' hx=>?_⟩;rw[Moved.eq_with hm];refine hR s'.heap s'.toks xs m (fun b o hb hb2 e=>hm.heap b o (fun hq=>?_) e) hD' hx;rcases az.mp hq with e'|hq
 ·exact hb e'
 ·exact hb2 (aH.mp hq)
theorem xf5{Q:Value→ae→Prop}{r l:Addr}{items:Array Value}(hnd:A.handled=none)(hr:s.heap.IsRevIter r l ((items.size:Int) - 1))(hl:s.heap.IsList l items)(hne:l≠r)(hsz:items.size≤aO)
  (hQ:∀g tk xs m,(∀b o,b≠r→s.heap.get? b=some o→g.get? b=some o)→
   g.get? s.heap.objs.size=some {cls:=.type "list",dict:=none,data:=.seq xs m,slots:=#[]}→ItemsOf (fun i v=>items[items.size - 1 - i]? =some v) xs items.size→Q (.ref s.heap.objs.size) {s with heap:=g,toks:=tk}):
  wpAny (model prog w) A (call (.type "list") [.ref r]) Q E s:=by
 refine callType_codes (Q₁:=fun obj s₁=>obj= .ref s.heap.objs.size∧s₁={s with heap:=s.heap.push {cls:=.type "list",data:=.seq #[]}}) F.called_list (F.typeCall_list_1 _) F.entry_list_init
  (code_list_new _ ⟨rfl,rfl⟩) fun obj s₁ q₁=>?_
 obtain⟨rfl,rfl⟩:=q₁;generalize hG:s.heap.push {cls:=.type "list",data:=.seq #[]}=G;have old:∀b o,s.heap.get? b=some o→G.get? b=some o:=fun b o e=>by rw[←hG];exact af _ e
 have hD:G.get? s.heap.objs.size=some {cls:=.type "list",data:=.seq #[]}:=by rw[←hG];exact aB _ rfl
 have hrl:r<s.heap.objs.size:=by obtain⟨o,ho,_⟩:=hr;exact aj ho
 have hll:l<s.heap.objs.size:=by obtain⟨o,ho,_⟩:=hl;exact aj ho
 refine⟨⟨_,hD,rfl⟩,F.args_list_init_2 _ _,?_⟩;show wpAny _ _ (do let old ←ki (.ref s.heap.objs.size);Builtin.List.listUpdate (.ref s.heap.objs.size) (fun _=>#[]);letGo old.toList.reverse;bY (.ref s.heap.objs.size) (.ref r) .none) _ _ _;refine aa ?_;unfold ki;refine aa (eQ hD rfl (ah ?_));show wpAny _ _ (gO s.heap.objs.size (fun _=>#[]) >>= fun _=>letGo (#[]:Array Value).toList.reverse >>= fun _=>bY (.ref s.heap.objs.size) (.ref r) .none) _ _ _;refine aa (cV hD rfl ?_);have d2:=cW (aN (fun _=>(#[]:Array Value))) hD rfl;have oth:∀b o,b≠s.heap.objs.size→G.get? b=some o→(G.update s.heap.objs.size (aN (fun _=>(#[]:Array Value)))).get? b=some o:=
  fun b o hb e=>(bL _ _ (bO hb)).trans e
 refine aa (dX ?_);refine xhj (A:=A.in1) hnd (hr.at fun o e=>oth r o (ar hrl) (old r o e)) (hl.at fun o e=>oth l o (ar hll) (old l o e)) hne hsz s.heap.objs.size .none _ d2 (eR hll) fun g tk xs m q1 q2 q3=>⟨rfl,?_⟩;exact hQ g tk xs m (fun b o hb e=>q1 b o (ar (aj e)) hb (oth b o (ar (aj e)) (old b o e))) q2 q3
end
end PySem
namespace L2
open PySem PySem.Spec PyProof.Rows
theorem log2_small{n:Nat}(h:n<2^64):n.log2≤64:=by
 by_cases h0:n=0
 ·subst h0;decide
 ·exact cx ((Nat.log2_lt h0).mpr h)
theorem xaS:∀ns:List Int,(∀x∈ns,x.natAbs<2^64)→i3 (ns.map cz)≤66*ns.length
 |[],_=>by simp[i3]
 |x::xs,h=>by
  have ih:=xaS xs fun y hy=>h y (aq _ hy);have hx:=log2_small (h x aA);rw[a9,PyData.weightAll.eq_2,aY];have:lq (.int x)≤65:=by
   rw[k5];show(if (x==0)=true then 0 else x.natAbs.log2+1)≤65
   split
   ·lia
   ·lia
  lia
section
variable {X:Cx}
def xm1(K:ai)(te:TE):TE:=fun σ H Q=>te σ H fun x H1=>∃l ys,x= .ref l∧SqL K H1 l ys∧∀d,H1 d=none→Q (.ref d) (upd H1 d (.lst ys.reverse))
theorem xhk{e:Expr}{te:TE}{p1 p2 pos1 pos2:Pos}(hc:X.calm=true)(hg1:Gl X "list")(hm1:X.mg "list"=none)(hg2:Gl X "reversed")(hm2:X.mg "reversed"=none)(he:PE X e te)
  (hs2:bh [e] X.env=[(false,eval e X.env)]:=by rfl)
  (hs1:bh [.Call (.Name "reversed" p2) [e] [] pos2] X.env=[(false,eval (.Call (.Name "reversed" p2) [e] [] pos2) X.env)]:=by rfl):
  PE X (.Call (.Name "list" p1) [.Call (.Name "reversed" p2) [e] [] pos2] [] pos1) (xm1 X.K te):=by
 intro pins s σ H Q I h;refine cy (zg I hg1 hm1 uG ?_ (by decide) (by decide));refine cK ?_ hs1 rfl;rw[hs1];refine f9 ?_;refine cy (zg I hg2 hm2 xfX ?_ (by decide) (by decide));refine cK ?_ hs2 rfl;rw[hs2];refine f9 (thn (he pins s σ H _ I h) fun v s1 ⟨x,H1,I1,r1,q1⟩=>?_);obtain⟨l,ys,rfl,hq,q⟩:=q1;cases r1;obtain⟨its,rv,pl,hz⟩:=I1.list hq;have hlen:=rv.length;have hL:=pl.isList;have hll:l<s1.heap.objs.size:=by obtain⟨o,ho,_⟩:=hL;exact aj ho
 refine gv (call_reversed_list hL (gv ?_));refine xf5 (s:={s1 with heap:=s1.heap.push (revObj l ((its.toArray.size:Int) - 1))}) (I.ok.hd hc) ⟨_,aB _ rfl,rfl,rfl⟩ (hL.push _) (ar hll) (by rw[av];lia) fun g tk xs m q1 q2 q3=>?_;have hsz:(s1.heap.push (revObj l ((its.toArray.size:Int) - 1))).objs.size=s1.heap.objs.size+1:=c5 ..;have q2':g.get? (s1.heap.objs.size+1)=some {cls:=.type "list",dict:=none,data:=.seq xs m,slots:=#[]}:=by rw[←hsz];exact q2
 have exs:xs.toList=its.reverse:=by
  obtain⟨h1,h2⟩:=q3;have h1':xs.size=its.length:=by rw[h1];simp
  apply eC;intro i
  by_cases hi:i<its.length
  ·have hix:i<xs.size:=by lia
   have:=h2 i xs[i] (cF hix);rw[kE hi,du,cF hix,←this];simp
  ·rw[cX (by simp;lia),cX (by simp;lia)]
 refine⟨.ref (s1.heap.objs.size+1),upd H1 (s1.heap.objs.size+1) (.lst ys.reverse),I1.laid (h':=g) (t':=tk) (fun b o e=>q1 b o (ar (aj e)) (af _ e)) (dz _) ⟨by rw[lz];exact hz,xs.toList,m,by rw[exs];exact rv.reverse,by simpa using q2'⟩,by show bf _=bf _;rw[hsz],q _ (I1.hok.fresh (dz _))⟩
def xm2(K:ai):List V→Hp→VK→Prop:=fun xs H Q=>∃(p:Addr) (ns:List Int),xs=[.ref p]∧SqL K H p (ns.map V.int)∧ns≠[]∧∀m,m∈ns→(∀x∈ns,m≤x)→Q (.int m) H
theorem xdX(hc:X.calm=true):yt X (.builtin "min") (xm2 X.K):=by
 intro pins s σ H xs us Q I r h;obtain⟨p,ns,rfl,hq,hne,q⟩:=h;obtain⟨u,rfl,rx⟩:=vals1 r;cases rx;obtain⟨its,r',pl,hz⟩:=I.list hq;have hi:=intsAre_of r';have hL:=pl.isList;have hn:=hi.numsOf;obtain⟨ys,e⟩:=hi.allInts.items;rw[e]at hL;have e2:numsOf its=numsOf (i4 ys).toList:=by rw[←e]
 rw[e2,nums_intItems]at hn;have hlen:=congrArg cn hn;rw[ab,aM]at hlen;have hpos:0<ns.length:=bJ.mpr hne;refine min_intList (I.ok.hd hc) hL (by lia) fun v h' tk hv hk=>?_;obtain⟨t,rfl⟩:=intItems_at hv;obtain⟨h1,h2⟩:=argBest_lt (numAt ys) (ys.size - 1);refine⟨.int _,H,I.kept (t':=tk) hk,⟨t,rfl⟩,q _ ?_ fun a ha=>?_⟩
 ·rw[←hn,numAt_eq];exact getD_mem (by rw[ab,aM];lia)
 ·rw[←hn]at ha;obtain⟨j,hj,rfl⟩:=mem_getD ha;rw[ab,aM]at hj;rw[←numAt_eq];exact h2 j (by lia)
def xkN:V→List V→Hp→VK→Prop:=fun x vs H Q=>∃(l:Addr) (ns:List Int) (i:Int),x= .ref l∧vs=[.int i]∧H l=some (.lst (ns.map V.int))∧i∈ns∧ns.length≤1000∧(∀x∈ns,x.natAbs<2^64)∧Q (.int (ns.idxOf i:Nat)) H
theorem xju:MtM X "list.index" xkN:=by
 intro pins s σ H x vs v us Q I rx rv h;obtain⟨l,ns,i,rfl,rfl,hH,hi,hlen,hsm,q⟩:=h;cases rx;obtain⟨u,rfl,ru⟩:=rv.one;obtain⟨t,rfl⟩:=ru;obtain⟨its,r',pl,hz⟩:=I.list (SqL.of hH);refine index_list_ints pl.isList (intsAre_of r') ?_ hi ⟨.int _,H,I.tok _,⟨_,rfl⟩,q⟩;have w:=xaS ns hsm;have h1:bx (.list (ns.map cz))=true:=by unfold bx;exact hO ns
 have h2:bG (.list (ns.map cz))≤64:=by unfold bG;rw[iA];decide
 have h3:lq (.list (ns.map cz))≤2^20:=by
  have e:lq (.list (ns.map cz))=i3 (ns.map cz):=by rw[k5]
  rw[e];lia
 unfold PyData.layable0;rw[h1,decide_eq_true h2,decide_eq_true h3];rfl
end
end L2
namespace L2
open PySem PySem.Spec PyProof.Rows
theorem xmh:bX "set"=some (.type "set"):=by decide+kernel
section
variable {X:Cx} {K:ai}
end
end L2
namespace L2
open PySem PySem.Spec PyProof.Rows
theorem zP{c:TT}{tb:TS}{D:Ends}{σ:St}{H:Hp}(Pv:Nat→St→Hp→Prop){m:Nat}(h0:Pv m σ H)
  (hs:∀m σ H,Pv m σ H→c σ H fun b H1=>(b=true→∃N:St→Hp→Prop,(∀σ' H',N σ' H'→∃m',m'<m∧Pv m' σ' H')∧tb {D with nx:=N,ct:=N,bk:=D.nx} σ H1)∧(b=false→D.nx σ H1)):xbs c tb D σ H:=by
 unfold xbs;exact⟨Pv,⟨m,h0⟩,hs⟩
theorem ub{l₁:List Int}(h:l₁.Nodup):∀{l₂:List Int},(∀x∈l₁,x∈l₂)→l₁.length≤l₂.length:=by
 induction l₁ with
 |nil=>intro l₂ _;exact aJ _
 |cons x xs ih=>
  intro l₂ hs;obtain⟨h1,h2⟩:=bZ.mp h;have hx:=hs x aA;have:=ih h2 (l₂:=l₂.erase x) fun y hy=>(List.mem_erase_of_ne (fun z=>h1 (by rw[←z];exact hy))).mpr (hs y (aq _ hy));rw[List.length_erase_of_mem hx]at this;have hpos:0<l₂.length:=List.length_pos_of_mem hx;rw[aY];lia
end L2
namespace PySem.W
open PySem PySem.Calls PyProof.Rows
def xcb(h:Heap)(ks:List Value):Prop:=∀v∈ks,∃a o,v= .ref a∧h.get? a=some o∧o.cls= .type "list"
section
variable {M:Model} {A:aU} {E:Value→ae→Prop} {s:ae}
theorem xdY:∀(vs:List Value) {Q:List (Option Value)→ae→Prop},xcb s.heap vs→Q (vs.map fun _=>none) s→wpAny M A (vs.mapM firstOfTuple') Q E s
 |[],_,_,h=>by rw[List.mapM_nil];exact ah h
 |v::vs,Q,t,h=>by
  obtain⟨a,o,rfl,ho,hc⟩:=t v aA;rw[List.mapM_cons];refine aa ?_;rw[kas_first_eq];refine aa (Looks.here (show Looks M s.heap (typeOf (.ref a)) o.cls from(Looks.ld ho).andThen .now) ?_);rw[hc,if_pos (by first|decide|simp)];refine ah ?_;exact aa (xdY vs (Q:=fun bs s'=>wpAny M A (pure (none::bs)) Q E s') (fun v hv=>t v (aq _ hv)) (ah h))
theorem xkO{vs:List Value}{Q:SortKind→ae→Prop}(hne:0<vs.length)(t:xcb s.heap vs)(h:Q ij s):wpAny M A (k6 vs.toArray) Q E s:=by
 obtain⟨f₁,fr,rfl⟩:∃f₁ fr,vs=f₁::fr:=by
  match vs,hne with
  |f₁::fr,_=>exact⟨f₁,fr,rfl⟩
 rw[kat_kind_eq,List.mapM_toArray,map_eq_pure_bind];refine aa (aa (xdY _ t (ah ?_)));have h1:((((f₁::fr).map fun _=>(none:Option Value)).toArray).all fun x=>x.isSome)=false:=by simp
 rw[if_neg (by rw[h1];decide)];have h2:((((f₁::fr).map fun _=>(none:Option Value)).toArray)[0]?.bind id).isSome=false:=by simp
 rw[if_neg (by rw[h2];decide)];rw[oneTypeOnly'_eq,List.mapM_toArray,map_eq_pure_bind];refine aa (aa (aa (kas_mapM (r:=ck "list") _ (fun v hv Q' hq=>?_) (ah ?_))))
 ·obtain⟨a,o,rfl,ho,hc⟩:=t v hv;refine Looks.here (show Looks M s.heap (typeOf (.ref a)) o.cls from(Looks.ld ho).andThen .now) ?_;rw[hc];exact hq
 ·have hall2:((List.map (fun _=>ck "list") (f₁::fr)).toArray.all fun x=>x==ck "list")=true:=by
   simp only[List.all_toArray,List.all_map,cM];intro _ _;rfl
  have h0:(List.map (fun _=>ck "list") (f₁::fr)).toArray[0]? =some (ck "list"):=by simp
  rw[h0];dsimp only;rw[if_pos hall2];exact ah (ah h)
end
section
variable {prog:aF} {w:World} {A:aU} {E:Value→ae→Prop} {s:ae} {a kS:Addr} {vs:List Value} {e1:Nat} {f:Value} {P:PySem.Fin→ae→Prop}
def xeS(prog:aF)(w:World)(A:aU)(kS a:Addr)(vs:List Value)(P:PySem.Fin→ae→Prop)(ks:List Value)(s:ae):Prop:=
 ∃lt:Nat→Nat→Bool,L2.STO lt vs.length∧xcb s.heap ks∧(∀i j (C:Bool→ae→Prop),i<vs.length→j<vs.length→C (lt i j) s→wpAny (model prog w) A (keyLt' ij (ks.getD i aZ) (ks.getD j aZ)) C (fun _ _=>False) s)∧
 ∀p:Array Nat,L2.Pm vs.length p→L2.Up lt p vs.length→∀h' c,(∀b o,b≠kS→b≠a→s.heap.get? b=some o→h'.get? b=some o)→h'.get? a=some (aK "list" (ak (p.toList.map fun i=>vs.getD i aZ)) c)→P (.done (.ret .none)) {s with heap:=h'}
def uc(prog:aF)(w:World)(A:aU)(kS a:Addr)(e1:Nat)(f:Value)(vs:List Value)(P:PySem.Fin→ae→Prop):List Value→List Value→ae→Prop
 |[],ks,s=>s.heap.get? a=some (aK "list" #[] e1)∧xeS prog w A kS a vs P ks s
 |v::r,ks,s=>wpAny (model prog w) A (call f [v]) (fun k s'=>(∃e,s'.heap.get? kS=some (aK "list" (ak ks) e))∧∀h' c,(∀b o,b≠kS→s'.heap.get? b=some o→h'.get? b=some o)→h'.get? kS=some (aK "list" (ak (ks++[k])) c)→uc prog w A kS a e1 f vs P r (ks++[k]) {s' with heap:=h'}) (fun _ _=>False) s
theorem jW{st:SortSt}{out ks:List Value}{e:Nat}(hak:a≠kS)(hout:(arrOf st).map (·.2)=ak out)(hz:out.length<64)(hkz:ks.length<64)(hf:failedOf st=none)
  (ha:s.heap.get? a=some (aK "list" #[] e1)) (hk:s.heap.get? kS=some (aK "list" (ak ks) e))
  (h:∀h' c,(∀b o,b≠kS→b≠a→s.heap.get? b=some o→h'.get? b=some o)→h'.get? a=some (aK "list" (ak out) c)→P (.done (.ret .none)) {s with heap:=h'}):wpAny (model prog w) A (ksk_tail a false e1 (.ref kS) st) P E s:=by
 have s1:=bK s.heap kS (aN fun _=>(#[]:Array Value));have ha1:(s.heap.update kS (aN fun _=>(#[]:Array Value))).get? a=some (aK "list" #[] e1):=(s1.2 a hak).trans ha;have s2:=bK (s.heap.update kS (aN fun _=>(#[]:Array Value))) a (aN fun _=>ak out);obtain⟨c2,hc2⟩:∃c2,((s.heap.update kS (aN fun _=>(#[]:Array Value))).update a (aN fun _=>ak out)).get? a=some (aK "list" (ak out) c2):=⟨_,c9 ha1 fun _=>ak out⟩;have hsz:(ak out).size=out.length:=av;unfold ksk_tail
 try dsimp only
 rw[hout];refine aa (dI hk rfl ?_ (by rw[av,ay];lia) (aJ _));refine aa (dX ?_);refine aa (gC ha1 rfl ?_);refine aa (dI ha1 rfl ?_ (aJ _) (bp (gT hsz) (by rw[ay];lia)));rw[hf];simp only[bne_self_eq_false,aV,if_false];exact ah (h _ c2 (fun b o h1 h2 q=>(s2.2 b h2).trans ((s1.2 b h1).trans q)) hc2)
theorem xkP{ks:List Value}{e:Nat}(hak:a≠kS)(hl:ks.length=vs.length)(h64:vs.length<64)(ha:s.heap.get? a=some (aK "list" #[] e1))(hk:s.heap.get? kS=some (aK "list" (ak ks) e))
  (h:xeS prog w A kS a vs P ks s):wpAny (model prog w) A (ksk_end a false vs.toArray e1 (.ref kS) (ak ks)) P E s:=by
 obtain⟨lt,S,hL,hcmp,fin⟩:=h;unfold ksk_end
 try dsimp only
 by_cases h2:2≤vs.length
 ·have hn2:¬vs.toArray.size<2:=by rw[av];lia
  have hk1:wpAny (model prog w) A (k6 (ak ks)) (fun κ s'=>κ=ij∧s=s') (fun _ _=>False) s:=xkO (by lia) hL ⟨rfl,rfl⟩;simp only[aV,if_false];rw[if_neg hn2,if_neg hn2];refine aa (a8 hk1 (fun κ s0 hk=>?_) fun _ _ x=>x.elim);obtain⟨rfl,rfl⟩:=hk;have hw:(kas_sort vs.length).kasWp (kas_ask prog w A ij ks) (fun p s''=>s=s''∧L2.Pm vs.length p∧L2.Up lt p vs.length) s:=by
   refine L2.Wp.kas (lt:=lt) (n:=vs.length) (fun i j C hi hj hc=>hcmp i j C hi hj hc) ?_;exact L2.wp_mono (L2.xdi S h2) fun q hq=>⟨rfl,hq⟩
  refine aa (a8 (kat_run (Q:=fun st' s'=>∃p:Array Nat,arrOf st'=p.map (kas_item ((ak ks).zip (ak vs)))∧failedOf st'=none∧s=s'∧L2.Pm vs.length p∧L2.Up lt p vs.length)
   hl h2 h64 (fun p' st' s' a1 a2 a3 a4=>⟨p',a2,a3,a4⟩) hw) ?_ fun _ _ x=>x)
  rintro⟨⟨⟩,st'⟩ s' ⟨p,har,hf,rfl,hp,hu⟩
  try dsimp only
  refine jW hak (kat_snds hl har) (by rw[ab,aM,hp.size];exact h64) (by lia) hf ha hk fun h' c k1 k2=>fin p hp hu h' c k1 k2
 ·have hn2:vs.toArray.size<2:=by rw[av];lia
  simp only[aV,if_false];rw[if_pos hn2,if_pos hn2];refine aa (ah ?_);refine aa (ah ?_)
  try dsimp only
  have hsn:(arrOf (mi general' ((ak ks).zip (ak vs)) #[] 7 none)).map (·.2)=ak vs:=by
   show((ak ks).zip (ak vs)).map (·.2)=ak vs;apply gI.mp;simp[i5,hl]
  refine jW hak hsn h64 (by lia) rfl ha hk fun h' c k1 k2=>fin (ak (aI vs.length)) ⟨by simp,by simp⟩ (fun i j hij hj=>by lia) h' c k1 ?_;have e:((ak (aI vs.length)).toList.map fun i=>vs.getD i aZ)=vs:=by
   apply eC;intro i
   by_cases hi:i<vs.length
   ·simp[hi]
   ·simp[hi]
  rw[e];exact k2
theorem xeT{n:Nat}{body:Value→PUnit→Sem (ForInStep PUnit)}(hn:n<64)
  (hb:∀x ks (s:ae) (C:Value→Nat→ae→Prop),cn ks<64→wpAny (model prog w) A (call f [x]) (fun k s'=>(∃e,s'.heap.get? kS=some (aK "list" (ak ks) e))∧∀h' c,(∀b o,b≠kS→s'.heap.get? b=some o→h'.get? b=some o)→h'.get? kS=some (aK "list" (ak (ks++[k])) c)→C k c {s' with heap:=h'}) (fun _ _=>False) s→
   wpAny (model prog w) A (body x ⟨⟩) (fun r s'=>r= .yield ⟨⟩∧∃k c,s'.heap.get? kS=some (aK "list" (ak (ks++[k])) c)∧C k c s') E s):∀(r ks:List Value) (e:Nat) (s:ae),ks.length+r.length=n→
   s.heap.get? kS=some (aK "list" (ak ks) e)→uc prog w A kS a e1 f vs P r ks s→
   wpAny (model prog w) A (forIn r k8 body) (fun _ s'=>∃ks e,s'.heap.get? kS=some (aK "list" (ak ks) e)∧ks.length=n∧s'.heap.get? a=some (aK "list" #[] e1)∧xeS prog w A kS a vs P ks s') E s
 |[],ks,e,s,hl,hk,h=>by
  rw[List.forIn_nil];exact ah ⟨ks,e,hk,by simpa using hl,h⟩
 |x::r,ks,e,s,hl,hk,h=>by
  rw[aY]at hl;rw[j9];have h':=h;unfold uc at h';refine aa (a8 (hb x ks s (fun k c s'=>uc prog w A kS a e1 f vs P r (ks++[k]) s') (by lia) (a8 h' (fun k s' hq=>hq) fun _ _ x=>x)) (fun q s' hq=>?_) fun _ _ x=>x);obtain⟨rfl,k,c,hk',h2⟩:=hq;show wpAny (model prog w) A (forIn r k8 body) _ E s';exact xeT hn hb r (ks++[k]) c s' (by rw[ax,bQ];lia) hk' h2
theorem xis{n:Nat}(ho:s.heap.get? a=some (aK "list" vs.toArray n))(h64:vs.length<64)
  (h:∀kS e1 h',(∀b o,b≠a→s.heap.get? b=some o→h'.get? b=some o)→h'.get? a=some (aK "list" #[] e1)→h'.get? kS=some (aK "list" #[] 0)→s.heap.objs.size≤kS→uc prog w A kS a e1 f vs P vs [] {s with heap:=h'}):
  wpAny (model prog w) A (ksk_tree a f false) P E s:=by
 have ha:a<s.heap.objs.size:=aj ho;have s1:=bK s.heap a (aN fun _=>(#[]:Array Value));obtain⟨e1,ho1⟩:∃e1,(s.heap.update a (aN fun _=>(#[]:Array Value))).get? a=some (aK "list" #[] e1):=⟨_,c9 ho fun _=>#[]⟩;have hkS:((s.heap.update a (aN fun _=>(#[]:Array Value))).push (aK "tuple" vs.toArray 0)).objs.size=s.heap.objs.size+1:=by rw[k9,fM]
 unfold ksk_tree;refine aa (hZ ho rfl ?_);refine aa (dI ho rfl ?_ (by rw[av,ay];lia) (aJ _));refine aa (gC ho1 rfl ?_);refine aa (kF ?_ (by show vs.length≤_;rw[ay];lia));refine aa (ef ?_ (aJ _));refine bB ?_;generalize hK:((s.heap.update a (aN fun _=>(#[]:Array Value))).push (aK "tuple" vs.toArray 0)).objs.size=kS at hkS;generalize hh:((s.heap.update a (aN fun _=>(#[]:Array Value))).push (aK "tuple" vs.toArray 0)).push (aK "list" #[] 0)=h1;have hk0:h1.get? kS=some (aK "list" #[] 0):=by rw[←hh,←hK];exact aB _ rfl
 have hk:=h kS e1 h1 (fun b o hb q=>by rw[←hh];exact af _ (af _ ((s1.2 b hb).trans q))) (by rw[←hh];exact af _ (af _ ho1)) hk0 (by rw[hkS];exact dz _);have hak:a≠kS:=ar (by rw[hkS];exact fz ha);unfold ksk_rest;refine aa (gZ ?_)
 first
  |rw[lU]
  |(rw[←dZ];simp only[lA])
  |rw[←dZ]
 refine aa (a8 (xeT h64 (fun x ks s' C hz hx=>?_) vs [] 0 {s with heap:=h1} (by simp) hk0 hk) (fun _ s' hd=>?_) fun _ _ x=>x)
 ·refine aa (wpAny_attempt (a8 hx (fun k s'' hk=>?_) fun _ _ hF=>hF.elim));obtain⟨⟨e,nk⟩,c⟩:=hk;have s1:=bK s''.heap kS (aN (·.push k));have ea:(ak ks).push k=ak (ks++[k]):=by simp
  obtain⟨c2,hc2⟩:∃c2,(s''.heap.update kS (aN (·.push k))).get? kS=some (aK "list" (ak (ks++[k])) c2):=⟨_,by rw[←ea];exact c9 nk (·.push k)⟩
  try dsimp only
  refine aa (dI nk rfl ?_ (by rw[av,ay];lia) (bp (gT (kd ..)) (by rw[av,ay];lia)));exact ah ⟨rfl,k,c2,hc2,c _ c2 (fun b o hb q=>(s1.2 b hb).trans q) hc2⟩
 ·obtain⟨ks,e,hk',hl,ha',fin⟩:=hd
  try dsimp only
  refine aa (hZ hk' rfl ?_);exact xkP hak hl h64 ha' hk' fin
end
end PySem.W
namespace L2
open PySem PySem.Spec PyProof.Rows PySem.W
structure xnJ(X:Cx)(H2:Hp)(s2:ae)(kk:Nat→List Int)(D kS:Addr)(e1:Nat)(ks:List Value)(G:Hp)(s':ae):Prop where
 os:s'.os=s2.os
 bare:fB s'.gens
 un:Un (frs X.stack) [] H2 G s2.heap s'.heap
 hok:HOk X.prog X.w G s'.heap
 same:xc H2 G
 keys:∀i,i<ks.length→∃d,ks[i]? =some (.ref d)∧G d=some (.lst ((kk i).map V.int))
 atD:s'.heap.get? D=some (aK "list" #[] e1)
 fD:G D=none
 fk:G kS=none
section
variable {X:Cx} {k:Nat} {nm qual:Str} {params:cG} {body:dk} {scope:Scope} {ps:List Str} {sp:List (Str×V)→Sp} {pins:List (Addr×Obj)} {σ:St} {H2:Hp} {s2:ae} {f D kS:Addr} {fv:List (Str×V)} {kk:Nat→List Int} {vs:List Value} {P:PySem.Fin→ae→Prop} {e1:Nat}
theorem Inv.young(I:Inv X pins σ H2 s2){b:Addr}(h:s2.heap.objs.size≤b):b∉frs X.stack:=fun z=>by
 rcases az.mp (I.stkSub b z)with q|q
 ·exact absurd I.lt (by rw[←q];exact Nat.not_lt.mpr h)
 ·exact I.nofs h q
theorem xcc{P:aF}{w:World}{G:Hp}{h h':Heap}{b:Addr}(x:HOk P w G h)(fb:G b=none)(k:∀c o,c≠b→h.get? c=some o→h'.get? c=some o):HOk P w G h':=fun a o e=>
 (x a o e).stay (fun c u hc q=>k c u (by
  rintro rfl;rcases hc with z|z
  ·rw[←z,fb]at e;cases e
  ·rw[fb]at z;cases z) q) (fun _ q=>q) fun _ _ q _=>q
theorem xeU(F:uk X.prog X.w X.K X.mg X.base CX0 k nm qual params body scope ps sp)(hr:xO (k+2) X.A)(I:Inv X pins σ H2 s2)(hc:uj H2 f nm qual params body scope fv)
  (hsp:∀i,i<vs.length→∀H3,xc H2 H3→sp fv [.int (i:Nat)] H3 (fun v H4=>xc H3 H4∧∃d,v= .ref d∧H4 d=some (.lst ((kk i).map V.int))) E0)
  (hv:∀(i:Nat) v,vs[i]? =some v→∃t,v= .int (i:Nat) t) (hD:s2.heap.objs.size≤D) (hk:s2.heap.objs.size≤kS) (hDk:D≠kS) (h64:vs.length<64)
  (S:STO (fun i j=>HT.lexLt (kk i) (kk j)) vs.length)
  (fin:∀p:Array Nat,Pm vs.length p→Up (fun i j=>HT.lexLt (kk i) (kk j)) p vs.length→∀sF G',Inv X pins σ G' sF→xc H2 G'→G' D=some (.lst (p.toList.map fun(i:Nat)=>V.int i))→P (.done (.ret .none)) sF):
  ∀(r ks:List Value) (s':ae) (G:Hp),r=vs.drop ks.length→ks.length≤vs.length→xnJ X H2 s2 kk D kS e1 ks G s'→(∃e,s'.heap.get? kS=some (aK "list" (ak ks) e))→
   uc X.prog X.w X.A.in1.in1 kS D e1 (.ref f) vs P r ks s'
 |[],ks,s',G,hr0,hle,J,hkS=>by
  have hlen:ks.length=vs.length:=by
   have:=congrArg cn hr0;simp at this;lia
  unfold uc;refine⟨J.atD,fun i j=>HT.lexLt (kk i) (kk j),S,fun v hvm=>?_,fun i j C hi hj hC=>?_,fun p hp hu h' c keep hDc=>?_⟩
  ·obtain⟨i,hi,rfl⟩:=cA.mp hvm;obtain⟨d,h1,h2⟩:=J.keys i hi;rw[ag hi]at h1;obtain⟨_,its,n,_,e⟩:=J.hok d _ h2;exact⟨d,_,bw h1,e,rfl⟩
  ·obtain⟨d1,a1,a2⟩:=J.keys i (by lia);obtain⟨d2,b1,b2⟩:=J.keys j (by lia);have g1:ks.getD i aZ= .ref d1:=by simp[aX,a1]
   have g2:ks.getD j aZ= .ref d2:=by simp[aX,b1]
   rw[g1,g2,kH];obtain⟨_,its1,n1,r1,e1'⟩:=J.hok d1 _ a2;obtain⟨_,its2,n2,r2,e2'⟩:=J.hok d2 _ b2;exact HT.xdj ⟨_,e1',rfl,_,rfl⟩ ⟨_,e2',rfl,_,rfl⟩ (intsAre_of r1) (intsAre_of r2) hr.in1.in1.units0 hC
  ·have lenp:p.toList.length=vs.length:=by rw[aM];exact hp.size
   have hvals:Vals (p.toList.map fun(i:Nat)=>V.int i) (p.toList.map fun i=>vs.getD i aZ):=by
    refine uQ (by simp) fun j x u e1 e2=>?_;rw[au]at e1 e2;cases q:p.toList[j]? with
    |none=>rw[q]at e1;cases e1
    |some m=>
     rw[q]at e1 e2;cases e1;have hm:m<vs.length:=a7.mp (hp.perm.mem_iff.mp (aL q));obtain⟨t,ht⟩:=hv m vs[m] (ag hm);have:vs.getD m aZ= .int (m:Nat) t:=by simp[aX,hm,ht]
     cases e2;show RelV (.int (m:Nat)) (vs.getD m aZ);rw[this];exact⟨t,rfl⟩
   have newD:xE X.prog X.w (upd G D (.lst (p.toList.map fun(i:Nat)=>V.int i))) h' D (.lst (p.toList.map fun(i:Nat)=>V.int i)):=⟨by rw[ab,lenp,ay];lia,_,c,hvals,hDc⟩;have hokF:HOk X.prog X.w (upd G D (.lst (p.toList.map fun(i:Nat)=>V.int i))) h':=fun b u e=>by
    by_cases hb:b=D
    ·subst hb;rw[xj]at e;cases e;exact newD
    ·rw[xk hb]at e;refine(J.hok b u e).stay (fun c' v hc' q=>keep c' v ?_ ?_ q) (fun c' q=>by rw[xk (xF q J.fD)];exact q) fun c' xs q _=>by rw[xk (xF q J.fD)];exact q
     ·rintro rfl;rcases hc' with z|z
      ·rw[←z,J.fk]at e;cases e
      ·rw[J.fk]at z;cases z
     ·rintro rfl;rcases hc' with z|z
      ·exact hb z.symm
      ·rw[J.fD]at z;cases z
   have lt2:∀b o,s2.heap.get? b=some o→b≠D∧b≠kS:=fun b o q=>⟨ar (aw (aj q) hD),ar (aw (aj q) hk)⟩;have un2:Un (frs X.stack) [] H2 (upd G D (.lst (p.toList.map fun(i:Nat)=>V.int i))) s2.heap h':=by
    refine⟨fun b o q n1 n2 n3=>keep b o (lt2 b o q).2 (lt2 b o q).1 (J.un.keep b o q n1 n2 n3),fun b o q n1 n2 n3=>?_,fun b o q n1 n3=>by rw[xk (lt2 b o q).1];exact J.un.free b o q n1 n3,fun b o q n3=>?_,fun b u q fx=>?_⟩
    ·obtain⟨sl,e⟩:=J.un.slot b o q n1 n2 n3;exact⟨sl,keep b _ (lt2 b o q).2 (lt2 b o q).1 e⟩
    ·obtain⟨o',e⟩:=J.un.there b o q n3;exact⟨o',keep b _ (lt2 b o q).2 (lt2 b o q).1 e⟩
    ·have:=J.un.fix b u q fx;rw[xk (xF this J.fD)];exact this
   have IF:Inv X pins σ (upd G D (.lst (p.toList.map fun(i:Nat)=>V.int i))) {s' with heap:=h'}:=I.call' (s':={s' with heap:=h'}) (ch:=[]) J.os un2 hokF J.bare fun b z=>absurd z (by simp);refine fin p hp hu _ _ IF (fun b u q=>?_) xj;have:=J.same b u q;rw[xk (xF this J.fD)];exact this
 |x::r,ks,s',G,hr0,hle,J,hkS=>by
  have hlt:ks.length<vs.length:=by
   have:=congrArg cn hr0;simp at this;lia
  have hx:vs[ks.length]? =some x:=by
   have:=congrArg (fun l=>l[0]?) hr0;simp at this;exact this.symm
  have hr1:r=vs.drop (ks.length+1):=by
   have:=congrArg List.tail hr0;simpa using this
  obtain⟨t,rfl⟩:=hv _ x hx;have Iu:Inv X pins σ G s':=I.call' (s':=s') (ch:=[]) J.os J.un J.hok J.bare fun b z=>absurd z (by simp);have E0':vm X.prog X.w X.K X.mg X.base X.A.in1.in1 X.stack s' G:=by
   have e:=Iu.env0;exact⟨e.frames,e.mod,e.bs,e.bsz,e.funs,e.frf,e.hok,e.bare⟩
  unfold uc;refine gW (dB (F.run X.A.in1.in1 X.stack s' G f fv _ [.int (ks.length:Nat)] _ E0 hr.in1.in1 E0' (hc.same J.same) (.cons ⟨t,rfl⟩ .nil) (hsp ks.length hlt G J.same)) fun rr s'' hq=>?_);cases rr with
  |error e=>exact hq.elim
  |ok fl=>
   cases fl with
   |next=>exact hq.elim
   |brk=>exact hq.elim
   |cont=>exact hq.elim
   |ret u=>
    obtain⟨v,H',hos,hbare,hun,hhok,hrv,hS,d,rfl,hd⟩:=hq;cases hrv;obtain⟨e,hkSe⟩:=hkS;have hDs:D∉frs X.stack:=I.young hD;have hks:kS∉frs X.stack:=I.young hk;have kD:=hun.keep D _ J.atD J.fD hDs (by simp);have kk2:=hun.keep kS _ hkSe J.fk hks (by simp);refine⟨⟨e,kk2⟩,fun h' c keep hnew=>?_⟩;refine xeU F hr I hc hsp hv hD hk hDk h64 S fin r (ks++[.ref d]) {s'' with heap:=h'} H' (by rw[hr1,ax];rfl) (by rw[ax];exact hlt) ⟨hos.trans J.os,hbare,?_,?_,J.same.trans hS,fun i hi=>?_,keep D _ hDk kD,hun.free D _ J.atD J.fD (by simp),hun.free kS _ hkSe J.fk (by simp)⟩ ⟨c,hnew⟩
    ·have u2:=J.un.trans hun;have lt2:∀b o,s2.heap.get? b=some o→b≠kS:=fun b o q=>ar (aw (aj q) hk);refine⟨fun b o q n1 n2 n3=>keep b o (lt2 b o q) (u2.keep b o q n1 n2 n3),fun b o q n1 n2 n3=>?_,u2.free,fun b o q n3=>?_,u2.fix⟩
     ·obtain⟨sl,e⟩:=u2.slot b o q n1 n2 n3;exact⟨sl,keep b _ (lt2 b o q) e⟩
     ·obtain⟨o',e⟩:=u2.there b o q n3;exact⟨o',keep b _ (lt2 b o q) e⟩
    ·exact xcc hhok (hun.free kS _ hkSe J.fk (by simp)) fun c' o hcb q=>keep c' o hcb q
    ·rw[ax,bQ]at hi
     by_cases hij:i=ks.length
     ·subst hij;exact⟨d,by rw[bP (ao _)];simp,hd⟩
     ·obtain⟨d',g1,g2⟩:=J.keys i (by lia);exact⟨d',by rw[bH (by lia)];exact g1,hS.at g2⟩
theorem ju{lt:Nat→Nat→Bool}{n:Nat}{p:Array Nat}(hp:Pm n p)(hu:Up lt p n):p.toList.Pairwise fun i j=>lt i j=true:=by
 refine bc.mpr fun i j hi hj hij=>?_;rw[aM]at hi hj;have:=hu i j hij (by rw[←hp.size];exact hj);rw[uR,uR,cF hi,cF hj]at this;simpa using this
def xmi(nm qual:Str)(params:cG)(body:dk)(scope:Scope)(sp:List (Str×V)→Sp)(ta:TA)(tf:TE):TE:=fun σ H Q=>ta σ H fun xs H1=>tf σ H1 fun y H2=>
 ∃(r f:Addr) (n:Nat) (fv:List (Str×V)) (kk:Nat→List Int),xs=[.ref r]∧y= .ref f∧H2 r=some (.rng 0 n)∧n<64∧uj H2 f nm qual params body scope fv∧
 (∀i,i<n→∀H3,xc H2 H3→sp fv [.int (i:Nat)] H3 (fun v H4=>xc H3 H4∧∃d,v= .ref d∧H4 d=some (.lst ((kk i).map V.int))) E0)∧STO (fun i j=>HT.lexLt (kk i) (kk j)) n∧
 ∀(l:Addr) (p:List Nat) (H':Hp),xc H2 H'→H2 l=none→H' l=some (.lst (p.map fun(i:Nat)=>V.int i))→p.Perm (aI n)→(p.Pairwise fun i j=>HT.lexLt (kk i) (kk j)=true)→Q (.ref l) H'
theorem xhl{e fe:Expr}{ta:TA}{tf:TE}{p pos kp:Pos}(F:uk X.prog X.w X.K X.mg X.base CX0 k nm qual params body scope ps sp)(hr:xO (k+2) X.A)(hc:X.calm=true)(hg:Gl X "sorted")(hm:X.mg "sorted"=none)(ha:PA X [e] ta)(hf:PE X fe tf)
  (he:de pos (bh [e] X.env)=(false,eval e X.env)::de pos (bh [] X.env):=by rfl):
  PE X (.Call (.Name "sorted" p) [e] [⟨some "key",fe,kp⟩] pos) (xmi nm qual params body scope sp ta tf):=by
 intro pins s σ H Q I h;refine cy (zg I hg hm va ?_ (by decide) (by decide));refine kj (thn (ha pos pins s σ H _ I h) fun us s1 ⟨xs,H1,I1,r1,q1⟩=>?_) he (by rw[he];rfl) rfl rfl;refine kws_cons (thn (hf pins s1 σ H1 _ I1 q1) fun fu s2 ⟨y,H2,I2,r2,q2⟩=>kws_nil ?_);obtain⟨r,f,n,fv,kk,rfl,rfl,hrng,h64,hcl,hsp,S,q⟩:=q2;obtain⟨u,rfl,ru⟩:=Vals.one r1;cases ru;cases r2;obtain⟨t1,t2,t3,hR⟩:=I2.hok r _ hrng;show wpAny _ _ (call (.builtin "sorted") [.ref r] [(cj "key",.ref f)]) _ _ s2;refine call_function_entry_kw kind_sorted plain_sorted entry_sorted (ksk_s1 _ _) ?_;unfold eP.«sorted»;refine aa (m:=checkCount "sorted" 1 1 _) (ah ?_);have hsize:bz 0 (n:Int) 1=(n:Nat):=by rw[rangeSize_one];split<;> lia
 refine aa (xfZ (A:=X.A.in1) (I.ok.hd hc) hR hsize (by lia) fun g tk xs m keep hlt hget items=>?_);obtain⟨hxs,hit⟩:=items;have hxl:xs.toList.length=n:=by rw[aM];exact hxs
 refine aa (ef ?_ (by rw[hxl,ay];lia));have hoL:(g.push (aK "list" xs.toList.toArray 0)).get? g.objs.size=some (aK "list" xs.toList.toArray 0):=aB _ rfl;refine aa (bB (wpAny_call_entry_kw kJ ⟨_,hoL,rfl⟩ ke ?body (ksk_l1 _ _)))
 case body=>
  show wpAny (model X.prog X.w) X.A.in1.in1 (eP.«list.sort» ⟨[.ref g.objs.size],[(cj "key",.ref f)]⟩) _ _ _;rw[ksk_t1];have h64':xs.toList.length<64:=by rw[hxl];exact h64
  have hsg:s2.heap.objs.size≤g.objs.size:=cx hlt;refine xis (s:={s2 with heap:=g.push (aK "list" xs.toList.toArray 0),toks:=tk}) hoL h64' fun kS e1 h' keep2 atD atk hkS=>?_;have hkS':g.objs.size<kS:=aw (by show g.objs.size<(g.push _).objs.size;rw[c5];exact cL _) hkS;have old:∀b o,s2.heap.get? b=some o→h'.get? b=some o:=fun b o e=>keep2 b o (ar (aw (aj e) hsg)) (af _ (keep b o e));refine xeU (kk:=kk) F hr I2 hcl (fun i hi=>hsp i (by rw[hxl]at hi;exact hi)) (fun i v e=>?_) hsg (bp hsg (cx hkS')) (ar hkS') h64' (by rw[hxl];exact S) (fun p hp hu sF G' IF sm hDv=>?_) xs.toList [] _ H2 rfl (aJ _)
   ⟨rfl,I2.bare,Un.kept old,I2.hok.kept old,xc.refl _,fun i hi=>absurd hi (dG _),atD,I2.hok.fresh hsg,I2.hok.fresh (bp hsg (cx hkS'))⟩ ⟨0,atk⟩
  ·obtain⟨t,ht⟩:=hit i v (by simpa using e);exact⟨t,by rw[ht];congr 1;lia⟩
  ·rw[hxl]at hp hu;exact⟨_,rfl,ah ⟨_,rfl,.ref g.objs.size,G',IF,rfl,q _ p.toList G' sm (I2.hok.fresh hsg) hDv hp.perm (ju hp hu)⟩⟩
end
end L2
namespace L2
open PySem
def xhm:Expr→Expr
 | .Call _ _ (k::_) _=>k.value
 |e=>e
end L2
namespace L2
open PySem PySem.Spec PyProof.Rows PySem.W
def xmj:Option (Int×Tok)→Array Value
 |none=>#[]
 |some (m,t)=>#[.int m t,.int m t]
def xm3(f:Nat→Int)(j:Nat):Option (Int×Tok)→Prop
 |none=>j=0
 |some (m,_)=>(∃i,i<j∧f i=m)∧∀i,i<j→f i≤m
def xit(f:Nat→Int)(n:Nat)(d v:Value):Prop:=(n=0→v=d)∧(0<n→∃m t,v= .int m t∧(∃i,i<n∧f i=m)∧∀i,i<n→f i≤m)
theorem xjv(a v:Value):argsOk "max" ⟨[a],[(cj "default",v)]⟩:=by unfold argsOk;kernel_rfl
section
variable {prog:aF} {w:World} {A:aU} {R:f7→ae→Prop} {I:Addr} {fp wr:List Addr} {n:Nat} {P:Nat→Value→Prop} {St:Nat→Heap→Prop}
theorem jX(W:Walks prog w A.in1 I fp wr n P St)(f:Nat→Int)(hP:∀i v,P i v→∃t,v= .int (f i) t)(S:Addr)(hSf:S∉fp)(d:Value):∀(k j:Nat) (s:ae) (b:Option (Int×Tok)) (c:Nat),n - j=k→j≤n→St j s.heap→
  s.heap.get? S=some {cls:=.type "list",dict:=none,data:=.seq (xmj b) c,slots:=#[]}→xm3 f j b→
  (∀v h' tk,xit f n d v→(∀b o,b∉wr→b≠S→s.heap.get? b=some o→h'.get? b=some o)→R (.ok (.ret v)) {s with heap:=h',toks:=tk})→
  cQ (model prog w) A (.builtin "max.loop" ⟨[.ref I,.none,.ref S],[(cj "default",d)]⟩) R s
 |0,j,s,b,c,hk,hj,hst,hS,hb,hR=>by
  have hin:j=n:=by lia
  subst hin;have hSw:S∉wr:=fun h=>hSf (W.sub _ h);refine bN F.entry_max_loop ?_;rw[bE eW _];show wpAny _ A.in1 (seqItems? (.ref S) >>= _) _ _ s;refine aa (eQ hS rfl ?_);show wpAny _ A.in1 (tryCatch (gR (.ref I)) _ >>= _) _ _ s;refine aa (dU (W.done s _ _ hst fun h' tk hk'=>?_));have hS':=hk' S _ hSw hS;cases b with
  |none=>
   cases hb;exact aa (m:=rule _) (gZ (ah (hR d _ tk ⟨fun _=>rfl,fun q=>absurd q (bV _)⟩ fun b o hbw _ e=>hk' b o hbw e)))
  |some p=>
   obtain⟨m,t⟩:=p;show wpAny _ A.in1 (gO S (fun _=>#[]) >>= _) _ _ _;refine aa (cV hS' rfl (aa (dX (ah ?_))) (by show(2:Nat)≤_;decide));refine hR _ _ tk ⟨fun q=>?_,fun _=>⟨m,t,rfl,hb⟩⟩ fun b o hbw hbS e=>(bL _ _ (bO hbS)).trans (hk' b o hbw e);obtain⟨⟨i,hi,_⟩,_⟩:=hb;lia
 |k+1,j,s,b,c,hk,hj,hst,hS,hb,hR=>by
  have hlt:j<n:=by lia
  have hSw:S∉wr:=fun h=>hSf (W.sub _ h);have hname:(toString "max"++toString ".loop":String)="max.loop":=by decide
  refine bN F.entry_max_loop ?_;rw[bE eW _];show wpAny _ A.in1 (seqItems? (.ref S) >>= _) _ _ s;refine aa (eQ hS rfl ?_);show wpAny _ A.in1 (tryCatch (gR (.ref I)) _ >>= _) _ _ s;refine aa (dU (W.item j s _ _ hlt hst fun v h' tk hv hst' hk'=>?_));have hS':=hk' S _ hSw hS;obtain⟨t,rfl⟩:=hP _ _ hv;have turned:∀(g:Array Value→Array Value),(∀b∈fp,∀o,h'.get? b=some o→(h'.update S (aN g)).get? b=some o):=fun g b hbf o e=>(bL _ _ (fun h:S=b=>hSf (by rw[h];exact hbf))).trans e;cases b with
  |none=>
   cases hb;show wpAny _ A.in1 (gO S (fun _=>#[.int (f 0) t,.int (f 0) t]) >>= _) _ _ _;refine aa (cV hS' rfl ?_);rw[hname];refine ah ⟨bI eW _,jX W f hP S hSf d k 1 _ (some (f 0,t)) (c+1) (by lia) (by lia) (W.frame _ _ _ hst' (turned _)) ?_ ⟨⟨0,by lia,rfl⟩,fun i hi=>?_⟩ fun v' h'' tk'' ho hk''=>?_⟩
   ·exact(cW _ hS' rfl).trans rfl
   ·rw[show i=0 by lia];exact ip _
   exact hR v' h'' tk'' ho fun b o hbw hbS e=>hk'' b o hbw hbS ((bL _ _ (bO hbS)).trans (hk' b o hbw e))
  |some p=>
   obtain⟨m,u⟩:=p;obtain⟨⟨i0,hi0,e0⟩,hle⟩:=hb;show wpAny _ A.in1 (tryCatch (gq [.int (f j) t,.int (f j) t] (richCompare .Gt (.int (f j) t) (.int m u) >>= _)) _ >>= _) _ _ _;have hcmp:=CmpOf.ints_gt (prog:=prog) (w:=w) (A:=A.in1) (P:=fun i v=>∃t,v= .int (if i=0 then f j else m) t) (fun i=>if i=0 then f j else m) (fun i v e=>e);refine aa (dU (bB (aa (hcmp 0 1 _ _ _ _ _ ⟨t,rfl⟩ ⟨u,rfl⟩ ?_))));refine aa (bB (cS ?_));refine aa (dX (ah ?_))
   by_cases hb:f j > m
   ·show wpAny _ _ (if decide (f j > m)=true then _ else _) _ _ _;rw[if_pos (decide_eq_true hb)];refine aa (cV hS' rfl (aa (dX ?_)) (by show(2:Nat)≤_;decide));rw[hname];obtain⟨c',e'⟩:∃c',(h'.update S (aN fun _=>#[.int (f j) t,.int (f j) t])).get? S=some {cls:=.type "list",dict:=none,data:=.seq #[.int (f j) t,.int (f j) t] c',slots:=#[]}:=⟨_,cW _ hS' rfl⟩;refine ah ⟨bI eW _,jX W f hP S hSf d k (j+1) _ (some (f j,t)) c' (by lia) hlt (W.frame _ _ _ hst' (turned _)) e' ⟨⟨j,by lia,rfl⟩,fun i hi=>?_⟩ fun v' h'' tk'' ho hk''=>?_⟩
    ·by_cases q:i=j
     ·subst q;exact ip _
     ·have:=hle i (by lia);lia
    ·exact hR v' h'' tk'' ho fun b o hbw hbS e=>hk'' b o hbw hbS ((bL _ _ (bO hbS)).trans (hk' b o hbw e))
   ·show wpAny _ _ (if decide (f j > m)=true then _ else _) _ _ _;rw[if_neg (by rw[decide_eq_false hb];exact aC)];refine aa (dX ?_);rw[hname];refine ah ⟨bI eW _,jX W f hP S hSf d k (j+1) _ (some (m,u)) c (by lia) hlt hst' hS' ⟨⟨i0,by lia,e0⟩,fun i hi=>?_⟩ fun v' h'' tk'' ho hk''=>hR v' h'' tk'' ho fun b o hbw hbS e=>hk'' b o hbw hbS (hk' b o hbw e)⟩
    by_cases q:i=j
    ·subst q;lia
    ·exact hle i (by lia)
theorem xjw{E:Value→ae→Prop}{s:ae}{l:Addr}{xs:Array (Int×Tok)}{d:Value}{Q:Value→ae→Prop}(hh:A.handled=none)(hl:s.heap.IsList l (i4 xs))
  (h:∀v h' tk,xit (numAt xs) xs.size d v→(∀b o,s.heap.get? b=some o→h'.get? b=some o)→Q v {s with heap:=h',toks:=tk}):
  wpAny (model prog w) A (call (.builtin "max") [.ref l] [(cj "default",d)]) Q E s:=by
 have hname:(toString "max"++toString ".loop":String)="max.loop":=by decide
 refine kmk_tree F.kind_max F.plain_max F.entry_max (xjv _ _) ?_;show wpAny _ A.in1 (d4 "max" ["key","default"] 0 ⟨[],[(cj "default",d)]⟩ >>= _) _ _ s;refine aa (wpAny_of_eq (show d4 "max" ["key","default"] 0 ⟨[],[(cj "default",d)]⟩=pure [none,some d]from rfl) ?_);refine aa (ah (aa (iter_intList hl fun s₂ e st hfp hlI=>?_)));subst e;refine aa (c6 ?_);rw[hname];have W:=iP (prog:=prog) (w:=w) (A:=A.in1) hh s.heap.objs.size l hlI (i4 xs);have hsz:(i4 xs).size=xs.size:=by simp[i4]
 refine ah ⟨bI eW _,jX W (numAt xs) (fun i v e=>intItems_at e) _ (fun hm=>bV _ (hfp _ hm)) d _ 0 _ none 0 rfl (aJ _) (W.frame _ _ _ st fun b _ o e=>af _ e) (aB _ rfl) rfl fun v h' tk ho hk=>?_⟩;rw[hsz]at ho;exact h v h' tk ho (old_kept fun b o hbw e=>hk b o hbw (ar (aj e)) (af _ e))
end
section
variable {X:Cx}
def xm4(K:ai)(ta:TA)(tf:TE):TE:=fun σ H Q=>ta σ H fun xs H1=>tf σ H1 fun y H2=>
 ∃(l:Addr) (ns:List Int) (z:Int),xs=[.ref l]∧y= .int z∧SqL K H2 l (ns.map V.int)∧∀m,(ns=[]→m=z)→(ns≠[]→m∈ns∧∀a∈ns,a≤m)→Q (.int m) H2
theorem xkQ{e fe:Expr}{ta:TA}{tf:TE}{p pos kp:Pos}(hc:X.calm=true)(hg:Gl X "max")(hm:X.mg "max"=none)(ha:PA X [e] ta)(hf:PE X fe tf)
  (he:de pos (bh [e] X.env)=(false,eval e X.env)::de pos (bh [] X.env):=by rfl):
  PE X (.Call (.Name "max" p) [e] [⟨some "default",fe,kp⟩] pos) (xm4 X.K ta tf):=by
 intro pins s σ H Q I h;refine cy (zg I hg hm xeO ?_ (by decide) (by decide));refine kj (thn (ha pos pins s σ H _ I h) fun us s1 ⟨xs,H1,I1,r1,q1⟩=>?_) he (by rw[he];rfl) rfl rfl;refine kws_cons (thn (hf pins s1 σ H1 _ I1 q1) fun fu s2 ⟨y,H2,I2,r2,q2⟩=>kws_nil ?_);obtain⟨l,ns,z,rfl,rfl,hl,q⟩:=q2;obtain⟨u,rfl,ru⟩:=Vals.one r1;cases ru;obtain⟨tz,rfl⟩:=r2;obtain⟨its,r',pl,hz⟩:=I2.list hl;have hi:=intsAre_of r';have hL:=pl.isList;have hn:=hi.numsOf;obtain⟨ys,e⟩:=hi.allInts.items;rw[e]at hL;have e2:numsOf its=numsOf (i4 ys).toList:=by rw[←e]
 rw[e2,nums_intItems]at hn;have hlen:=congrArg cn hn;rw[ab,aM]at hlen;show wpAny _ _ (call (.builtin "max") [.ref l] [(cj "default",.int z tz)]) _ _ s2;refine xjw (I.ok.hd hc) hL fun v h' tk ho hk=>?_
 by_cases hne:ns=[]
 ·have h0:ys.size=0:=by rw[hlen,hne];rfl
  have:=ho.1 h0;subst this;exact⟨.int z,H2,I2.kept (t':=tk) hk,⟨tz,rfl⟩,q z (fun _=>rfl) fun x=>absurd hne x⟩
 ·have hpos:0<ns.length:=bJ.mpr hne;obtain⟨m,t,rfl,⟨i,hi',ei⟩,hle⟩:=ho.2 (by omega);refine⟨.int m,H2,I2.kept (t':=tk) hk,⟨t,rfl⟩,q m (fun x=>absurd x hne) fun _=>⟨?_,fun a ha'=>?_⟩⟩
  ·rw[←hn,←ei,numAt_eq];exact getD_mem (by rw[ab,aM];omega)
  ·rw[←hn]at ha';obtain⟨j,hj,rfl⟩:=mem_getD ha';rw[ab,aM]at hj;rw[←numAt_eq];exact hle j hj
end
end L2
namespace L2
open PySem PySem.Spec PyProof.Rows PySem.W
structure xcd(K:ai)(x qual:Str)(st:Stmt)(f:Addr)(fd:aR)(ds:List Value):Prop where
 ex:∃(oc:Value) (od:Option Addr) (dT:Addr) (o:Obj) (n:Nat) (kV doc pm:Value) (an:Option Addr) (cdv ct:Value) (osl:Array (Option Value)),
  fd=dD x qual (ye st) (xQ st) (xn st) (.ref dT) kV doc pm an cdv ct∧K.lookup f=some ⟨oc,od,.func fd,osl⟩∧fj K cdv qual=true∧K.lookup dT=some o∧o.data= .seq ds.toArray n
 kp:dQ K (.ref f)=true
section
variable {P:aF} {w:World} {K:ai} {mg:Str→Option Value} {base:Heap}
theorem xcd.ok{x qual:Str}{st:Stmt}{f:Addr}{fd:aR}{ds:List Value}{N ps:List Str}{k:Nat}{sp:Sp}(F:xcd K x qual st f fd ds)(S:xy N ps (xn st))(len:∀vs H Q E,sp vs H Q E→vs.length=ps.length)
  (hbody:∀(cdv:Value) (A:aU) (outer:List Env) (s:ae) (H:Hp) (vs:List V) (Q:VK) (E:XK),xO k (A.deeper (gy qual (xn st) s.heap.objs.size f cdv))→sp vs H Q E→
   ∃t,PSs (jP CX0 P w K mg base N qual (xn st) f cdv A outer s H E).nox (xQ st) t∧t {nx:=fun _ H'=>Q .non H',rt:=Q} (start N vs) H):xG P w K mg base CX0 (k+1) f fd ps sp:=by
 obtain⟨oc,od,dT,o,n,kV,doc,pm,an,cdv,ct,osl,rfl,lk,hcd,_⟩:=F.ex;refine xkb lk hcd S len fun A outer s H vs Q E hr hsp=>?_;obtain⟨t,h,q⟩:=hbody cdv A outer s H vs Q E hr hsp;exact⟨t,h.nox,q⟩
theorem xcd.binds{x qual:Str}{st:Stmt}{f:Addr}{fd:aR}{ps:List Str}{ds es:List Value}(F:xcd K x qual st f fd ds)(n:Nat)(hn:n+es.length=ps.length)
  (h:∀(dT:Addr) (kV doc pm:Value) (an:Option Addr) (cdv ct:Value) (us:List Value),us.length=n→
   ∃k:Option (Array Value)→Sem (List (Str×Value)),gc (dD x qual (ye st) (xQ st) (xn st) (.ref dT) kV doc pm an cdv ct) ⟨us,[]⟩=seqItems? (.ref dT) >>= k∧k (some ds.toArray)=pure (ps.zip (us++es))):Binds K fd ps es:=by
 obtain⟨oc,od,dT,o,n,kV,doc,pm,an,cdv,ct,osl,rfl,lk,hcd,ho,hs⟩:=F.ex;intro s us X hl;obtain⟨k,h1,h2⟩:=h dT kV doc pm an cdv ct us (by rw[ax]at hl;lia);exact binds_K X rfl ho hs h1 h2
theorem xgz{x qual:Str}{st:Stmt}{f dT:Addr}{oc:Value}{od an dod:Option Addr}{osl dsl:Array (Option Value)}{kV doc pm cdv ct dc:Value}{ds:List Value}{n:Nat}(l:K.lookup f=some ⟨oc,od,.func (dD x qual (ye st) (xQ st) (xn st) (.ref dT) kV doc pm an cdv ct),osl⟩)
  (c:fj K cdv qual=true) (k:dQ K (.ref f)=true) (d:K.lookup dT=some ⟨dc,dod,.seq ds.toArray n,dsl⟩):xcd K x qual st f (dD x qual (ye st) (xQ st) (xn st) (.ref dT) kV doc pm an cdv ct) ds:=
 ⟨⟨oc,od,dT,_,n,kV,doc,pm,an,cdv,ct,osl,rfl,l,c,d,rfl⟩,k⟩
end
end L2
namespace PySem.W
open PySem PySem.Calls PyProof.Rows
section
variable {prog:aF} {w:World} {A:aU} {E:Value→ae→Prop} {s:ae} {a:Addr} {vs:List Value} {P:PySem.Fin→ae→Prop}
theorem xiu{n:Nat}{κ:SortKind}{lt:Nat→Nat→Bool}(ho:s.heap.get? a=some (aK "list" vs.toArray n))(h64:vs.length<64)(S:L2.STO lt vs.length)
  (hkind:2≤vs.length→∀s':ae,(∀b o,b≠a→s.heap.get? b=some o→s'.heap.get? b=some o)→wpAny (model prog w) A (k6 vs.toArray) (fun κ' s''=>κ'=κ∧s'=s'') (fun _ _=>False) s')
  (hcmp:∀s':ae,(∀b o,b≠a→s.heap.get? b=some o→s'.heap.get? b=some o)→∀i j (C:Bool→ae→Prop),i<vs.length→j<vs.length→C (lt i j) s'→wpAny (model prog w) A (keyLt' κ (vs.getD i aZ) (vs.getD j aZ)) C (fun _ _=>False) s')
  (fin:∀p:Array Nat,L2.Pm vs.length p→L2.Up lt p vs.length→∀h' c,(∀b o,b≠a→s.heap.get? b=some o→h'.get? b=some o)→h'.get? a=some (aK "list" (ak (p.toList.map fun i=>vs.getD i aZ)) c)→P (.done (.ret .none)) {s with heap:=h'}):
  wpAny (model prog w) A (eP.«list.sort» ⟨[.ref a],[]⟩) P E s:=by
 have ha:a<s.heap.objs.size:=aj ho;have s1:=bK s.heap a (aN fun _=>(#[]:Array Value));obtain⟨e1,ho1⟩:∃e1,(s.heap.update a (aN fun _=>(#[]:Array Value))).get? a=some (aK "list" #[] e1):=⟨_,c9 ho fun _=>#[]⟩;rw[list_sort_plain];refine aa (hZ ho rfl ?_);refine aa (dI ho rfl ?_ (by rw[av,ay];lia) (aJ _));refine aa (gC ho1 rfl ?_);refine aa (kF ?_ (by show vs.length≤_;rw[ay];lia));refine aa (ef ?_ (aJ _));refine bB ?_;generalize hh:((s.heap.update a (aN fun _=>(#[]:Array Value))).push (aK "tuple" vs.toArray 0)).push (aK "list" #[] 0)=h1;have keep:∀b o,b≠a→s.heap.get? b=some o→h1.get? b=some o:=fun b o hb q=>by rw[←hh];exact af _ (af _ ((s1.2 b hb).trans q))
 have na:h1.get? a=some (aK "list" #[] e1):=by rw[←hh];exact af _ (af _ ho1)
 have tail:∀(out:List Value),out.length<64→(∀h' c,(∀b o,b≠a→s.heap.get? b=some o→h'.get? b=some o)→h'.get? a=some (aK "list" (ak out) c)→P (.done (.ret .none)) {s with heap:=h'})→
   ∀c2,(h1.update a (aN fun _=>ak out)).get? a=some (aK "list" (ak out) c2)→P (.done (.ret .none)) {s with heap:=h1.update a (aN fun _=>ak out)}:=fun out hz k c2 hc2=>by
  have s2:=bK h1 a (aN fun _=>ak out);exact k _ c2 (fun b o hb q=>(s2.2 b hb).trans (keep b o hb q)) hc2
 dsimp only
 by_cases h2:2≤vs.length
 ·have hn2:¬vs.toArray.size<2:=by rw[av];lia
  rw[if_neg hn2,if_neg hn2];refine aa (a8 (hkind h2 {s with heap:=h1} keep) (fun κ' s0 hk=>?_) fun _ _ x=>x.elim);obtain⟨rfl,rfl⟩:=hk;have hw:(kas_sort vs.length).kasWp (kas_ask prog w A κ' vs) (fun p s''=>({s with heap:=h1}:ae)=s''∧L2.Pm vs.length p∧L2.Up lt p vs.length) {s with heap:=h1}:=by
   refine L2.Wp.kas (lt:=lt) (n:=vs.length) (fun i j C hi hj hc=>hcmp {s with heap:=h1} keep i j C hi hj hc) ?_;exact L2.wp_mono (L2.xdi S h2) fun q hq=>⟨rfl,hq⟩
  refine aa (a8 (kat_run (Q:=fun st' s'=>∃p:Array Nat,arrOf st'=p.map (kas_item (vs.toArray.zip vs.toArray))∧failedOf st'=none∧({s with heap:=h1}:ae)=s'∧L2.Pm vs.length p∧L2.Up lt p vs.length)
   rfl h2 h64 (fun p' st' s' a1 a2 a3 a4=>⟨p',a2,a3,a4⟩) hw) ?_ fun _ _ x=>x)
  rintro⟨⟨⟩,st'⟩ s' ⟨p,har,hf,rfl,hp,hu⟩;dsimp only;have hout:=kat_snds rfl har;have hl:(p.toList.map fun i=>vs.getD i aZ).length=vs.length:=by rw[ab,aM,hp.size]
  rw[hout];obtain⟨c2,hc2⟩:∃c2,(h1.update a (aN fun _=>ak (p.toList.map fun i=>vs.getD i aZ))).get? a=some (aK "list" (ak (p.toList.map fun i=>vs.getD i aZ)) c2):=⟨_,c9 na fun _=>ak (p.toList.map fun i=>vs.getD i aZ)⟩;refine aa (gC na rfl ?_);refine aa (dI na rfl ?_ (aJ _) (by rw[av,hl,ay];lia));rw[hf];simp only[bne_self_eq_false,aV,if_false];exact ah (tail _ (by rw[hl];exact h64) (fin p hp hu) c2 hc2)
 ·have hn2:vs.toArray.size<2:=by rw[av];lia
  rw[if_pos hn2,if_pos hn2];refine aa (ah ?_);refine aa (ah ?_);dsimp only;have hsn:(arrOf (mi general' (vs.toArray.zip vs.toArray) #[] 7 none)).map (·.2)=ak vs:=by
   show(vs.toArray.zip vs.toArray).map (·.2)=ak vs;apply gI.mp;simp[i5]
  rw[hsn];obtain⟨c2,hc2⟩:∃c2,(h1.update a (aN fun _=>ak vs)).get? a=some (aK "list" (ak vs) c2):=⟨_,c9 na fun _=>ak vs⟩;refine aa (gC na rfl ?_);refine aa (dI na rfl ?_ (aJ _) (by rw[av,ay];lia));have e:((ak (aI vs.length)).toList.map fun i=>vs.getD i aZ)=vs:=by
   apply eC;intro i
   by_cases hi:i<vs.length
   ·simp[hi]
   ·simp[hi]
  have f2:=fin (ak (aI vs.length)) ⟨by simp,by simp⟩ (fun i j hij hj=>by lia);rw[e]at f2;simp only[bne_self_eq_false,aV,if_false];exact ah (tail _ h64 f2 c2 hc2)
end
end PySem.W
namespace L2
open PySem PySem.Spec PyProof.Rows PySem.W
theorem vF:∀xs:List Int,HT.lexLt xs xs=false
 |[]=>rfl
 |x::r=>by rw[HT.yn,if_pos rfl];exact vF r
def yM(H:Hp)(t:Addr)(q:Int×Int):Prop:=H t=some (.tup [.int q.1,.int q.2])
section
variable {X:Cx}
theorem yR{α β:Type}{F:α→β→Prop}{x:α}{y:β}:∀{l₁:List α} {l₂:List β} {i:Nat},Paired F l₁ l₂→i<l₁.length→F (l₁.getD i x) (l₂.getD i y)
 |_,_,_,.nil,h=>by simp at h
 |_,_,0,.cons r _,_=>by simpa using r
 |_,_,i+1,.cons _ t,h=>by
  have:=yR (x:=x) (y:=y) (i:=i) t (by simpa using h);simpa using this
end
end L2
namespace L2
open PySem PySem.Spec PyProof.Rows
def xm5:Stmt→List Stmt
 | .If _ b _ _=>b
 |_=>[]
def xmk:Stmt→List Stmt
 | .While _ b _ _=>b
 |_=>[]
end L2
namespace L2
open PySem PySem.Spec PyProof.Rows
theorem xO.units65{k:Nat}{A:aU}(r:xO k A):A.units+65<cLine:=by have:=r.un;lia
def xkR(K:ai):R2:=fun x y H Q=>∃da ds,Rp K H x da∧Rp K H y (.list ds)∧bT da=true∧br ds=true∧Q (.bl (!ds.any fun z=>cm z da)) H
theorem xdZ{X:Cx}(hu:X.A.units+65<cLine):OpR X (bD .NotIn) (xkR X.K):=by
 intro pins s σ H x y v u Q I rx ry q;obtain⟨da,ds,hx,hy,sa,sb,q⟩:=q;obtain⟨as,ra⟩:=hx.reads I rx;obtain⟨bs,rb⟩:=hy.reads I ry;exact SeqAt.notIn_list_reads rb ra sb (gA sa) (room_in_shaped sa hu) ⟨.bl _,H,I,rfl,q⟩
end L2
namespace L2
open PySem PySem.Spec PyProof.Rows
section
variable {P:aF} {w:World} {H:Hp} {h:Heap} {b d:Addr} {o:Obj} {u ob:HO}
theorem xE.thaw(hd:H d=some (.frz o u))(hdat:∀vs,o.data≠.fields vs)(x:xE P w H h b ob):xE P w (upd H d u) h b ob:=by
 have off:∀{c:Addr} {y:HO},H c=some y→(∀o' u',y≠.frz o' u')→upd H d u c=some y:=fun{c y} e n=>by
  rw[xk (fun z=>by rw[z,hd]at e;cases e;exact n _ _ rfl)];exact e
 induction ob with
 |dT kvs=>
  obtain⟨z,y,xs,r,c⟩:=x;exact⟨z,y,xs,Paired.mapP r fun p q z=>⟨z.1,off z.2.1 (by intro _ _ z;cases z),z.2.2⟩,c⟩
 |ins C dx fs=>obtain⟨e,c⟩:=x;exact⟨off e (by intro _ _ z;cases z),c⟩
 |frz ob u' ih=>obtain⟨e,q⟩:=x;exact⟨e,ih q⟩
 |tbl qs=>
  obtain⟨ps,e,tr,r⟩:=x;refine⟨ps,e,tr,fun pos q m=>?_⟩;rcases r pos q m with z|⟨c,ob,u',vs,t,z1,z2,z3⟩
  ·exact .inl z
  ·refine .inr ⟨c,ob,u',vs,t,z1,?_,z3⟩;rw[xk (fun z=>by rw[z,hd]at z2;cases z2;exact hdat _ z3.1)];exact z2
 |lst xs=>exact x
 |tup xs=>exact x
 |dK kvs=>exact x
 |set S n=>exact x
 |own y=>exact x
 |xd fs=>exact x
 |rng lo hi=>exact x
 |cel v=>exact x
 |met f y=>exact x
 |ext φ=>exact x
theorem HOk.thaw(ok:HOk P w H h)(hd:H d=some (.frz o u))(hdat:∀vs,o.data≠.fields vs):HOk P w (upd H d u) h:=fun b ob e=>by
 by_cases hb:b=d
 ·subst hb;rw[xj]at e;cases e;exact xE.thaw hd hdat (ok _ _ hd).2
 ·rw[xk hb]at e;exact xE.thaw hd hdat (ok b ob e)
end
section
variable {X:Cx} {pins:List (Addr×Obj)} {σ:St} {H:Hp} {s:ae} {d:Addr} {o:Obj} {u:HO} {kvs:List (Key×V)}
theorem Inv.thaw(I:Inv X pins σ H s)(hd:H d=some (.frz o u))(hdat:∀vs,o.data≠.fields vs)(h0:∀u',X.H₀ d=some u'→¬Fix u'):Inv X pins σ (upd H d u) s:=by
 have ne:∀{b:Addr},H b=none→b≠d:=fun{b} e z=>by rw[z,hd]at e;cases e
 refine⟨I.ok,I.os,I.bare,⟨I.base.keep,I.base.slot,fun b o' q n hx=>?_,I.base.there,fun b u' q hf=>?_⟩,I.loc,I.cell,?_,fun x c e=>?_,fun p hp=>?_,I.hok.thaw hd hdat,I.len⟩
 ·have:=I.base.free b o' q n hx;rw[xk (ne this)];exact this
 ·rw[xk (fun z=>by rw[z]at q;exact h0 _ q hf)];exact I.base.fix b u' q hf
 ·rw[xk (ne I.free)];exact I.free
 ·rcases I.freeC x c e with z|⟨z1,o',z2,z3⟩
  ·exact .inl (by rw[xk (ne z)];exact z)
  ·refine .inr ⟨z1,o',?_,z3⟩;rw[xk (fun z=>by rw[z,hd]at z2;cases z2)];exact z2
 ·obtain⟨p1,p2,p3⟩:=I.pin p hp;exact⟨p1,by rw[xk (ne p2)];exact p2,p3⟩
theorem Inv.freeze(I:Inv X pins σ H s)(hd:H d=some (.dK kvs))(ho:s.heap.get? d=some o):Inv X pins σ (upd H d (.frz o (.dK kvs))) s:=by
 have:=I.write (x:=d) (e:=d) (o:=.frz o (.dK kvs)) (h':=s.heap) (t':=s.toks) (by rw[hd];exact cZ) (.inl rfl) (fun _ _ _ q=>q) ⟨_,ho⟩ ⟨ho,(show xE X.prog X.w H s.heap d (.dK kvs)from I.hok d _ hd)⟩;exact this
theorem Inv.nofix(I:Inv X pins σ H s)(hd:H d=some (.dK kvs)):∀u',X.H₀ d=some u'→¬Fix u':=fun u' e hf=>by
 have:=I.base.fix d u' e hf;rw[hd]at this;cases this;exact hf
end
def Itd(a:Addr)(o:Obj)(kvs:List (Key×V)):It:=
 ⟨fun i H=>H a=some (.frz o (.dK kvs))∧i<kvs.length,fun i H x H'=>H'=H∧∃k,(kvs.map (·.1))[i]? =some k∧x=kV k,fun i H=>H a=some (.frz o (.dK kvs))∧i=kvs.length⟩
theorem xnK{k:Key}{v:Value}(h:zD k v=true):RelV (kV k) v:=by
 rcases yb h with⟨i,t,rfl,rfl⟩|⟨x,t,rfl,rfl⟩
 ·exact⟨t,rfl⟩
 ·exact⟨t,rfl⟩
theorem xcI{κ:Type}:∀{kvs:List (κ×V)} {vs:List (κ×Value)},KV kvs vs→kvs.map (·.1)=vs.map (·.1)
 |_,_,.nil=>rfl
 |_,_,.cons h t=>by rw[a9,a9,h.1,xcI t]
theorem xiv{P:aF}{w:World}{K:ai}{tg:Expr}(a it:Addr)(o:Obj)(kvs:List (Key×V))(es:Array DictEntry)(ep:Nat)(hdat:o.data= .dict es ep):Turn P w K tg (Itd a o kvs) [it] it (fun i h=>h.IsKeyIter it a i kvs.length ep) where
 mem:=by simp
 obj:=fun i h st b hb=>by
  have e:b=it:=by simpa using hb
  subst e;obtain⟨o,e,c,d⟩:=st;exact⟨o,e,fun v z=>by rw[d]at z;cases z⟩
 keep:=fun i h h' st k=>by
  obtain⟨o,e,c,d⟩:=st;exact⟨o,k it (by simp) o e,c,d⟩
 item:=by
  intro X hP hw hK hc i pins s σ H E I hf st hg;subst hP hw hK;obtain⟨hq,hx⟩:=hg;obtain⟨f0,f1,f2,f3,f4,f5⟩:=hf it (by simp);obtain⟨ho,z,hsys,vs,rel,dd⟩:=(show xE X.prog X.w H s.heap a (.frz o (.dK kvs))from I.hok a _ hq);have hl:kvs.length=vs.length:=rel.length;have hda:kl (xK X.prog X.w) s.heap a vs ep:=by
   obtain⟨o',es',ep',h1,h2,h3,h4⟩:=dd;rw[ho]at h1;cases h1;rw[hdat]at h3;cases h3;exact⟨o,es,ho,h2,hdat,h4⟩
  have ne:a≠it:=fun z=>by rw[z,f0]at hq;cases hq
  have W:=kK (knd:=xK X.prog X.w) (I.ok.hd hc) it a ne vs ep;refine W.item i s _ _ (by lia) ⟨by rw[←hl];exact st,hda⟩ fun v h' tk hv st' kk=>?_;obtain⟨k,x,hk,hv⟩:=hv;have I1:Inv X pins σ H {s with heap:=h',toks:=tk}:=I.turned (fun b o hb e=>kk b o (by simpa using hb) e) f0 f1 f3 f4 f5;obtain⟨ob,e,c,d⟩:=id st'.1;refine⟨_,rfl,xcw (s:={s with heap:=h',toks:=tk}) e c d (by decide) ⟨kV k,H,I1,xnK hv,⟨rfl,k,?_,rfl⟩,?_,fun b hb=>(hf b hb).1⟩⟩
  ·rw[xcI rel,au,hk];rfl
  ·rw[hl];exact st'.1
 done:=by
  intro X hP hw hK hc i pins s σ H E I hf st hg;subst hP hw hK;obtain⟨hq,hx⟩:=hg;obtain⟨f0,f1,f2,f3,f4,f5⟩:=hf it (by simp);obtain⟨ho,z,hsys,vs,rel,dd⟩:=(show xE X.prog X.w H s.heap a (.frz o (.dK kvs))from I.hok a _ hq);have hl:kvs.length=vs.length:=rel.length;have hda:kl (xK X.prog X.w) s.heap a vs ep:=by
   obtain⟨o',es',ep',h1,h2,h3,h4⟩:=dd;rw[ho]at h1;cases h1;rw[hdat]at h3;cases h3;exact⟨o,es,ho,h2,hdat,h4⟩
  have ne:a≠it:=fun z=>by rw[z,f0]at hq;cases hq
  have W:=kK (knd:=xK X.prog X.w) (I.ok.hd hc) it a ne vs ep;subst hx;refine W.done s _ _ ⟨by rw[←hl];exact st,hda⟩ fun h' tk kk=>⟨rfl,I.turned (fun b o hb e=>kk b o (by simpa using hb) e) f0 f1 f3 f4 f5⟩
 self:=fun A i s Q E st h=>wpAny_pyIter_keyiter st h
section
variable {X:Cx} {tg:Expr}
def xhn(tl:TE):TI:=fun σ H R=>tl σ H fun x H1=>∃a kvs,x= .ref a∧H1 a=some (.dK kvs)∧∀o:Obj,(∀vs,o.data≠.fields vs)→R (Itd a o kvs) (upd H1 a (.frz o (.dK kvs)))
theorem xkS{l:Expr}{tl:TE}(hl:PE X l tl):PI X tg l (xhn tl):=by
 intro pins s σ H R I h;refine thn (hl pins s σ H _ I h) fun v s1 ⟨x,H1,I1,r1,q1⟩=>?_;obtain⟨a,kvs,e,hq,q⟩:=q1;subst e;cases r1;obtain⟨z,hsys,vs,rel,o,es,ep,ho,h2,hdat,h4⟩:=(show xE X.prog X.w H1 s1.heap a (.dK kvs)from I1.hok a _ hq);have hl:kvs.length=vs.length:=rel.length;refine wpAny_pyIter_dict hsys (⟨o,es,ho,h2,hdat,h4⟩:kl (xK X.prog X.w) s1.heap a vs ep) ?_;have I2:=I1.freeze hq ho;refine⟨s1.heap.objs.size,[s1.heap.objs.size],_,_,_,rfl,I2.kept (t':=s1.toks) fun b o e=>af _ e,xiv a _ o kvs es ep hdat,⟨_,aB _ rfl,rfl,?_⟩,fun b hb=>?_,q o (fun vs z=>by rw[hdat]at z;cases z)⟩
 ·rw[hl];rfl
 ·have e:b=s1.heap.objs.size:=by simpa using hb
  subst e;exact I2.fpOk (ao _) (I2.hok.fresh (ao _))
def xho(a:Addr)(kvs:List (Key×V))(D:Ends):Ends:={D with
 nx:=fun σ H=>(∃o:Obj,H a=some (.frz o (.dK kvs))∧∀vs,o.data≠.fields vs)∧D.nx σ (upd H a (.dK kvs))
 rt:=fun v H=>(∃o:Obj,H a=some (.frz o (.dK kvs))∧∀vs,o.data≠.fields vs)∧D.rt v (upd H a (.dK kvs))
 bk:=fun _ _=>False
 ct:=fun _ _=>False}
def xm6(i:Nat)(g:TG)(tb:TS):TS:=fun D σ H=>∃a kvs,σ[i]? =some (some (.ref a))∧H a=some (.dK kvs)∧∀o:Obj,(∀vs,o.data≠.fields vs)→uh (Itd a o kvs) g tb (xho a kvs D) σ (upd H a (.frz o (.dK kvs)))
theorem xkT{iter:Expr}{body:List Stmt}{i:Nat}{g:TG}{tb:TS}{pos:Pos}(hp:PassesOwn (model X.prog X.w) X.A X.env X.xe)(hc:X.calm=true)(hi:PE X iter (jr i))(hg:PG X tg g)(hb:PSs X body tb)
  (hs:∀x,eA iter X.env x=pure x:=by intro _;rfl):PS X (.For tg iter body [] pos) (xm6 i g tb):=by
 intro pins s σ H D I h;obtain⟨a,kvs,hσ,hq,h⟩:=h;have nf:=I.nofix hq;have h1:xgV (xhn (jr i)) g tb (xho a kvs D) σ H:=by
  rw[←xgt];unfold xg9 xhn jr;rw[hσ];exact⟨a,kvs,rfl,hq,h⟩
 refine thn (xhV hp hc (xkS hi) hg hb hs pins s σ H (xho a kvs D) I h1) fun f s' z=>?_;cases f with
 |next=>obtain⟨σ',H',I',⟨o,ho,hd⟩,m⟩:=z;exact⟨σ',_,I'.thaw ho hd nf,m⟩
 |brk=>obtain⟨σ',H',I',m⟩:=z;exact m.elim
 |cont=>obtain⟨σ',H',I',m⟩:=z;exact m.elim
 |ret v=>obtain⟨x7,σ7,H7,I7,r7,⟨o,ho,hd⟩,q7⟩:=z;exact⟨x7,σ7,_,I7.thaw ho hd nf,r7,q7⟩
end
theorem xhp{a:Addr}{o:Obj}{kvs:List (Key×V)}{g:TG}{tb:TS}{D:Ends}{σ:St}{H:Hp}(Pv:Nat→St→Hp→Prop)(h0:Pv 0 σ H)(hl:∀i σ H,i≤kvs.length→Pv i σ H→H a=some (.frz o (.dK kvs)))
  (hs:∀i k σ H,(kvs.map (·.1))[i]? =some k→Pv i σ H→g (kV k) σ H fun σ2 H2=>tb {D with nx:=Pv (i+1),ct:=Pv (i+1),bk:=D.nx} σ2 H2) (hd:∀σ H,Pv kvs.length σ H→D.nx σ H):uh (Itd a o kvs) g tb D σ H:=by
 unfold uh;refine⟨fun i m σ H=>m=kvs.length - i∧i≤kvs.length∧Pv i σ H,⟨kvs.length,by simp,aJ _,h0⟩,?_⟩;rintro i m σ H ⟨rfl,hi,p⟩;have q:=hl i σ H hi p
 by_cases hlt:i<kvs.length
 ·refine .inr ⟨⟨q,hlt⟩,Pv (i+1),fun σ' H' p'=>⟨kvs.length - (i+1),by lia,rfl,hlt,p'⟩,fun x H' y=>?_⟩;obtain⟨e,k,hk,rfl⟩:=y;subst e;exact hs i k σ _ hk p
 ·have e:i=kvs.length:=by lia
  subst e;exact .inl ⟨⟨q,rfl⟩,hd σ H p⟩
end L2
namespace L2
open PySem PySem.Spec PyProof.Rows
section
variable {X:Cx}
def xm7:List V→Hp→VK→Prop:=fun xs H Q=>∃(p:Addr) (kvs:List (Key×V)) (ks:List Int),xs=[.ref p]∧H p=some (.dK kvs)∧kvs.map (·.1)=ks.map cY∧ks≠[]∧∀m∈ks,(∀x∈ks,m≤x)→Q (.int m) H
theorem xiw(hc:X.calm=true):yt X (.builtin "min") xm7:=by
 intro pins s σ H xs us Q I r h;obtain⟨p,kvs,ks,rfl,hq,hk,hne,q⟩:=h;obtain⟨u,rfl,rx⟩:=vals1 r;cases rx;obtain⟨z,hsys,vs,rel,o,es,ep,ho,h2,hdat,h4⟩:=(show xE X.prog X.w H s.heap p (.dK kvs)from I.hok p _ hq);have hkeys:vs.map (·.1)=ks.map cY:=(xcI rel).symm.trans hk;have hl:vs.length=ks.length:=by have:=congrArg cn hkeys;simpa using this
 have hpos:0<ks.length:=bJ.mpr hne;refine call_min_walk (wpAny_pyIter_dict hsys (⟨o,es,ho,h2,hdat,h4⟩:kl (xK X.prog X.w) s.heap p vs ep) ?_);have hlt:p<s.heap.objs.size:=aj ho;have W:=kK (knd:=xK X.prog X.w) (A:=X.A.in1) (I.ok.hd hc) s.heap.objs.size p (ar hlt) vs ep;have hP:∀(i:Nat) (v:Value),(∃k x,vs[i]? =some (k,x)∧(xK X.prog X.w).is k v=true)→∃t,v= .int (ks.getD i 0) t:=fun i v hv=>by
  obtain⟨k,x,h1,h2⟩:=hv;have e:(vs.map (·.1))[i]? =some k:=by rw[au,h1];rfl
  rw[hkeys,au]at e;obtain⟨j,hj,rfl⟩:=cD.mp e;have h2:zD (cY j) v=true:=h2;rcases yb h2 with⟨i',t,e1,rfl⟩|⟨x,t,e1,_⟩
  ·cases e1;exact⟨t,by rw[bq,hj];rfl⟩
  ·cases e1
 refine⟨s.heap.objs.size,_,_,_,_,_,_,rfl,W,⟨⟨_,aB _ rfl,rfl,rfl⟩,⟨o,es,af _ ho,h2,hdat,h4⟩⟩,fun b hb=>?_,by omega,CmpOf.ints_lt (fun i=>ks.getD i 0) hP,fun v h' tk hv hkp=>?_⟩
 ·simp only[az,dW,or_false]at hb;have hs:=aj (aB s.heap (o:={cls:=ck "dict_keyiterator",data:=l9 #[bf p,ff 0 0,ff (↑vs.length) 0,ff (↑ep) 0]}) rfl);rcases hb with z|z
  ·rw[z];exact hs
  ·rw[z];exact lS hlt hs
 ·obtain⟨t,rfl⟩:=hP _ _ hv;obtain⟨g1,g2⟩:=argBest_lt (fun i=>ks.getD i 0) (vs.length - 1);refine⟨.int _,H,I.kept (t':=tk) fun b ob e=>hkp b ob ?_ (af _ e),⟨t,rfl⟩,q _ ?_ fun x hx=>?_⟩
  ·have hb:=aj e;simp only[az,dW,or_false];exact ar hb
  ·generalize hj:argBest (fun i j=>decide (ks.getD i 0<ks.getD j 0)) (vs.length - 1)=j at g1;have hjl:j<ks.length:=by omega
   rw[bq,ag hjl];exact cN hjl
  ·obtain⟨j,hj⟩:=dv.mp hx;have hjl:=(aW.mp hj).1;have:=g2 j (by omega);rw[bq (i:=j),hj]at this;exact this
end
end L2
namespace L2
open PySem PySem.Spec PyProof.Rows PySem.W
theorem xd0:entryFor table "dict.update.loop"=some eP.«dict.update.loop»:=entryFor_of_tree (by kernel_rfl)
theorem jf:plainId "dict.update.loop"=true:=by decide+kernel
theorem xeg{prog:aF}{w:World}{A:aU}{E:Value→ae→Prop}{s:ae}{a:Addr}{o:Obj}{xs:Array Value}{k:Nat}{Q:Option Value→ae→Prop}
  (hx:s.heap.get? a=some o) (hc:o.cls= .type "list") (hdat:o.data= .seq xs k) (hd:o.dict=none) (hA:A.handled=none)
  (h:∀h' tk,(∀b ob,s.heap.get? b=some ob→h'.get? b=some ob)→Q none {s with heap:=h',toks:=tk}):
  wpAny (model prog w) A (getAttr? (.ref a) "keys") Q E s:=by
 obtain⟨c,dct,dat,sl⟩:=o;simp only at hc hdat hd;subst hc hdat hd;obtain⟨hp,g,d,tk,os⟩:=s;have hmiss:kR (.type "list") "keys"=pure none:=am_miss_of_fast (by decide+kernel);have hname:(["__module__","__name__","__qualname__","__doc__","__annotations__"]:List Str).contains "keys"=false:=by decide+kernel
 have hT:∀tk',(⟨hp,g,d,tk',os⟩:ae).TypeIs (.ref a) "list":=fun _=>⟨_,hx,rfl⟩;have f1:=sub_AttributeError;have f3:=gk.lookup;have f4:=gk.bind (.ref a);have f5:=am_list_getattr_none;unfold getAttr? getAttrBy? getAttrBy
 repeat (any_goals (first|assumption|exact hT _|((with_reducible show wpAny _ _ (call (Value.builtin "list.__getattribute__") _ _) _ _ _);refine fL gk (hT _) am_entry_list_getattribute (F.args_list_getattribute_2 _ _) (meets_getattribute_miss_list a xs k sl "keys" _ hmiss hname (by size_fits)) ⟨hx,hA,fun h' tk' e hx'=>?_⟩)|wp_step))
 obtain⟨t',u',he⟩:=hx'.there;show wpAny _ _ (getattributeRaised _ _ _ _ _ _ _) _ _ _;unfold getattributeRaised
 repeat (any_goals (first|assumption|wp_step))
 exact h _ _ hx'.keeps
section
variable {prog:aF} {w:World} {K:Type} [DecidableEq K] {knd:KeyKind prog w K} {A:aU} {R:f7→ae→Prop} {I D:Addr} {fp wr:List Addr} {P:Nat→Value→Prop} {St:Nat→Heap→Prop} {kvs:List (K×Value)} {ts:Nat→Addr} {z:Value}
theorem xeV{ks:List (K×Value)}{k:K}{v:Value}(h:k∉ks.map (·.1)):stored ks k v=ks++[(k,v)]:=by
 unfold stored;rw[if_neg];rw[dt];rintro⟨x,hx,e⟩;exact h (aG.mpr ⟨x,hx,of_decide_eq_true e⟩)
theorem xeW(W:Walks prog w A.in1 I fp wr kvs.length P St)(hP:∀i v,i<kvs.length→P i v→v= .ref (ts i))(hnd:(kvs.map (·.1)).Nodup)(hsz:kvs.length≤aO)(hD:D∉fp)(hts:∀i,i<kvs.length→ts i∉wr∧ts i≠D):∀(k j:Nat) (s:ae) (i:Int) (t:Tok),kvs.length - j=k→j≤kvs.length→St j s.heap→
  s.heap.DictOf knd D (kvs.take j)→(∀i p,kvs[i]? =some p→∃key,knd.is p.1 key=true∧IsTup s.heap (ts i) #[key,p.2])→
  (∀h' tk,h'.DictOf knd D kvs→(∀b o,b∉wr→b≠D→s.heap.get? b=some o→h'.get? b=some o)→R (.ok (.ret z)) {s with heap:=h',toks:=tk})→
  cQ (model prog w) A (.builtin "dict.update.loop" ⟨[.ref D,.ref I,.int i t,z],[]⟩) R s
 |0,j,s,i,t,hk,hj,hst,hd,hp,hR=>by
  have hin:j=kvs.length:=by lia
  subst hin;have hDw:D∉wr:=fun h=>hD (W.sub _ h);refine bN xd0 ?_;rw[bE jf _];show wpAny _ A.in1 (gR (.ref I) >>= _) _ _ s;refine aa (W.done s _ _ hst fun h' tk hk'=>?_);rw[cO]at hd;refine aa (ah (ah (hR h' tk ?_ fun b o hb _ e=>hk' b o hb e)));obtain⟨o,es,ep,ho,r⟩:=hd;exact⟨o,es,ep,hk' D _ hDw ho,r⟩
 |k+1,j,s,i,t,hk,hj,hst,hd,hp,hR=>by
  have hlt:j<kvs.length:=by lia
  have hDw:D∉wr:=fun h=>hD (W.sub _ h);refine bN xd0 ?_;rw[bE jf _];show wpAny _ A.in1 (gR (.ref I) >>= _) _ _ s;refine aa (W.item j s _ _ hlt hst fun v h' tk hv hst' hk'=>?_);have ev:=hP _ _ hlt hv;subst ev;obtain⟨key,hkey,o,ho,hc,n,hdat⟩:=hp j _ (ag hlt);obtain⟨t1,t2⟩:=hts j hlt;have ho':=hk' _ _ t1 ho;refine aa (m:=gq _ _) (bB ?_);refine aa (dU ?_);unfold Builtin.Dict.pairItems;refine aa (fC (T:="tuple") ⟨o,ho',hc⟩ ?_);rw[if_pos (by decide)];refine aa (eQ ho' hdat (ah ?_));have hd':h'.DictOf knd D (kvs.take j):=by
   obtain⟨o,es,ep,ho,r⟩:=hd;exact⟨o,es,ep,hk' D _ hDw ho,r⟩
  show wpAny _ A.in1 (gq [key,kvs[j].2] (dictSet D key kvs[j].2)) _ _ _;refine bB (wpAny_dictSet_pairs (hsz:=by rw[bF];lia) hkey hd' fun h2 hd2 hs2=>?_);refine ah ⟨bI jf _,?_⟩;have hfresh:kvs[j].1∉(kvs.take j).map (·.1):=fun hm=>by
   obtain⟨x,hx,e⟩:=aG.mp hm;obtain⟨m,hm1,hm2⟩:=lB hx;rw[bF]at hm1;have hm3:m<j:=by lia
   have:=bc.mp hnd m j (by simp;lia) (by simp;lia) hm3;simp only[List.getElem_map]at this;rw[List.getElem_take]at hm2;exact this (by rw[hm2];exact e)
  rw[xeV hfresh,List.take_append_getElem hlt]at hd2;refine xeW W hP hnd hsz hD hts k (j+1) _ _ _ (by lia) hlt (W.frame _ _ _ hst' fun b hb o e=>(hs2.2 b (fun q=>hD (q▸hb))).trans e) hd2 (fun i p hip=>?_) fun h3 tk3 hd3 hk3=>?_
  ·obtain⟨key,hkey,o,ho,r⟩:=hp i p hip;have hil:i<kvs.length:=(aW.mp hip).1;obtain⟨u1,u2⟩:=hts i hil;exact⟨key,hkey,o,(hs2.2 _ u2).trans (hk' _ _ u1 ho),r⟩
  ·exact hR h3 tk3 hd3 fun b o hb hbD e=>hk3 b o hb hbD ((hs2.2 b hbD).trans (hk' b o hb e))
theorem xhq{E:Value→ae→Prop}{Q:Value→ae→Prop}{s:ae}{p:Addr}{its:List Value}(hA:A.handled=none)(hL:PlainL s.heap p its.toArray)(hlen:its.length=kvs.length)(hits:∀(i:Nat) (v:Value),its[i]? =some v→v= .ref (ts i))(htup:∀i pr,kvs[i]? =some pr→∃key,knd.is pr.1 key=true∧IsTup s.heap (ts i) #[key,pr.2])
  (hnd:(kvs.map (·.1)).Nodup) (hsz:kvs.length≤aO) (hQ:∀h' tk,h'.DictOf knd s.heap.objs.size kvs→(∀b o,s.heap.get? b=some o→h'.get? b=some o)→Q (.ref s.heap.objs.size) {s with heap:=h',toks:=tk}):
  wpAny (model prog w) A (call (.type "dict") [.ref p]) Q E s:=by
 refine callType_codes (Q₁:=fun obj s₁=>obj= .ref s.heap.objs.size∧s₁={s with heap:=s.heap.push {cls:=.type "dict",data:=.dict #[]}}) F.kt_called_dict (F.kt_typeCall_dict_1 _) F.entry_dict_init (kt_code_dict_new _ ⟨rfl,rfl⟩) ?_;rintro obj s₁ ⟨rfl,rfl⟩;have hnew:(s.heap.push {cls:=.type "dict",data:=.dict #[]}).DictOf knd s.heap.objs.size []:=Heap.DictOf.new s.heap;refine⟨hnew.typeIs,F.args_dict_init_2 _ _,?_⟩;generalize hG:s.heap.push {cls:=.type "dict",data:=.dict #[]}=G at hnew⊢;have old:∀b o,s.heap.get? b=some o→G.get? b=some o:=fun b o e=>by rw[←hG];exact af _ e
 obtain⟨lo,ln,l1,l2,l3,l4⟩:=hL;have l1':=old _ _ l1;unfold eP.«dict.__init__»;refine aa ?_;unfold Builtin.Dict.selfAndRest;refine aa (wpAny_notOrdered_dict hnew.typeIs ?_);show wpAny _ _ (pure (s.heap.objs.size,[bf p])) _ _ _;refine ah ?_;show wpAny _ _ (j4 "dict.__init__" s.heap.objs.size (.ref p) [] .none) _ _ _;unfold j4;refine aa (fC (T:="list") ⟨lo,l1',l2⟩ ?_);rw[if_pos (by decide)];refine aa (xeg l1' l2 l4 l3 hA fun h2 tk2 k2=>?_);rw[if_pos (by rfl)];refine aa (gZ ?_);have hL2:h2.IsList p its.toArray:=PlainL.isList ⟨lo,ln,k2 _ _ l1',l2,l3,l4⟩;refine aa (fq hL2 ?_);have hpG:p<G.objs.size:=aj l1';have h2l:∀b o,G.get? b=some o→b<h2.objs.size:=fun b o e=>aj (k2 b o e);have hnD:s.heap.objs.size≠p:=fun e=>absurd (aj l1) (by rw[←e];exact bV _);have hDl:s.heap.objs.size<h2.objs.size:=by obtain⟨o,_,_,ho,_⟩:=hnew;exact h2l _ _ ho
 have hpl:p<h2.objs.size:=h2l _ _ l1';refine ah ⟨bI jf _,?_⟩;have W:=iP (prog:=prog) (w:=w) (A:=A.in1.in1) hA h2.objs.size p (ar hpl) its.toArray;have ez:its.toArray.size=kvs.length:=by simpa using hlen
 rw[ez]at W;refine xeW (knd:=knd) (ts:=ts) W (fun i v hi hv=>hits i v (by simpa using hv)) hnd hsz ?_ (fun i hi=>?_) kvs.length 0 _ _ _ (by simp) (aJ _) ⟨⟨_,aB _ rfl,rfl,rfl⟩,hL2.push _⟩ ?_ (fun i pr hp=>?_) fun h3 tk3 hd3 hk3=>⟨rfl,hQ h3 tk3 hd3 fun b o e=>?_⟩
 ·intro hm;rcases az.mp hm with e|e
  ·exact absurd e (ar hDl)
  ·exact hnD (aH.mp e)
 ·obtain⟨key,_,o,ho,_⟩:=htup i _ (ag hi);have g1:=aj ho;have g2:=h2l _ _ (old _ _ ho);exact⟨fun e=>absurd (aH.mp e) (ar g2),ar g1⟩
 ·obtain⟨o,es,ep,ho,r⟩:=hnew;exact⟨o,es,ep,af _ (k2 _ _ ho),r⟩
 ·obtain⟨key,hk,o,ho,r⟩:=htup i pr hp;exact⟨key,hk,o,af _ (k2 _ _ (old _ _ ho)),r⟩
 ·have g1:=aj e;have g2:=h2l _ _ (old _ _ e);exact hk3 b o (fun z=>absurd (aH.mp z) (ar g2)) (ar g1) (af _ (k2 _ _ (old _ _ e)))
end
theorem xjx{k:Key}{v:Value}(h:RelV (kV k) v):zD k v=true:=by
 cases k with
 |inl i=>obtain⟨t,rfl⟩:=h;simp[zD,l7]
 |inr x=>obtain⟨t,rfl⟩:=h;simp[zD,lg]
section
variable {X:Cx}
def xml(K:ai):List V→Hp→VK→Prop:=fun xs H Q=>∃(p:Addr) (ts:List Addr) (kvs:List (Key×V)),xs=[.ref p]∧SqL K H p (ts.map V.ref)∧Paired (fun t (kv:Key×V)=>H t=some (.tup [kV kv.1,kv.2])) ts kvs∧(kvs.map (·.1)).Nodup∧∀d,H d=none→Q (.ref d) (upd H d (.dK kvs))
theorem xeX{pins:List (Addr×Obj)}{σ:L2.St}{H:Hp}{s:ae}(I:Inv X pins σ H s):∀{ts:List Addr} {kvs:List (Key×V)},Paired (fun t (kv:Key×V)=>H t=some (.tup [kV kv.1,kv.2])) ts kvs→
  ∃vs:List (Key×Value),KV kvs vs∧∀(i:Nat) (t:Addr) (p:Key×Value),ts[i]? =some t→vs[i]? =some p→∃key,zD p.1 key=true∧IsTup s.heap t #[key,p.2]
 |_,_,.nil=>⟨[],.nil,fun i t p e _=>by simp at e⟩
 |t::_,kv::_,.cons h r=>by
  obtain⟨vs,h1,h2⟩:=xeX I r;obtain⟨z,its,rl,tp⟩:=(show xE X.prog X.w H s.heap t (.tup [kV kv.1,kv.2])from I.hok t _ h);cases rl with
  |cons r1 rl=>
   cases rl with
   |cons r2 rl=>
    cases rl;rename_i u1 u2;refine⟨(kv.1,u2)::vs,.cons ⟨rfl,r2⟩ h1,fun i t' p e1 e2=>?_⟩;cases i with
    |zero=>cases e1;cases e2;exact⟨u1,xjx r1,tp⟩
    |succ i=>exact h2 i t' p (by simpa using e1) (by simpa using e2)
theorem xhr(hc:X.calm=true):yt X (.type "dict") (xml X.K):=by
 intro pins s σ H xs us Q I r h;obtain⟨p,ts,kvs,rfl,hq,hp,hnd,q⟩:=h;obtain⟨u,rfl,rx⟩:=vals1 r;cases rx;obtain⟨its,r',pl,hz⟩:=I.list hq;obtain⟨vs,hkv,hvs⟩:=xeX I hp;have e1:kvs.length=vs.length:=hkv.length;have e2:ts.length=kvs.length:=hp.length;have e3:its.length=ts.length:=by have:=r'.length;rw[ab]at this;lia
 have hzz:ts.length≤aO:=by rw[ab]at hz;exact hz
 refine xhq (knd:=xK X.prog X.w) (kvs:=vs) (ts:=fun i=>ts.getD i 0) (I.ok.hd hc) pl (by lia) (fun i v hv=>?_) (fun i pr hpr=>?_) (by rw[←xcI hkv];exact hnd) (by lia) fun h' tk hd hk=>?_
 ·have hi:i<ts.length:=by have:=(aW.mp hv).1;lia
  obtain⟨u,hu1,hu2⟩:=r'.get (i:=i) (x:=.ref ts[i]) (by simp[hi]);rw[hv]at hu1;cases hu1;rw[show v= .ref ts[i]from hu2];simp[aX,hi]
 ·have hi:i<ts.length:=by have:=(aW.mp hpr).1;lia
  have:=hvs i ts[i] pr (ag hi) hpr;have e:ts.getD i 0=ts[i]:=by simp[aX,hi]
  show∃key,zD pr.1 key=true∧IsTup s.heap (ts.getD i 0) #[key,pr.2];rw[e];exact this
 ·exact⟨.ref s.heap.objs.size,_,I.laid (t':=tk) hk (ao _) (xh6 (by lia) (beq_eq_false_iff_ne.mpr (bO (ar I.big))) hkv hd),rfl,q _ I.fresh⟩
end
end L2
namespace L2
open PySem PySem.Spec PyProof.Rows PySem.W
def bst(kk:Nat→List Int):Nat→Nat
 |0=>0
 |j+1=>if HT.lexLt (kk (j+1)) (kk (bst kk j))=true then j+1 else bst kk j
theorem xcJ(kk:Nat→List Int):∀j,bst kk j≤j
 |0=>ao _
 |j+1=>by
  unfold bst
  split
  ·exact ao _
  ·exact Nat.le_succ_of_le (xcJ kk j)
structure MJ(X:Cx)(H2:Hp)(s2:ae)(G:Hp)(s':ae):Prop where
 os:s'.os=s2.os
 bare:fB s'.gens
 un:Un (frs X.stack) [] H2 G s2.heap s'.heap
 hok:HOk X.prog X.w G s'.heap
 same:xc H2 G
theorem MJ.turn{X:Cx}{H2 G:Hp}{s2 s':ae}{h':Heap}{t:Nat}{b:Addr}(J:MJ X H2 s2 G s')(fb:G b=none)(hb:s2.heap.objs.size≤b)(k:∀c o,c≠b→s'.heap.get? c=some o→h'.get? c=some o):MJ X H2 s2 G {s' with heap:=h',toks:=t}:=by
 have lt2:∀c o,s2.heap.get? c=some o→c≠b:=fun c o q=>ar (aw (aj q) hb);refine⟨J.os,J.bare,⟨fun c o q n1 n2 n3=>k c o (lt2 c o q) (J.un.keep c o q n1 n2 n3),fun c o q n1 n2 n3=>?_,J.un.free,fun c o q n3=>?_,J.un.fix⟩,xcc J.hok fb k,J.same⟩
 ·obtain⟨sl,e⟩:=J.un.slot c o q n1 n2 n3;exact⟨sl,k c _ (lt2 c o q) e⟩
 ·obtain⟨o',e⟩:=J.un.there c o q n3;exact⟨o',k c _ (lt2 c o q) e⟩
theorem MJ.inv{X:Cx}{H2 G:Hp}{s2 s':ae}{pins:List (Addr×Obj)}{σ:L2.St}(J:MJ X H2 s2 G s')(I:Inv X pins σ H2 s2):Inv X pins σ G s':=I.call' (s':=s') (ch:=[]) J.os J.un J.hok J.bare fun b z=>absurd z (by simp)
def xmm(kk:Nat→List Int)(xs:List Int)(G:Hp)(j:Nat)(old:Array Value):Prop:=
 (j=0∧old=#[])∨∃j',j=j'+1∧∃vb d,old=#[vb,.ref d]∧RelV (.int (xs.getD (bst kk j') 0)) vb∧G d=some (.tup ((kk (bst kk j')).map V.int))
section
variable {X:Cx} {k:Nat} {nm qual:Str} {params:cG} {body:dk} {scope:Scope} {ps:List Str} {sp:List (Str×V)→Sp} {pins:List (Addr×Obj)} {σ:L2.St} {H2:Hp} {s2:ae} {f l S It:Addr} {fv:List (Str×V)} {kk:Nat→List Int} {xs:List Int} {R:f7→ae→Prop}
theorem xjy(F:uk X.prog X.w X.K X.mg X.base CX0 k nm qual params body scope ps sp)(hr:xO (k+2) X.A)(hcm:X.calm=true)(I:Inv X pins σ H2 s2)(hc:uj H2 f nm qual params body scope fv)(hl:SqL X.K H2 l (xs.map V.int))(hpos:0<xs.length)
  (hsp:∀i x,xs[i]? =some x→∀H3,xc H2 H3→sp fv [.int x] H3 (fun v H4=>xc H3 H4∧∃d,v= .ref d∧H4 d=some (.tup ((kk i).map V.int))) E0)
  (hS:s2.heap.objs.size≤S) (hI:s2.heap.objs.size≤It) (hSI:S≠It)
  (fin:∀v sF G',Inv X pins σ G' sF→xc H2 G'→RelV (.int (xs.getD (bst kk (xs.length - 1)) 0)) v→R (.ok (.ret v)) sF):
  ∀(r j:Nat) (s':ae) (G:Hp) (old:Array Value) (c:Nat),xs.length - j=r→j≤xs.length→MJ X H2 s2 G s'→G S=none→G It=none→s'.heap.get? S=some (aK "list" old c)→xmm kk xs G j old→s'.heap.IsListIter It l j→
   cQ (model X.prog X.w) X.A (.builtin "min.loop" ⟨[.ref It,.ref f,.ref S],[]⟩) R s':=by
  intro r
  induction r using Nat.strongRecOn with|ind r ih=>
  intro j s' G old c hk hj J fS fI atS hb hit;have hname:(toString "min"++toString ".loop":String)="min.loop":=by decide
  have Iu:=J.inv I;obtain⟨its,rel,pl,_⟩:=Iu.list (J.same.seq hl);have hn:its.length=xs.length:=by have:=rel.length;rw[ab]at this;exact this.symm
  have hlI:l≠It:=fun z=>by
   obtain⟨its2,_,⟨o,n,e,_⟩,_⟩:=I.list hl;exact absurd (aj e) (by rw[z];exact Nat.not_lt.mpr hI)
  have W:=iP (prog:=X.prog) (w:=X.w) (A:=X.A.in1) (I.ok.hd hcm) It l hlI its.toArray;have hsz:its.toArray.size=xs.length:=by simpa using hn
  refine bN PySem.F.entry_min_loop ?_;rw[bE PySem.F.plain_min_loop _];show wpAny _ X.A.in1 (seqItems? (.ref S) >>= _) _ _ _;refine aa (eQ atS rfl ?_);show wpAny _ X.A.in1 (tryCatch (gR (.ref It)) _ >>= _) _ _ _;cases r with
  |zero=>
   have ej:j=xs.length:=by lia
   refine aa (dU (W.done _ _ _ ⟨by rw[hsz,←ej];exact hit,pl.isList⟩ fun h' tk' hk'=>?_));have J1:MJ X H2 s2 G {s' with heap:=h',toks:=tk'}:=J.turn fI hI fun c o hc q=>hk' c o (by simpa using hc) q;have atS1:=hk' S _ (by simpa using hSI) atS;rcases hb with⟨z,_⟩|⟨j',ej',vb,d,rfl,rv,hd⟩
   ·lia
   show wpAny _ X.A.in1 (gO S (fun _=>#[]) >>= _) _ _ _;refine aa (cV atS1 rfl (aa (dX (ah ?_))) (by show(2:Nat)≤_;decide));have s1:=bK h' S (aN fun _=>(#[]:Array Value));have J2:=J1.turn (h':=h'.update S (aN fun _=>(#[]:Array Value))) (t:=tk') fS hS fun c o hc q=>(s1.2 c hc).trans q;refine fin vb _ G (J2.inv I) J.same ?_;have:xs.length - 1=j':=by lia
   rw[this];exact rv
  |succ r=>
   have hlt:j<xs.length:=by lia
   refine aa (dU (W.item j _ _ _ (by rw[hsz];exact hlt) ⟨hit,pl.isList⟩ fun v h' tk' hP hst' hk'=>?_));have J1:MJ X H2 s2 G {s' with heap:=h',toks:=tk'}:=J.turn fI hI fun c o hc q=>hk' c o (by simpa using hc) q;have atS1:=hk' S _ (by simpa using hSI) atS;obtain⟨oI,hoI,hoc,hod⟩:=hst'.1;have hv:its[j]? =some v:=by simpa using hP
   obtain⟨u,hu1,hu2⟩:=rel.get (i:=j) (x:=.int xs[j]) (by simp[hlt]);rw[hv]at hu1;cases hu1;have Iu1:=J1.inv I;have E0':vm X.prog X.w X.K X.mg X.base X.A.in1 X.stack {s' with heap:=h',toks:=tk'} G:=by
    have e:=Iu1.env0;exact⟨e.frames,e.mod,e.bs,e.bsz,e.funs,e.frf,e.hok,e.bare⟩
   show wpAny _ X.A.in1 (tryCatch (gq [v] (call (.ref f) [v])) _ >>= _) _ _ _;refine aa (dU (bB (gW (dB (F.run X.A.in1 X.stack _ G f fv _ [.int xs[j]] _ E0 (hr.in1.mono (dz k)) E0' (hc.same J.same) (.cons hu2 .nil) (hsp j xs[j] (ag hlt) G J.same)) fun rr s'' hq=>?_))));cases rr with
   |error e=>exact hq.elim
   |ok fl=>
    cases fl with
    |next=>exact hq.elim
    |brk=>exact hq.elim
    |cont=>exact hq.elim
    |ret u=>
     obtain⟨v',H',hos,hbare,hun,hhok,hrv,hSm,d,rfl,hd⟩:=hq;cases hrv;have atS2:=hun.keep S _ atS1 fS (I.young hS) (by simp);have atI2:=hun.keep It _ hoI fI (I.young hI) (by simp);have fS2:H' S=none:=hun.free S _ atS1 fS (by simp);have fI2:H' It=none:=hun.free It _ hoI fI (by simp);have J2:MJ X H2 s2 H' s'':=⟨hos.trans J.os,hbare,J1.un.trans hun,hhok,J.same.trans hSm⟩;have upS:∀(its2:Array Value),∃c2,(s''.heap.update S (aN fun _=>its2)).get? S=some (aK "list" its2 c2):=fun its2=>⟨_,c9 atS2 fun _=>its2⟩;have stS:∀(its2:Array Value) (t:Nat),MJ X H2 s2 H' {s'' with heap:=s''.heap.update S (aN fun _=>its2),toks:=t}:=fun its2 t=>
      J2.turn fS2 hS fun c o hc q=>((bK s''.heap S (aN fun _=>its2)).2 c hc).trans q
     have itS:∀(its2:Array Value),(s''.heap.update S (aN fun _=>its2)).IsListIter It l (j+1):=fun its2=>⟨oI,((bK s''.heap S (aN fun _=>its2)).2 It hSI.symm).trans atI2,hoc,hod⟩;rcases hb with⟨z,rfl⟩|⟨j',ej',vb,db,rfl,rv,hdb⟩
     ·subst z;show wpAny _ X.A.in1 (gO S (fun _=>#[v,.ref d]) >>= _) _ _ _;refine aa (cV atS2 rfl ?_);rw[hname];obtain⟨c2,hc2⟩:=upS #[v,.ref d];refine ah ⟨bI PySem.F.plain_min_loop _,ih r (cL r) 1 _ H' _ c2 (by lia) hlt (stS _ _) fS2 fI2 hc2 (.inr ⟨0,rfl,v,d,rfl,?_,hd⟩) (itS _)⟩;have:xs.getD (bst kk 0) 0=xs[0]:=by simp[bst,aX,hlt]
      rw[this];exact hu2
     ·have hdb2:=hSm.at hdb;obtain⟨_,its1,r1,p1⟩:=(show xE X.prog X.w H' s''.heap d _ from hhok d _ hd);obtain⟨_,its2,r2,p2⟩:=(show xE X.prog X.w H' s''.heap db _ from hhok db _ hdb2);show wpAny _ X.A.in1 (tryCatch (gq [v,.ref d] (bD .Lt (.ref d) (.ref db) >>= _)) _ >>= _) _ _ _;refine aa (dU (bB (aa (HT.xcy p1 p2 (intsAre_of r1) (intsAre_of r2) hr.in1.units0 ?_))));refine aa (bB (cS ?_));refine aa (dX (ah ?_));have ex:xs.getD j 0=xs[j]:=by simp[aX,hlt]
      subst ej'
      by_cases hb':HT.lexLt (kk (j'+1)) (kk (bst kk j'))=true
      ·have eb:bst kk (j'+1)=j'+1:=by show(if _ then _ else _)=_;rw[if_pos hb']
       simp only[hb',if_true];refine aa (cV atS2 rfl (aa (dX ?_)) (by show(2:Nat)≤_;decide));rw[hname];obtain⟨c2,hc2⟩:=upS #[v,.ref d];refine ah ⟨bI PySem.F.plain_min_loop _,ih r (cL r) (j'+1+1) _ H' _ c2 (by lia) hlt (stS _ _) fS2 fI2 hc2 (.inr ⟨j'+1,rfl,v,d,rfl,?_,?_⟩) (itS _)⟩
       ·rw[eb,ex];exact hu2
       ·rw[eb];exact hd
      ·have eb:bst kk (j'+1)=bst kk j':=by show(if _ then _ else _)=_;rw[if_neg hb']
       simp only[hb',aV,if_false];refine aa (dX ?_);rw[hname];refine ah ⟨bI PySem.F.plain_min_loop _,ih r (cL r) (j'+1+1) _ H' _ c (by lia) hlt J2 fS2 fI2 atS2 (.inr ⟨j'+1,rfl,vb,db,rfl,?_,?_⟩) ⟨oI,atI2,hoc,hod⟩⟩
       ·rw[eb];exact rv
       ·rw[eb];exact hdb2
def xm8(K:ai)(nm qual:Str)(params:cG)(body:dk)(scope:Scope)(sp:List (Str×V)→Sp)(ta:TA)(tf:TE):TE:=fun σ H Q=>ta σ H fun ys H1=>tf σ H1 fun y H2=>
 ∃(l f:Addr) (xs:List Int) (fv:List (Str×V)) (kk:Nat→List Int),ys=[.ref l]∧y= .ref f∧SqL K H2 l (xs.map V.int)∧0<xs.length∧uj H2 f nm qual params body scope fv∧
 (∀i x,xs[i]? =some x→∀H3,xc H2 H3→sp fv [.int x] H3 (fun v H4=>xc H3 H4∧∃d,v= .ref d∧H4 d=some (.tup ((kk i).map V.int))) E0)∧
 ∀(H':Hp),xc H2 H'→Q (.int (xs.getD (bst kk (xs.length - 1)) 0)) H'
theorem xkU{e fe:Expr}{ta:TA}{tf:TE}{p pos kp:Pos}(F:uk X.prog X.w X.K X.mg X.base CX0 k nm qual params body scope ps sp)(hr:xO (k+2) X.A)(hc:X.calm=true)(hg:Gl X "min")(hm:X.mg "min"=none)(ha:PA X [e] ta)(hf:PE X fe tf)
  (he:de pos (bh [e] X.env)=(false,eval e X.env)::de pos (bh [] X.env):=by rfl):
  PE X (.Call (.Name "min" p) [e] [⟨some "key",fe,kp⟩] pos) (xm8 X.K nm qual params body scope sp ta tf):=by
 intro pins s σ H Q I h;refine cy (zg I hg hm xaK ?_ (by decide) (by decide));refine kj (thn (ha pos pins s σ H _ I h) fun us s1 ⟨xs,H1,I1,r1,q1⟩=>?_) he (by rw[he];rfl) rfl rfl;refine kws_cons (thn (hf pins s1 σ H1 _ I1 q1) fun fu s2 ⟨y,H2,I2,r2,q2⟩=>kws_nil ?_);obtain⟨l,f,xs,fv,kk,rfl,rfl,hl,hpos,hcl,hsp,q⟩:=q2;obtain⟨u,rfl,ru⟩:=Vals.one r1;cases ru;cases r2;have hname:(toString "min"++toString ".loop":String)="min.loop":=by decide
 obtain⟨its,rel,pl,_⟩:=I2.list hl;show wpAny _ _ (call (.builtin "min") [.ref l] [(cj "key",.ref f)]) _ _ s2;refine kmb_tree PySem.F.kind_min PySem.F.plain_min PySem.F.entry_min (kmb_min_key _ _) ?_;show wpAny _ X.A.in1 (d4 "min" ["key","default"] 0 ⟨[],[(cj "key",.ref f)]⟩ >>= _) _ _ s2;refine aa (wpAny_of_eq (show d4 "min" ["key","default"] 0 ⟨[],[(cj "key",.ref f)]⟩=pure [some (.ref f),none]from rfl) ?_);refine aa (ah ?_);refine aa (fq pl.isList ?_);refine aa (ef ?_ (aJ _));rw[hname];refine ah ⟨bI PySem.F.plain_min_loop _,?_⟩;have hSz:(s2.heap.push {cls:=.type "list_iterator",data:=.fields #[.ref l,.int 0 0]}).objs.size=s2.heap.objs.size+1:=c5 ..;have hS1:s2.heap.objs.size≤(s2.heap.push {cls:=.type "list_iterator",data:=.fields #[.ref l,.int 0 0]}).objs.size:=by rw[hSz];exact dz _
 have old:∀b o,s2.heap.get? b=some o→((s2.heap.push {cls:=.type "list_iterator",data:=.fields #[.ref l,.int 0 0]}).push (aK "list" #[] 0)).get? b=some o:=fun b o e=>af _ (af _ e);refine xjy (kk:=kk) F hr hc I2 hcl hl hpos hsp hS1 (ao _) (by rw[hSz];exact eR (cL _)) (fun v sF G' IF sm rv=>?_) xs.length 0 _ H2 #[] 0 (by simp) (aJ _) ⟨rfl,I2.bare,Un.kept old,I2.hok.kept old,xc.refl _⟩
  (I2.hok.fresh hS1) (I2.hok.fresh (ao _)) (aB _ rfl) (.inl ⟨rfl,rfl⟩) ⟨_,af _ (aB _ rfl),rfl,rfl⟩
 exact⟨_,G',IF,rv,q G' sm⟩
end
end L2
namespace PySem.W
open PySem PySem.Calls PyProof.Rows
def xkV(h:Heap)(ks:List Value):Prop:=∀v∈ks,∃i t,v= .int i t
section
variable {prog:aF} {w:World} {A:aU} {E:Value→ae→Prop} {s:ae} {a kS:Addr} {vs:List Value} {e1:Nat} {f:Value} {P:PySem.Fin→ae→Prop}
def xdn(prog:aF)(w:World)(A:aU)(kS a:Addr)(vs:List Value)(P:PySem.Fin→ae→Prop)(ks:List Value)(s:ae):Prop:=
 ∃lt:Nat→Nat→Bool,L2.STO lt vs.length∧xkV s.heap ks∧(∀i j (C:Bool→ae→Prop),i<vs.length→j<vs.length→C (lt i j) s→wpAny (model prog w) A (keyLt' ij (ks.getD i aZ) (ks.getD j aZ)) C (fun _ _=>False) s)∧
 ∀p:Array Nat,L2.Pm vs.length p→L2.Up lt p vs.length→∀h' c,(∀b o,b≠kS→b≠a→s.heap.get? b=some o→h'.get? b=some o)→h'.get? a=some (aK "list" (ak (p.toList.map fun i=>vs.getD i aZ)) c)→P (.done (.ret .none)) {s with heap:=h'}
def zx(prog:aF)(w:World)(A:aU)(kS a:Addr)(e1:Nat)(f:Value)(vs:List Value)(P:PySem.Fin→ae→Prop):List Value→List Value→ae→Prop
 |[],ks,s=>s.heap.get? a=some (aK "list" #[] e1)∧xdn prog w A kS a vs P ks s
 |v::r,ks,s=>wpAny (model prog w) A (call f [v]) (fun k s'=>(∃e,s'.heap.get? kS=some (aK "list" (ak ks) e))∧∀h' c,(∀b o,b≠kS→s'.heap.get? b=some o→h'.get? b=some o)→h'.get? kS=some (aK "list" (ak (ks++[k])) c)→zx prog w A kS a e1 f vs P r (ks++[k]) {s' with heap:=h'}) (fun _ _=>False) s
theorem xjz{ks:List Value}{e:Nat}(hak:a≠kS)(hl:ks.length=vs.length)(h64:vs.length<64)(ha:s.heap.get? a=some (aK "list" #[] e1))(hk:s.heap.get? kS=some (aK "list" (ak ks) e))
  (h:xdn prog w A kS a vs P ks s):wpAny (model prog w) A (ksk_end a false vs.toArray e1 (.ref kS) (ak ks)) P E s:=by
 obtain⟨lt,S,hL,hcmp,fin⟩:=h;unfold ksk_end
 try dsimp only
 by_cases h2:2≤vs.length
 ·have hn2:¬vs.toArray.size<2:=by rw[av];lia
  have hk1:wpAny (model prog w) A (k6 (ak ks)) (fun κ s'=>κ=ij∧s=s') (fun _ _=>False) s:=kas_kind (T:=ck "int") (by lia) (fun v hv=>by obtain⟨i,t,rfl⟩:=hL v hv;exact .now) (by decide) (by decide) ⟨rfl,rfl⟩;simp only[aV,if_false];rw[if_neg hn2,if_neg hn2];refine aa (a8 hk1 (fun κ s0 hk=>?_) fun _ _ x=>x.elim);obtain⟨rfl,rfl⟩:=hk;have hw:(kas_sort vs.length).kasWp (kas_ask prog w A ij ks) (fun p s''=>s=s''∧L2.Pm vs.length p∧L2.Up lt p vs.length) s:=by
   refine L2.Wp.kas (lt:=lt) (n:=vs.length) (fun i j C hi hj hc=>hcmp i j C hi hj hc) ?_;exact L2.wp_mono (L2.xdi S h2) fun q hq=>⟨rfl,hq⟩
  refine aa (a8 (kat_run (Q:=fun st' s'=>∃p:Array Nat,arrOf st'=p.map (kas_item ((ak ks).zip (ak vs)))∧failedOf st'=none∧s=s'∧L2.Pm vs.length p∧L2.Up lt p vs.length)
   hl h2 h64 (fun p' st' s' a1 a2 a3 a4=>⟨p',a2,a3,a4⟩) hw) ?_ fun _ _ x=>x)
  rintro⟨⟨⟩,st'⟩ s' ⟨p,har,hf,rfl,hp,hu⟩
  try dsimp only
  refine jW hak (kat_snds hl har) (by rw[ab,aM,hp.size];exact h64) (by lia) hf ha hk fun h' c k1 k2=>fin p hp hu h' c k1 k2
 ·have hn2:vs.toArray.size<2:=by rw[av];lia
  simp only[aV,if_false];rw[if_pos hn2,if_pos hn2];refine aa (ah ?_);refine aa (ah ?_)
  try dsimp only
  have hsn:(arrOf (mi general' ((ak ks).zip (ak vs)) #[] 7 none)).map (·.2)=ak vs:=by
   show((ak ks).zip (ak vs)).map (·.2)=ak vs;apply gI.mp;simp[i5,hl]
  refine jW hak hsn h64 (by lia) rfl ha hk fun h' c k1 k2=>fin (ak (aI vs.length)) ⟨by simp,by simp⟩ (fun i j hij hj=>by lia) h' c k1 ?_;have e:((ak (aI vs.length)).toList.map fun i=>vs.getD i aZ)=vs:=by
   apply eC;intro i
   by_cases hi:i<vs.length
   ·simp[hi]
   ·simp[hi]
  rw[e];exact k2
theorem xd1{n:Nat}{body:Value→PUnit→Sem (ForInStep PUnit)}(hn:n<64)
  (hb:∀x ks (s:ae) (C:Value→Nat→ae→Prop),cn ks<64→wpAny (model prog w) A (call f [x]) (fun k s'=>(∃e,s'.heap.get? kS=some (aK "list" (ak ks) e))∧∀h' c,(∀b o,b≠kS→s'.heap.get? b=some o→h'.get? b=some o)→h'.get? kS=some (aK "list" (ak (ks++[k])) c)→C k c {s' with heap:=h'}) (fun _ _=>False) s→
   wpAny (model prog w) A (body x ⟨⟩) (fun r s'=>r= .yield ⟨⟩∧∃k c,s'.heap.get? kS=some (aK "list" (ak (ks++[k])) c)∧C k c s') E s):∀(r ks:List Value) (e:Nat) (s:ae),ks.length+r.length=n→
   s.heap.get? kS=some (aK "list" (ak ks) e)→zx prog w A kS a e1 f vs P r ks s→
   wpAny (model prog w) A (forIn r k8 body) (fun _ s'=>∃ks e,s'.heap.get? kS=some (aK "list" (ak ks) e)∧ks.length=n∧s'.heap.get? a=some (aK "list" #[] e1)∧xdn prog w A kS a vs P ks s') E s
 |[],ks,e,s,hl,hk,h=>by
  rw[List.forIn_nil];exact ah ⟨ks,e,hk,by simpa using hl,h⟩
 |x::r,ks,e,s,hl,hk,h=>by
  rw[aY]at hl;rw[j9];have h':=h;unfold zx at h';refine aa (a8 (hb x ks s (fun k c s'=>zx prog w A kS a e1 f vs P r (ks++[k]) s') (by lia) (a8 h' (fun k s' hq=>hq) fun _ _ x=>x)) (fun q s' hq=>?_) fun _ _ x=>x);obtain⟨rfl,k,c,hk',h2⟩:=hq;show wpAny (model prog w) A (forIn r k8 body) _ E s';exact xd1 hn hb r (ks++[k]) c s' (by rw[ax,bQ];lia) hk' h2
theorem xhs{n:Nat}(ho:s.heap.get? a=some (aK "list" vs.toArray n))(h64:vs.length<64)
  (h:∀kS e1 h',(∀b o,b≠a→s.heap.get? b=some o→h'.get? b=some o)→h'.get? a=some (aK "list" #[] e1)→h'.get? kS=some (aK "list" #[] 0)→s.heap.objs.size≤kS→zx prog w A kS a e1 f vs P vs [] {s with heap:=h'}):
  wpAny (model prog w) A (ksk_tree a f false) P E s:=by
 have ha:a<s.heap.objs.size:=aj ho;have s1:=bK s.heap a (aN fun _=>(#[]:Array Value));obtain⟨e1,ho1⟩:∃e1,(s.heap.update a (aN fun _=>(#[]:Array Value))).get? a=some (aK "list" #[] e1):=⟨_,c9 ho fun _=>#[]⟩;have hkS:((s.heap.update a (aN fun _=>(#[]:Array Value))).push (aK "tuple" vs.toArray 0)).objs.size=s.heap.objs.size+1:=by rw[k9,fM]
 unfold ksk_tree;refine aa (hZ ho rfl ?_);refine aa (dI ho rfl ?_ (by rw[av,ay];lia) (aJ _));refine aa (gC ho1 rfl ?_);refine aa (kF ?_ (by show vs.length≤_;rw[ay];lia));refine aa (ef ?_ (aJ _));refine bB ?_;generalize hK:((s.heap.update a (aN fun _=>(#[]:Array Value))).push (aK "tuple" vs.toArray 0)).objs.size=kS at hkS;generalize hh:((s.heap.update a (aN fun _=>(#[]:Array Value))).push (aK "tuple" vs.toArray 0)).push (aK "list" #[] 0)=h1;have hk0:h1.get? kS=some (aK "list" #[] 0):=by rw[←hh,←hK];exact aB _ rfl
 have hk:=h kS e1 h1 (fun b o hb q=>by rw[←hh];exact af _ (af _ ((s1.2 b hb).trans q))) (by rw[←hh];exact af _ (af _ ho1)) hk0 (by rw[hkS];exact dz _);have hak:a≠kS:=ar (by rw[hkS];exact fz ha);unfold ksk_rest;refine aa (gZ ?_)
 first
  |rw[lU]
  |(rw[←dZ];simp only[lA])
  |rw[←dZ]
 refine aa (a8 (xd1 h64 (fun x ks s' C hz hx=>?_) vs [] 0 {s with heap:=h1} (by simp) hk0 hk) (fun _ s' hd=>?_) fun _ _ x=>x)
 ·refine aa (wpAny_attempt (a8 hx (fun k s'' hk=>?_) fun _ _ hF=>hF.elim));obtain⟨⟨e,nk⟩,c⟩:=hk;have s1:=bK s''.heap kS (aN (·.push k));have ea:(ak ks).push k=ak (ks++[k]):=by simp
  obtain⟨c2,hc2⟩:∃c2,(s''.heap.update kS (aN (·.push k))).get? kS=some (aK "list" (ak (ks++[k])) c2):=⟨_,by rw[←ea];exact c9 nk (·.push k)⟩
  try dsimp only
  refine aa (dI nk rfl ?_ (by rw[av,ay];lia) (bp (gT (kd ..)) (by rw[av,ay];lia)));exact ah ⟨rfl,k,c2,hc2,c _ c2 (fun b o hb q=>(s1.2 b hb).trans q) hc2⟩
 ·obtain⟨ks,e,hk',hl,ha',fin⟩:=hd
  try dsimp only
  refine aa (hZ hk' rfl ?_);exact xjz hak hl h64 ha' hk' fin
end
end PySem.W
namespace L2
open PySem PySem.Spec PyProof.Rows PySem.W
structure xm9(X:Cx)(H2:Hp)(s2:ae)(kk:Nat→Int)(D kS:Addr)(e1:Nat)(ks:List Value)(G:Hp)(s':ae):Prop where
 os:s'.os=s2.os
 bare:fB s'.gens
 un:Un (frs X.stack) [] H2 G s2.heap s'.heap
 hok:HOk X.prog X.w G s'.heap
 same:xc H2 G
 keys:∀i,i<ks.length→∃t,ks[i]? =some (.int (kk i) t)
 atD:s'.heap.get? D=some (aK "list" #[] e1)
 fD:G D=none
 fk:G kS=none
section
variable {X:Cx} {k:Nat} {nm qual:Str} {params:cG} {body:dk} {scope:Scope} {ps:List Str} {sp:List (Str×V)→Sp} {pins:List (Addr×Obj)} {σ:St} {H2:Hp} {s2:ae} {f D kS:Addr} {fv:List (Str×V)} {kk:Nat→Int} {vs:List Value} {xs:List V} {P:PySem.Fin→ae→Prop} {e1:Nat}
theorem xd2(F:uk X.prog X.w X.K X.mg X.base CX0 k nm qual params body scope ps sp)(hr:xO (k+2) X.A)(I:Inv X pins σ H2 s2)(hc:uj H2 f nm qual params body scope fv)
  (hsp:∀i x,xs[i]? =some x→∀H3,xc H2 H3→sp fv [x] H3 (fun v H4=>xc H3 H4∧v= .int (kk i)) E0)
  (hv:Vals xs vs) (hD:s2.heap.objs.size≤D) (hk:s2.heap.objs.size≤kS) (hDk:D≠kS) (h64:vs.length<64)
  (S:STO (fun i j=>decide (kk i<kk j)) vs.length)
  (fin:∀p:Array Nat,Pm vs.length p→Up (fun i j=>decide (kk i<kk j)) p vs.length→∀sF G',Inv X pins σ G' sF→xc H2 G'→G' D=some (.lst (p.toList.map fun(i:Nat)=>xs.getD i .non))→P (.done (.ret .none)) sF):
  ∀(r ks:List Value) (s':ae) (G:Hp),r=vs.drop ks.length→ks.length≤vs.length→xm9 X H2 s2 kk D kS e1 ks G s'→(∃e,s'.heap.get? kS=some (aK "list" (ak ks) e))→
   zx X.prog X.w X.A.in1.in1 kS D e1 (.ref f) vs P r ks s'
 |[],ks,s',G,hr0,hle,J,hkS=>by
  have hlen:ks.length=vs.length:=by
   have:=congrArg cn hr0;simp at this;lia
  unfold zx;refine⟨J.atD,fun i j=>decide (kk i<kk j),S,fun v hvm=>?_,fun i j C hi hj hC=>?_,fun p hp hu h' c keep hDc=>?_⟩
  ·obtain⟨i,hi,rfl⟩:=cA.mp hvm;obtain⟨t,h1⟩:=J.keys i hi;rw[ag hi]at h1;exact⟨_,t,bw h1⟩
  ·obtain⟨t1,a1⟩:=J.keys i (by lia);obtain⟨t2,b1⟩:=J.keys j (by lia);have g1:ks.getD i aZ= .int (kk i) t1:=by simp[aX,a1]
   have g2:ks.getD j aZ= .int (kk j) t2:=by simp[aX,b1]
   rw[g1,g2,kH];exact oneLt_int hC
  ·have lenp:p.toList.length=vs.length:=by rw[aM];exact hp.size
   have hvals:Vals (p.toList.map fun(i:Nat)=>xs.getD i .non) (p.toList.map fun i=>vs.getD i aZ):=by
    refine uQ (by simp) fun j x u e1 e2=>?_;rw[au]at e1 e2;cases q:p.toList[j]? with
    |none=>rw[q]at e1;cases e1
    |some m=>
     rw[q]at e1 e2;cases e1;have hm:m<vs.length:=a7.mp (hp.perm.mem_iff.mp (aL q));have hmx:m<xs.length:=by rw[hv.length];exact hm
     obtain⟨w',hw1,hw2⟩:=hv.get (i:=m) (x:=xs[m]) (ag hmx);cases e2;have g1:vs.getD m aZ=w':=by simp[aX,hw1]
     have g2:xs.getD m .non=xs[m]:=by simp[aX,hmx]
     show RelV (xs.getD m .non) (vs.getD m aZ);rw[g1,g2];exact hw2
   have newD:xE X.prog X.w (upd G D (.lst (p.toList.map fun(i:Nat)=>xs.getD i .non))) h' D (.lst (p.toList.map fun(i:Nat)=>xs.getD i .non)):=⟨by rw[ab,lenp,ay];lia,_,c,hvals,hDc⟩;have hokF:HOk X.prog X.w (upd G D (.lst (p.toList.map fun(i:Nat)=>xs.getD i .non))) h':=fun b u e=>by
    by_cases hb:b=D
    ·subst hb;rw[xj]at e;cases e;exact newD
    ·rw[xk hb]at e;refine(J.hok b u e).stay (fun c' v hc' q=>keep c' v ?_ ?_ q) (fun c' q=>by rw[xk (xF q J.fD)];exact q) fun c' xs q _=>by rw[xk (xF q J.fD)];exact q
     ·rintro rfl;rcases hc' with z|z
      ·rw[←z,J.fk]at e;cases e
      ·rw[J.fk]at z;cases z
     ·rintro rfl;rcases hc' with z|z
      ·exact hb z.symm
      ·rw[J.fD]at z;cases z
   have lt2:∀b o,s2.heap.get? b=some o→b≠D∧b≠kS:=fun b o q=>⟨ar (aw (aj q) hD),ar (aw (aj q) hk)⟩;have un2:Un (frs X.stack) [] H2 (upd G D (.lst (p.toList.map fun(i:Nat)=>xs.getD i .non))) s2.heap h':=by
    refine⟨fun b o q n1 n2 n3=>keep b o (lt2 b o q).2 (lt2 b o q).1 (J.un.keep b o q n1 n2 n3),fun b o q n1 n2 n3=>?_,fun b o q n1 n3=>by rw[xk (lt2 b o q).1];exact J.un.free b o q n1 n3,fun b o q n3=>?_,fun b u q fx=>?_⟩
    ·obtain⟨sl,e⟩:=J.un.slot b o q n1 n2 n3;exact⟨sl,keep b _ (lt2 b o q).2 (lt2 b o q).1 e⟩
    ·obtain⟨o',e⟩:=J.un.there b o q n3;exact⟨o',keep b _ (lt2 b o q).2 (lt2 b o q).1 e⟩
    ·have:=J.un.fix b u q fx;rw[xk (xF this J.fD)];exact this
   have IF:Inv X pins σ (upd G D (.lst (p.toList.map fun(i:Nat)=>xs.getD i .non))) {s' with heap:=h'}:=I.call' (s':={s' with heap:=h'}) (ch:=[]) J.os un2 hokF J.bare fun b z=>absurd z (by simp);refine fin p hp hu _ _ IF (fun b u q=>?_) xj;have:=J.same b u q;rw[xk (xF this J.fD)];exact this
 |x::r,ks,s',G,hr0,hle,J,hkS=>by
  have hlt:ks.length<vs.length:=by
   have:=congrArg cn hr0;simp at this;lia
  have hx:vs[ks.length]? =some x:=by
   have:=congrArg (fun l=>l[0]?) hr0;simp at this;exact this.symm
  have hr1:r=vs.drop (ks.length+1):=by
   have:=congrArg List.tail hr0;simpa using this
  have hxx:ks.length<xs.length:=by rw[hv.length];exact hlt
  obtain⟨w',hw1,hw2⟩:=hv.get (i:=ks.length) (x:=xs[ks.length]) (ag hxx);rw[hx]at hw1;cases hw1;have Iu:Inv X pins σ G s':=I.call' (s':=s') (ch:=[]) J.os J.un J.hok J.bare fun b z=>absurd z (by simp);have E0':vm X.prog X.w X.K X.mg X.base X.A.in1.in1 X.stack s' G:=by
   have e:=Iu.env0;exact⟨e.frames,e.mod,e.bs,e.bsz,e.funs,e.frf,e.hok,e.bare⟩
  unfold zx;refine gW (dB (F.run X.A.in1.in1 X.stack s' G f fv _ [xs[ks.length]] _ E0 hr.in1.in1 E0' (hc.same J.same) (.cons hw2 .nil) (hsp ks.length _ (ag hxx) G J.same)) fun rr s'' hq=>?_);cases rr with
  |error e=>exact hq.elim
  |ok fl=>
   cases fl with
   |next=>exact hq.elim
   |brk=>exact hq.elim
   |cont=>exact hq.elim
   |ret u=>
    obtain⟨v,H',hos,hbare,hun,hhok,hrv,hS,rfl⟩:=hq;obtain⟨tv,rfl⟩:=hrv;obtain⟨e,hkSe⟩:=hkS;have hDs:D∉frs X.stack:=I.young hD;have hks:kS∉frs X.stack:=I.young hk;have kD:=hun.keep D _ J.atD J.fD hDs (by simp);have kk2:=hun.keep kS _ hkSe J.fk hks (by simp);refine⟨⟨e,kk2⟩,fun h' c keep hnew=>?_⟩;refine xd2 F hr I hc hsp hv hD hk hDk h64 S fin r (ks++[.int (kk ks.length) tv]) {s'' with heap:=h'} H' (by rw[hr1,ax];rfl) (by rw[ax];exact hlt) ⟨hos.trans J.os,hbare,?_,?_,J.same.trans hS,fun i hi=>?_,keep D _ hDk kD,hun.free D _ J.atD J.fD (by simp),hun.free kS _ hkSe J.fk (by simp)⟩ ⟨c,hnew⟩
    ·have u2:=J.un.trans hun;have lt2:∀b o,s2.heap.get? b=some o→b≠kS:=fun b o q=>ar (aw (aj q) hk);refine⟨fun b o q n1 n2 n3=>keep b o (lt2 b o q) (u2.keep b o q n1 n2 n3),fun b o q n1 n2 n3=>?_,u2.free,fun b o q n3=>?_,u2.fix⟩
     ·obtain⟨sl,e⟩:=u2.slot b o q n1 n2 n3;exact⟨sl,keep b _ (lt2 b o q) e⟩
     ·obtain⟨o',e⟩:=u2.there b o q n3;exact⟨o',keep b _ (lt2 b o q) e⟩
    ·exact xcc hhok (hun.free kS _ hkSe J.fk (by simp)) fun c' o hcb q=>keep c' o hcb q
    ·rw[ax,bQ]at hi
     by_cases hij:i=ks.length
     ·subst hij;exact⟨tv,by rw[bP (ao _)];simp⟩
     ·obtain⟨t',g1⟩:=J.keys i (by lia);exact⟨t',by rw[bH (by lia)];exact g1⟩
def xkW(K:ai)(nm qual:Str)(params:cG)(body:dk)(scope:Scope)(sp:List (Str×V)→Sp)(ta:TA)(tf:TE):TE:=fun σ H Q=>ta σ H fun ys H1=>tf σ H1 fun y H2=>
 ∃(r f:Addr) (xs:List V) (fv:List (Str×V)) (kk:Nat→Int),ys=[.ref r]∧y= .ref f∧SqL K H2 r xs∧xs.length<64∧uj H2 f nm qual params body scope fv∧
 (∀i x,xs[i]? =some x→∀H3,xc H2 H3→sp fv [x] H3 (fun v H4=>xc H3 H4∧v= .int (kk i)) E0)∧STO (fun i j=>decide (kk i<kk j)) xs.length∧
 ∀(l:Addr) (p:List Nat) (H':Hp),xc H2 H'→H2 l=none→H' l=some (.lst (p.map fun(i:Nat)=>xs.getD i .non))→p.Perm (aI xs.length)→(p.Pairwise fun i j=>decide (kk i<kk j)=true)→Q (.ref l) H'
theorem xf6{e fe:Expr}{ta:TA}{tf:TE}{p pos kp:Pos}(F:uk X.prog X.w X.K X.mg X.base CX0 k nm qual params body scope ps sp)(hr:xO (k+2) X.A)(hg:Gl X "sorted")(hm:X.mg "sorted"=none)(ha:PA X [e] ta)(hf:PE X fe tf)
  (he:de pos (bh [e] X.env)=(false,eval e X.env)::de pos (bh [] X.env):=by rfl):
  PE X (.Call (.Name "sorted" p) [e] [⟨some "key",fe,kp⟩] pos) (xkW X.K nm qual params body scope sp ta tf):=by
 intro pins s σ H Q I h;refine cy (zg I hg hm va ?_ (by decide) (by decide));refine kj (thn (ha pos pins s σ H _ I h) fun us s1 ⟨xs,H1,I1,r1,q1⟩=>?_) he (by rw[he];rfl) rfl rfl;refine kws_cons (thn (hf pins s1 σ H1 _ I1 q1) fun fu s2 ⟨y,H2,I2,r2,q2⟩=>kws_nil ?_);obtain⟨r,f,xs,fv,kk,rfl,rfl,hl,h64,hcl,hsp,S,q⟩:=q2;obtain⟨u,rfl,ru⟩:=Vals.one r1;cases ru;cases r2;obtain⟨its,rel,pl,_⟩:=I2.list hl;have hn:xs.length=its.length:=rel.length;show wpAny _ _ (call (.builtin "sorted") [.ref r] [(cj "key",.ref f)]) _ _ s2;refine call_function_entry_kw kind_sorted plain_sorted entry_sorted (ksk_s1 _ _) ?_;unfold eP.«sorted»;refine aa (m:=checkCount "sorted" 1 1 _) (ah ?_);refine aa (collect_list pl.isList ?_ (by rw[ay];lia));generalize hg':(s2.heap.push (aK "list" #[] 0)).update s2.heap.objs.size (aN (· ++its.toArray))=g;have keep:∀b o,s2.heap.get? b=some o→g.get? b=some o:=fun b o e=>by
  rw[←hg'];exact(bL _ _ (eR (aj e))).trans (af _ e)
 have hlt:s2.heap.objs.size<g.objs.size:=by rw[←hg',fM,c5];exact cL _
 refine aa (ef ?_ (by rw[ay];lia));have hoL:(g.push (aK "list" its.toArray 0)).get? g.objs.size=some (aK "list" its.toArray 0):=aB _ rfl;refine aa (bB (wpAny_call_entry_kw kJ ⟨_,hoL,rfl⟩ ke ?body (ksk_l1 _ _)))
 case body=>
  show wpAny (model X.prog X.w) X.A.in1.in1 (eP.«list.sort» ⟨[.ref g.objs.size],[(cj "key",.ref f)]⟩) _ _ _;rw[ksk_t1];have h64':its.length<64:=by rw[←hn];exact h64
  have hsg:s2.heap.objs.size≤g.objs.size:=cx hlt;refine xhs (s:={s2 with heap:=g.push (aK "list" its.toArray 0)}) hoL h64' fun kS e1 h' keep2 atD atk hkS=>?_;have hkS':g.objs.size<kS:=aw (by show g.objs.size<(g.push _).objs.size;rw[c5];exact cL _) hkS;have old:∀b o,s2.heap.get? b=some o→h'.get? b=some o:=fun b o e=>keep2 b o (ar (aw (aj e) hsg)) (af _ (keep b o e));refine xd2 (kk:=kk) (xs:=xs) F hr I2 hcl hsp rel hsg (bp hsg (cx hkS')) (ar hkS') h64' (by rw[←hn];exact S) (fun p hp hu sF G' IF sm hDv=>?_) its [] _ H2 rfl (aJ _)
   ⟨rfl,I2.bare,Un.kept old,I2.hok.kept old,xc.refl _,fun i hi=>absurd hi (dG _),atD,I2.hok.fresh hsg,I2.hok.fresh (bp hsg (cx hkS'))⟩ ⟨0,atk⟩
  rw[←hn]at hp hu;exact⟨_,rfl,ah ⟨_,rfl,.ref g.objs.size,G',IF,rfl,q _ p.toList G' sm (I2.hok.fresh hsg) hDv hp.perm (ju hp hu)⟩⟩
end
end L2
namespace L2
open PySem PySem.Spec PyProof.Rows
section
variable {X:Cx} {tg:Expr} {K:ai}
theorem xjA{l:Expr}{tl:TE}(e:X.K=K)(hl:PE X l tl):PI X tg l (xj7 K tl):=e▸yi hl
end
end L2
namespace L2
open PySem PySem.Spec PyProof.Rows
theorem xbL{K:ai}{l:Addr}{xs:List V}{te:TE}{caps:L2.St}{Q:VK}{H2:Hp}(Pv:Nat→List V→Hp→Prop)(hl:SqL K H2 l xs)(hn:xs.length≤aO)(h0:Pv 0 [] H2)
  (hs:∀(i:Nat) x acc H3 H3',xs[i]? =some x→xc H2 H3→xc H3 H3'→Pv i acc H3→∃T v1 v2,x= .ref T∧SqT K H3' T [v1,v2]∧∀R:VK,(∀u H6',xc H3' H6'→(∀H6,xc H3 H6→(∀p o,(H3' p=none∨∀ys,o≠HO.lst ys)→H6' p=some o→H6 p=some o)→Pv (i+1) (acc++[u]) H6)→R u H6')→te (some v1::some v2::caps) H3' R)
  (hd:∀D acc H H',H2 D=none→H D=none→xc H2 H→xc H H'→Pv xs.length acc H→acc.length=xs.length→H' D=some (.lst acc)→Q (.ref D) H'):uI K (Itl K l) caps xdf te Q H2:=by
 unfold uI;intro D hD;refine⟨fun i m acc H3=>m=xs.length - i∧i≤xs.length∧acc.length=i∧H3 D=some (.lst acc)∧xc H2 (del H3 D)∧Pv i acc (del H3 D),⟨xs.length,by simp,aJ _,rfl,xj,?_,?_⟩,?_⟩
 ·rw[yI,uJ hD];exact xc.refl _
 ·rw[yI,uJ hD];exact h0
 rintro i m acc H3 ⟨rfl,hi,hacc,hD3,s3,p3⟩;refine⟨hD3,?_⟩;have q:=(s3.trans zw).seq hl
 by_cases hlt:i<xs.length
 ·have hx:xs[i]? =some xs[i]:=ag hlt;refine .inr ⟨⟨xs,xs[i],q,hx⟩,by lia,fun v H4 y=>?_⟩;obtain⟨e,y⟩:=y;have ev:=y xs q;rw[hx]at ev;cases ev;subst e;obtain⟨T,v1,v2,h1,h2,h3⟩:=hs i _ acc _ _ hx s3 zw p3;refine⟨T,v1,v2,h1,h2,fun _=>?_,fun z=>by cases z⟩;refine h3 _ fun u H6' s6 k=>⟨s6.at hD3,xs.length - (i+1),by lia,rfl,hlt,by simp[hacc],xj,?_,?_⟩
  ·rw[yI];exact s3.trans (uK s6)
  ·rw[yI];refine k _ (uK s6) fun p o q1 q2=>?_;rw[vd (fun z=>by
    rcases q1 with q1|q1
    ·rw[z,hD3]at q1;cases q1
    ·rw[z,s6.at hD3]at q2;cases q2;exact q1 _ rfl)]
   exact q2
 ·have e:i=xs.length:=by lia
  subst e;exact .inl ⟨⟨xs,q,ao _⟩,hd D acc _ H3 hD zv s3 zw p3 hacc hD3⟩
end L2
namespace L2
open PySem PySem.Spec PyProof.Rows
namespace ST
def m5(m x:Nat):Nat:=(x*5+1)%m
def it5(m:Nat):Nat→Nat→Nat
 |0,x=>x
 |k+1,x=>it5 m k (m5 m x)
theorem xbt(m:Nat):∀(a b x:Nat),it5 m (a+b) x=it5 m b (it5 m a x)
 |0,b,x=>by rw[h9];rfl
 |a+1,b,x=>by rw[lV];exact xbt m a b (m5 m x)
def Mk(mask:Nat):Prop:=mask=7∨mask=31∨mask=127
def orb(m:Nat):Nat→Nat→List Nat
 |0,_=>[]
 |k+1,x=>x::orb m k (m5 m x)
theorem jH(m:Nat):∀(n k x:Nat),k<n→(orb m n x)[k]? =some (it5 m k x)
 |n+1,0,x,_=>rfl
 |n+1,k+1,x,h=>by
  show(orb m n (m5 m x))[k]? =_;exact jH m n k (m5 m x) (by lia)
theorem full(m:Nat)(hm:m=8∨m=32∨m=128):(∀e,e<m→e∈orb m m 0)∧it5 m m 0=0:=by
 rcases hm with rfl|rfl|rfl
 ·exact⟨by decide+kernel,by decide+kernel⟩
 ·exact⟨by decide+kernel,by decide+kernel⟩
 ·exact⟨by decide+kernel,by decide+kernel⟩
theorem xkj{m:Nat}(hm:m=8∨m=32∨m=128){e:Nat}(he:e<m):∃k,k<m∧it5 m k 0=e:=by
 have h:=(full m hm).1 e he;obtain⟨k,hk⟩:=List.getElem?_of_mem h;have hl:k<m:=by
  rcases Nat.lt_or_ge k m with z|z
  ·exact z
  ·have hlen:∀n x,(orb m n x).length=n:=by
    intro n;induction n with
    |zero=>intro x;rfl
    |succ n ih=>intro x;show(orb m n (m5 m x)).length+1=_;rw[ih]
   rw[cX (by rw[hlen];exact z)]at hk;cases hk
 rw[jH m m k 0 hl]at hk;exact⟨k,hl,bw hk⟩
theorem xmn{m:Nat}(hm:m=8∨m=32∨m=128){i e:Nat}(hi:i<m)(he:e<m):∃k,k<m∧it5 m k i=e:=by
 obtain⟨a,ha,ea⟩:=xkj hm hi;obtain⟨b,hb,eb⟩:=xkj hm he;have h0:=(full m hm).2
 by_cases hab:a≤b
 ·refine⟨b - a,by lia,?_⟩;rw[←ea,←xbt,show a+(b - a)=b by lia];exact eb
 ·refine⟨m - a+b,by lia,?_⟩;rw[←ea,←xbt,show a+(m - a+b)=m+b by lia,xbt,h0];exact eb
def lp(mask:Nat):Nat→Nat×Nat→Nat×Nat
 |0,x=>x
 |k+1,x=>lp mask k (iD mask x.1 x.2)
theorem xix(mask:Nat):∀(a b:Nat) (x:Nat×Nat),lp mask (a+b) x=lp mask b (lp mask a x)
 |0,b,x=>by rw[h9];rfl
 |a+1,b,x=>by rw[lV];exact xix mask a b _
theorem xiy(mask:Nat):∀(k:Nat) (x:Nat×Nat),(lp mask k x).2=x.2 / 32^k
 |0,x=>by show x.2=x.2 / 1;rw[Nat.div_one]
 |k+1,x=>by
  show(lp mask k (iD mask x.1 x.2)).2=_;rw[xiy mask k];show x.2 / 32 / 32^k=_;rw[Nat.div_div_eq_div_mul,Nat.pow_succ,Nat.mul_comm]
theorem xkk(mask:Nat):∀(k:Nat) (x:Nat×Nat),x.1<mask+1→(lp mask k x).1<mask+1
 |0,x,h=>h
 |k+1,x,h=>xkk mask k _ (Nat.mod_lt _ (by lia))
theorem xgA(mask:Nat):∀(k:Nat) (i:Nat),(lp mask k (i,0)).1=it5 (mask+1) k i
 |0,i=>rfl
 |k+1,i=>by
  show(lp mask k ((i*5+1+0 / 32)%(mask+1),0 / 32)).1=it5 (mask+1) k (m5 (mask+1) i);rw[Nat.zero_div,lW];exact xgA mask k _
theorem reach{mask:Nat}(hm:Mk mask){i p e:Nat}(hi:i<mask+1)(hp:p<2^64)(he:e<mask+1):∃k,k<cu mask∧(lp mask k (i,p)).1=e:=by
 have hm':mask+1=8∨mask+1=32∨mask+1=128:=by unfold Mk at hm;lia
 have h13:(lp mask 13 (i,p)).2=0:=by
  rw[xiy];exact Nat.div_eq_of_lt (aw hp (by decide))
 have hl:=xkk mask 13 (i,p) hi;obtain⟨k,hk,e2⟩:=xmn hm' hl he;refine⟨13+k,by unfold cu;lia,?_⟩;rw[xix];have:lp mask 13 (i,p)=((lp mask 13 (i,p)).1,0):=by rw[←h13]
 rw[this,xgA];exact e2
def adv(t:cJ):Nat→dw→dw
 |0,p=>p
 |k+1,p=>adv t k (t.advance p)
theorem xgB(t:cJ):∀(a b:Nat) (p:dw),adv t (a+b) p=adv t b (adv t a p)
 |0,b,p=>by rw[h9];rfl
 |a+1,b,p=>by rw[lV];exact xgB t a b _
def xce(t:cJ)(x:Nat×Nat):dw:={j:=x.1,more:=fX t.mask x.1 - x.1,i:=x.1,perturb:=x.2,dummy:=none}
theorem xeY(t:cJ):∀(n:Nat) (p:dw),p.more=n→p.dummy=none→adv t (n+1) p=xce t (iD t.mask p.i p.perturb)
 |0,p,h,hd=>by
  show t.advance p=_;unfold i6;rw[if_neg (by lia)];obtain⟨j,more,i,pe,dm⟩:=p;obtain rfl:dm=none:=hd;rfl
 |n+1,p,h,hd=>by
  show adv t (n+1) (t.advance p)=_;have e:t.advance p={p with j:=p.j+1,more:=p.more - 1}:=by
   unfold i6;rw[if_pos (by lia)]
  rw[e];exact xeY t n _ (by show p.more - 1=n;lia) hd
theorem xmo(mask i:Nat):fX mask i - i≤9:=by
 unfold fX;split<;> lia
theorem xgC(t:cJ):∀(k:Nat) (x:Nat×Nat),∃s,s≤10*k∧adv t s (xce t x)=xce t (lp t.mask k x)
 |0,x=>⟨0,ao _,rfl⟩
 |k+1,x=>by
  obtain⟨s,hs,e⟩:=xgC t k (iD t.mask x.1 x.2);have h1:=xeY t _ (xce t x) rfl rfl;have h2:(xce t x).more≤9:=xmo _ _;refine⟨(xce t x).more+1+s,by lia,?_⟩;rw[xgB,h1];exact e
def Meets(t:cJ)(d:Nat)(p:dw):Prop:=p.dummy=none∧∃s,s≤d∧t.slot (adv t s p).j= .empty
theorem xiz(t:cJ)(p:dw):(t.advance p).dummy=p.dummy:=by
 unfold i6;split<;> rfl
theorem xiA{t:cJ}(hd:t.dummies=#[]){j:Nat}(h:j∉t.place.toList):t.slot j= .empty:=by
 unfold ly;have h1:(t.place[mj t.place j]? ==some j)=false:=by
  rw[beq_eq_false_iff_ne];intro z;exact h (cb.mpr (Array.mem_of_getElem? z))
 have h2:fE t.dummies j=false:=by
  unfold fE;rw[hd,beq_eq_false_iff_ne];intro z;simp at z
 dsimp only;rw[h1,h2];rfl
theorem xeZ{t:cJ}(hd:t.dummies=#[])(j:Nat):t.slot j≠.dummy:=by
 unfold ly;have h2:fE t.dummies j=false:=by
  unfold fE;rw[hd,beq_eq_false_iff_ne];intro z;simp at z
 dsimp only;rw[h2]
 split
 ·intro z;cases z
 ·intro z;cases z
theorem hole:∀(n:Nat) (l:List Nat),l.length<n→∃e,e<n∧e∉l
 |0,l,h=>by lia
 |n+1,l,h=>by
  by_cases hn:n∈l
  ·obtain⟨e,he,hl⟩:=hole n (l.filter (·≠n)) (by
    have:(l.filter (·≠n)).length<l.length:=by
     rcases Nat.lt_or_ge (l.filter (·≠n)).length l.length with z|z
     ·exact z
     ·have:=List.length_filter_eq_length_iff.mp (Nat.le_antisymm (bR _ _) z) n hn;simp at this
    lia)
   refine⟨e,by lia,fun z=>hl ?_⟩;rw[aE];exact⟨z,by simp;lia⟩
  ·exact⟨n,by lia,hn⟩
theorem xf7{t:cJ}(hm:Mk t.mask)(hd:t.dummies=#[])(hf:t.place.size≤t.mask)(h:Int):Meets t (10*cu t.mask - 1) (t.probeStart h):=by
 obtain⟨e,he,hl⟩:=hole (t.mask+1) t.place.toList (by rw[aM];lia);have hb:cw h<2^64:=by
  unfold cw;have:=bt h (show(0:Int)<2^64 by decide);have:=bo h (show(2^64:Int)≠0 by decide);lia
 obtain⟨k,hk,ek⟩:=reach hm (Nat.mod_lt (cw h) (show 0<t.mask+1 by lia)) hb he;obtain⟨s,hs,es⟩:=xgC t k (cw h%(t.mask+1),cw h);refine⟨rfl,s,by lia,?_⟩;have e1:t.probeStart h=xce t (cw h%(t.mask+1),cw h):=rfl;rw[e1,es];show t.slot (lp t.mask k _).1=_;rw[ek];exact xiA hd hl
theorem xe0{t:cJ}(hd:t.dummies=#[])(hashAt:Nat→Int)(h:Int):∀(fuel d:Nat) (p:dw),d<fuel→Meets t d p→
  (∃j,iL t hashAt h fuel p=some (.empty j none))∨∃j i next,iL t hashAt h fuel p=some (.candidate j i next)∧t.slot j= .live i∧hashAt i=h∧0<d∧Meets t (d - 1) next
 |0,d,p,hf,_=>by lia
 |fuel+1,d,p,hf,hM=>by
  obtain⟨hp,s,hs,es⟩:=hM;unfold iL;cases hsl:t.slot p.j with
  |empty=>exact .inl ⟨p.j,by rw[hp]⟩
  |dummy=>exact absurd hsl (xeZ hd _)
  |live i=>
   cases s with
   |zero=>rw[show adv t 0 p=p from rfl,hsl]at es;cases es
   |succ s=>
    have hM':Meets t (d - 1) (t.advance p):=⟨by rw[xiz,hp],s,by lia,es⟩;dsimp only
    by_cases he:(hashAt i==h)=true
    ·rw[if_pos he];exact .inr ⟨p.j,i,t.advance p,rfl,hsl,by simpa using he,by lia,hM'⟩
    ·rw[if_neg he];rcases xe0 hd hashAt h fuel (d - 1) (t.advance p) (by lia) hM' with z|⟨j,i',next,z1,z2,z3,z4,z5⟩
     ·exact .inl z
     ·exact .inr ⟨j,i',next,z1,z2,z3,by lia,z5.1,z5.2.imp fun s q=>⟨by lia,q.2⟩⟩
end ST
end L2
namespace L2
open PySem PySem.Spec PyProof.Rows
namespace ST
theorem xd3{mask:Nat}{owner:Array (Option Nat)}{e:Nat}(he:owner[e]? =some none):∀(fuel k i p:Nat),k<fuel→(lp mask k (i,p)).1=e→
  ∃j,fm mask owner fuel i p=some j∧owner[j]? =some none
 |0,k,i,p,h,_=>by lia
 |fuel+1,k,i,p,h,hl=>by
  unfold fm;cases hf:(aI (fX mask i+1 - i)).find? fun k=>(owner.getD (i+k) (some 0)).isNone with
  |some k'=>
   refine⟨i+k',rfl,?_⟩;have:=ka hf;rw[dY]at this;cases ho:owner[i+k']? with
   |none=>rw[ho]at this;cases this
   |some x=>
    rw[ho]at this;cases x with
    |none=>rfl
    |some y=>cases this
  |none=>
   dsimp only;cases k with
   |zero=>
    have hi:i=e:=hl;have:=iq.mp hf 0 (a7.mpr (by unfold fX;split<;> lia));rw[lW,hi,dY,he]at this;exact absurd rfl this
   |succ k=>exact xd3 he fuel k _ _ (by lia) hl
theorem xiB{k:Nat}:∀{l:List (Option Nat)} {j:Nat},l[j]? =some none→((l.set j (some k)).filterMap id).length=(l.filterMap id).length+1∧∀x∈(l.set j (some k)).filterMap id,x=k∨x∈l.filterMap id
 |[],j,h=>by simp at h
 |a::l,0,h=>by
  have:a=none:=by simpa using h
  subst this;exact⟨by simp,fun x hx=>by simpa using hx⟩
 |a::l,j+1,h=>by
  obtain⟨h1,h2⟩:=xiB (k:=k) (l:=l) (j:=j) (by simpa using h);cases a with
  |none=>exact⟨by simpa using h1,fun x hx=>by simpa using h2 x (by simpa using hx)⟩
  |some y=>
   refine⟨by simpa using h1,fun x hx=>?_⟩;have hx:x∈y::(l.set j (some k)).filterMap id:=hx;show x=k∨x∈y::l.filterMap id;rcases az.mp hx with z|z
   ·exact .inr (by rw[z];exact aA)
   ·rcases h2 x z with z|z
    ·exact .inl z
    ·exact .inr (aq _ z)
theorem xgD:∀{l:List (Option Nat)},(l.filterMap id).length<l.length→∃e:Nat,l[e]? =some none
 |[],h=>by simp at h
 |none::l,h=>⟨0,rfl⟩
 |some y::l,h=>by
  have h:(y::l.filterMap id).length<(some y::l).length:=h;rw[aY,aY]at h;obtain⟨e,he⟩:=xgD (l:=l) (by lia);exact⟨e+1,by simpa using he⟩
structure Good(mask:Nat)(owner:Array (Option Nat))(k:Nat):Prop where
 size:owner.size=mask+1
 count:(owner.toList.filterMap id).length=k
 lt:∀x∈owner.toList.filterMap id,x<k
theorem xe1{mask:Nat}(hm:Mk mask):∀(hs:List Int) (owner:Array (Option Nat)) (k:Nat),Good mask owner k→k+hs.length≤mask+1→
  ∃owner',(hs.foldl (fun(acc:Option (Array (Option Nat)×Nat)) h=>do
   let(owner,k) ←acc
   let j ←fm mask owner (cu mask) (cw h%(mask+1)) (cw h)
   pure (owner.setIfInBounds j (some k),k+1)) (some (owner,k)))=some (owner',k+hs.length)∧Good mask owner' (k+hs.length)
 |[],owner,k,g,_=>⟨owner,rfl,g⟩
 |h::hs,owner,k,g,hl=>by
  rw[aY]at hl;obtain⟨e,he⟩:=xgD (l:=owner.toList) (by rw[g.count,aM,g.size];lia);have he':owner[e]? =some none:=by rw[←du];exact he
  have hel:e<mask+1:=by have:=(iE.mp he').1;rw[g.size]at this;exact this
  have hb:cw h<2^64:=by
   unfold cw;have:=bt h (show(0:Int)<2^64 by decide);have:=bo h (show(2^64:Int)≠0 by decide);lia
  obtain⟨n,hn,en⟩:=reach hm (Nat.mod_lt (cw h) (show 0<mask+1 by lia)) hb hel;obtain⟨j,ej,hj⟩:=xd3 (mask:=mask) he' (cu mask) n _ _ hn en;have g':Good mask (owner.setIfInBounds j (some k)) (k+1):=by
   have hj':owner.toList[j]? =some none:=by rw[du];exact hj
   obtain⟨f1,f2⟩:=xiB (k:=k) hj';refine⟨by rw[Array.size_setIfInBounds];exact g.size,?_,fun x hx=>?_⟩
   ·rw[iF,f1,g.count]
   ·rw[iF]at hx;rcases f2 x hx with z|z
    ·lia
    ·have:=g.lt x z;lia
  obtain⟨o',e1,e2⟩:=xe1 hm hs _ (k+1) g' (by lia);refine⟨o',?_,by rw[aY,show k+(hs.length+1)=k+1+hs.length by lia];exact e2⟩;rw[j8,aY,show k+(hs.length+1)=k+1+hs.length by lia];show hs.foldl _ (Option.bind (fm mask owner (cu mask) (cw h%(mask+1)) (cw h)) fun j=>some (owner.setIfInBounds j (some k),k+1))=_;rw[ej];exact e1
theorem xiC{mask:Nat}(hm:Mk mask)(hs:Array Int)(hl:hs.size≤mask+1):∃owner,l6 mask hs=some owner∧Good mask owner hs.size:=by
 have g0:Good mask (Array.replicate (mask+1) none) 0:=by
  refine⟨by simp,?_,?_⟩
  ·rw[km];simp
  ·intro x hx;rw[km]at hx;simp at hx
 obtain⟨o',e1,e2⟩:=xe1 hm hs.toList _ 0 g0 (by rw[aM];lia);rw[h9,aM]at e1 e2;refine⟨o',?_,e2⟩;unfold l6;rw[←Array.foldl_toList,e1];rfl
theorem xjB:∀(l:List (Option Nat)),((aI l.length).filterMap fun j=>(l[j]?.getD none).map fun x=>(j,x)).map (·.2)=l.filterMap id:=by
 intro l;rw[List.map_filterMap];have e:l=(aI l.length).map fun j=>l[j]?.getD none:=by
  refine eC fun i=>?_;rw[au]
  by_cases hi:i<l.length
  ·rw[fR hi,ag hi];simp[ag hi]
  ·rw[cX (by lia),cX (by simp;lia)];rfl
 conv=>rhs;rw[e,lQ]
 congr 1
 funext j
 show kZ (fun x=>x.snd) (kZ (fun x=>(j,x)) (l[j]?.getD none))=l[j]?.getD none;cases l[j]?.getD none<;> rfl
theorem xiD{mask finger moves:Nat}{led plain:Bool}(hm:Mk mask)(hs:Array Int)(hl:hs.size≤mask+1):
  ∃t order,SetTable.laid mask finger moves led plain hs=some (t,order)∧t.mask=mask∧t.dummies=#[]∧t.led=led∧t.place.size=hs.size∧order.size=hs.size∧∀x∈order.toList,x<hs.size:=by
 obtain⟨owner,e,g⟩:=xiC hm hs hl;have e0:((aI (mask+1)).filterMap fun j=>(owner.getD j none).map (j,·))=(aI owner.toList.length).filterMap fun j=>(owner.toList[j]?.getD none).map fun x=>(j,x):=by
  rw[aM,g.size]
  congr 1
  funext j
  rw[dY,du]
 have e2:=xjB owner.toList;rw[←e0]at e2;have e3:=congrArg cn e2;rw[g.count,ab]at e3;refine⟨{mask,place:=(((aI (mask+1)).filterMap fun j=>(owner.getD j none).map (j,·)).map (·.1)).toArray,dummies:=#[],finger,led,moves,plain},(((aI (mask+1)).filterMap fun j=>(owner.getD j none).map (j,·)).map (·.2)).toArray,?_,rfl,rfl,rfl,?_,?_,?_⟩
 ·unfold SetTable.laid;rw[e];rfl
 ·rw[av,ab];exact e3
 ·rw[av,ab];exact e3
 ·intro x hx;have:x∈owner.toList.filterMap id:=by rw[←e2];simpa using hx
  exact g.lt x this
theorem xe2{α:Type}(es:Array α):∀(l:List Nat),(∀x∈l,x<es.size)→(l.filterMap (es[·]?)).length=l.length∧∀y∈l.filterMap (es[·]?),y∈es.toList
 |[],_=>⟨rfl,fun y hy=>by simp at hy⟩
 |x::l,h=>by
  obtain⟨h1,h2⟩:=xe2 es l fun y hy=>h y (aq _ hy);have hx:=h x aA;have e:es[x]? =some es[x]:=cF hx;rw[List.filterMap_cons_some e];refine⟨by rw[aY,aY,h1],fun y hy=>?_⟩;rcases az.mp hy with z|z
  ·rw[z];exact cb.mpr (dH hx)
  ·exact h2 y z
structure TOk(t:cJ)(n:Nat):Prop where
 dum:t.dummies=#[]
 size:t.place.size=n
 room:(t.mask=7∧n≤4)∨(t.mask=31∧n≤18)∨(t.mask=127∧n≤76)
theorem TOk.mk'{t:cJ}{n:Nat}(h:TOk t n):Mk t.mask:=by
 unfold Mk;rcases h.room with z|z|z
 ·exact .inl z.1
 ·exact .inr (.inl z.1)
 ·exact .inr (.inr z.1)
theorem TOk.le{t:cJ}{n:Nat}(h:TOk t n):n≤t.mask:=by
 rcases h.room with z|z|z<;> lia
theorem TOk.fits{t:cJ}{n:Nat}(h:TOk t n):t.fits n=true:=by
 unfold iG iH;rw[h.dum,h.size];have:=h.le;simp;exact this
theorem TOk.odd{t:cJ}{n:Nat}(h:TOk t n):t.gaveWay=false:=by
 unfold SetTable.gaveWay;rcases h.room with z|z|z<;> rw[z.1]<;> rfl
theorem xe3{α:Type}(xs:Array α)(p:Nat)(x:α):(cT xs p x).size=xs.size+1:=by
 unfold cT;simp only[Array.size_append,kd,Array.size_extract];lia
theorem xkX{α:Type}(xs:Array α)(p:Nat)(x y:α)(h:y∈(cT xs p x).toList):y=x∨y∈xs.toList:=by
 unfold cT at h;rw[cb,Array.mem_append,Array.mem_push]at h;rcases h with(z|z)|z
 ·obtain⟨i,_,rfl⟩:=ib.mp z;exact .inr (cb.mpr (dH _))
 ·exact .inl z
 ·obtain⟨i,_,rfl⟩:=ib.mp z;exact .inr (cb.mpr (dH _))
end ST
end L2
namespace L2
open PySem PySem.Spec PyProof.Rows
namespace ST
section
variable {prog:aF} {w:World} {A:aU} {E:Value→ae→Prop} {s:ae}
abbrev yh(prog:aF)(w:World)(h:Heap)(ks:List Key)(a:Addr):Prop:=IsTupleKey (xK prog w) h ks a
theorem xeh(n:Nat){v:Value}(h:carriedByValue v=true):iM n v=pure false:=by
 cases v<;> first|(cases h;done)|(cases n<;> rfl)
theorem xe4{ks:List Key}{a:Addr}{Q:Bool→ae→Prop}(hk:yh prog w s.heap ks a)(h:Q false s):wpAny (model prog w) A (iM 8 (.ref a)) Q E s:=by
 have hT:=hk.typeIs;obtain⟨o,items,n,ho,hc,hd,hi⟩:=hk;unfold iM;refine aa (wpAny_typeOf_ref ho ?_);rw[hc];refine aa (ah ?_);simp only[iI,aV,if_false];refine aa (eQ ho hd ?_);dsimp only;refine aa ?_;show wpAny _ _ (forIn items _ _) _ _ s;rw[←dZ];refine gF _ (fun rest r s'=>r.1=none∧s'=s∧∀v∈rest,carriedByValue v=true) _ ?_ ?_ _ _ ⟨rfl,rfl,hi.byValue⟩
 ·rintro v rest r s' ⟨hr,rfl,hall⟩;rw[xeh _ (hall v aA)];refine aa (ah ?_);simp only[aV,if_false];exact ah ⟨rfl,rfl,fun u hu'=>hall u (aq _ hu')⟩
 ·rintro⟨r1,r2⟩ s' ⟨hr,rfl,_⟩;simp only at hr;subst hr;exact ah h
theorem xcK:∀{ks:List Key} {vs:List Value},ItemsAre (xK prog w) ks vs→∀v∈vs,v.scannable=true
 |_,_,.nil,v,hv=>by simp at hv
 |_,_,.cons h t,v,hv=>by
  rcases az.mp hv with rfl|hv
  ·rcases yb h with⟨i,t,_,rfl⟩|⟨x,t,_,rfl⟩<;> rfl
  ·exact xcK t v hv
theorem xmp{ks:List Key}{a:Addr}{Q:Bool→ae→Prop}(hk:yh prog w s.heap ks a)(h:∀b,Q b s):wpAny (model prog w) A (hashByValue 8 (.ref a)) Q E s:=by
 have hT:=hk.typeIs;obtain⟨o,items,n,ho,hc,hd,hi⟩:=hk;unfold hashByValue;refine aa (kc hT F.slot_tuple_hash.lookup ?_);dsimp only;refine aa (eQ ho hd ?_);refine aa ?_;show wpAny _ _ (forIn items _ _) _ _ s;rw[←dZ];refine gF _ (fun rest r s'=>r.1=none∧s'=s∧∀v∈rest,v.scannable=true) _ ?_ ?_ _ _ ⟨rfl,rfl,xcK hi⟩
 ·rintro v rest r s' ⟨hr,rfl,hall⟩;rw[hashByValue_scannable 7 (hall v aA)];refine aa (ah ?_)
  split
  ·exact ah (ah (h _))
  ·exact ah ⟨rfl,rfl,fun u hu'=>hall u (aq _ hu')⟩
 ·rintro⟨r1,r2⟩ s' ⟨hr,rfl,_⟩;simp only at hr;subst hr;exact ah (h _)
theorem xkY{ks:List Key}{a:Addr}{stored:List Value}{Q:Bool→ae→Prop}(hk:yh prog w s.heap ks a)(hs:∀y∈stored,∃b kb,y= .ref b∧yh prog w s.heap kb b)(h:Q false s):
  wpAny (model prog w) A (searchCouldBeSeen (.ref a) stored) Q E s:=by
 unfold searchCouldBeSeen;refine aa ?_;refine gF _ (fun rest r s'=>r.1=none∧s'=s∧∀y∈rest,∃b kb,y= .ref b∧yh prog w s.heap kb b) _ ?_ ?_ _ _ ⟨rfl,rfl,hs⟩
 ·rintro v rest r s' ⟨hr,rfl,hall⟩;obtain⟨b,kb,rfl,hb⟩:=hall v aA;have nx:∀u∈rest,∃b kb,u= .ref b∧yh prog w s'.heap kb b:=fun u hu'=>hall u (aq _ hu');dsimp only
  split
  ·exact ah ⟨rfl,rfl,nx⟩
  ·refine aa (wpAny_eqIsQuiet_tuple hk ?_);simp only[iI,aV,if_false];refine aa (wpAny_eqIsQuiet_tuple hb ?_);simp only[iI,aV,if_false];refine aa (xe4 hk ?_);simp only[aV,if_false];refine aa (xe4 hb ?_);simp only[aV,if_false];exact ah ⟨rfl,rfl,nx⟩
 ·rintro⟨r1,r2⟩ s' ⟨hr,rfl,_⟩;simp only at hr;subst hr;exact ah h
end
end ST
end L2
namespace L2
open PySem PySem.Spec PyProof.Rows
namespace ST
section
variable {prog:aF} {w:World} {A:aU} {E:Value→ae→Prop} {s:ae}
theorem xiE{t:cJ}{j i:Nat}(h:t.slot j= .live i):t.place[i]? =some j:=by
 unfold ly at h;dsimp only at h
 split at h
 ·rename_i hb;injection h with h;rw[←h];exact eq_of_beq hb
 ·split at h<;> cases h
theorem xd4{a r:Addr}{o:Obj}{es:Array (Int×Value)}{ep n:Nat}{t:cJ}{k:List Key}{h:Int}{Q:SetFound→ae→Prop}(hu:A.units<cLine)(ho:s.heap.get? a=some o)(hd:o.data= .set es ep t)(hz:es.size=n)(ok:TOk t n)
  (hk:yh prog w s.heap k r) (hes:∀e∈es.toList,∃b kb,e.2= .ref b∧yh prog w s.heap kb b∧kb≠k) (q:∀slot,Q (.free slot false) s):
  ∀(fuel d:Nat) (stand:Option dw),d<fuel→d<10*cu t.mask→Meets t d (stand.getD (t.probeStart h))→wpAny (model prog w) A (eh a (.ref r) h true fuel stand) Q E s
 |0,d,stand,hf,_,_=>by lia
 |fuel+1,d,stand,hf,hd2,hM=>by
  have hfit:t.fits es.size=true:=by rw[hz];exact ok.fits
  unfold eh;refine aa (fA ho hd hfit ?_);dsimp only;rw[ok.odd];simp only[aV,if_false];have pg:=fun F=>xe0 ok.dum F h (10*cu t.mask) d _ hd2 hM;generalize hg:t.probe _ h (stand.getD (t.probeStart h))=met;rcases pg _ with⟨j,e⟩|⟨j,i,next,e,hsl,_,hd0,hM'⟩
  ·have e':=hg.symm.trans e;subst e';exact ah (q j)
  ·have e':=hg.symm.trans e;subst e';dsimp only;have hi:i<es.size:=by
    have:=(iE.mp (xiE hsl)).1;rw[ok.size]at this;lia
   have hei:es[i]? =some es[i]:=cF hi;obtain⟨b,kb,eb,hb,hne⟩:=hes es[i] (cb.mpr (dH hi));have hsm:t.sameMemory t.moves t.mask=some true:=by unfold SetTable.sameMemory;rw[if_pos (beq_self_eq_true _)]
   have hrec:=xd4 (h:=h) hu ho hd hz ok hk hes q fuel (d - 1) (some next) (by lia) (by lia) hM';generalize hE:es[i]=ei at hei eb;obtain⟨hh,y⟩:=ei;obtain rfl:y= .ref b:=eb;have tl:wpAny (model prog w) A (gq [bf b] (eqBool (.ref b) (.ref r)) >>= fun equal=>setState a >>= fun x=>if (true&&equal)=true then pure (ik none)else match x.2.2.sameMemory t.moves t.mask with
     |some same=>(match (if same=true then x.2.2.slot j else SetTable.Slot.empty)with
      |SetTable.Slot.live i'=>(match x.1[i']? with
       |some (_,y')=>isSame y' (.ref b) >>= fun l=>pure (if l=true then some i' else none) >>= fun still=>(match still with
        |none=>rule "set.search.anew" >>= fun _=>eh a (.ref r) h true fuel none
        |some i'=>if equal=true then pure (ik (some i'))else eh a (.ref r) h true fuel (some next))
       |none=>pure none >>= fun still=>(match still with
        |none=>rule "set.search.anew" >>= fun _=>eh a (.ref r) h true fuel none
        |some i'=>if equal=true then pure (ik (some i'))else eh a (.ref r) h true fuel (some next)))
      |_=>pure none >>= fun still=>(match still with
        |none=>rule "set.search.anew" >>= fun _=>eh a (.ref r) h true fuel none
        |some i'=>if equal=true then pure (ik (some i'))else eh a (.ref r) h true fuel (some next)))
     |_=>il "set.changed-during-lookup:is-the-new-block-at-the-old-address") Q E s:=by
    refine aa (bB (wpAny_eqBool_tuple hu hb hk ?_));rw[decide_eq_false hne];refine aa (fA ho hd hfit ?_);dsimp only;simp only[ku,aV,if_false];rw[hsm];dsimp only;rw[if_pos rfl,hsl];dsimp only;rw[hei];dsimp only;refine aa (wpAny_isSame_ref_self ?_);refine aa (ah ?_);exact hrec
   split
   ·refine aa (xkY hk (fun y hy=>?_) ?_)
    ·obtain⟨e,he,rfl⟩:=aG.mp hy;have:e∈es.toList:=by
      rw[cb,Array.mem_filter]at he;exact cb.mpr he.1
     obtain⟨b',kb',e1,e2,_⟩:=hes e this;exact⟨b',kb',e1,e2⟩
    ·simp only[aV,if_false];rw[hei];exact tl
   ·rw[hei];exact tl
def uM(prog:aF)(w:World)(h:Heap)(a:Addr)(n:Nat)(p:Addr→List Key→Prop):Prop:=
 ∃o es ep t,h.get? a=some o∧o.ExactSet∧o.data= .set es ep t∧es.size=n∧TOk t n∧∀e∈es.toList,∃b kb,e.2= .ref b∧yh prog w h kb b∧p b kb
theorem yh.but{h h':Heap}{a b:Addr}{o:Obj}{es:Array (Int×Value)}{ep:Nat}{t:cJ}{k:List Key}(x:yh prog w h k b)(ho:h.get? a=some o)(hd:o.data= .set es ep t)(hs:f6 a h h'):yh prog w h' k b:=by
 obtain⟨o',items,n,ho',hc,hd',hi⟩:=x;have hne:b≠a:=by
  rintro rfl;obtain rfl:o'=o:=bw (ho'.symm.trans ho);rw[hd]at hd';exact nomatch hd'
 exact⟨o',items,n,(hs.2 b hne).trans ho',hc,hd',hi⟩
theorem xe5:ir (gr 5)=32:=by decide+kernel
theorem xe6:ir (gr 19)=128:=by decide+kernel
theorem stored{h:Heap}{a:Addr}{o:Obj}{es:Array (Int×Value)}{ep:Nat}{t:cJ}(ho:h.get? a=some o)(hd:o.data= .set es ep t)(es':Array (Int×Value))(t':cJ):
  (h.update a (la es' t')).get? a=some {o with data:=.set es' (ep+1) t'}:=by
 have:=cW (la es' t') ho (by rw[putSet_of es' t' hd];rfl);rw[putSet_of es' t' hd]at this;exact this
theorem xmq{a r:Addr}{n:Nat}{p:Addr→List Key→Prop}{k:List Key}{hv:Int}{Q:Bool→ae→Prop}(hu:A.units<cLine)(hS:uM prog w s.heap a n p)(hn:n<76)(hk:yh prog w s.heap k r)(hp:∀b,¬p b k)
  (q:∀h',f6 a s.heap h'→uM prog w h' a (n+1) (fun b x=>p b x∨(b=r∧x=k))→Q true {s with heap:=h'}):wpAny (model prog w) A (setAddHashed a (.ref r) hv) Q E s:=by
 obtain⟨o,es,ep,t,ho,hex,hd,hz,ok,hes⟩:=hS;have hfit:t.fits es.size=true:=by rw[hz];exact ok.fits
 unfold setAddHashed setAddHashedIn;refine bB (aa (fA ho hd hfit ?_));dsimp only;have hsc:byScan (.ref r) es=false:=rfl;rw[hsc];simp only[aV,if_false];have hle:=ok.le;refine aa (xd4 (h:=hv) hu ho hd hz ok hk (fun e he=>?_) (fun slot=>?_) 100000 (10*cu t.mask - 1) none ?_ ?_ (xf7 ok.mk' ok.dum (by rw[ok.size];exact hle) hv))
 ·obtain⟨b,kb,e1,e2,e3⟩:=hes e he;exact⟨b,kb,e1,e2,fun z=>hp b (z▸e3)⟩
 ·dsimp only;refine aa (fA ho hd hfit ?_);dsimp only;have fin:∀b:Bool,wpAny (model prog w) A (do
    storeSet a (cT es (t.put slot).2 (hv,.ref r)) (if b=true then(t.put slot).1 else{(t.put slot).1 with plain:=false})
    if (!false&&(if b=true then(t.put slot).1 else{(t.put slot).1 with plain:=false}).tooFull)=true then do
      setRelay a (gr (es.size+1))
      pure true
     else pure true) Q E s:=by
   intro b;generalize hT:(if b=true then(t.put slot).1 else{(t.put slot).1 with plain:=false})=t1;have f1:t1.place.size=n+1:=by
    rw[←hT];have:(cT t.place (mj t.place slot) slot).size=n+1:=by rw[xe3,ok.size]
    split<;> exact this
   have f2:t1.dummies=#[]:=by
    have h0:fE t.dummies slot=false:=by
     unfold fE;rw[ok.dum,beq_eq_false_iff_ne];intro z;simp at z
    have:(t.put slot).1.dummies=#[]:=by
     show(if fE t.dummies slot=true then _ else t.dummies)=#[];rw[h0];exact ok.dum
    rw[←hT]
    split<;> exact this
   have f3:t1.mask=t.mask:=by
    rw[←hT]
    split<;> rfl
   have hz1:(cT es (t.put slot).2 (hv,.ref r)).size=n+1:=by rw[xe3,hz]
   have hm1:∀e∈(cT es (t.put slot).2 (hv,bf r)).toList,∃b kb,e.2= .ref b∧yh prog w s.heap kb b∧(p b kb∨(b=r∧kb=k)):=by
    intro e he;rcases xkX _ _ _ _ he with rfl|he
    ·exact⟨r,k,rfl,hk,.inr ⟨rfl,rfl⟩⟩
    ·obtain⟨b,kb,e1,e2,e3⟩:=hes e he;exact⟨b,kb,e1,e2,.inl e3⟩
   generalize cT es (t.put slot).2 (hv,.ref r)=es1 at hz1 hm1;refine aa (wpAny_storeSet_of ho hd ?_ (by rw[hz1,ay];lia));have ho1:=stored ho hd es1 t1;have hsb:=bK s.heap a (la es1 t1)
   by_cases hfull:t1.tooFull=true
   ·rw[hfull];simp only[Bool.not_false,gE,if_true];have hgr:∃m,ir (gr (es.size+1))=m+1∧((m=31∧n+1≤18)∨(m=127∧n+1≤76)):=by
     unfold md iH at hfull;rw[f1,f2,f3]at hfull;have hfull:(n+1+0)*5≥t.mask*3:=of_decide_eq_true hfull;rcases ok.room with⟨z1,z2⟩|⟨z1,z2⟩|⟨z1,z2⟩
     ·have:es.size+1=5:=by lia
      rw[this,xe5];exact⟨31,rfl,.inl ⟨rfl,by lia⟩⟩
     ·have:es.size+1=19:=by lia
      rw[this,xe6];exact⟨127,rfl,.inr ⟨rfl,by lia⟩⟩
     ·lia
    obtain⟨m,em,hm⟩:=hgr;have hMk:Mk m:=by
     rcases hm with z|z
     ·exact .inr (.inl z.1)
     ·exact .inr (.inr z.1)
    have hfit1:t1.fits es1.size=true:=by
     unfold iG iH;rw[f1,f2,f3,hz1];have:n+1≤t.mask:=by rcases ok.room with z|z|z<;> lia
     simp;exact this
    have hmn:n+1≤m:=by rcases hm with z|z<;> lia
    obtain⟨t2,order,el,e1,e2,e3,e4,e5,e6⟩:=xiD (finger:=t1.finger) (moves:=t1.movedTo m) (led:=t1.led) (plain:=t1.plain) hMk (es1.map (·.1)) (by rw[Array.size_map,hz1];lia);rw[Array.size_map,hz1]at e4 e5 e6;refine aa ?_;unfold setRelay;refine aa (fA ho1 rfl hfit1 ?_);dsimp only;rw[em];rw[if_neg (by rw[ay];rcases hm with z|z<;> lia)];have er:t1.relaid (es1.map (·.1)) (gr (es.size+1))=some (t2,order):=by
     unfold SetTable.relaid;rw[em];exact el
    rw[er];obtain⟨pl,pm⟩:=xe2 es1 order.toList (by rw[hz1];exact e6);have hes2:(order.filterMap (es1[·]?)).toList=order.toList.filterMap (es1[·]?):=by simp
    have hz2:(order.filterMap (es1[·]?)).size=n+1:=by
     rw[←aM,hes2,pl,aM,e5]
    have hne:((order.filterMap (es1[·]?)).size != es1.size)=false:=by rw[hz2,hz1];simp
    refine aa ?_;show wpAny _ _ (if ((order.filterMap (es1[·]?)).size != es1.size)=true then _ else _) _ _ _;rw[hne];simp only[aV,if_false];refine ah ?_;dsimp only;refine wpAny_storeSet_of ho1 rfl (ah ?_) (by rw[hz2,ay];lia);have ho2:=stored ho1 rfl (order.filterMap (es1[·]?)) t2;have hsb2:=hsb.trans (bK _ a (la (order.filterMap (es1[·]?)) t2));refine q _ hsb2 ⟨_,_,_,t2,ho2,hex,rfl,hz2,⟨e2,e4,?_⟩,fun e he=>?_⟩
    ·rw[e1];rcases hm with z|z
     ·exact .inr (.inl z)
     ·exact .inr (.inr z)
    ·rw[hes2]at he;obtain⟨b,kb,q1,q2,q3⟩:=hm1 e (pm e he);exact⟨b,kb,q1,yh.but q2 ho hd hsb2,q3⟩
   ·have hfull':t1.tooFull=false:=by simpa using hfull
    rw[hfull'];simp only[ku,aV,if_false];refine ah (q _ hsb ⟨_,es1,_,t1,ho1,hex,rfl,hz1,⟨f2,f1,?_⟩,fun e he=>?_⟩)
    ·unfold md iH at hfull';rw[f1,f2,f3]at hfull';have hfull2:¬((n+1+0)*5≥t.mask*3):=of_decide_eq_false hfull';rw[f3];rcases ok.room with⟨z1,z2⟩|⟨z1,z2⟩|⟨z1,z2⟩
     ·exact .inl ⟨z1,by lia⟩
     ·exact .inr (.inl ⟨z1,by lia⟩)
     ·exact .inr (.inr ⟨z1,by lia⟩)
    ·obtain⟨b,kb,q1,q2,q3⟩:=hm1 e he;exact⟨b,kb,q1,yh.but q2 ho hd hsb,q3⟩
  split
  ·exact aa (xmp hk fun b=>fin b)
  ·exact aa (ah (fin true))
 ·have:cu t.mask≤142:=by unfold cu;rcases ok.room with z|z|z<;> lia
  lia
 ·have:0<cu t.mask:=by unfold cu;lia
  lia
end
end ST
end L2
namespace L2
open PySem PySem.Spec PyProof.Rows
namespace ST
section
variable {prog:aF} {w:World} {A:aU} {E:Value→ae→Prop} {s:ae}
theorem uM.imp{h:Heap}{a:Addr}{n:Nat}{p p':Addr→List Key→Prop}(x:uM prog w h a n p)(f:∀b k,p b k→p' b k):uM prog w h a n p':=by
 obtain⟨o,es,ep,t,h1,h2,h3,h4,h5,h6⟩:=x;exact⟨o,es,ep,t,h1,h2,h3,h4,h5,fun e he=>let⟨b,kb,q1,q2,q3⟩:=h6 e he;⟨b,kb,q1,q2,f _ _ q3⟩⟩
theorem uM.mv{h h':Heap}{a:Addr}{n:Nat}{p:Addr→List Key→Prop}(x:uM prog w h a n p)(f:∀b o,h.get? b=some o→((∃k,p b k)∨b=a)→h'.get? b=some o):uM prog w h' a n p:=by
 obtain⟨o,es,ep,t,h1,h2,h3,h4,h5,h6⟩:=x;refine⟨o,es,ep,t,f _ _ h1 (.inr rfl),h2,h3,h4,h5,fun e he=>?_⟩;obtain⟨b,kb,q1,⟨o',items,m,q2,q3,q4,q5⟩,q6⟩:=h6 e he;exact⟨b,kb,q1,⟨o',items,m,f _ _ q2 (.inl ⟨kb,q6⟩),q3,q4,q5⟩,q6⟩
theorem yh.mv{h h':Heap}{k:List Key}{b:Addr}(x:yh prog w h k b)(f:∀o,h.get? b=some o→h'.get? b=some o):yh prog w h' k b:=by
 obtain⟨o,items,m,q1,q2,q3,q4⟩:=x;exact⟨o,items,m,f _ q1,q2,q3,q4⟩
variable {R:f7→ae→Prop} {I:Addr} {fp wr:List Addr} {G:Array GenState→Array GenState→Prop} {n:Nat} {P:Nat→Value→Prop} {St:Nat→ae→Prop}
theorem xna(W:WalksS prog w A.in1 I fp wr G n P St)(S:Addr)(hSf:S∉fp)(rs:Nat→Addr)(ks:Nat→List Key)(hv:∀i v,P i v→v= .ref (rs i))(hnd:∀i j,i<j→j<n→ks i≠ks j)(h76:n≤76)(hu:A.in1.units<cLine)
  (hw:∀j,j<n→rs j∉S::wr):∀(d i:Nat) (s:ae),n - i=d→i≤n→St i s→uM prog w s.heap S i (fun b x=>∃j,j<i∧b=rs j∧x=ks j)→(∀j,j<n→yh prog w s.heap (ks j) (rs j))→
   (∀s',Moved (S::wr) G s s'→uM prog w s'.heap S n (fun b x=>∃j,j<n∧b=rs j∧x=ks j)→R (.ok (.ret .none)) s')→cQ (model prog w) A (.builtin "set.update.loop" ⟨[.ref S,.ref I],[]⟩) R s:=by
 have hSw:S∉wr:=fun z=>hSf (W.sub _ z);have up:∀b∈wr,b∈S::wr:=fun b hb=>aq _ hb;intro d
 induction d with
 |zero=>
  intro i s e0 hi st hS hk fin;obtain rfl:i=n:=by lia
  refine bN gm ?_;rw[bE d5 _];show wpAny _ A.in1 (gR (.ref I) >>= _) _ _ s;refine aa (W.done s _ _ st fun s' hm=>?_);refine ah (fin s' (hm.mono up) (hS.mv fun b o e z=>?_));rcases z with⟨k,j,hj,z,_⟩|z
  ·exact hm.heap b o (z▸fun y=>hw j hj (aq _ y)) e
  ·exact hm.heap b o (z▸hSw) e
 |succ d ih=>
  intro i s e0 hi st hS hk fin;have hlt:i<n:=by lia
  refine bN gm ?_;rw[bE d5 _];show wpAny _ A.in1 (gR (.ref I) >>= _) _ _ s;refine aa (W.item i s _ _ hlt st fun v s' hP st' hm=>?_);obtain rfl:=hv i v hP;have keep:∀j,j<n→∀o,s.heap.get? (rs j)=some o→s'.heap.get? (rs j)=some o:=fun j hj o e=>hm.heap _ o (fun y=>hw j hj (aq _ y)) e;have hS1:=hS.mv (h':=s'.heap) fun b o e z=>by
   rcases z with⟨k,j,hj,z,_⟩|z
   ·subst z;exact keep j (by lia) o e
   ·exact hm.heap b o (z▸hSw) e
  have hk1:∀j,j<n→yh prog w s'.heap (ks j) (rs j):=fun j hj=>yh.mv (hk j hj) (keep j hj);show wpAny _ A.in1 (gq [bf (rs i)] (setAdd S (.ref (rs i))) >>= _) _ _ s';refine aa (bB ?_);unfold setAdd;refine bB (aa (wpAny_pyHash_tuple hu (hk1 i hlt) ?_));generalize htk:s'.toks+((ks i).length+1)=tk;refine xmq (s:={s' with toks:=tk}) (n:=i) (p:=fun b x=>∃j,j<i∧b=rs j∧x=ks j) hu hS1 (by lia) (hk1 i hlt) (fun b ⟨j,hj,_,e⟩=>hnd j i hj hlt e.symm) fun h' sb hS2=>?_;have old:∀b o,b≠S→s'.heap.get? b=some o→h'.get? b=some o:=fun b o hb e=>by rw[sb.2 b hb];exact e
  refine ah ⟨bI d5 _,ih (i+1) _ (by lia) hlt (W.frame _ s' _ _ st' ?_ fun b hb o e=>?_) (hS2.imp fun b x hx=>?_) (fun j hj=>?_) fun s2 hm2 hS3=>?_⟩
  ·show s'.toks≤tk;lia
  ·exact old b o (fun z=>hSf (z▸hb)) e
  ·rcases hx with⟨j,hj,e⟩|e
   ·exact⟨j,by lia,e⟩
   ·exact⟨i,by lia,e⟩
  ·exact yh.mv (hk1 j hj) fun o e=>old _ o (fun z=>hw j hj (z▸aA)) e
  ·refine fin s2 (Moved.trans W.gtrans ((hm.mono up).then_heap ?_ fun b o hb e=>?_) hm2) hS3
   ·show s'.toks≤tk;lia
   ·exact old b o (fun z=>hb (z▸aA)) e
theorem xht{h:Heap}{a:Addr}{led:Bool}(e:h.get? a=some {cls:=.type "set",dict:=none,data:=.set #[] 0 (.fresh 0 0 led)})(p:Addr→List Key→Prop):uM prog w h a 0 p:=
 ⟨_,#[],0,_,e,⟨rfl,rfl,rfl⟩,rfl,rfl,⟨rfl,rfl,.inl ⟨rfl,by lia⟩⟩,fun e he=>by simp at he⟩
theorem xiF{l:Addr}{items:Array Value}{rs:Nat→Addr}{ks:Nat→List Key}{Q:Value→ae→Prop}(hh:A.handled=none)(hu:A.units+10<cLine)(hl:s.heap.IsList l items)(hv:∀(i:Nat) (v:Value),items[i]? =some v→v= .ref (rs i))
  (hk:∀j,j<items.size→yh prog w s.heap (ks j) (rs j)) (hnd:∀i j,i<j→j<items.size→ks i≠ks j) (h76:items.size≤76)
  (q:∀(h':Heap) (tk:Nat),uM prog w h' s.heap.objs.size items.size (fun _ _=>True)→(∀b o,b<s.heap.objs.size→s.heap.get? b=some o→h'.get? b=some o)→Q (.ref s.heap.objs.size) {s with heap:=h',toks:=tk}):
  wpAny (model prog w) A (call (.type "set") [.ref l]) Q E s:=by
 obtain⟨cc,tl,hmro⟩:=PySem.F.called_set.mro;have g1:=PySem.F.called_set.made;have g2:=PySem.F.called_set.sub;refine gW (codeAny_of_tree ?_);show wpAny _ _ (callAny (.type "set") _) _ _ _;refine ah ⟨lT _ (by decide+kernel),bN PySem.F.entry_type_call ?_⟩;rw[Around.under_plain (weight_type_call_type "set" [.ref l] []) rfl];have g3:=PySem.F.called_set.notType;have g4:=PySem.F.called_set.canCreate;have g5:=PySem.F.typeCall_set_1 (.ref l)
 repeat (any_goals (first|assumption|wp_step))
 let o0:Bool→Obj:=fun led=>{cls:=.type "set",dict:=none,data:=.set #[] 0 (.fresh 0 0 led)}
 refine dB (code_set_new_1 (.ref l) (E:=E) (Q₁:=fun v s₁=>∃led:Bool,v= .ref s.heap.objs.size∧s₁={s with heap:=s.heap.push (o0 led)}) fun led=>⟨led,rfl,rfl⟩) fun r s₁ hr=>?_
 match r with
 | .error e=>exact hr
 | .ok (.ret v)=>
  obtain⟨led,rfl,rfl⟩:=hr;have eS:(s.heap.push (o0 led)).get? s.heap.objs.size=some (o0 led):=aB _ rfl;have hT:Shared.TypeIs {s with heap:=s.heap.push (o0 led)} (.ref s.heap.objs.size) "set":=⟨_,eS,rfl⟩;have g6:=PySem.F.called_set.init.lookup;have g7:=PySem.F.called_set.init.bind (.ref s.heap.objs.size)
  repeat (any_goals (first|assumption|wp_step))
  refine dB (codeAny_call_builtin (R:=wants (fun r s₂=>r= .none∧∃h' tk,s₂={s with heap:=h',toks:=tk}∧uM prog w h' s.heap.objs.size items.size (fun _ _=>True)∧
    (∀b o,b<s.heap.objs.size→s.heap.get? b=some o→h'.get? b=some o)) E) PySem.F.called_set.init.plain PySem.F.entry_set_init (check_set_init_1 hT ?_)) fun r₂ s₂ hr₂=>?_
  ·obtain⟨⟨oc,od,odt,os⟩,eL,c1,nl,d1⟩:=hl;obtain rfl:oc= .type "list":=c1;obtain rfl:odt= .seq items nl:=d1;have eL':(s.heap.push (o0 led)).get? l=some {cls:=.type "list",dict:=od,data:=.seq items nl,slots:=os}:=af _ eL;have k1:=PySem.F.sub_list_set;have k2:=PySem.F.sub_list_frozenset;have k3:(ck "list"==ck "dict")=false:=by decide
   have hL1:(s.heap.push (o0 led)).IsList l items:=⟨_,eL',rfl,nl,rfl⟩;unfold eP.«set.__init__» noKeywords Builtin.Frozenset.updateFrom;generalize hPI:pyIter=PI
   wp_walk
   subst hPI;refine fq hL1 ?_;refine aa (kB ?_);have hlS:l<s.heap.objs.size:=aj eL;have h3:A.in1.in1.in1.handled=none:=by simp[hh]
   have hsz:(s.heap.push (o0 led)).objs.size=s.heap.objs.size+1:=c5 _ _;have hlI:l≠(s.heap.push (o0 led)).objs.size:=by rw[hsz];exact ar (fz hlS)
   have hSf:s.heap.objs.size∉[(s.heap.push (o0 led)).objs.size,l]:=by
    rw[hsz];simp only[az,dW,or_false,not_or];exact⟨ar (cL _),eR hlS⟩
   have lt:∀j,j<items.size→rs j<s.heap.objs.size:=fun j hj=>by
    obtain⟨o,_,_,e,_⟩:=hk j hj;exact aj e
   refine xna (A:=A.in1.in1) (iP h3 _ l hlI items).toS s.heap.objs.size hSf rs ks hv hnd h76 ?_ (fun j hj=>?_) (items.size - 0) 0 _ (by lia) (aJ _) ⟨⟨_,aB _ rfl,rfl,rfl⟩,hL1.push _⟩ (xht (led:=led) (af _ eS) _) (fun j hj=>yh.mv (hk j hj) fun o e=>af _ (af _ e)) fun s' hm hS=>?_
   ·show A.units+1+1+1<cLine;lia
   ·have:=lt j hj;simp only[az,dW,or_false,not_or];exact⟨ar this,by rw[hsz];exact ar (fz this)⟩
   ·obtain⟨h',g',d',tk',os'⟩:=s';obtain rfl:g'=s.gens:=hm.gens;obtain rfl:d'=s.drawn:=hm.drawn;obtain rfl:os'=s.os:=hm.os;refine ah ?_;show wpAny _ _ (ret aZ) _ _ _;refine ah ⟨rfl,h',tk',rfl,hS.imp fun _ _ _=>trivial,fun b o hb e=>?_⟩;refine hm.heap b o ?_ (af _ (af _ e));simp only[az,dW,or_false,not_or];exact⟨ar hb,by rw[hsz];exact ar (fz hb)⟩
  ·match r₂ with
   | .error e=>exact hr₂
   | .ok (.ret r)=>
    obtain⟨rfl,h',tk,rfl,hS,hk'⟩:=hr₂
    repeat (any_goals (first|assumption|wp_step))
    exact q _ _ hS hk'
   | .ok .next=>exact hr₂.elim
   | .ok .brk=>exact hr₂.elim
   | .ok .cont=>exact hr₂.elim
 | .ok .next=>exact hr.elim
 | .ok .brk=>exact hr.elim
 | .ok .cont=>exact hr.elim
end
end ST
def xjC(a:Addr)(n:Nat):HO:=.ext fun h=>∃o es ep t,h.get? a=some o∧o.ExactSet∧o.data= .set es ep t∧es.size=n∧iG t n=true
section
variable {X:Cx}
def xnb(K:ai):List V→Hp→VK→Prop:=fun xs H Q=>∃(p:Addr) (ts:List Addr) (ks:List (List Key)),xs=[.ref p]∧SqL K H p (ts.map V.ref)∧Paired (fun t k=>H t=some (.tup (k.map kV))) ts ks∧ks.Nodup∧ks.length≤76∧∀d:Addr,H d=none→Q (.ref d) (upd H d (xjC d ks.length))
theorem xgE:∀{ts:List Addr} {us:List Value},Vals (ts.map V.ref) us→us=ts.map bf
 |[],_,h=>by cases h;rfl
 |t::ts,_,h=>by
  cases h with
  |cons a b=>
   obtain rfl:=xgE b;cases a;rfl
theorem xf8(hc:X.calm=true)(hu:X.A.units+64<cLine):yt X (.type "set") (xnb X.K):=by
 intro pins s σ H xs us Q I r h;obtain⟨p,ts,ks,rfl,hq,hts,hnd,hle,q⟩:=h;obtain⟨u,rfl,rx⟩:=vals1 r;cases rx;obtain⟨its,r',pl,hz⟩:=I.list hq;obtain rfl:=xgE r';have tl:ts.length=ks.length:=hts.length;have hsz:(ts.map bf).toArray.size=ks.length:=by simp[tl]
 refine ST.xiF (rs:=fun i=>ts.getD i 0) (ks:=fun i=>ks.getD i []) (I.ok.hd hc) (by lia) pl.isList (fun i v hv=>?_) (fun j hj=>?_) (fun i j hij hj e=>?_) (by rw[hsz];exact hle) fun h' tk hS hk=>?_
 ·rw[kC,au]at hv;obtain⟨t,ht,rfl⟩:=cD.mp hv;rw[bq,ht];rfl
 ·rw[hsz]at hj;obtain⟨t,ht,h1⟩:=um hts (ag hj);have e1:ts.getD j 0=t:=by rw[bq,ht];rfl
  have e2:ks.getD j []=ks[j]:=by rw[bq,ag hj];rfl
  show IsTupleKey (xK X.prog X.w) s.heap (ks.getD j []) (ts.getD j 0);rw[e1,e2];exact xeJ I.hok h1
 ·rw[hsz]at hj;have e1:ks.getD i []=ks[i]:=by rw[bq,ag (by lia)];rfl
  have e2:ks.getD j []=ks[j]:=by rw[bq,ag hj];rfl
  rw[e1,e2]at e;exact bc.mp hnd i j (by lia) hj hij e
 ·rw[hsz]at hS;obtain⟨o,es,ep,t,h1,h2,h3,h4,h5,_⟩:=hS;have hφ:∃o es ep t,h'.get? s.heap.objs.size=some o∧o.ExactSet∧o.data= .set es ep t∧es.size=ks.length∧iG t ks.length=true:=⟨o,es,ep,t,h1,h2,h3,h4,h5.fits⟩;refine⟨.ref _,_,I.laid (o:=xjC s.heap.objs.size ks.length) (h':=h') (t':=tk) (fun b o e=>hk b o (aj e) e) (ao _) ⟨hφ,⟨o,h1⟩,fun g1 g2 ⟨o,es,ep,t,z1,z2⟩ f=>⟨o,es,ep,t,f o z1,z2⟩⟩,rfl,q _ (I.hok.fresh (ao _))⟩
theorem xiG:yt X (.builtin "len") (fun xs H Q=>∃(p:Addr) (n:Nat),xs=[.ref p]∧H p=some (xjC p n)∧n≤1000∧Q (.int n) H):=by
 intro pins s σ H xs us Q I r h;obtain⟨p,n,rfl,hp,hn,q⟩:=h;obtain⟨u,rfl,rx⟩:=vals1 r;cases rx;obtain⟨⟨o,es,ep,t,e,x,d,hz,hft⟩,_⟩:=I.hok p _ hp;refine call_len_set e x d (by rw[hz];exact hft) (by rw[hz];lia) ?_;rw[hz];exact⟨.int n,H,I.tok _,⟨_,rfl⟩,q⟩
end
end L2
namespace HT
open PySem PyProof.Rows
open PySem.SeqAt
open PySem.AutoSeq1 (wpAny_loadPart')
open PySem.MeetsSeq PySem.MeetsSeq2 PySem.MeetsSeq3
theorem xjD(l:Addr)(its:Array Value)(n:Nat)(x:Value)(e:Value→Bool)(j:Nat)(hj:j<its.size)(hit:e its[j]=true)(hs:its.size≤aO)(k:Nat):
  ∀i:Nat,j - i=k→i≤j→(∀m (hm:m<its.size),i≤m→m<j→e its[m]=false)→Meets (eP.«list.remove.loop» ⟨[.ref l,x,dP i],[]⟩)
   (fun A R s=>s.heap.get? l=some {cls:=.type "list",dict:=none,data:=.seq its n,slots:=#[]}∧(∀y,y∈its→EqAt A.in1 s y x (e y))∧R (.ok (.ret .none)) {s with heap:=s.heap.update l (aN fun ys=>ys.eraseIdxIfInBounds j)}):=by
 induction k with
 |zero=>
  intro i hk hij hno prog w A R s h;obtain⟨hp,g,d,tk,os⟩:=s;obtain⟨hl,he,h⟩:=h;obtain rfl:i=j:=by lia
  wp_walk using bC hl
  have hi:its[((i:Nat):Int).toNat]? =some its[i]:=by simp[hj]
  rw[hi];refine aa (he _ (dH hj) prog w _ _ ?_);rw[hit];have hz:(its.eraseIdxIfInBounds i).size≤aO+1:=bp (size_erased its _) (Nat.le_succ_of_le hs)
  wp_walk using(cV hl rfl (hz:=hs) (_hz':=hz)),bC hl
  simpa using h
 |succ k ih=>
  intro i hk hij hno prog w A R s h;obtain⟨hp,g,d,tk,os⟩:=s;obtain⟨hl,he,h⟩:=h;have hlt:i<its.size:=by lia
  wp_walk using bC hl
  have hi:its[((i:Nat):Int).toNat]? =some its[i]:=by simp[hlt]
  have hc:((i:Int)+1)=((i+1:Nat):Int):=by push_cast;rfl
  rw[hi];refine aa (he _ (dH hlt) prog w _ _ ?_);rw[hno i hlt (ao _) (by lia)]
  wp_walk
  rw[hc];exact⟨bI plain_remove_loop _,bN entry_remove_loop (by
   rw[bE plain_remove_loop _];exact ih (i+1) (by lia) (by lia) (fun m hm h1 h2=>hno m hm (by lia) h2) prog w A R _ ⟨hl,he,h⟩)⟩
theorem xjE(l:Addr)(its:Array Value)(n:Nat)(x:Value)(e:Value→Bool)(j:Nat)(hj:j<its.size)(hit:e its[j]=true)(hs:its.size≤aO)(hno:∀m (hm:m<its.size),m<j→e its[m]=false):
  Meets (eP.«list.remove» ⟨[.ref l,x],[]⟩)
   (fun A R s=>s.heap.get? l=some {cls:=.type "list",dict:=none,data:=.seq its n,slots:=#[]}∧(∀y,y∈its→EqAt A.in1 s y x (e y))∧R (.ok (.ret .none)) {s with heap:=s.heap.update l (aN fun ys=>ys.eraseIdxIfInBounds j)}):=by
 intro prog w A R s h;obtain⟨hp,g,d,tk,os⟩:=s;obtain⟨hl,he,h⟩:=h
 wp_walk using bC hl
 exact⟨bI plain_remove_loop _,bN entry_remove_loop (by
  rw[bE plain_remove_loop _];exact xjD l its n x e j hj hit hs _ 0 rfl (aJ _) (fun m hm _ h2=>hno m hm h2) prog w A R _ ⟨hl,he,h⟩)⟩
end HT
namespace L2
open PySem PySem.Spec PyProof.Rows
section
variable {X:Cx}
theorem Vals.erase{xs:List V}{us:List Value}(h:Vals xs us)(j:Nat):Vals (xs.eraseIdx j) (us.eraseIdx j):=by
 induction h generalizing j with
 |nil=>exact .nil
 |cons r t ih=>cases j with
  |zero=>exact t
  |succ j=>exact .cons r (ih j)
def xnc(K:ai):V→List V→Hp→VK→Prop:=fun x vs H Q=>∃(l:Addr) (xs:List V) (v:V) (ds:List dF) (d dj:dF) (j:Nat),x= .ref l∧vs=[v]∧H l=some (.lst xs)∧Rps K H xs ds∧Rp K H v d∧bT d=true∧br ds=true∧
 ds[j]? =some dj∧cm dj d=true∧(∀i di,i<j→ds[i]? =some di→cm di d=false)∧Q .non (upd H l (.lst (xs.eraseIdx j)))
theorem xhu(hu:X.A.units+65<cLine):MtM X "list.remove" (xnc X.K):=by
 intro pins s σ H x vs v us Q I rx rv h;obtain⟨l,xs,v0,ds,d,dj,j,rfl,rfl,hH,hr,hd,sd,sc,hj,ej,hno,q⟩:=h;cases rx;obtain⟨u,rfl,ru⟩:=rv.one;obtain⟨z,its,n,r,hl,e⟩:=I.lstM hH;obtain⟨as,ra⟩:=Rps.reads I hr r;obtain⟨bs,rb⟩:=hd.reads I ru;have hm:=SeqAt.readsAll_map ds its as sc ra;have get:∀(i:Nat) (hi:i<its.length),ds[i]? =some (i7 s.heap its[i]):=fun i hi=>by
  rw[←hm,au,ag hi];rfl
 have hjl:j<its.length:=by
  have h1:=(aW.mp hj).1;rw[←hm,ab]at h1;exact h1
 have hzl:its.length≤aO:=by lia
 refine fL F.slot_list_remove ⟨_,e,rfl⟩ F.entry_list_remove (F.args_list_remove_2 _ _)
  (HT.xjE l its.toArray n u (fun y=>cm (i7 s.heap y) d) j (by simpa using hjl) ?_ (by simpa using hzl) (fun m hm2 hlt=>?_)) ⟨e,?_,?_⟩
 ·have:=get j hjl;rw[hj]at this;have:=bw this;show cm (i7 s.heap (its.toArray)[j]) d=true;rw[lb,←this];exact ej
 ·have hm3:m<its.length:=by simpa using hm2
  show cm (i7 s.heap (its.toArray)[m]) d=false;rw[lb];exact hno m _ hlt (get m hm3)
 ·exact SeqAt.items_eqAt (A:=X.A) (vs:=its.toArray) (by simpa using ra) rb sc (gA sd) (room_in_shaped sd hu)
 ·refine⟨.non,_,I.lset (its':=its.eraseIdx j) hH e ?_ (r.erase j) ?_,rfl,q⟩
  ·simp[Array.toList_eraseIdxIfInBounds,←gI]
  ·have:(xs.eraseIdx j).length≤xs.length:=(List.eraseIdx_sublist xs j).length_le;lia
end
end L2
namespace PySem.W
open PySem PySem.Calls PyProof.Rows
section
variable {prog:aF} {w:World} {A:aU} {E:Value→ae→Prop} {s:ae} {vs:List Value}
def xnd(h h':Heap):Prop:=(∀b o,h.get? b=some o→h'.get? b=some o)∧h.objs.size≤h'.objs.size
def jY(prog:aF)(w:World)(s:ae)(l:Addr)(vs:List Value):Prop:=∀(A:aU) (E:Value→ae→Prop) (Q:List Value→ae→Prop),(∀h',xnd s.heap h'→Q vs {s with heap:=h'})→wpAny (model prog w) A (collect (.ref l)) Q E s
theorem xjF{l:Addr}(hl:s.heap.IsList l vs.toArray)(hz:vs.length≤aO):jY prog w s l vs:=fun A E Q h=>by
 refine collect_list hl (h _ ⟨fun b o q=>?_,?_⟩) hz
 ·have hb:=ar (aj q);rw[lC _ _ _ _ hb,Heap.get?_push_ne _ _ _ hb];exact q
 ·rw[fM,k9];exact dz _
theorem xkZ{t:Addr}(ht:IsTup s.heap t vs.toArray)(hz:vs.length≤aO):jY prog w s t vs:=fun A E Q h=>by
 obtain⟨o,ho,hc,n,hd⟩:=ht;have hsz:vs.toArray.size≤aO:=by rw[av];exact hz
 have hnew:(s.heap.push (aK "list" #[] 0)).get? s.heap.objs.size=some (aK "list" #[] 0):=aB _ rfl;have hfull:=cW (aN (· ++vs.toArray)) hnew rfl;unfold collect;refine aa (kB (bN F.entry_proto_collect ?_));rw[bE F.plain_proto_collect _];show wpAny _ A.in1 (newList [] >>= fun q=>again (.builtin "list.__iadd__" ⟨[q,.ref t],[]⟩)) _ _ s;refine aa (c6 (ah ⟨bI F.plain_list_iadd _,bN F.entry_list_iadd ?_⟩));rw[bE F.plain_list_iadd _];have last:wpAny (model prog w) A (load s.heap.objs.size >>= fun z=>match z.data with|Data.seq xs _=>pure xs.toList|_=>il "internal:collect") Q E {s with heap:=(s.heap.push (aK "list" #[] 0)).update s.heap.objs.size (aN (· ++vs.toArray))}:=by
  refine aa (wpAny_load hfull (ah ?_));have e:((#[]:Array Value)++vs.toArray).toList=vs:=by simp
  show Q ((#[]:Array Value)++vs.toArray).toList _;rw[e];refine h _ ⟨fun b u q=>?_,?_⟩
  ·have hb:=ar (aj q);rw[lC _ _ _ _ hb,Heap.get?_push_ne _ _ _ hb];exact q
  ·rw[fM,k9];exact dz _
 refine a8 (wpAny_extend_seq (hsz:=hsz) (A:=A) (R:=fun r z=>r= .ok (.ret (.ref s.heap.objs.size))∧z={s with heap:=(s.heap.push (aK "list" #[] 0)).update s.heap.objs.size (aN (· ++vs.toArray))})
  (s:={s with heap:=s.heap.push (aK "list" #[] 0)}) s.heap.objs.size t (.ref s.heap.objs.size) 0 (.inr rfl) hnew (af _ ho) hc hd ⟨rfl,rfl⟩) (fun fin z hq=>?_) fun e z hq=>absurd hq.1 (by simp)
 cases fin with
 |done f=>
  obtain⟨e,rfl⟩:=hq;cases e;exact last
 |again c=>exact⟨hq.1,dB hq.2 fun r z hr=>by obtain⟨rfl,rfl⟩:=hr;exact last⟩
theorem xiH{l:Addr}{κ:SortKind}{lt:Nat→Nat→Bool}{Q:Value→ae→Prop}(hcol:jY prog w s l vs)(h64:vs.length<64)(S:L2.STO lt vs.length)
  (hkind:2≤vs.length→∀s':ae,(∀b o,s.heap.get? b=some o→s'.heap.get? b=some o)→wpAny (model prog w) A.in1.in1 (k6 vs.toArray) (fun κ' s''=>κ'=κ∧s'=s'') (fun _ _=>False) s')
  (hcmp:∀s':ae,(∀b o,s.heap.get? b=some o→s'.heap.get? b=some o)→∀i j (C:Bool→ae→Prop),i<vs.length→j<vs.length→C (lt i j) s'→wpAny (model prog w) A.in1.in1 (keyLt' κ (vs.getD i aZ) (vs.getD j aZ)) C (fun _ _=>False) s')
  (fin:∀p:Array Nat,L2.Pm vs.length p→L2.Up lt p vs.length→∀D h' c,s.heap.objs.size≤D→(∀b o,s.heap.get? b=some o→h'.get? b=some o)→h'.get? D=some (aK "list" (ak (p.toList.map fun i=>vs.getD i aZ)) c)→Q (.ref D) {s with heap:=h'}):
  wpAny (model prog w) A (call (.builtin "sorted") [.ref l]) Q E s:=by
 refine Calls.call_function_entry kind_sorted plain_sorted entry_sorted (args_sorted1 _) ?_;unfold eP.«sorted»;refine aa (m:=checkCount "sorted" 1 1 _) (ah ?_);refine aa (hcol _ _ _ fun h1 ⟨kp,hs⟩=>?_);refine aa (ef ?_ (by rw[ay];lia));have hoL:(h1.push (aK "list" vs.toArray 0)).get? h1.objs.size=some (aK "list" vs.toArray 0):=aB _ rfl;have keep2:∀(h':Heap),(∀b o,b≠h1.objs.size→(h1.push (aK "list" vs.toArray 0)).get? b=some o→h'.get? b=some o)→∀b o,s.heap.get? b=some o→h'.get? b=some o:=fun h' k b o q=>
  k b o (ar (aj (kp b o q))) (af _ (kp b o q))
 show wpAny _ _ _ _ _ {s with heap:=h1.push (aK "list" vs.toArray 0)};refine aa (bB (iX kJ ⟨_,hoL,rfl⟩ ke ?body (args_list_sort _)))
 case body=>
  refine xiu (s:={s with heap:=h1.push (aK "list" vs.toArray 0)}) (lt:=lt) (κ:=κ) hoL h64 S (fun h2 s' k=>hkind h2 s' (keep2 _ k)) (fun s' k=>hcmp s' (keep2 _ k)) fun p hp hu h' c k hc=>?_;exact⟨_,rfl,ah ⟨_,rfl,fin p hp hu _ h' c hs (keep2 _ k) hc⟩⟩
theorem xe7{b fin:Bool}{Q:Bool→ae→Prop}(h:Q fin s):∀(l:List Value) (i:Nat),KatLex prog w A b fin Q (l.zip l) i s
 |[],_=>kat_nil h
 |v::r,i=>kat_cons (mh v prog w _ _ (kat_yes (xe7 h r (i+1))))
theorem xjG{x y:Addr}{ox oy:Obj}{a b:Int}{t u:Tok}{r1 r2:List Value}{n k:Nat}{Q:Bool→ae→Prop}(hx:s.heap.get? x=some ox)(dx:ox.data= .seq (ak (.int a t::r1)) n)(hy:s.heap.get? y=some oy)(dy:oy.data= .seq (ak (.int b u::r2)) k)
  (ne:a≠b) (h:Q (decide (a<b)) s):wpAny (model prog w) A (keyLt' (tuples' true) (.ref x) (.ref y)) Q E s:=by
 refine kat_lt hx dx hy dy ?_;show KatLex prog w A true _ Q ((.int a t,.int b u)::r1.zip r2) 0 s;refine kat_cons (iU (kat_go (fun e=>absurd (by simpa using e) ne) fun e=>kat_no ?_));have z:=kat_lt_int (prog:=prog) (w:=w) (A:=A) (E:=fun _ _=>False) (t:=t) (u:=u) h;rw[kH]at z;exact z
theorem xiI{x y:Addr}{ox oy:Obj}{c:Str}{a b:Int}{t u t' u':Tok}{r1 r2:List Value}{n k:Nat}{Q:Bool→ae→Prop}(hx:s.heap.get? x=some ox)(dx:ox.data= .seq (ak (.str c t':: .int a t::r1)) n)(hy:s.heap.get? y=some oy)(dy:oy.data= .seq (ak (.str c u':: .int b u::r2)) k)
  (ne:a≠b) (h:Q (decide (a<b)) s):wpAny (model prog w) A (keyLt' (tuples' true) (.ref x) (.ref y)) Q E s:=by
 refine kat_lt hx dx hy dy ?_;show KatLex prog w A true _ Q ((.str c t',.str c u')::(.int a t,.int b u)::r1.zip r2) 0 s;refine kat_cons (wpAny_eqBool_str (kat_go (fun _=>kat_yes ?_) fun e=>absurd e (by simp)));refine kat_cons (iU (kat_go (fun e=>absurd (by simpa using e) ne) fun e=>kat_no ?_));exact kat_one _ _ (lt_int h)
end
end PySem.W
namespace L2
open PySem PySem.Spec PyProof.Rows PySem.W
def xeq(pre:Option Str)(q:List V)(k:Int):Prop:=∃r,q=match pre with|none=>.int k::r|some c=>.str c:: .int k::r
def xmr(pre:Option Str)(K:ai):List V→Hp→VK→Prop:=fun xs H Q=>∃(p:Addr) (ts:List Addr) (ls:List (List V)) (ks:List Int),xs=[.ref p]∧(SqL K H p (ts.map V.ref)∨SqT K H p (ts.map V.ref))∧Paired (fun t q=>H t=some (.tup q)) ts ls∧Paired (xeq pre) ls ks∧ks.Nodup∧ts.length<64∧
 ∀(l:Addr) (pm:List Nat),pm.Perm (aI ts.length)→(pm.Pairwise fun i j=>ks.getD i 0<ks.getD j 0)→H l=none→Q (.ref l) (upd H l (.lst (pm.map fun i=>V.ref (ts.getD i 0))))
section
variable {X:Cx}
theorem xk0{ks:List Int}(h:ks.Nodup):STO (fun i j=>decide (ks.getD i 0<ks.getD j 0)) ks.length:=by
 refine⟨fun i _=>decide_eq_false (by lia),fun i j k _ _ _ h1 h2=>decide_eq_true (by have:=of_decide_eq_true h1;have:=of_decide_eq_true h2;lia),fun i j hi hj ne=>?_⟩;have e1:ks.getD i 0=ks[i]:=by simp[hi]
 have e2:ks.getD j 0=ks[j]:=by simp[hj]
 rw[e1,e2];have hne:ks[i]≠ks[j]:=fun z=>ne ((fH h).mp z);rcases Int.lt_or_gt_of_ne hne with z|z
 ·exact .inl (decide_eq_true z)
 ·exact .inr (decide_eq_true z)
theorem xaT{h:Heap}{ty:Value}:∀(ts:List Addr),(∀t∈ts,∃o xs n f,h.get? t=some o∧o.cls= .type "tuple"∧o.data= .seq xs n∧xs[0]? =some f∧∀(M:Model) (g:Heap),Looks M g (typeOf f) ty)→∃fs,KatTups h (ts.map bf) fs∧fs.length=ts.length∧∀v∈fs,∀(M:Model) (g:Heap),Looks M g (typeOf v) ty
 |[],_=>⟨[],.nil,rfl,fun _ z=>by cases z⟩
 |t::r,hh=>by
  obtain⟨fs,k1,k2,k3⟩:=xaT r fun u hu=>hh u (aq _ hu);obtain⟨o,xs,n,f,a1,a2,a3,a4,a5⟩:=hh t aA;refine⟨f::fs,.cons a1 a2 a3 a4 k1,by simp[k2],fun v hv=>?_⟩;rcases az.mp hv with z|z
  ·rw[z];exact a5
  ·exact k3 v z
theorem vQ(pre:Option Str):yt X (.builtin "sorted") (xmr pre X.K):=by
 intro pins s σ H xs us Q I r h;obtain⟨p,ts,ls,ks,rfl,hq,hpr,hhd,hnd,h64,q⟩:=h;obtain⟨u,rfl,rx⟩:=vals1 r;cases rx;have hpl:ts.length=ls.length:=hpr.length;have hkl:ls.length=ks.length:=hhd.length;have hcol:∃its,Vals (ts.map V.ref) its∧jY X.prog X.w s p its:=by
  rcases hq with hq|hq
  ·obtain⟨its,r',pl,hz⟩:=I.list hq;have hlen:=r'.length;rw[ab]at hlen hz;exact⟨its,r',xjF pl.isList (by lia)⟩
  ·obtain⟨its,r',pl,hz⟩:=I.tuple hq;have hlen:=r'.length;rw[ab]at hlen hz;exact⟨its,r',xkZ pl (by lia)⟩
 obtain⟨its,r',hcol⟩:=hcol;have hlen:=r'.length;rw[ab]at hlen;have hit:its=ts.map bf:=by
  refine eC fun i=>?_
  by_cases hi:i<ts.length
  ·have hx:(ts.map V.ref)[i]? =some (.ref ts[i]):=by rw[au,ag hi];rfl
   obtain⟨u,h1,h2⟩:=Vals.get r' hx;cases h2;rw[h1,au,ag hi];rfl
  ·rw[cX (by lia),cX (by rw[ab];lia)]
 have obj:∀i,i<ts.length→∃o n,s.heap.get? (ts.getD i 0)=some o∧o.cls= .type "tuple"∧∃r t,(match pre with|none=>o.data= .seq (ak (.int (ks.getD i 0) t::r)) n|some c=>∃t',o.data= .seq (ak (.str c t':: .int (ks.getD i 0) t::r)) n):=fun i hi=>by
  have hp:H (ts.getD i 0)=some (.tup (ls.getD i [])):=yR (x:=0) (y:=[]) hpr hi;obtain⟨rr,hh⟩:xeq pre (ls.getD i []) (ks.getD i 0):=yR (x:=[]) (y:=0) hhd (by lia);obtain⟨_,its',r2,o,ho,hc,n,hd⟩:=I.hok _ _ hp;refine⟨o,n,ho,hc,?_⟩;cases pre with
  |none=>
   dsimp only at hh⊢;rw[hh]at r2;cases r2 with|cons q1 r2=>
   obtain⟨t1,rfl⟩:=q1;exact⟨_,t1,hd⟩
  |some c=>
   dsimp only at hh⊢;rw[hh]at r2;cases r2 with|cons q1 r2=>cases r2 with|cons q2 r2=>
   obtain⟨t1,rfl⟩:=q1;obtain⟨t2,rfl⟩:=q2;exact⟨_,t2,t1,hd⟩
 have S:=xk0 hnd;have hv:∀i,i<ts.length→its.getD i aZ= .ref (ts.getD i 0):=fun i hi=>by
  rw[hit];simp[hi]
 refine xiH (vs:=its) (κ:=tuples' true) (lt:=fun i j=>decide (ks.getD i 0<ks.getD j 0)) hcol (by lia) (by rw[←hlen,hpl,hkl];exact S) (fun h2 s' keep=>?_) (fun s' keep i j C hi hj hC=>?_) fun pm hp hu D h' c hD keep hDc=>?_
 ·rw[hit];have at':∀t∈ts,∃i,i<ts.length∧ts.getD i 0=t:=fun t ht=>by
   obtain⟨i,hi⟩:=dv.mp ht;exact⟨i,(aW.mp hi).1,by simp[hi]⟩
  cases pre with
  |none=>
   obtain⟨fs,k1,k2,k3⟩:=xaT (h:=s'.heap) (ty:=.type "int") ts fun t ht=>by
    obtain⟨i,hi,e⟩:=at' t ht;obtain⟨o,n,a1,a2,r,t1,a3⟩:=obj i hi;rw[e]at a1;exact⟨o,_,n,_,keep _ _ a1,a2,a3,rfl,fun _ _=>.now⟩
   exact kat_kind (T:=.type "int") k1 (by lia) (fun v hv'=>k3 v hv' _ _) (by rfl) ⟨by rfl,rfl⟩
  |some c=>
   obtain⟨fs,k1,k2,k3⟩:=xaT (h:=s'.heap) (ty:=.type "str") ts fun t ht=>by
    obtain⟨i,hi,e⟩:=at' t ht;obtain⟨o,n,a1,a2,r,t1,t2,a3⟩:=obj i hi;rw[e]at a1;exact⟨o,_,n,_,keep _ _ a1,a2,a3,rfl,fun _ _=>.now⟩
   exact kat_kind (T:=.type "str") k1 (by lia) (fun v hv'=>k3 v hv' _ _) (by rfl) ⟨by rfl,rfl⟩
 ·rw[hv i (by lia),hv j (by lia)]
  by_cases hij:i=j
  ·subst hij;obtain⟨o1,n1,a1,a2,r1,t1,a3⟩:=obj i (by lia);have hdat:∃l0:List Value,o1.data= .seq (ak l0) n1:=by
    cases pre with
    |none=>exact⟨_,a3⟩
    |some c=>obtain⟨_,a3⟩:=a3;exact⟨_,a3⟩
   obtain⟨l0,hdat⟩:=hdat;refine kat_lt (keep _ _ a1) hdat (keep _ _ a1) hdat (xe7 ?_ l0 0);have e1:decide (ks.getD i 0<ks.getD i 0)=false:=decide_eq_false (by lia);rw[e1]at hC;rw[decide_eq_false (bV _)];exact hC
  ·have ne:ks.getD i 0≠ks.getD j 0:=by
    have hi2:i<ks.length:=by lia
    have hj2:j<ks.length:=by lia
    have e1:ks.getD i 0=ks[i]:=by simp[hi2]
    have e2:ks.getD j 0=ks[j]:=by simp[hj2]
    rw[e1,e2];exact fun z=>hij ((fH hnd).mp z)
   obtain⟨o1,n1,a1,a2,r1,t1,a3⟩:=obj i (by lia);obtain⟨o2,n2,b1,b2,r2,t2,b3⟩:=obj j (by lia);cases pre with
   |none=>exact xjG (keep _ _ a1) a3 (keep _ _ b1) b3 ne hC
   |some c=>
    obtain⟨t3,a3⟩:=a3;obtain⟨t4,b3⟩:=b3;exact xiI (keep _ _ a1) a3 (keep _ _ b1) b3 ne hC
 ·have hn:its.length=ts.length:=by lia
  rw[hn]at hp hu;have hlp:pm.toList.length=ts.length:=by rw[aM];exact hp.size
  have hvals:Vals (pm.toList.map fun i=>V.ref (ts.getD i 0)) (pm.toList.map fun i=>its.getD i aZ):=by
   refine uQ (by simp) fun j x u e1 e2=>?_;rw[au]at e1 e2;cases hq2:pm.toList[j]? with
   |none=>rw[hq2]at e1;cases e1
   |some m=>
    rw[hq2]at e1 e2;cases e1;cases e2;have hm:m<ts.length:=a7.mp (hp.perm.mem_iff.mp (aL hq2));show RelV (.ref (ts.getD m 0)) (its.getD m aZ);rw[hv m hm];rfl
  exact⟨.ref D,_,I.laid (a:=D) (o:=.lst (pm.toList.map fun i=>V.ref (ts.getD i 0))) (t':=s.toks) (fun b o eo=>keep b o eo) hD ⟨by rw[ab,hlp,ay];lia,_,c,hvals,hDc⟩,rfl,q _ _ hp.perm ((ju hp hu).imp fun z=>of_decide_eq_true z) (I.hok.fresh hD)⟩
end
end L2
namespace HT
open PySem PyProof.Rows
section
variable {prog:aF} {w:World} {A:aU} {E:Value→ae→Prop} {s:ae}
theorem xbB{t sl:Addr}{items:Array Value}{vl vu:Value}{lo hi:Option Int}{Q:Value→ae→Prop}(ht:IsTup s.heap t items)(hs:s.heap.IsSliceOf sl vl vu .none)(pl:gX vl lo)(pu:gX vu hi)
  (hw:sIx items.size 0 lo=0∧sIx items.size items.size hi=items.size) (h:Q (.ref t) s):wpAny (model prog w) A (iR (.ref t) (.ref sl)) Q E s:=by
 obtain⟨os,hos,hcs,hds⟩:=id hs;have hTs:s.TypeIs (.ref sl) "slice":=⟨os,hos,hcs⟩;unfold iR
 try with_reducible refine bB ?_
 first|refine aa (ah ?_)|skip
 refine aa (wpAny_sequenceKey ht.typeIs (by decide) ?_);refine aa (j3 (name:=cj "__getitem__") ht.typeIs cq
  (iX cq ht.typeIs entry_tuple_getitem ?_ (args_tuple_getitem _ _)))
 show wpAny _ _ (iz (.ref t) >>= _) _ _ s;refine aa (tupleItemsOf_ ht ?_);refine aa (fC hTs ?_);rw[if_pos (by decide)];refine aa (vK hs pl pu ?_);have hyes:(((sIx items.size 0 lo:Nat):Int)==0&&(1:Int)==1&&(sIx items.size items.size hi - sIx items.size 0 lo)==items.size)=true:=by
  rw[hw.1,hw.2];simp
 show wpAny _ _ (if (((sIx items.size 0 lo:Nat):Int)==0&&(1:Int)==1&&(sIx items.size items.size hi - sIx items.size 0 lo)==items.size)=true then _ else _) _ _ s;rw[if_pos hyes];refine aa (m:=Builtin.Tuple.tupleIsExact _) (aa (fC ht.typeIs (ah ?_)));have ht2:(ck "tuple"==ck "tuple")=true:=by rfl
 rw[if_pos (by rw[ht2])];refine aa (gZ ?_);exact ah ⟨_,rfl,ah h⟩
end
end HT
namespace L2
open PySem PySem.Spec PyProof.Rows
section
variable {X:Cx}
def xnL(K:ai):V→Option Int→Option Int→Hp→VK→Prop:=fun x lo hi H Q=>∃a xs,x= .ref a∧SqT K H a xs∧∀(p:Addr) (H':Hp),xc H H'→SqT K H' p (yA xs lo hi)→Q (.ref p) H'
theorem xgF:SlR X (xnL X.K):=by
 intro pins s σ H x v vl vu lo hi sl Q I rx hs pl pu h;obtain⟨a,xs,rfl,hx,q⟩:=h
 by_cases hw:HT.sIx xs.length 0 lo=0∧HT.sIx xs.length xs.length hi=xs.length
 ·cases rx;obtain⟨its,r,ht,hz⟩:=I.tuple hx;have hlen:its.toArray.size=xs.length:=by rw[av];exact r.length.symm
  refine⟨"tuple",_,cq.lookup,ht.typeIs,?_⟩;refine HT.xbB ht hs pl pu (by rw[hlen];exact hw) ⟨.ref a,H,I,rfl,q a H (xc.refl _) ?_⟩;have e:yA xs lo hi=xs:=by unfold yA;rw[hw.1,hw.2];simp
  rw[e];exact hx
 ·exact xh3 pins s σ H _ v vl vu lo hi sl Q I rx hs pl pu ⟨a,xs,rfl,hx,hw,fun p hp=>q p _ (xc.new hp) (SqT.of xj)⟩
end
end L2
namespace K37
open PySem PySem.Spec PyProof.Rows L2
def top(i:Nat):Stmt:=PySem.Challenge.pw_oneroom_k37_papers_made.main.body.getD i (.Pass ⟨0,0,0,0⟩)
abbrev zy:Stmt:=top 2
abbrev xaU:Stmt:=top 3
abbrev ur:Stmt:=top 4
abbrev jZ:Stmt:=top 5
abbrev xaa:Stmt:=inClass (top 7) 0
abbrev vR:Stmt:=inClass (top 7) 1
abbrev jv:Stmt:=inClass (top 8) 0
abbrev vS:Stmt:=inClass (top 8) 1
abbrev jw:Stmt:=inClass (top 8) 8
abbrev xab:Stmt:=inClass (top 9) 0
abbrev xac:Stmt:=inClass (top 9) 6
abbrev xcf:Stmt:=top 12
abbrev jx:Stmt:=top 13
abbrev vT:Stmt:=top 14
abbrev uN:Stmt:=top 15
abbrev zJ:Stmt:=top 16
abbrev xe8:Stmt:=top 17
abbrev vG:Stmt:=top 19
abbrev jI:Stmt:=top 20
abbrev vU:Stmt:=top 21
abbrev uu:Stmt:=top 22
abbrev yx:Stmt:=top 23
abbrev zS:Stmt:=top 24
abbrev xaV:Stmt:=top 25
abbrev zT:Stmt:=top 26
abbrev xaW:Stmt:=top 28
abbrev xe9:Stmt:=top 29
abbrev xcg:Stmt:=top 30
abbrev xdo:Stmt:=top 31
abbrev xdp:Stmt:=top 32
abbrev xdq:Stmt:=top 33
abbrev uv:Stmt:=top 34
abbrev zK:Stmt:=top 35
abbrev xdr:Stmt:=top 36
abbrev zU:Stmt:=top 37
abbrev xbu:Stmt:=top 38
abbrev q0H:Addr:=27
abbrev yD:Addr:=23
def zf:List (Pos×Str):=[(⟨6,40,6,60⟩,"endings.<locals>.<lambda>")]
abbrev q0f:Addr:=285
abbrev yl:Addr:=283
def yN:List (Pos×Str):=[(⟨163,35,163,80⟩,"put_in_order.<locals>.<lambda>")]
abbrev q0T:Addr:=304
abbrev zz:Addr:=300
def ve:List (Pos×Str):=[(⟨178,32,178,50⟩,"joined.<locals>.<lambda>")]
set_option genInjectivity false in
set_option genSizeOf false in
set_option genSizeOfSpec false in
structure Adr where
 q0Z:Addr
 jg:aR
 q07:Addr
 xaX:aR
 q0u:Addr
 uw:aR
 q00:Addr
 xad:aR
 q0P:Addr
 xae:aR
 q0n:Addr
 vV:aR
 q0I:Addr
 jy:aR
 q0D:Addr
 vW:aR
 q0J:Addr
 jz:aR
 q0G:Addr
 vy:aR
 q0Q:Addr
 xaf:aR
 q1l:Addr
 xch:aR
 q0U:Addr
 jA:aR
 q0K:Addr
 vX:aR
 q0B:Addr
 uO:aR
 q0h:Addr
 zL:aR
 q1F:Addr
 xfa:aR
 q1g:Addr
 jJ:aR
 q08:Tok
 q1q:Addr
 xaY:aR
 q1m:Tok
 q0L:Addr
 vY:aR
 q0v:Addr
 ux:aR
 q0t:Addr
 zH:aR
 q0p:Addr
 zV:aR
 q09:Addr
 xaZ:aR
 q1a:Addr
 xag:aR
 q1b:Addr
 xa0:aR
 q1G:Addr
 xfb:aR
 q1n:Addr
 xci:aR
 q1t:Addr
 xds:aR
 q1u:Addr
 xdt:aR
 q1v:Addr
 xdu:aR
 q0w:Addr
 uy:aR
 q0i:Addr
 zN:aR
 q1w:Addr
 xdv:aR
 q0q:Addr
 zW:aR
 q1I:Addr
 xhv:aR
 q06:Addr
 q0a:Addr
 q0b:Addr
 q0E:Addr
structure Txt(K:ai)(mg:Str→Option Value)(a:Adr):Prop where
 vf:Fun K "endings" "endings" zy a.q0Z a.jg
 xiJ:Binds K a.jg ["text"] []
 xiK:mg "endings"=some (.ref a.q0Z)
 q1M:jt K q0H yD
 xhw:a.jg.code= .ref q0H
 q1c:Fun K "longest" "longest" xaU a.q07 a.xaX
 xiL:Binds K a.xaX ["text","table","part"] []
 xiM:mg "longest"=some (.ref a.q07)
 q0x:Fun K "how_many_less" "how_many_less" ur a.q0u a.uw
 xcL:Binds K a.uw ["text","table","part"] []
 xcM:mg "how_many_less"=some (.ref a.q0u)
 q01:Fun K "agreeing" "agreeing" jZ a.q00 a.xad
 xhx:Binds K a.xad ["text","at","part"] []
 xhy:mg "agreeing"=some (.ref a.q00)
 q1h:Fun K "__init__" "Row.__init__" xaa a.q0P a.xae
 xah:Binds K a.xae ["self","to"] []
 q0W:Fun K "covers" "Row.covers" vR a.q0n a.vV
 xa1:Binds K a.vV ["self"] []
 q03:Fun K "__init__" "Take.__init__" jv a.q0I a.jy
 xf9:Binds K a.jy ["self","to","start","count"] []
 q0X:Fun K "stays" "Take.stays" vS a.q0D a.vW
 xa2:Binds K a.vW ["self"] []
 q04:Fun K "told" "Take.told" jw a.q0J a.jz
 uS:Binds K a.jz ["self"] []
 q02:Fun K "__init__" "Put.__init__" xab a.q0G a.vy
 xai:Binds K a.vy ["self","to","signs"] []
 q1i:Fun K "told" "Put.told" xac a.q0Q a.xaf
 xcN:Binds K a.xaf ["self"] []
 q1o:Fun K "spoils" "spoils" xcf a.q1l a.xch
 xjH:Binds K a.xch ["rows"] []
 xjI:mg "spoils"=some (.ref a.q1l)
 q0V:Fun K "spoilt_by" "spoilt_by" jx a.q0U a.jA
 xga:Binds K a.jA ["number","stretch","read"] []
 xgb:mg "spoilt_by"=some (.ref a.q0U)
 q0M:Fun K "ring_among" "ring_among" vT a.q0K a.vX
 xfc:Binds K a.vX ["spoilt","left"] []
 xfd:mg "ring_among"=some (.ref a.q0K)
 q0C:Fun K "stretch_read" "stretch_read" uN a.q0B a.uO
 xdw:Binds K a.uO ["row"] []
 xdy:mg "stretch_read"=some (.ref a.q0B)
 q0j:Fun K "stretch_written" "stretch_written" zJ a.q0h a.zL
 xbC:Binds K a.zL ["row"] []
 xbD:mg "stretch_written"=some (.ref a.q0h)
 q1H:Fun K "meet" "meet" xe8 a.q1F a.xfa
 xms:Binds K a.xfa ["one","other"] []
 xmt:mg "meet"=some (.ref a.q1F)
 vH:xcd K "found" "found" vG a.q1g a.jJ [.int 6 a.q08]
 xfe:Binds K a.jJ ["elder","newer","least"] [.int 6 a.q08]
 xdz:Binds K a.jJ ["elder","newer","least"] []
 xk1:mg "found"=some (.ref a.q1g)
 vg:xcd K "made" "made" jI a.q1q a.xaY [.int 6 a.q1m]
 xdA:Binds K a.xaY ["elder","newer","least"] [.int 6 a.q1m]
 xcO:Binds K a.xaY ["elder","newer","least"] []
 xff:mg "made"=some (.ref a.q1q)
 q0F:Fun K "rows_found" "rows_found" vU a.q0L a.vY
 xa3:Binds K a.vY ["elder","newer","least"] []
 xa4:mg "rows_found"=some (.ref a.q0L)
 q0l:Fun K "put_ending_at" "put_ending_at" uu a.q0v a.ux
 jh:Binds K a.ux ["end","signs"] []
 ji:mg "put_ending_at"=some (.ref a.q0v)
 yY:Fun K "put_in_order" "put_in_order" yx a.q0t a.zH
 xdB:Binds K a.zH ["takes"] []
 xdC:mg "put_in_order"=some (.ref a.q0t)
 q1r:jt K q0f yl
 xcP:a.zH.code= .ref q0f
 q0r:Fun K "harmless_among" "harmless_among" zS a.q0p a.zV
 xcj:Binds K a.zV ["spoilt","left"] []
 xck:mg "harmless_among"=some (.ref a.q0p)
 q1d:Fun K "put_for" "put_for" xaV a.q09 a.xaZ
 xiN:Binds K a.xaZ ["take","elder"] []
 xiO:mg "put_for"=some (.ref a.q09)
 vZ:Fun K "joined" "joined" zT a.q1a a.xag
 xjJ:Binds K a.xag ["puts"] []
 xjK:mg "joined"=some (.ref a.q1a)
 q1Q:jt K q0T zz
 xiP:a.xag.code= .ref q0T
 q0m:Fun K "_law_cell_at" "_law_cell_at" xaW a.q1b a.xa0
 yZ:Binds K a.xa0 ["_law_script","_law_k"] []
 za:mg "_law_cell_at"=some (.ref a.q1b)
 q1D:Fun K "_law_draw" "_law_draw" xe9 a.q1G a.xfb
 xiQ:Binds K a.xfb ["_law_cell","_law_k"] []
 xiR:mg "_law_draw"=some (.ref a.q1G)
 q1e:Fun K "_law_digits" "_law_digits" xcg a.q1n a.xci
 xfg:Binds K a.xci ["_law_cell","_law_base","_law_many"] []
 xfh:mg "_law_digits"=some (.ref a.q1n)
 q1x:Fun K "_law_elder" "_law_elder" xdo a.q1t a.xds
 xk2:Binds K a.xds ["_law_script"] []
 xk3:mg "_law_elder"=some (.ref a.q1t)
 q1y:Fun K "_law_newer" "_law_newer" xdp a.q1u a.xdt
 xk4:Binds K a.xdt ["_law_script","_law_elder_here"] []
 xk5:mg "_law_newer"=some (.ref a.q1u)
 q1z:Fun K "_law_meets" "_law_meets" xdq a.q1v a.xdu
 xk6:Binds K a.xdu ["_law_row","_law_other"] []
 xk7:mg "_law_meets"=some (.ref a.q1v)
 q0y:Fun K "_law_ring_is_right" "_law_ring_is_right" uv a.q0w a.uy
 xcQ:Binds K a.uy ["_law_row","_law_ring","_law_left"] []
 xcR:mg "_law_ring_is_right"=some (.ref a.q0w)
 q0k:Fun K "_law_turned_is_right" "_law_turned_is_right" zK a.q0i a.zN
 xbE:Binds K a.zN ["_law_turned","_law_takes"] []
 xbF:mg "_law_turned_is_right"=some (.ref a.q0i)
 q1A:Fun K "_law_cells" "_law_cells" xdr a.q1w a.xdv
 xk8:Binds K a.xdv ["_law_rows","_law_elder_here"] []
 xk9:mg "_law_cells"=some (.ref a.q1w)
 q0s:Fun K "_law_puts_are_right" "_law_puts_are_right" zU a.q0q a.zW
 xcl:Binds K a.zW ["_law_rows"] []
 xcm:mg "_law_puts_are_right"=some (.ref a.q0q)
 xer:Fun K "law" "law" xbu a.q1I a.xhv
 xnM:Binds K a.xhv ["_law_script"] []
 xhz:mg "Row"=some (.ref a.q06)
 q2G:Cls K a.q06
 q1R:xW K a.q06 "count"
 q2a:xW K a.q06 "to"
 xcS:mg "Take"=some (.ref a.q0a)
 q0d:Cls K a.q0a
 q0o:xW K a.q0a "count"
 q0g:xW K a.q0a "source"
 q0R:xW K a.q0a "to"
 q13:Mk K a.q0a a.q0I
 xes:mg "Put"=some (.ref a.q0b)
 q0A:Cls K a.q0b
 q0N:xW K a.q0b "count"
 q0z:xW K a.q0b "signs"
 q0S:xW K a.q0b "to"
 q1S:Mk K a.q0b a.q0G
 xiS:∀{H:Hp} {o dx:Addr} {fs:List (Str×V)},H o=some (.ins a.q0b dx fs)→yG K H (.ref o) (.ref a.q0b)
 xbv:∀{H:Hp} {o dx:Addr} {fs:List (Str×V)},H o=some (.ins a.q0a dx fs)→yG K H (.ref o) (.ref a.q0a)
 q1N:fK K (.ref a.q0b) (.ref a.q0b)=some true
 q1J:fK K (.ref a.q0b) (.ref a.q0a)=some false
 q1K:fK K (.ref a.q0a) (.ref a.q0b)=some false
 q1f:fK K (.ref a.q0a) (.ref a.q0a)=some true
 xa5:mg "NO_STRETCH"=some (.ref a.q0E)
 xa6:∀H,SqT K H a.q0E [.int 0,.int 0]
 q1E:Meth K a.q0b "covers" a.q0n
 q1C:Meth K a.q0b "told" a.q0Q
 q1B:Meth K a.q0a "covers" a.q0n
 q1k:Meth K a.q0a "stays" a.q0D
 q0Y:Meth K a.q0a "told" a.q0J
 q1j:xjn K a.q06 "__init__" a.q0P
 q2k:mg "any"=none
 q2e:mg "dict"=none
 q1L:mg "enumerate"=none
 q0e:mg "isinstance"=none
 q0c:mg "len"=none
 q1s:mg "list"=none
 q1X:mg "max"=none
 q1O:mg "min"=none
 q0O:mg "range"=none
 q1P:mg "reversed"=none
 q2l:mg "set"=none
 q1p:mg "sorted"=none
 q05:mg "tuple"=none
theorem xcT:xy ["text"] ["text"] (xn zy):=⟨rfl,rfl,rfl,by decide+kernel,rfl,by decide+kernel,by decide+kernel⟩
theorem xcU:xy ["text","table","part","less","count","beginning"] ["text","table","part"] (xn xaU):=⟨rfl,rfl,rfl,by decide+kernel,rfl,by decide+kernel,by decide+kernel⟩
theorem ja:xy ["text","table","part","low","high","middle"] ["text","table","part"] (xn ur):=⟨rfl,rfl,rfl,by decide+kernel,rfl,by decide+kernel,by decide+kernel⟩
theorem xbM:xy ["text","at","part","count"] ["text","at","part"] (xn jZ):=⟨rfl,rfl,rfl,by decide+kernel,rfl,by decide+kernel,by decide+kernel⟩
theorem xbN:xy ["self","to"] ["self","to"] (xn xaa):=⟨rfl,rfl,rfl,by decide+kernel,rfl,by decide+kernel,by decide+kernel⟩
theorem xav:xy ["self"] ["self"] (xn vR):=⟨rfl,rfl,rfl,by decide+kernel,rfl,by decide+kernel,by decide+kernel⟩
theorem xa7:xy ["self","to","start","count"] ["self","to","start","count"] (xn jv):=⟨rfl,rfl,rfl,by decide+kernel,rfl,by decide+kernel,by decide+kernel⟩
theorem xaw:xy ["self"] ["self"] (xn vS):=⟨rfl,rfl,rfl,by decide+kernel,rfl,by decide+kernel,by decide+kernel⟩
theorem xa8:xy ["self"] ["self"] (xn jw):=⟨rfl,rfl,rfl,by decide+kernel,rfl,by decide+kernel,by decide+kernel⟩
theorem uT:xy ["self","to","signs"] ["self","to","signs"] (xn xab):=⟨rfl,rfl,rfl,by decide+kernel,rfl,by decide+kernel,by decide+kernel⟩
theorem xbO:xy ["self"] ["self"] (xn xac):=⟨rfl,rfl,rfl,by decide+kernel,rfl,by decide+kernel,by decide+kernel⟩
theorem xd5:xy ["rows","read","written"] ["rows"] (xn xcf):=⟨rfl,rfl,rfl,by decide+kernel,rfl,by decide+kernel,by decide+kernel⟩
theorem xa9:xy ["number","stretch","read"] ["number","stretch","read"] (xn jx):=⟨rfl,rfl,rfl,by decide+kernel,rfl,by decide+kernel,by decide+kernel⟩
theorem xax:xy ["spoilt","left","path","number"] ["spoilt","left"] (xn vT):=⟨rfl,rfl,rfl,by decide+kernel,rfl,by decide+kernel,by decide+kernel⟩
theorem jj:xy ["row"] ["row"] (xn uN):=⟨rfl,rfl,rfl,by decide+kernel,rfl,by decide+kernel,by decide+kernel⟩
theorem vh:xy ["row"] ["row"] (xn zJ):=⟨rfl,rfl,rfl,by decide+kernel,rfl,by decide+kernel,by decide+kernel⟩
theorem xgG:xy ["one","other"] ["one","other"] (xn xe8):=⟨rfl,rfl,rfl,by decide+kernel,rfl,by decide+kernel,by decide+kernel⟩
theorem xfi:xy ["elder","newer","least"] ["elder","newer","least"] (xn vG):=⟨rfl,rfl,rfl,by decide+kernel,rfl,by decide+kernel,by decide+kernel⟩
theorem xgH:xy ["elder","newer","least","rows","order","ordered","turned","puts","done","paper"] ["elder","newer","least"] (xn jI):=⟨rfl,rfl,rfl,by decide+kernel,rfl,by decide+kernel,by decide+kernel⟩
theorem xay:xy ["elder","newer","least","table","rows","signs","place","best","count"] ["elder","newer","least"] (xn vU):=⟨rfl,rfl,rfl,by decide+kernel,rfl,by decide+kernel,by decide+kernel⟩
theorem jb:xy ["end","signs"] ["end","signs"] (xn uu):=⟨rfl,rfl,rfl,by decide+kernel,rfl,by decide+kernel,by decide+kernel⟩
theorem jk:xy ["takes","spoilt","left","ordered","turned","number","ring"] ["takes"] (xn yx):=⟨rfl,rfl,rfl,by decide+kernel,rfl,by decide+kernel,by decide+kernel⟩
theorem vo:xy ["spoilt","left","number"] ["spoilt","left"] (xn zS):=⟨rfl,rfl,rfl,by decide+kernel,rfl,by decide+kernel,by decide+kernel⟩
theorem xcV:xy ["take","elder"] ["take","elder"] (xn xaV):=⟨rfl,rfl,rfl,by decide+kernel,rfl,by decide+kernel,by decide+kernel⟩
theorem xd6:xy ["puts","rows","put","ahead"] ["puts"] (xn zT):=⟨rfl,rfl,rfl,by decide+kernel,rfl,by decide+kernel,by decide+kernel⟩
theorem xcW:xy ["_law_script","_law_k"] ["_law_script","_law_k"] (xn xaW):=⟨rfl,rfl,rfl,by decide+kernel,rfl,by decide+kernel,by decide+kernel⟩
theorem xgI:xy ["_law_cell","_law_k","_law_number"] ["_law_cell","_law_k"] (xn xe9):=⟨rfl,rfl,rfl,by decide+kernel,rfl,by decide+kernel,by decide+kernel⟩
theorem xd7:xy ["_law_cell","_law_base","_law_many","_law_signs","_law_k"] ["_law_cell","_law_base","_law_many"] (xn xcg):=⟨rfl,rfl,rfl,by decide+kernel,rfl,by decide+kernel,by decide+kernel⟩
theorem xfj:xy ["_law_script","_law_first","_law_text","_law_k","_law_draw_here"] ["_law_script"] (xn xdo):=⟨rfl,rfl,rfl,by decide+kernel,rfl,by decide+kernel,by decide+kernel⟩
theorem xfk:xy ["_law_script","_law_elder_here","_law_cell","_law_one","_law_other","_law_text","_law_k","_law_draw_here","_law_at","_law_many"] ["_law_script","_law_elder_here"] (xn xdp):=⟨rfl,rfl,rfl,by decide+kernel,rfl,by decide+kernel,by decide+kernel⟩
theorem xfl:xy ["_law_row","_law_other"] ["_law_row","_law_other"] (xn xdq):=⟨rfl,rfl,rfl,by decide+kernel,rfl,by decide+kernel,by decide+kernel⟩
theorem jc:xy ["_law_row","_law_ring","_law_left","_law_k"] ["_law_row","_law_ring","_law_left"] (xn uv):=⟨rfl,rfl,rfl,by decide+kernel,rfl,by decide+kernel,by decide+kernel⟩
theorem vi:xy ["_law_turned","_law_takes","_law_left","_law_one"] ["_law_turned","_law_takes"] (xn zK):=⟨rfl,rfl,rfl,by decide+kernel,rfl,by decide+kernel,by decide+kernel⟩
theorem xfm:xy ["_law_rows","_law_elder_here","_law_cells_here","_law_row","_law_signs"] ["_law_rows","_law_elder_here"] (xn xdr):=⟨rfl,rfl,rfl,by decide+kernel,rfl,by decide+kernel,by decide+kernel⟩
theorem vp:xy ["_law_rows","_law_k"] ["_law_rows"] (xn zU):=⟨rfl,rfl,rfl,by decide+kernel,rfl,by decide+kernel,by decide+kernel⟩
theorem xiT:xy ["_law_script","_law_elder_here","_law_newer_here","_law_least","_law_handed","_law_answer","_law_paper","_law_turned","_law_left"] ["_law_script"] (xn xbu):=⟨rfl,rfl,rfl,by decide+kernel,rfl,by decide+kernel,by decide+kernel⟩
def xet(to st c:Int):List (Str×V):=[("to",.int to),("count",.int c),("source",.int st)]
def xcX(to:Int)(t:Addr)(n:Int):List (Str×V):=[("to",.int to),("count",.int n),("signs",.ref t)]
def zl(lo:Int)(n:Nat):List Int:=(aI n).map fun(i:Nat)=>lo+(i:Int)
theorem xbP(lo:Int)(n:Nat):(zl lo n).length=n:=by simp[zl]
theorem xfn{x lo:Int}{n:Nat}:x∈zl lo n↔lo≤x∧x<lo+n:=by
 unfold zl;rw[aG];constructor
 ·rintro⟨i,hi,rfl⟩;have:=a7.mp hi;lia
 ·rintro⟨h1,h2⟩;exact⟨(x - lo).toNat,a7.mpr (by lia),by lia⟩
inductive xb where
 |take (to st c:Int)
 |put (to:Int) (sg:List Int)
def xb.isTake:xb→Bool
 | .take .. =>true
 | .put .. =>false
def TupAt(K:ai)(H:Hp)(t:Addr):xb→Prop
 | .take to st c=>H t=some (.tup [.str "take",.int to,.int st,.int c])
 | .put to sg=>∃u,H t=some (.tup [.str "put",.int to,.ref u])∧H u=some (.tup (sg.map V.int))
theorem TupAt.same{K:ai}{H H':Hp}{t:Addr}{r:xb}(h:TupAt K H t r)(s:xc H H'):TupAt K H' t r:=by
 cases r with
 |take to st c=>exact s.at h
 |put to sg=>obtain⟨u,h1,h2⟩:=h;exact⟨u,s.at h1,s.at h2⟩
def xB(K:ai)(a:Adr)(H:Hp)(o:Addr):xb→Prop
 | .take to st c=>∃dx,H o=some (.ins a.q0a dx (xet to st c))
 | .put to sg=>∃dx u,H o=some (.ins a.q0b dx (xcX to u sg.length))∧H u=some (.tup (sg.map V.int))
theorem xB.same{K:ai}{a:Adr}{H H':Hp}{o:Addr}{r:xb}(h:xB K a H o r)(s:xc H H'):xB K a H' o r:=by
 cases r with
 |take to st c=>obtain⟨dx,h⟩:=h;exact⟨dx,s.at h⟩
 |put to sg=>obtain⟨dx,u,h1,h2⟩:=h;exact⟨dx,u,s.at h1,s.at h2⟩
theorem xB.mv{K:ai}{a:Adr}{H H' H6:Hp}{o:Addr}{r:xb}(h:xB K a H' o r)(k:∀p o,(H p=none∨∀ys,o≠HO.lst ys)→H' p=some o→H6 p=some o):xB K a H6 o r:=by
 cases r with
 |take to st c=>obtain⟨dx,h⟩:=h;exact⟨dx,k _ _ (.inr fun ys z=>by cases z) h⟩
 |put to sg=>obtain⟨dx,u,h1,h2⟩:=h;exact⟨dx,u,k _ _ (.inr fun ys z=>by cases z) h1,k _ _ (.inr fun ys z=>by cases z) h2⟩
theorem TupAt.mv{K:ai}{H H' H6:Hp}{t:Addr}{r:xb}(h:TupAt K H' t r)(k:∀p o,(H p=none∨∀ys,o≠HO.lst ys)→H' p=some o→H6 p=some o):TupAt K H6 t r:=by
 cases r with
 |take to st c=>exact k _ _ (.inr fun ys z=>by cases z) h
 |put to sg=>obtain⟨u,h1,h2⟩:=h;exact⟨u,k _ _ (.inr fun ys z=>by cases z) h1,k _ _ (.inr fun ys z=>by cases z) h2⟩
def xb.ok:xb→Prop
 | .take to st c=>0≤to∧0≤st∧1≤c
 | .put to sg=>0≤to∧sg≠[]∧sg.length≤100000∧∀x∈sg,(x.natAbs:Int)<10^60
def xb.dat:xb→dF
 | .take to st c=>.tuple [.str "take",.int to,.int st,.int c]
 | .put to sg=>.tuple [.str "put",.int to,.tuple (sg.map cz)]
theorem xfo{K:ai}{H:Hp}:∀xs:List Int,Rps K H (xs.map V.int) (xs.map cz)
 |[]=>.nil
 |x::xs=>.cons (.int x) (xfo xs)
theorem TupAt.rp{K:ai}{H:Hp}{t:Addr}{r:xb}(h:TupAt K H t r):Rp K H (.ref t) r.dat:=by
 cases r with
 |take to st c=>exact .tup (SqT.of h) (.cons (.str _) (.cons (.int _) (.cons (.int _) (.cons (.int _) .nil))))
 |put to sg=>obtain⟨u,h1,h2⟩:=h;exact .tup (SqT.of h1) (.cons (.str _) (.cons (.int _) (.cons (.tup (SqT.of h2) (xfo sg)) .nil)))
theorem vI(r:xb):bx r.dat=true:=by
 cases r with
 |take to st c=>simp[xb.dat,bx,br];decide+kernel
 |put to sg=>simp[xb.dat,bx,br,hO sg];decide+kernel
theorem xba(r:xb):bG r.dat≤2:=by
 cases r with
 |take to st c=>simp[xb.dat,bG,bM]
 |put to sg=>simp[xb.dat,bG,bM,iA sg]
theorem zX:∀rs:List xb,br (rs.map xb.dat)=true
 |[]=>by simp[br]
 |x::r=>by simp only[a9,br,vI,zX r,gE]
theorem vz:∀rs:List xb,bM (rs.map xb.dat)≤2
 |[]=>by simp[bM]
 |x::r=>by
  simp only[a9,bM];have:=xba x;have:=vz r;lia
theorem xgc(rs:List xb):bT (.list (rs.map xb.dat))=true:=by
 unfold bT;have h1:bx (.list (rs.map xb.dat))=true:=by unfold bx;exact zX rs
 have h2:bG (.list (rs.map xb.dat))≤64:=by unfold bG;have:=vz rs;lia
 rw[h1,decide_eq_true h2];rfl
def xmu(K:ai)(a:Adr)(H:Hp)(l:Addr)(rs:List xb):Prop:=∃ts:List Addr,SqL K H l (ts.map V.ref)∧Paired (xB K a H) ts rs
theorem ud{K:ai}{H:Hp}:∀{ts:List Addr} {rs:List xb},Paired (TupAt K H) ts rs→Rps K H (ts.map V.ref) (rs.map xb.dat)
 |_,_,.nil=>.nil
 |_,_,.cons x xs=>.cons x.rp (ud xs)
theorem xiU{K:ai}{H:Hp}{t p C dx:Addr}{xs:List V}{fs:List (Str×V)}{o:HO}(h:SqT K H t xs)(hp:H p=some (.ins C dx fs)):SqT K (upd H p o) t xs:=by
 rcases h with(h|⟨ob,h⟩)|h
 ·exact .inl (.inl (by rw[xk (uP h hp (by intro z;cases z))];exact h))
 ·exact .inl (.inr ⟨ob,by rw[xk (uP h hp (by intro z;cases z))];exact h⟩)
 ·exact .inr h
def xgd(K:ai):Sp:=fun vs H Q _=>∃(p C dx:Addr) (to:Int),vs=[.ref p,.int to]∧H p=some (.ins C dx [])∧Cls K C∧xW K C "to"∧xW K C "count"∧Q .non (upd H p (.ins C dx [("to",.int to),("count",.int 0)]))
def xfp(a:Adr):Sp:=fun vs H Q _=>∃(p dx:Addr) (to st c:Int),vs=[.ref p,.int to,.int st,.int c]∧H p=some (.ins a.q0a dx [])∧Q .non (upd H p (.ins a.q0a dx (xet to st c)))
def xge(K:ai)(a:Adr):Sp:=fun vs H Q _=>∃(p dx t:Addr) (to:Int) (xs:List V),vs=[.ref p,.int to,.ref t]∧H p=some (.ins a.q0b dx [])∧SqT K H t xs∧Q .non (upd H p (.ins a.q0b dx (xcX to t xs.length)))
def xmv(H:Hp)(Q:VK)(ns:List Int):Prop:=∀(l:Addr) (H':Hp),xc H H'→H l=none→H' l=some (.lst (ns.map V.int))→Q (.ref l) H'
def xjL(a:Adr):Sp:=fun vs H Q _=>∃(p dx:Addr) (to st c:Int),vs=[.ref p]∧H p=some (.ins a.q0a dx (xet to st c))∧Q (.bl (decide (st=to))) H
def xfq(a:Adr):Sp:=fun vs H Q _=>∃(o dx:Addr) (to st c:Int),vs=[.ref o]∧H o=some (.ins a.q0a dx (xet to st c))∧∀t,H t=none→Q (.ref t) (upd H t (.tup [.str "take",.int to,.int st,.int c]))
def xfr(a:Adr):Sp:=fun vs H Q _=>∃(o dx u:Addr) (to n:Int),vs=[.ref o]∧H o=some (.ins a.q0b dx (xcX to u n))∧∀t,H t=none→Q (.ref t) (upd H t (.tup [.str "put",.int to,.ref u]))
def cellAt(ns:List Int)(k:Int):Int:=if k<ns.length then ns.getD k.toNat 0 else 0
def xhA(K:ai):Sp:=fun vs H Q _=>∃(l:Addr) (ns:List Int) (k:Int),vs=[.ref l,.int k]∧SqL K H l (ns.map V.int)∧0≤k∧Q (.int (cellAt ns k)) H
def xb.cv:xb→List Int
 | .take to _ c=>zl to c.toNat
 | .put to sg=>zl to sg.length
def xb.rds:xb→List Int
 | .take to st c=>if st=to then[]else zl st c.toNat
 | .put _ _=>[]
def xb.wrs:xb→List Int
 | .take to st c=>if st=to then[]else zl to c.toNat
 | .put to sg=>zl to sg.length
def xeu:Nat→List xb→List Int→Option (Nat×Int)
 |_,[],_=>none
 |k,r::rest,wr=>match r.rds.find? fun c=>decide (c∈wr)with
  |some c=>some (k,c)
  |none=>xeu (k+1) rest (wr++r.wrs)
def xkl(rs:List xb):Option (Nat×Int):=xeu 0 rs []
def xb.to:xb→Int
 | .take t _ _=>t
 | .put t _=>t
def xb.cnt:xb→Nat
 | .take _ _ c=>c.toNat
 | .put _ sg=>sg.length
def xb.sg(es:List Int):xb→List Int
 | .take _ st c=>(es.drop st.toNat).take c.toNat
 | .put _ sg=>sg
def xb.fits(es:List Int):xb→Prop
 | .take _ st c=>st+c≤es.length
 | .put _ _=>True
theorem xb.sg_len{es:List Int}{r:xb}(ok:r.ok)(f:r.fits es):(r.sg es).length=r.cnt:=by
 cases r with
 |take to st c=>
  obtain⟨k1,k2,k3⟩:=ok;have f':st+c≤es.length:=f;simp only[xb.sg,xb.cnt,bF,aQ];lia
 |put to sg=>rfl
theorem xb.ok.to{r:xb}(ok:r.ok):0≤r.to:=by
 cases r with
 |take to st c=>exact ok.1
 |put to sg=>exact ok.1
def Tells(es nw:List Int)(r:xb):Prop:=r.ok∧r.fits es∧r.to+r.cnt≤nw.length∧∀i:Nat,i<r.cnt→nw[(r.to+i).toNat]? =(r.sg es)[i]?
def yp(r:xb)(j:Nat):Prop:=r.to≤j∧(j:Int)<r.to+r.cnt
def xb.cst:xb→Int
 | .take .. =>4
 | .put _ sg=>2+sg.length
local macro_rules| `(tactic|walk_at"w")=>`(tactic|(conv=>whnf))
local macro_rules| `(tactic|walk_at"few")=>`(tactic|first|exact Nat.lt_of_lt_of_le (xkE (n:=998) (by simp)) (by decide)|(simp;done))
local macro_rules| `(tactic|walk_at"pos")=>`(tactic|first|(show(0:Int)<_;decide)|(show(0:Int)<_;lia)|assumption)
local macro_rules| `(tactic|walk_at"same")=>`(tactic|first|exact xc.refl _|assumption|(refine' xc.trans ?sa ?sb;(case sb=>assumption);(case sa=>walk_at"same")))
local macro_rules| `(tactic|walk_at"get")=>`(tactic|first|assumption|exact xj|(refine' xc.at ?ga ?gb;(case gb=>assumption);(case ga=>walk_at"same")))
local macro_rules| `(tactic|walk_at"sq")=>`(tactic|first|assumption|(refine' SqL.of ?g;(case g=>walk_at"get"))|(refine' SqT.of ?g;(case g=>walk_at"get"))|(refine' xc.seq ?sa ?sb;(case sb=>assumption);(case sa=>walk_at"same"))|(refine' xc.seqT ?sa ?sb;(case sb=>assumption);(case sa=>walk_at"same"))|(refine' Or.inl ?g;(case g=>walk_at"sq"))|(refine' Or.inr ?g;(case g=>walk_at"sq")))
local macro_rules| `(tactic|walk_at"no")=>`(tactic|(intro z;first|cases z|(simp at z;done)))
local macro_rules| `(tactic|walk_at"mul")=>`(tactic|first|exact Or.inl ⟨by decide,by decide⟩|exact Or.inr ⟨by decide,by decide⟩|exact Or.inl ⟨by lia,by lia⟩|exact Or.inr ⟨by lia,by lia⟩)
local macro_rules| `(tactic|walk_at"side")=>`(tactic|first|exact⟨by decide,by decide⟩|exact⟨by decide,by decide,by decide⟩|walk_at"pos" |walk_at"mul" |(show(_:Nat)≤sizeLine;first|decide|(simp only[List.length_cons,List.length_nil];decide)))
local macro_rules| `(tactic|walk_at"s")=>`(tactic|(refine And.intro (by walk_at"side") ?_;walk_at"w"))
local macro_rules| `(tactic|walk_at"ss")=>`(tactic|(repeat (walk_at"s")))
section
variable {P:aF} {w:World} {K:ai} {mg:Str→Option Value} {base:Heap} {a:Adr}
theorem jB(T:Txt K mg a):xG P w K mg base CX0 1 a.q0P a.xae ["self","to"] (xgd K):=by
 refine T.q1h.ok xbN (fun vs H Q E h=>?_) (fun cdv A outer s H vs Q E hr h=>?_)
 ·obtain⟨p,C,dx,to,rfl,_⟩:=h;rfl
 ·obtain⟨p,C,dx,to,rfl,hp,c,n1,n2,k⟩:=h;have nd:=xbN.nd;refine⟨_,(xh (uX (cv 0) (cv 1) rfl)
  (xi (uX (cv 0) xg rfl))),?_⟩
  walk_at"w";refine⟨p,C,dx,_,rfl,hp,c,n1,by walk_at"few",?_⟩;walk_at"w";refine⟨p,C,dx,_,rfl,xj,c,n2,by walk_at"few",?_⟩;walk_at"w";rw[zZ];exact k
theorem xfs(T:Txt K mg a):xG P w K mg base CX0 2 a.q0I a.jy ["self","to","start","count"] (xfp a):=by
 refine T.q03.ok xa7 (fun vs H Q E h=>?_) (fun cdv A outer s H vs Q E hr h=>?_)
 ·obtain⟨p,dx,to,st,c,rfl,_⟩:=h;rfl
 ·obtain⟨p,dx,to,st,c,rfl,hp,k⟩:=h;have nd:=xa7.nd;refine⟨_,(xh (yf (xdg (by rfl) T.xhz T.q1j (jB T) (hr.mono (by decide)) T.xah .nil xw (xa (cv 0) (xa (cv 1) xf))))
  (xh (uX (cv 0) (cv 2) rfl)
  (xi (uX (cv 0) (cv 3) rfl)))),?_⟩
  walk_at"w";refine⟨p,_,dx,to,rfl,hp,T.q0d,T.q0R,T.q0o,?_⟩;walk_at"w";refine⟨p,_,dx,_,rfl,xj,T.q0d,T.q0g,by walk_at"few",?_⟩;walk_at"w";refine⟨p,_,dx,_,rfl,xj,T.q0d,T.q0o,by walk_at"few",?_⟩;walk_at"w";rw[zZ,zZ];exact k
theorem uU(T:Txt K mg a):xG P w K mg base CX0 2 a.q0G a.vy ["self","to","signs"] (xge K a):=by
 refine T.q02.ok uT (fun vs H Q E h=>?_) (fun cdv A outer s H vs Q E hr h=>?_)
 ·obtain⟨p,dx,t,to,xs,rfl,_⟩:=h;rfl
 ·obtain⟨p,dx,t,to,xs,rfl,hp,ht,k⟩:=h;have nd:=uT.nd;have ht1:∀o,SqT K (upd H p o) t xs:=fun o=>xiU ht hp;refine⟨_,(xh (yf (xdg (by rfl) T.xhz T.q1j (jB T) (hr.mono (by decide)) T.xah .nil xw (xa (cv 0) (xa (cv 1) xf))))
  (xh (uX (cv 0) (yK vn (by rfl) T.q05 zu (xa (cv 2) xf)) rfl)
  (xi (uX (cv 0) (xo xq (by rfl) T.q0c xH (xa (xX (cv 0) rfl) xf)) rfl)))),?_⟩
  walk_at"w";refine⟨p,_,dx,to,rfl,hp,T.q0A,T.q0S,T.q0N,?_⟩;walk_at"w";refine⟨t,xs,rfl,.inr ⟨ht1 _,?_⟩⟩;walk_at"w";refine⟨p,_,dx,_,rfl,xj,T.q0A,T.q0z,by walk_at"few",?_⟩;walk_at"w";refine⟨p,_,dx,_,.ref t,rfl,xj,T.q0A,T.q0z,rfl,?_⟩;walk_at"w";refine⟨t,xs,rfl,.inr (xiU (ht1 _) xj),?_⟩;walk_at"w";refine⟨p,_,dx,_,rfl,xj,T.q0A,T.q0N,by walk_at"few",?_⟩;walk_at"w";rw[zZ,zZ];exact k
theorem xaz(T:Txt K mg a):xG P w K mg base CX0 1 a.q0D a.vW ["self"] (xjL a):=by
 refine T.q0X.ok xaw (fun vs H Q E h=>?_) (fun cdv A outer s H vs Q E hr h=>?_)
 ·obtain⟨p,dx,to,st,c,rfl,_⟩:=h;rfl
 ·obtain⟨p,dx,to,st,c,rfl,hp,k⟩:=h;have nd:=xaw.nd;refine⟨_,(xi (xu (xaI zc (xX (cv 0) rfl) (xX (cv 0) rfl)))),?_⟩;walk_at"w";refine⟨p,_,dx,_,.int st,rfl,hp,T.q0d,T.q0g,rfl,?_⟩;walk_at"w";refine⟨p,_,dx,_,.int to,rfl,hp,T.q0d,T.q0R,rfl,?_⟩;exact k
theorem yO(T:Txt K mg a):xG P w K mg base CX0 1 a.q1b a.xa0 ["_law_script","_law_k"] (xhA K):=by
 refine T.q0m.ok xcW (fun vs H Q E h=>?_) (fun cdv A outer s H vs Q E hr h=>?_)
 ·obtain⟨l,ns,k,rfl,_⟩:=h;rfl
 ·obtain⟨l,ns,k,rfl,hl,hk,q⟩:=h;have nd:=xcW.nd;refine⟨_,(xh (xT (xC jQ (cv 1) (xo xq (by rfl) T.q0c xH (xa (cv 0) xf))) (xi (xu (xr xN (cv 0) (cv 1) (fun _ _=>rfl)))) xR)
  (xi (xu xg))),?_⟩
  walk_at"w";refine⟨l,_,rfl,.inl hl,?_⟩;walk_at"w";refine⟨fun e=>?_,fun e=>?_⟩
  ·have e':=of_decide_eq_true e;rw[ab]at e';walk_at"w";refine⟨l,_,k,.int (ns.getD k.toNat 0),rfl,rfl,hl,?_,?_⟩
   ·have hk':k.toNat<ns.length:=by lia
    have:=yd (xs:=ns.map V.int) (j:=k.toNat) (v:=.int (ns.getD k.toNat 0)) (by simp[hk'])
    rwa [cH hk]at this
   ·walk_at"w";rw[cellAt,if_pos e']at q;exact q
  ·have e':=of_decide_eq_false e;rw[ab]at e';rw[cellAt,if_neg e']at q;exact q
def Sm:xb→Prop
 | .take to st c=>to≤100∧st≤100∧c≤60
 | .put to sg=>to≤100∧sg.length≤60
theorem xV{α β:Type}{F:α→β→Prop}{x:α}{y:β}:∀{l₁:List α} {l₂:List β},Paired F l₁ l₂→F x y→Paired F (l₁++[x]) (l₂++[y])
 |_,_,.nil,h=>.cons h .nil
 |_,_,.cons r t,h=>.cons r (xV t h)
def xjM(old new:Int):xb→Prop
 | .take to st c=>st+c≤old∧to+c≤new
 | .put to sg=>to+sg.length≤new
theorem Paired.nth{α β:Type}{F:α→β→Prop}:∀{l₁:List α} {l₂:List β} {i:Nat} {x:α},Paired F l₁ l₂→l₁[i]? =some x→∃y,l₂[i]? =some y∧F x y
 |_,_,_,_,.nil,e=>by simp at e
 |_,_,0,_,.cons r _,e=>by simp at e;subst e;exact⟨_,rfl,r⟩
 |_,_,i+1,_,.cons _ t,e=>by
  obtain⟨y,h1,h2⟩:=Paired.nth (i:=i) t (by simpa using e);exact⟨y,by simpa using h1,h2⟩
theorem Paired.mem{α β:Type}{F:α→β→Prop}{l₁:List α}{l₂:List β}{x:α}(h:Paired F l₁ l₂)(hx:x∈l₁):∃y∈l₂,F x y:=by
 obtain⟨i,hi⟩:=dv.mp hx;obtain⟨y,h1,h2⟩:=Paired.nth h hi;exact⟨y,aL h1,h2⟩
end
theorem xft{lo:Int}{n i:Nat}{d:Int}(h:(zl lo n)[i]? =some d):i<n∧d=lo+i:=by
 unfold zl at h;rw[au]at h;obtain⟨j,hj,rfl⟩:=cD.mp h;have hi:i<n:=by
  have:=(aW.mp hj).1;simpa using this
 rw[fR hi]at hj;cases hj;exact⟨hi,rfl⟩
theorem xla(lo:Int)(n:Nat):(zl lo n).Pairwise (· < ·):=by
 rw[bc];intro i j hi hj hij;have h1:=xft (ag hi);have h2:=xft (ag hj);lia
theorem xne(r:xb):r.cv.Nodup:=by
 have h:∀lo n,(zl lo n).Nodup:=fun lo n=>(xla lo n).imp (fun h=>by lia);cases r with
 |take to st n=>exact h _ _
 |put to sg=>exact h _ _
def Dis(rs:List xb):Prop:=∀(i j:Nat) (r s:xb),rs[i]? =some r→rs[j]? =some s→∀c,c∈r.cv→c∈s.cv→i=j
def xnf(H:Hp)(Q:VK)(xss:List (List Int)):Prop:=∀(l:Addr) (as:List Addr) (H':Hp),xc H H'→yH H H' l as xss→Q (.ref l) H'
def Bnd(xs:List Int):Prop:=∀x∈xs,(x.natAbs:Int)<10^60
noncomputable def minOf(ns:List Int):Int:=open Classical in if h:∃m,m∈ns∧∀x∈ns,m≤x then Classical.choose h else 0
theorem xfu{ns:List Int}{m:Int}(h1:m∈ns)(h2:∀x∈ns,m≤x):m=minOf ns:=by
 unfold minOf;have h:∃m,m∈ns∧∀x∈ns,m≤x:=⟨m,h1,h2⟩;rw[dif_pos h];obtain⟨q1,q2⟩:=Classical.choose_spec h;have:=h2 _ q1;have:=q2 _ h1;omega
def itN(f:Int→Int)(a:Int):Nat→Int
 |0=>a
 |i+1=>f (itN f a i)
def orb(f:Int→Int)(a:Int)(j:Nat):List Int:=(aI j).map (itN f a)
theorem xfv(f:Int→Int)(a:Int)(j:Nat):orb f a (j+1)=orb f a j++[itN f a j]:=by unfold orb;rw[fV,aD];rfl
theorem ue(f:Int→Int)(a:Int)(j:Nat):(orb f a j).length=j:=by simp[orb]
theorem jH{f:Int→Int}{a:Int}{i j:Nat}(h:i<j):(orb f a j)[i]? =some (itN f a i):=by simp[orb,h]
theorem vJ{f:Int→Int}{a x:Int}{j:Nat}:x∈orb f a j↔∃i,i<j∧x=itN f a i:=by
 unfold orb;rw[aG];constructor
 ·rintro⟨i,h1,rfl⟩;exact⟨i,a7.mp h1,rfl⟩
 ·rintro⟨i,h1,rfl⟩;exact⟨i,a7.mpr h1,rfl⟩
theorem jl{f:Int→Int}{a:Int}:∀{j:Nat},(∀i,i<j→¬itN f a i∈orb f a i)→(orb f a j).Nodup
 |0,_=>by simp[orb]
 |j+1,h=>by
  rw[xfv,iN];refine⟨jl fun i hi=>h i (by lia),by simp,fun x hx y hy e=>?_⟩;rw[aH.mp hy]at e;exact h j (by lia) (by rw[←e];exact hx)
theorem xiV:∀{ns:List Int},ns≠[]→∃m,m∈ns∧∀x∈ns,m≤x
 |[],h=>absurd rfl h
 |[x],_=>⟨x,by simp,by simp⟩
 |x::y::r,_=>by
  obtain⟨m,h1,h2⟩:=xiV (ns:=y::r) (by simp)
  by_cases e:x≤m
  ·refine⟨x,by simp,fun z hz=>?_⟩;rcases az.mp hz with w|w
   ·lia
   ·have:=h2 z w;lia
  ·refine⟨m,aq _ h1,fun z hz=>?_⟩;rcases az.mp hz with w|w
   ·lia
   ·exact h2 z w
noncomputable def nxt(xss:List (List Int))(left:List Int)(k:Int):Int:=minOf ((xss.getD k.toNat []).filter fun o=>decide (o∈left))
def jK(xss:List (List Int))(left ring:List Int):Prop:=∃(a:Int) (j:Nat),(a∈left∧∀x∈left,a≤x)∧itN (nxt xss left) a j∈orb (nxt xss left) a j∧(∀i,i<j→¬itN (nxt xss left) a i∈orb (nxt xss left) a i)∧
 ring=((orb (nxt xss left) a j).drop ((orb (nxt xss left) a j).idxOf (itN (nxt xss left) a j))).reverse
theorem jK.uniq{xss:List (List Int)}{left r1 r2:List Int}(h1:jK xss left r1)(h2:jK xss left r2):r1=r2:=by
 obtain⟨a,j,⟨a1,a2⟩,p1,p2,rfl⟩:=h1;obtain⟨b,k,⟨b1,b2⟩,q1,q2,rfl⟩:=h2;have e:a=b:=by have:=a2 b b1;have:=b2 a a1;lia
 subst e;have e:j=k:=by
  rcases c8 j k with z|z|z
  ·exact absurd p1 (q2 j z)
  ·exact z
  ·exact absurd q1 (p2 k z)
 subst e;rfl
def xbb(xss:List (List Int))(left:List Int):Prop:=∀k∈left,0≤k∧k<xss.length∧∃o∈left,o∈xss.getD k.toNat []
theorem xfw{xss:List (List Int)}{left:List Int}{k:Int}(h:xbb xss left)(hk:k∈left):nxt xss left k∈left∧nxt xss left k∈xss.getD k.toNat []:=by
 obtain⟨_,_,o,ho1,ho2⟩:=h k hk;have hm:o∈(xss.getD k.toNat []).filter fun o=>decide (o∈left):=aE.mpr ⟨ho2,decide_eq_true ho1⟩;have hex:∃m,m∈(xss.getD k.toNat []).filter (fun o=>decide (o∈left))∧∀x∈(xss.getD k.toNat []).filter (fun o=>decide (o∈left)),m≤x:=xiV (lX hm);obtain⟨m,h1,h2⟩:=hex;have e:m=nxt xss left k:=xfu h1 h2;rw[←e];obtain⟨q1,q2⟩:=aE.mp h1;exact⟨of_decide_eq_true q2,q1⟩
theorem xdD{xss:List (List Int)}{left:List Int}{a:Int}(h:xbb xss left)(ha:a∈left):∀i,itN (nxt xss left) a i∈left
 |0=>ha
 |i+1=>(xfw h (xdD h ha i)).1
theorem xbc{xss:List (List Int)}{left ring:List Int}(hL:xbb xss left)(hs:∀k∈left,k∉xss.getD k.toNat [])(h:jK xss left ring):
  2≤ring.length∧ring.Nodup∧(∀x∈ring,x∈left)∧∀k,k<ring.length→∃x y,ring[if k=0 then ring.length - 1 else k - 1]? =some x∧ring[k]? =some y∧x∈xss.getD y.toNat []:=by
 obtain⟨a,j,⟨a1,a2⟩,p1,p2,rfl⟩:=h;have hnd:=jl p2;obtain⟨i0,hi0,e0⟩:=vJ.mp p1;have hidx:(orb (nxt xss left) a j).idxOf (itN (nxt xss left) a j)=i0:=by
  rw[e0];have hlt:i0<(orb (nxt xss left) a j).length:=by rw[ue];exact hi0
  have hg:(orb (nxt xss left) a j)[i0]=itN (nxt xss left) a i0:=by
   have:=jH (f:=nxt xss left) (a:=a) hi0;rw[ag hlt]at this;exact bw this
  have hmem:itN (nxt xss left) a i0∈orb (nxt xss left) a j:=vJ.mpr ⟨i0,hi0,rfl⟩;have hlt2:=i8.mpr hmem;have hg2:=List.getElem_idxOf hlt2;rcases c8 ((orb (nxt xss left) a j).idxOf (itN (nxt xss left) a i0)) i0 with z|z|z
  ·exact absurd (hg2.trans hg.symm) (bc.mp hnd _ _ hlt2 hlt z)
  ·exact z
  ·exact absurd (hg.trans hg2.symm) (bc.mp hnd _ _ hlt hlt2 z)
 rw[hidx];have hlen:((orb (nxt xss left) a j).drop i0).reverse.length=j - i0:=by rw[lz,aQ,ue]
 have hget:∀k,k<j - i0→((orb (nxt xss left) a j).drop i0).reverse[k]? =some (itN (nxt xss left) a (j - 1 - k)):=by
  intro k hk;rw[kE (by rw[aQ,ue];exact hk),aQ,ue,gn,jH (by lia)]
  congr 2
  lia
 have hit:=xdD hL a1;have h2:2≤j - i0:=by
  by_cases hj:j - i0=1
  ·exfalso;have ej:j=i0+1:=by lia
   rw[ej]at e0;have:nxt xss left (itN (nxt xss left) a i0)=itN (nxt xss left) a i0:=e0;have hm:=(xfw hL (hit i0)).2;rw[this]at hm;exact hs _ (hit i0) hm
  ·lia
 refine⟨by rw[hlen];exact h2,?_,?_,?_⟩
 ·exact kA.mpr ((hnd.sublist (List.drop_sublist _ _)).imp bO)
 ·intro x hx;have hx2:=eJ (List.mem_reverse.mp hx);obtain⟨i,_,rfl⟩:=vJ.mp hx2;exact hit i
 ·intro k hk;rw[hlen]at hk⊢;refine⟨nxt xss left (itN (nxt xss left) a (j - 1 - k)),itN (nxt xss left) a (j - 1 - k),?_,hget k hk,(xfw hL (hit _)).2⟩
  by_cases hk0:k=0
  ·subst hk0;rw[if_pos rfl,hget _ (by lia)];have e1:j - 1 - (j - i0 - 1)=i0:=by lia
   rw[e1,←e0];have e2:j=(j - 1 - 0)+1:=by lia
   exact congrArg (fun z=>some (itN (nxt xss left) a z)) e2
  ·rw[if_neg hk0,hget _ (by lia)];have e2:j - 1 - (k - 1)=(j - 1 - k)+1:=by lia
   exact congrArg (fun z=>some (itN (nxt xss left) a z)) e2
theorem jm{kvs:List (Key×V)}{left:List Int}(h:kvs.map (·.1)=left.map cY)(o:Int):(zk kvs (.inl o)).isSome=decide (o∈left):=by
 unfold zk;rw[lZ,List.isSome_find?];have e:(kvs.any fun kv=>decide (kv.1=cY o))=((kvs.map (·.1)).any fun k=>decide (k=cY o)):=by rw[iZ];rfl
 rw[e,h,iZ,d7,dt,decide_eq_true_iff];constructor
 ·rintro⟨x,hx,hq⟩;have:=of_decide_eq_true hq;cases this;exact hx
 ·exact fun hx=>⟨o,hx,decide_eq_true rfl⟩
theorem xc.thaw{H G:Hp}{l:Addr}{x u:HO}(h:H l=some u)(s:xc (upd H l x) G):xc H (upd G l u):=fun b o e=>by
 by_cases hb:b=l
 ·subst hb;rw[xj,←h];exact e
 ·rw[xk hb];refine s b o ?_;rw[xk hb];exact e
theorem xgJ{H:Hp}{l b:Addr}{x y:HO}{kvs:List (Key×V)}(h:H l=some (.dK kvs))(e:H b=some y)(n:∀q,y≠.dK q):upd H l x b=some y:=by
 rw[xk (fun z=>by rw[z,h]at e;cases e;exact n _ rfl)];exact e
def xaj(xss:List (List Int))(left:List Int)(k:Int):Prop:=∃o∈left,o∈xss.getD k.toNat []
def xfx(xss:List (List Int))(left:List Int)(k:Int):Prop:=¬xaj xss left k∧∃i:Nat,left[i]? =some k∧∀j x,j<i→left[j]? =some x→xaj xss left x
def xbG(K:ai):Sp:=fun vs H Q _=>∃(D l:Addr) (as:List Addr) (H0:Hp) (xss:List (List Int)) (kvs:List (Key×V)) (left:List Int),vs=[.ref D,.ref l]∧yH H0 H D as xss∧H l=some (.dK kvs)∧kvs.map (·.1)=left.map cY∧(∀k∈left,0≤k∧k<xss.length)∧xss.length≤1000∧(∀xs∈xss,xs.length≤1000)∧
 (∀k∈left,xfx xss left k→∀G,xc H G→Q (.int k) G)∧((∀k∈left,xaj xss left k)→∀G,xc H G→Q .non G)
def xdE(K:ai):Sp:=fun vs H Q _=>∃(D l:Addr) (as:List Addr) (H0:Hp) (xss:List (List Int)) (kvs:List (Key×V)) (left:List Int),vs=[.ref D,.ref l]∧yH H0 H D as xss∧H l=some (.dK kvs)∧kvs.map (·.1)=left.map cY∧left≠[]∧left.length≤1000∧xbb xss left∧xss.length≤1000∧(∀xs∈xss,xs.length≤1000)∧∀ring,jK xss left ring→xmv H Q ring
section
variable {P:aF} {w:World} {K:ai} {mg:Str→Option Value} {base:Heap} {a:Adr}
theorem xbH(T:Txt K mg a):xG P w K mg base CX0 1 a.q0p a.zV ["spoilt","left"] (xbG K):=by
 refine T.q0r.ok vo (fun vs H Q E h=>?_) (fun cdv A outer s H vs Q E hr h=>?_)
 ·obtain⟨D,l,as,H0,xss,kvs,left,rfl,_⟩:=h;rfl
 ·obtain⟨D,l,as,H0,xss,kvs,left,rfl,L,hl,hks,hok,hxl,hxs,q1,q2⟩:=h;have nd:=vo.nd;refine⟨_,(xh (xkT (i:=1) b8 rfl (cv 1) (yE (i:=2) nd rfl (aS rfl)) (xi (xT (zh (yv (xo (xio rfl) (by rfl) T.q2k xl7 (xa (yq (yy (cap:=[1]) (ys:=["left"]) rfl rfl rfl rfl rfl ⟨⟨rfl,rfl,.inl rfl⟩,trivial⟩ (by decide+kernel)) rfl (yi (xr xN (cv 0) (cv 2) (fun _ _=>rfl))) (fun _ _ _ _=>(xly (xh7 (xke hr) (cv 0) (cv 1)) (by rfl))) (fun _ _ _ _=>yz)) xf)))) (xi (xu (cv 2))) xR)))
  (xi (xu xex))),?_⟩
  walk_at"w";refine⟨l,kvs,rfl,hl,fun o hdat=>?_⟩;generalize hF:upd H l _=F;have eF:F l=some (.frz o (.dK kvs)):=by rw[←hF,xj]
  have LF:yH H0 F D as xss:=⟨by rw[←hF];exact xgJ hl L.top (by intro _ z;cases z),L.nd,L.len,fun i a xs h1 h2=>by rw[←hF];exact xgJ hl (L.each i a xs h1 h2) (by intro _ z;cases z),L.fr,L.frs⟩;have hkl:kvs.length=left.length:=by have:=congrArg cn hks;simpa using this
  have back:∀G,xc F G→xc H (upd G l (.dK kvs)):=fun G sG=>by subst hF;exact xc.thaw hl sG
  clear hF;refine xhp (fun i σ G=>xc F G∧(∃z,σ=[some (.ref D),some (.ref l),z])∧∀j k,j<i→left[j]? =some k→xaj xss left k) ⟨xc.refl _,⟨_,rfl⟩,fun j k hj=>absurd hj (dG _)⟩ (fun i σ G _ hp=>hp.1.at eF) (fun i k σ G hk hp=>?_) (fun σ G hp=>?_)
  ·obtain⟨sG,⟨z,rfl⟩,hh⟩:=hp;have hk2:∃n,left[i]? =some n∧k=cY n:=by
    rw[hks,au]at hk;cases e:left[i]? with
    |none=>rw[e]at hk;cases hk
    |some n=>rw[e]at hk;cases hk;exact⟨n,rfl,rfl⟩
   obtain⟨n,hn,rfl⟩:=hk2;have hm:n∈left:=aL hn;obtain⟨k0,k1⟩:=hok n hm;walk_at"w";have hlt:n.toNat<xss.length:=by lia
   have LG:=LF.same sG;have hlta:n.toNat<as.length:=by rw[L.len];exact hlt
   have eg:xss.getD n.toNat []=xss[n.toNat]:=by simp[aX,hlt]
   have ea:=LG.each _ _ _ (ag hlta) (ag hlt);have hxl2:=hxs _ (cN hlt);refine⟨D,_,_,.ref as[n.toNat],rfl,rfl,SqL.of LG.top,?_,?_⟩
   ·have:=yd (xs:=as.map V.ref) (j:=n.toNat) (v:=.ref as[n.toNat]) (by simp[hlta])
    rwa [cH k0]at this
   walk_at"w";refine⟨_,rfl,⟨_,SqL.of ea⟩,?_⟩;refine xaP (fun v=>V.bl (inV v (left.map V.int))) (SqL.of ea) (by rw[ab,ay];lia) (fun v G5 hv s5 R hR=>?_) (fun D5 G5 hD5 s5 e5=>?_)
   ·obtain⟨c,_,rfl⟩:=aG.mp hv;walk_at"w";refine⟨l,zk kvs (.inl c),rfl,.inl ⟨kvs,.inl c,.inr ⟨o,(sG.trans s5).at eF⟩,rfl,rfl⟩,?_⟩;rw[jm hks,←vP];exact hR _ (xc.refl _)
   walk_at"w";refine⟨D5,xss[n.toNat].map fun c=>decide (c∈left),rfl,SqL.of (by rw[e5,bj,bj];simp[Function.comp_def,vP]),?_⟩;walk_at"w";have ha:((xss[n.toNat].map fun c=>decide (c∈left)).any id)=true↔xaj xss left n:=by
    unfold xaj;rw[eg,iZ,dt];exact⟨fun⟨x,hx,hq⟩=>⟨x,of_decide_eq_true hq,hx⟩,fun⟨x,hx,hq⟩=>⟨x,hq,decide_eq_true hx⟩⟩
   refine⟨fun e=>?_,fun e=>?_⟩
   ·have hn2:¬xaj xss left n:=fun z=>by rw[←ha]at z;simp only[z]at e;cases e
    walk_at"w";exact⟨⟨o,(sG.trans s5).at eF,hdat⟩,q1 n hm ⟨hn2,i,hn,fun j x hj hx=>hh j x hj hx⟩ _ (back _ (sG.trans s5))⟩
   ·have hn2:xaj xss left n:=by rw[←ha];simpa using e
    refine⟨sG.trans s5,⟨_,rfl⟩,fun j k hj hkj=>?_⟩
    by_cases hji:j=i
    ·subst hji;rw[hn]at hkj;cases hkj;exact hn2
    ·exact hh j k (by lia) hkj
  ·obtain⟨sG,⟨z,rfl⟩,hh⟩:=hp;refine⟨⟨o,sG.at eF,hdat⟩,q2 (fun k hk=>?_) _ (back G sG)⟩;obtain⟨j,hj,e⟩:=lB hk;exact hh j k (by lia) (by rw[ag hj,e])
theorem xei(T:Txt K mg a):xG P w K mg base CX0 1 a.q0K a.vX ["spoilt","left"] (xdE K):=by
 refine T.q0M.ok xax (fun vs H Q E h=>?_) (fun cdv A outer s H vs Q E hr h=>?_)
 ·obtain⟨D,l,as,H0,xss,kvs,left,rfl,_⟩:=h;rfl
 ·obtain⟨D,l,as,H0,xss,kvs,left,rfl,L,hl,hks,hne,hll,hok,hxl,hxs,q⟩:=h;have nd:=xax.nd;refine⟨_,(xh (xt (i:=2) nd rfl (aS rfl) (yB xf))
  (xh (xt (i:=3) nd rfl (aS rfl) (xo (xiw rfl) (by rfl) T.q1O xaK (xa (cv 1) xf)))
  (xh (vO b8 (xC xeF (cv 3) (cv 2) (by rfl)) (xh (yf (zb PySem.F.plainAttrs_list PySem.F.slot_list_append PySem.F.type_list_append yk (cv 2) (xa (cv 3) xf)))
  (xi (xt (i:=3) nd rfl (aS rfl) (xo (xdX rfl) (by rfl) T.q1O xaK (xa (yq (yy (cap:=[1]) (ys:=["left"]) rfl rfl rfl rfl rfl ⟨⟨rfl,rfl,.inl rfl⟩,trivial⟩ (by decide+kernel)) rfl (yi (xr xN (cv 0) (cv 3) (fun _ _=>rfl))) (fun _ _ _ _=>(cv 0)) (fun _ _ _ _=>(vE (xmY (xh7 (xke hr) (cv 0) (cv 1)) (by rfl))))) xf))))))
  (xi (xu (xhk rfl (by rfl) T.q1s (by rfl) T.q1P (ya yw (cv 2) (xM (zb PySem.F.plainAttrs_list PySem.F.slot_list_index PySem.F.type_list_index xju (cv 2) (xa (cv 3) xf))) yU))))))),?_⟩
  walk_at"w";walk_at"ss";intro p hp;generalize hUp:upd H p _=H1;have sH1:=xc.of_eq hp hUp;have ep:=xm hUp;clear hUp;walk_at"w";refine⟨l,kvs,left,rfl,sH1.at hl,hks,hne,fun st hst1 hst2=>?_⟩;walk_at"w";have hit:=xdD hok hst1;have nxs:∀k∈left,(xss.getD k.toNat []).length≤1000:=fun k hk=>by
   obtain⟨h0,h1,_⟩:=hok k hk;have hlt:k.toNat<xss.length:=by lia
   have e:xss.getD k.toNat []=xss[k.toNat]:=by simp[aX,hlt]
   rw[e];exact hxs _ (cN hlt)
  refine zP (m:=left.length) (fun m σ G=>xc H G∧∃j,m=left.length - j∧σ=[some (.ref D),some (.ref l),some (.ref p),some (.int (itN (nxt xss left) st j))]∧G p=some (.lst ((orb (nxt xss left) st j).map V.int))∧∀i,i<j→¬itN (nxt xss left) st i∈orb (nxt xss left) st i) ⟨sH1,0,by simp,rfl,ep,fun i hi=>absurd hi (dG _)⟩ (fun m σ G hP=>?_);obtain⟨sG,j,rfl,rfl,epj,hdis⟩:=hP;have hnd:=jl hdis;have hjl:j≤left.length:=by
   have:=ub hnd (l₂:=left) fun x hx=>by obtain⟨i,_,rfl⟩:=vJ.mp hx;exact hit i
   rwa [ue]at this
  walk_at"w";refine⟨p,_,rfl,.inl (SqL.of epj),rfl,xiq _,?_⟩;walk_at"w";rw[vP];refine⟨fun e=>?_,fun e=>?_⟩
  ·have e':¬itN (nxt xss left) st j∈orb (nxt xss left) st j:=by simpa using e
   have hdis':∀i,i<j+1→¬itN (nxt xss left) st i∈orb (nxt xss left) st i:=fun i hi=>by
    by_cases hij:i=j
    ·rw[hij];exact e'
    ·exact hdis i (by lia)
   have hjl':j+1≤left.length:=by
    have:=ub (jl hdis') (l₂:=left) fun x hx=>by obtain⟨i,_,rfl⟩:=vJ.mp hx;exact hit i
    rwa [ue]at this
   refine⟨fun σ' G'=>∃m',m'<left.length - j∧xc H G'∧∃j',m'=left.length - j'∧σ'=[some (.ref D),some (.ref l),some (.ref p),some (.int (itN (nxt xss left) st j'))]∧G' p=some (.lst ((orb (nxt xss left) st j').map V.int))∧∀i,i<j'→¬itN (nxt xss left) st i∈orb (nxt xss left) st i,fun _ _ z=>z,?_⟩;walk_at"w";refine⟨.inl ⟨rfl,_,SqL.of epj⟩,?_⟩;walk_at"w";refine⟨p,_,_,rfl,rfl,epj,by rw[ab,ue,ay];lia,?_⟩;generalize hU:upd G p _=G2;have s2:xc H G2:=xc.wr sG hp hU;have ep2:G2 p=some (.lst ((orb (nxt xss left) st (j+1)).map V.int)):=by rw[←hU,xj,xfv,aD];rfl
   clear hU;walk_at"w";obtain⟨k0,k1,_⟩:=hok _ (hit j);have hlt:(itN (nxt xss left) st j).toNat<xss.length:=by lia
   have hlta:(itN (nxt xss left) st j).toNat<as.length:=by rw[L.len];exact hlt
   have eg:xss.getD (itN (nxt xss left) st j).toNat []=xss[(itN (nxt xss left) st j).toNat]:=by simp[aX,hlt]
   have ea:=L.each _ _ _ (ag hlta) (ag hlt);refine⟨D,_,_,.ref as[(itN (nxt xss left) st j).toNat],rfl,rfl,SqL.of (s2.at L.top),?_,?_⟩
   ·have:=yd (xs:=as.map V.ref) (j:=(itN (nxt xss left) st j).toNat) (v:=.ref as[(itN (nxt xss left) st j).toNat]) (by simp[hlta])
    rwa [cH k0]at this
   walk_at"w";refine⟨_,rfl,⟨_,SqL.of (s2.at ea)⟩,?_⟩;have hxl2:=nxs _ (hit j);rw[eg]at hxl2;refine uq (fun v=>inV v (left.map V.int)) id (SqL.of (s2.at ea)) (by rw[ab,ay];lia) (fun v G5 hv s5 R hR=>?_) (fun v G5 hv _ s5 R hR=>?_) (fun D5 G5 hD5 s5 e5=>?_)
   ·obtain⟨c,_,rfl⟩:=aG.mp hv;walk_at"w";refine⟨l,zk kvs (.inl c),rfl,.inl ⟨kvs,.inl c,.inl ((s2.trans s5).at hl),rfl,rfl⟩,?_⟩;rw[jm hks,←vP];exact hR _ (xc.refl _)
   ·exact hR _ (xc.refl _)
   rw[ko,xf4]at e5;simp only[vP]at e5;walk_at"w";have hnn:(xss[(itN (nxt xss left) st j).toNat].filter fun x=>decide (x∈left))≠[]:=by
    obtain⟨_,_,o,ho1,ho2⟩:=hok _ (hit j);rw[eg]at ho2;exact lX (aE.mpr ⟨ho2,decide_eq_true ho1⟩)
   refine⟨D5,_,rfl,SqL.of e5,hnn,fun mm h1 h2=>?_⟩;have em:mm=itN (nxt xss left) st (j+1):=by
    have:=xfu h1 h2;show mm=minOf ((xss.getD (itN (nxt xss left) st j).toNat []).filter fun o=>decide (o∈left));rw[eg];exact this
   rw[em];exact⟨left.length - (j+1),by lia,s2.trans s5,j+1,rfl,rfl,s5.at ep2,hdis'⟩
  ·have e':itN (nxt xss left) st j∈orb (nxt xss left) st j:=by simpa using e
   walk_at"w";refine⟨.inl ⟨rfl,_,SqL.of epj⟩,?_⟩;walk_at"w";have hsm:∀x∈orb (nxt xss left) st j,x.natAbs<2^64:=fun x hx=>by
    obtain⟨i,_,rfl⟩:=vJ.mp hx;obtain⟨k0,k1,_⟩:=hok _ (hit i);lia
   refine⟨p,_,_,rfl,rfl,epj,e',by rw[ue];lia,hsm,?_⟩;walk_at"w";refine⟨_,rfl,?_⟩;walk_at"w";refine⟨p,_,rfl,SqL.of epj,?_⟩;intro c hc;generalize hUc:upd G c _=G3;have sG3:=xc.of_eq hc hUc;have ec:=xm hUc;clear hUc;walk_at"w";rw[yC,yo (by lia),HT.zR]at ec;refine⟨c,_,rfl,SqL.of ec,fun d hd=>?_⟩;have hidx:(orb (nxt xss left) st j).idxOf (itN (nxt xss left) st j)≤(orb (nxt xss left) st j).length:=cx (i8.mpr e');refine q _ ⟨st,j,⟨hst1,hst2⟩,e',hdis,rfl⟩ d _ ((sG.trans sG3).trans (xc.new hd)) ((sG.trans sG3).back hd) ?_;rw[xj,←List.map_reverse]
   congr 4
   rw[cI,bU hidx,bg (by rw[aQ];exact ao _)]
end
def xb.rd:xb→Int×Int
 | .take to st c=>if st=to then(0,0)else(st,st+c)
 | .put _ _=>(0,0)
def xb.wr:xb→Int×Int
 | .take to st c=>if st=to then(0,0)else(to,to+c)
 | .put to sg=>(to,to+sg.length)
def xak(x y:Int×Int):Bool:=decide (max x.1 y.1<min x.2 y.2)
def uV(k:Nat)(w:Int×Int)(rds:List (Int×Int)):List Int:=((aI rds.length).filter fun(i:Nat)=> !decide ((i:Int)=(k:Int))&&xak w (rds.getD i (0,0))).map fun(i:Nat)=>(i:Int)
def xY(rs:List xb):List (List Int):=(aI rs.length).map fun k=>uV k ((rs.map xb.wr).getD k (0,0)) (rs.map xb.rd)
def xhB(K:ai)(H H':Hp)(t:Addr)(x:Int×Int):Prop:=(∀G,SqT K G t [.int x.1,.int x.2])∨(H t=none∧H' t=some (.tup [.int x.1,.int x.2]))
def xcn(K:ai)(H:Hp)(t:Addr)(x:Int×Int):Prop:=SqT K H t [.int x.1,.int x.2]
theorem xhB.at{K:ai}{H H' H6:Hp}{t:Addr}{x:Int×Int}(h:xhB K H H' t x)(k:∀p o,(H p=none∨∀ys,o≠HO.lst ys)→H' p=some o→H6 p=some o):xcn K H6 t x:=by
 rcases h with h|⟨h1,h2⟩
 ·exact h _
 ·exact SqT.of (k _ _ (.inl h1) h2)
def xiW(K:ai):Sp:=fun vs H Q _=>∃(p C dx:Addr) (fs:List (Str×V)) (to c:Int),vs=[.ref p]∧H p=some (.ins C dx fs)∧Cls K C∧xW K C "to"∧xW K C "count"∧fs.lookup ("to":Str)=some (.int to)∧fs.lookup ("count":Str)=some (.int c)∧∀t,H t=none→Q (.ref t) (upd H t (.tup [.int to,.int (to+c)]))
def xcY(K:ai)(a:Adr):Sp:=fun vs H Q _=>∃(o:Addr) (r:xb),vs=[.ref o]∧xB K a H o r∧r.isTake=true∧∀t H',xc H H'→xhB K H H' t r.rd→Q (.ref t) H'
def xbd(K:ai)(a:Adr):Sp:=fun vs H Q _=>∃(o:Addr) (r:xb),vs=[.ref o]∧xB K a H o r∧r.isTake=true∧∀t H',xc H H'→xhB K H H' t r.wr→Q (.ref t) H'
def xlb(K:ai):Sp:=fun vs H Q _=>∃(s t:Addr) (x y:Int×Int),vs=[.ref s,.ref t]∧xcn K H s x∧xcn K H t y∧Q (.bl (xak x y)) H
def xfy(K:ai):Sp:=fun vs H Q _=>∃(k:Nat) (s l:Addr) (x:Int×Int) (ts:List Addr) (rds:List (Int×Int)),vs=[.int k,.ref s,.ref l]∧xcn K H s x∧SqL K H l (ts.map V.ref)∧Paired (xcn K H) ts rds∧rds.length≤1000∧xmv H Q (uV k x rds)
def xiX(K:ai)(a:Adr):Sp:=fun vs H Q _=>∃(l:Addr) (rs:List xb),vs=[.ref l]∧xmu K a H l rs∧rs.length≤1000∧(∀r∈rs,r.isTake=true)∧xnf H Q (xY rs)
section
variable {P:aF} {w:World} {K:ai} {mg:Str→Option Value} {base:Heap} {a:Adr}
theorem xaA(T:Txt K mg a):xG P w K mg base CX0 1 a.q0n a.vV ["self"] (xiW K):=by
 refine T.q0W.ok xav (fun vs H Q E h=>?_) (fun cdv A outer s H vs Q E hr h=>?_)
 ·obtain⟨p,C,dx,fs,to,c,rfl,_⟩:=h;rfl
 ·obtain⟨p,C,dx,fs,to,c,rfl,hp,cl,n1,n2,l1,l2,k⟩:=h;have nd:=xav.nd;refine⟨_,(xi (xu (yj (xa (xX (cv 0) rfl) (xa (xl xI (xX (cv 0) rfl) (xX (cv 0) rfl)) xf))))),?_⟩;walk_at"w";refine⟨p,C,dx,fs,_,rfl,hp,cl,n1,l1,?_⟩;walk_at"w";refine⟨p,C,dx,fs,_,rfl,hp,cl,n1,l1,?_⟩;walk_at"w";refine⟨p,C,dx,fs,_,rfl,hp,cl,n2,l2,?_⟩;walk_at"w";exact⟨by walk_at"side",k⟩
theorem xcZ(T:Txt K mg a):xG P w K mg base CX0 2 a.q0B a.uO ["row"] (xcY K a):=by
 refine T.q0C.ok jj (fun vs H Q E h=>?_) (fun cdv A outer s H vs Q E hr h=>?_)
 ·obtain⟨o,r,rfl,_⟩:=h;rfl
 ·obtain⟨o,r,rfl,ho,htk,k⟩:=h;have nd:=jj.nd;refine⟨_,(xh (xT (PW.pt (ug (yv (xo yQ (by rfl) T.q0e xZ (xa (cv 0) (xa (vC (v:=.ref a.q0a) (by rfl) T.xcS rfl) xf)))) (ua (zh (yv (yP (cv 0) T.q0d T.q1k (xaz T) (hr.mono (by decide)) T.xa2 .nil xw)))))) (xi (xu (yj (xa (xX (cv 0) rfl) (xa (xl xI (xX (cv 0) rfl) (xX (cv 0) rfl)) xf))))) xR)
  (xi (xu (vC (v:=.ref a.q0E) (by rfl) T.xa5 rfl)))),?_⟩
  cases r with
  |put _ _=>cases htk
  |take to st c=>
   obtain⟨dx,h1⟩:=ho;walk_at"w";refine⟨_,_,_,_,true,rfl,rfl,T.xbv h1,T.q1f,?_⟩;walk_at"w";refine⟨fun _=>?_,by walk_at"no"⟩;walk_at"w";refine⟨o,dx,_,rfl,h1,rfl,?_⟩;walk_at"w";refine⟨o,dx,to,st,c,rfl,h1,?_⟩;walk_at"w"
   by_cases e:st=to
   ·rw[decide_eq_true e];refine⟨by walk_at"no",fun _=>?_⟩;walk_at"w";refine k _ _ (xc.refl _) (.inl fun G=>?_);have:=T.xa6 G;simpa [xb.rd,e]using this
   ·rw[decide_eq_false e];refine⟨fun _=>?_,by walk_at"no"⟩;walk_at"w";refine⟨o,_,dx,_,.int st,rfl,h1,T.q0d,T.q0g,rfl,?_⟩;walk_at"w";refine⟨o,_,dx,_,.int st,rfl,h1,T.q0d,T.q0g,rfl,?_⟩;walk_at"w";refine⟨o,_,dx,_,.int c,rfl,h1,T.q0d,T.q0o,rfl,?_⟩;walk_at"w";refine⟨by walk_at"side",fun t ht=>k t _ (xc.new ht) (.inr ⟨ht,?_⟩)⟩;rw[xj];simp[xb.rd,e]
theorem xbe(T:Txt K mg a):xG P w K mg base CX0 2 a.q0h a.zL ["row"] (xbd K a):=by
 refine T.q0j.ok vh (fun vs H Q E h=>?_) (fun cdv A outer s H vs Q E hr h=>?_)
 ·obtain⟨o,r,rfl,_⟩:=h;rfl
 ·obtain⟨o,r,rfl,ho,htk,k⟩:=h;have nd:=vh.nd;refine⟨_,(xh (xT (PW.pt (ug (yv (xo yQ (by rfl) T.q0e xZ (xa (cv 0) (xa (vC (v:=.ref a.q0a) (by rfl) T.xcS rfl) xf)))) (ua (yv (yP (cv 0) T.q0d T.q1k (xaz T) (hr.mono (by decide)) T.xa2 .nil xw))))) (xi (xu (vC (v:=.ref a.q0E) (by rfl) T.xa5 rfl))) xR)
  (xi (xu (yP (cv 0) T.q0d T.q1B (xaA T) (hr.mono (by decide)) T.xa1 .nil xw)))),?_⟩
  cases r with
  |put _ _=>cases htk
  |take to st c=>
   obtain⟨dx,h1⟩:=ho;walk_at"w";refine⟨_,_,_,_,true,rfl,rfl,T.xbv h1,T.q1f,?_⟩;walk_at"w";refine⟨fun _=>?_,by walk_at"no"⟩;walk_at"w";refine⟨o,dx,_,rfl,h1,rfl,?_⟩;walk_at"w";refine⟨o,dx,to,st,c,rfl,h1,?_⟩;walk_at"w"
   by_cases e:st=to
   ·rw[decide_eq_true e];refine⟨fun _=>?_,by walk_at"no"⟩;walk_at"w";refine k _ _ (xc.refl _) (.inl fun G=>?_);have:=T.xa6 G;simpa [xb.wr,e]using this
   ·rw[decide_eq_false e];refine⟨by walk_at"no",fun _=>?_⟩;walk_at"w";refine⟨o,dx,_,rfl,h1,rfl,?_⟩;walk_at"w";refine⟨o,_,dx,_,to,c,rfl,h1,T.q0d,T.q0R,T.q0o,rfl,rfl,fun t ht=>k t _ (xc.new ht) (.inr ⟨ht,?_⟩)⟩;rw[xj];simp[xb.wr,e]
theorem xlc(T:Txt K mg a):xG P w K mg base CX0 1 a.q1F a.xfa ["one","other"] (xlb K):=by
 refine T.q1H.ok xgG (fun vs H Q E h=>?_) (fun cdv A outer s H vs Q E hr h=>?_)
 ·obtain⟨s,t,x,y,rfl,_⟩:=h;rfl
 ·obtain⟨s1,t1,x,y,rfl,hs,ht,q⟩:=h;have nd:=xgG.nd;refine⟨_,(xi (xu (xaI jQ (xo (xig rfl) (by rfl) T.q1X xeO (xa (xr xA (cv 0) xg (fun _ _=>rfl)) (xa (xr xA (cv 1) xg (fun _ _=>rfl)) xf))) (xo (xl8 rfl) (by rfl) T.q1O xaK (xa (xr xA (cv 0) xg (fun _ _=>rfl)) (xa (xr xA (cv 1) xg (fun _ _=>rfl)) xf)))))),?_⟩;walk_at"w";refine⟨s1,_,_,.int x.1,rfl,rfl,hs,rfl,?_⟩;walk_at"w";refine⟨t1,_,_,.int y.1,rfl,rfl,ht,rfl,?_⟩;walk_at"w";refine⟨s1,_,_,.int x.2,rfl,rfl,hs,rfl,?_⟩;walk_at"w";refine⟨t1,_,_,.int y.2,rfl,rfl,ht,rfl,?_⟩;exact q
theorem xfz(T:Txt K mg a):xG P w K mg base CX0 2 a.q0U a.jA ["number","stretch","read"] (xfy K):=by
 refine T.q0V.ok xa9 (fun vs H Q E h=>?_) (fun cdv A outer s H vs Q E hr h=>?_)
 ·obtain⟨k,s,l,x,ts,rds,rfl,_⟩:=h;rfl
 ·obtain⟨k,s1,l,x,ts,rds,rfl,hs,hl,hp,hle,q⟩:=h;have nd:=xa9.nd;refine⟨_,(xi (xu (xca (xdk (cap:=[0,1]) (ys:=["number","stretch"]) rfl rfl rfl rfl rfl rfl ⟨⟨rfl,rfl,.inl rfl⟩,⟨⟨rfl,rfl,.inl rfl⟩,trivial⟩⟩ (by decide+kernel)) rfl (xkM (by rfl) T.q1L (xa (cv 2) xf)) (fun _ _ _ _=>(cv 0)) (fun _ _ _ _=>(vE (PW.pt (ug (xC xen (cv 0) (cv 2)) (ua (yv (xx (xlc T) (hr.mono (by decide)) (by rfl) T.xmt T.q1H.kp T.xms .nil xw (xa (cv 3) (xa (cv 1) xf)))))))))))),?_⟩;have elen:ts.length=rds.length:=hp.length;walk_at"w";refine⟨l,rfl,⟨_,hl⟩,?_⟩;refine xf3 (fun i v=> !decide ((i:Int)=(k:Int))&&xak x (rds.getD i (0,0))) hl (by rw[ab,ay];lia) (fun i v H3 hv s3 R hR=>?_) (fun i v H3 hv s3 R hR=>?_) (fun D H' hD s' hv=>?_)
  ·rw[au]at hv;cases ht:ts[i]? with
   |none=>rw[ht]at hv;cases hv
   |some t=>
    rw[ht]at hv;cases hv;obtain⟨y,hy,py⟩:=xU hp ht;have eg:rds.getD i (0,0)=y:=by simp[aX,hy]
    walk_at"w";refine⟨fun e=>?_,fun e=>?_⟩
    ·walk_at"w";refine⟨s1,t,x,y,rfl,s3.seqT hs,s3.seqT py,?_⟩;have:=hR _ (xc.refl _);rw[eg,e,Bool.true_and]at this;exact this
    ·have:=hR _ (xc.refl _);rw[e,Bool.false_and]at this;exact this
  ·exact hR _ (xc.refl _)
  ·refine q D H' s' hD ?_;rw[hv,ab,elen,uV,bj];rfl
theorem xiY(T:Txt K mg a):xG P w K mg base CX0 3 a.q1l a.xch ["rows"] (xiX K a):=by
 refine T.q1o.ok xd5 (fun vs H Q E h=>?_) (fun cdv A outer s H vs Q E hr h=>?_)
 ·obtain⟨l,rs,rfl,_⟩:=h;rfl
 ·obtain⟨l,rs,rfl,⟨os,hl,hp⟩,hle,htk,q⟩:=h;have nd:=xd5.nd;refine⟨_,(xh (xt (i:=1) nd rfl (gf rfl) (yq (yy (cap:=[]) (ys:=[]) rfl rfl rfl rfl rfl trivial (by decide+kernel)) rfl (yi (cv 0)) (fun _ _ _ _=>(xx (xcZ T) (hr.mono (by decide)) (by rfl) T.xdy T.q0C.kp T.xdw .nil xw (xa (cv 0) xf))) (fun _ _ _ _=>yz)))
  (xh (xt (i:=2) nd rfl (gf rfl) (yq (yy (cap:=[]) (ys:=[]) rfl rfl rfl rfl rfl trivial (by decide+kernel)) rfl (yi (cv 0)) (fun _ _ _ _=>(xx (xbe T) (hr.mono (by decide)) (by rfl) T.xbD T.q0j.kp T.xbC .nil xw (xa (cv 0) xf))) (fun _ _ _ _=>yz)))
  (xi (xu (yq (yy (cap:=[1,2]) (ys:=["read","written"]) rfl rfl rfl rfl rfl ⟨⟨rfl,rfl,.inl rfl⟩,⟨⟨rfl,rfl,.inl rfl⟩,trivial⟩⟩ (by decide+kernel)) rfl (yL (by rfl) T.q0O (xa (xo xq (by rfl) T.q0c xH (xa (cv 0) xf)) xf)) (fun _ _ _ _=>(xx (xfz T) (hr.mono (by decide)) (by rfl) T.xgb T.q0V.kp T.xga .nil xw (xa (cv 0) (xa (xr (jV (K:=K) rfl) (cv 2) (cv 0) (fun _ _=>rfl)) (xa (cv 1) xf))))) (fun _ _ _ _=>yz)))))),?_⟩
  have elen:os.length=rs.length:=hp.length;have hz:(os.map V.ref).length≤aO:=by rw[ab,ay];lia
  walk_at"w";refine⟨l,rfl,⟨_,hl⟩,?_⟩;refine uo (fun i acc G=>∃ts:List Addr,acc=ts.map V.ref∧Paired (xcn K G) ts ((rs.map xb.rd).take i)) hl hz ⟨[],rfl,.nil⟩ (fun i v acc H3 H3' hv s3 s3' hP R hR=>?_) (fun D1 acc H1 H1' hD1 hD1' s1 s1' hP hacc hv1=>?_)
  ·rw[au]at hv;cases ht:os[i]? with
   |none=>rw[ht]at hv;cases hv
   |some o=>
    rw[ht]at hv;cases hv;obtain⟨r,hy,py⟩:=xU hp ht;obtain⟨ts,rfl,hts⟩:=hP;walk_at"w";refine⟨o,r,rfl,py.same (s3.trans s3'),htk r (aL hy),fun t H6 s6 hn=>hR _ _ s6 fun G sG kG=>⟨ts++[t],by simp,?_⟩⟩;rw[cg,au,hy];exact xV (L2.Paired.imp' (fun _ _ z=>sG.seqT z) hts) (hn.at kG)
  ·obtain⟨t1,rfl,ht1⟩:=hP;rw[bg (by simp;lia)]at ht1;walk_at"w";have hl1:=(s1.trans s1').seq hl;refine⟨l,rfl,⟨_,hl1⟩,?_⟩;refine uo (fun i acc G=>∃ts:List Addr,acc=ts.map V.ref∧Paired (xcn K G) ts ((rs.map xb.wr).take i)) hl1 hz ⟨[],rfl,.nil⟩ (fun i v acc H3 H3' hv s3 s3' hP R hR=>?_) (fun D2 acc H2 H2' hD2 hD2' s2 s2' hP hacc2 hv2=>?_)
   ·rw[au]at hv;cases ht:os[i]? with
    |none=>rw[ht]at hv;cases hv
    |some o=>
     rw[ht]at hv;cases hv;obtain⟨r,hy,py⟩:=xU hp ht;obtain⟨ts,rfl,hts⟩:=hP;walk_at"w";refine⟨o,r,rfl,py.same ((s1.trans s1').trans (s3.trans s3')),htk r (aL hy),fun t H6 s6 hn=>hR _ _ s6 fun G sG kG=>⟨ts++[t],by simp,?_⟩⟩;rw[cg,au,hy];exact xV (L2.Paired.imp' (fun _ _ z=>sG.seqT z) hts) (hn.at kG)
   ·obtain⟨t2,rfl,ht2⟩:=hP;rw[bg (by simp;lia)]at ht2;walk_at"w";refine⟨l,_,rfl,.inl ((s2.trans s2').seq hl1),?_⟩;walk_at"w";have en:zd 0 ((os.map V.ref).length:Nat) 1=rs.length:=by rw[ze,ab,elen];lia
    rw[en];have hd1:=(s2.trans s2').at hv1;have p1:=L2.Paired.imp' (fun _ _ z=>(s1'.trans (s2.trans s2')).seqT z) ht1;have p2:=L2.Paired.imp' (fun _ _ z=>s2'.seqT z) ht2;have s12:xc H H2':=(s1.trans s1').trans (s2.trans s2');refine xhg (fun k=>uV k ((rs.map xb.wr).getD k (0,0)) (rs.map xb.rd)) (by rw[ay];lia) (fun k H3 hk s3 R hR=>?_) (fun D H' as s' L=>?_)
    ·have hk2:k<t2.length:=by rw[p2.length];simpa using hk
     obtain⟨y,hy,py⟩:=xU p2 (ag hk2);have eg:(rs.map xb.wr).getD k (0,0)=y:=by simp only[aX];rw[hy];rfl
     rw[eg]at hR;have ek:(0:Int)+(k:Int)*1=(k:Int):=by lia
     rw[ek];walk_at"w";refine⟨D2,_,_,.ref t2[k],rfl,rfl,SqL.of (s3.at hv2),?_,?_⟩
     ·exact yd (by simp[hk2])
     walk_at"w";exact⟨k,t2[k],D1,y,t1,rs.map xb.rd,rfl,s3.seqT py,SqL.of (s3.at hd1),L2.Paired.imp' (fun _ _ z=>s3.seqT z) p1,by simpa using hle,fun l1 H4 s4 hl4 hv4=>hR _ _ s4 hl4 hv4⟩
    ·exact q D as H' (s12.trans s') (L.base s12)
end
def yF:xb→List Int
 | .take to _ c=>[c,to]
 | .put .. =>[]
def dR:xb:=.put 0 []
abbrev xc0:Expr:=xhm (xme ((xm5 ((xmk ((xQ yx).getD 4 (.Pass ⟨0,0,0,0⟩))).getD 1 (.Pass ⟨0,0,0,0⟩))).getD 1 (.Pass ⟨0,0,0,0⟩)))
theorem xgK:uH ["one","takes"] ["one"] ["takes"] (uL xc0):=⟨rfl,rfl,rfl,by decide+kernel,rfl,by decide+kernel,by decide+kernel,by decide+kernel⟩
def xld(K:ai)(a:Adr):List (Str×V)→Sp:=fun fv vs H Q _=>∃(l:Addr) (os:List Addr) (rs:List xb) (x:Int),fv=([("takes",.ref l)]:List (Str×V))∧vs=[.int x]∧SqL K H l (os.map V.ref)∧Paired (xB K a H) os rs∧(∀r∈rs,r.isTake=true)∧0≤x∧x<rs.length∧
 ∀d,H d=none→Q (.ref d) (upd H d (.tup ((yF (rs.getD x.toNat dR)).map V.int)))
inductive Goes(xss:List (List Int))(key:Int→List Int):List Int→List Int→List (Int×List Int)→Prop
 |nil:Goes xss key [] [] []
 |keep {left ord:List Int} {tur:List (Int×List Int)} (k:Int):k∈left→xfx xss left k→Goes xss key (left.filter fun x=>decide (x≠k)) ord tur→Goes xss key left (k::ord) tur
 |turn {left ord ring:List Int} {tur:List (Int×List Int)} (k:Int):(∀x∈left,xaj xss left x)→jK xss left ring→k=ring.getD (bst (fun i=>key (ring.getD i 0)) (ring.length - 1)) 0→k∈left→Goes xss key (left.filter fun x=>decide (x≠k)) ord tur→Goes xss key left ord ((k,ring)::tur)
theorem xfx.uniq{xss:List (List Int)}{left:List Int}{k k':Int}(h:xfx xss left k)(h':xfx xss left k'):k=k':=by
 obtain⟨n1,i,e1,q1⟩:=h;obtain⟨n2,i',e2,q2⟩:=h';rcases c8 i i' with z|z|z
 ·exact absurd (q2 i k z e1) n1
 ·subst z;rw[e1]at e2;exact bw e2
 ·exact absurd (q1 i' k' z e2) n2
theorem Goes.uniq{xss:List (List Int)}{key:Int→List Int}{left ord:List Int}{tur:List (Int×List Int)}(h:Goes xss key left ord tur):∀{ord' tur'},Goes xss key left ord' tur'→ord=ord'∧tur=tur':=by
 induction h with
 |nil=>
  intro ord' tur' h';cases h' with
  |nil=>exact⟨rfl,rfl⟩
  |keep k hk=>cases hk
  |turn k _ _ _ hk=>cases hk
 |keep k hk hm _ ih=>
  intro ord' tur' h';cases h' with
  |nil=>cases hk
  |keep k' hk' hm' g'=>
   have:=hm.uniq hm';subst this;obtain⟨rfl,rfl⟩:=ih g';exact⟨rfl,rfl⟩
  |turn k' hh _ _ _ _=>exact absurd (hh k hk) hm.1
 |turn k hh hr e hk _ ih=>
  intro ord' tur' h';cases h' with
  |nil=>cases hk
  |keep k' hk' hm' _=>exact absurd (hh k' hk') hm'.1
  |turn k' hh' hr' e' hk' g'=>
   have:=hr.uniq hr';subst this;have:k=k':=e.trans e'.symm;subst this;obtain⟨rfl,rfl⟩:=ih g';exact⟨rfl,rfl⟩
def xfA(os:List Addr)(G:Hp)(o t:Addr)(p:Addr)(kr:Int×List Int):Prop:=∃rl,rl≠o∧rl≠t∧G p=some (.tup [.ref (os.getD kr.1.toNat 0),.ref rl])∧G rl=some (.lst (kr.2.map fun x=>V.ref (os.getD x.toNat 0)))
def xc1(K:ai)(a:Adr):Sp:=fun vs H Q _=>∃(l:Addr) (os:List Addr) (rs:List xb),vs=[.ref l]∧SqL K H l (os.map V.ref)∧Paired (xB K a H) os rs∧(∀r∈rs,r.isTake=true)∧rs.length≤1000∧H yl=some (.tbl yN)∧
 ∀(p o t:Addr) (ord:List Int) (tur:List (Int×List Int)) (trs:List Addr) (G:Hp),xc H G→H p=none→H o=none→H t=none→o≠t→G p=some (.tup [.ref o,.ref t])→G o=some (.lst (ord.map fun x=>V.ref (os.getD x.toNat 0)))→G t=some (.lst (trs.map V.ref))→Paired (xfA os G o t) trs tur→
  Goes (xY rs) (fun x=>yF (rs.getD x.toNat dR)) ((aI rs.length).map fun(i:Nat)=>(i:Int)) ord tur→Q (.ref p) G
theorem xal{k:Int}:∀{kvs:List (Key×V)} {left:List Int},kvs.map (·.1)=left.map cY→(vt kvs (.inl k)).map (·.1)=(left.filter fun x=>decide (x≠k)).map cY
 |[],[],_=>rfl
 |kv::kvs,x::left,h=>by
  rw[a9,a9]at h;injection h with h1 h2;have ih:=xal (k:=k) h2;unfold vt at ih⊢
  by_cases e:x=k
  ·rw[dJ (by rw[h1,e];simp),dJ (by simp[e])];exact ih
  ·rw[dN (by rw[h1];simpa using e),dN (by simpa using e),a9,a9,ih,h1]
theorem xbQ{k:Int}{left:List Int}(h:k∈left):(left.filter fun x=>decide (x≠k)).length<left.length:=by
 refine Nat.lt_of_le_of_ne (bR _ _) fun z=>?_;have e:=lD.eq_of_length z;have:=aE.mp (e▸h);simp at this
theorem xam{rs:List xb}{k:Int}(h0:0≤k)(h1:k<rs.length):k∉(xY rs).getD k.toNat []:=fun hm=>by
 have hk:k.toNat<rs.length:=by lia
 have e:(xY rs).getD k.toNat []=uV k.toNat ((rs.map xb.wr).getD k.toNat (0,0)) (rs.map xb.rd):=by simp[xY,aX,hk]
 rw[e]at hm;unfold uV at hm;obtain⟨i,hi,e2⟩:=aG.mp hm;have:=(aE.mp hi).2;rw[dh]at this;have:=this.1;simp at this;lia
def refOf(os:List Addr):V→V
 | .int x=>.ref (os.getD x.toNat 0)
 |_=>.non
theorem getD_mem{xs:List Int}{i:Nat}(h:i<xs.length):xs.getD i 0∈xs:=by
 have:xs.getD i 0=xs[i]:=by simp[aX,h]
 rw[this];exact cN h
section
variable {P:aF} {w:World} {K:ai} {mg:Str→Option Value} {base:Heap} {a:Adr}
theorem xaD(T:Txt K mg a):uk P w K mg base CX0 1 "<lambda>" "put_in_order.<locals>.<lambda>" (xdl xc0) (.expr (xdm xc0)) (uL xc0) ["one"] (xld K a):=by
 refine xb8 xgK (fun fv vs H Q E h=>?_) (fun _ _ _ _ _ us hl=>match us,hl with|[_],_=>rfl) (fun A outer s H f clos cdv fv vs Q E hr h=>?_)
 ·obtain⟨l,os,rs,x,rfl,rfl,_⟩:=h;exact⟨rfl,rfl⟩
 ·obtain⟨l,os,rs,x,rfl,rfl,hl,hp,htk,x0,x1,k⟩:=h;have nd:=xgK.nd;refine⟨_,(yj (xa (xX (xr xN (cv 1) (cv 0) (fun _ _=>rfl)) rfl) (xa (xX (xr xN (cv 1) (cv 0) (fun _ _=>rfl)) rfl) xf))),?_⟩;have elen:os.length=rs.length:=hp.length;have hx:x.toNat<os.length:=by lia
  have hx2:x.toNat<rs.length:=by lia
  obtain⟨r,hr1,hr2⟩:=xU hp (ag hx);have ht:=htk r (aL hr1);have eg:rs.getD x.toNat dR=r:=by simp only[aX];rw[hr1];rfl
  rw[eg]at k;have hat:atI (os.map V.ref) x=some (.ref os[x.toNat]):=by
   have:=yd (xs:=os.map V.ref) (j:=x.toNat) (v:=.ref os[x.toNat]) (by simp[hx])
   rwa [cH x0]at this
  cases r with
  |put _ _=>cases ht
  |take to st c=>
   obtain⟨dx,h1⟩:=hr2;walk_at"w";refine⟨l,_,_,_,rfl,rfl,hl,hat,?_⟩;walk_at"w";refine⟨_,_,dx,_,.int c,rfl,h1,T.q0d,T.q0o,rfl,?_⟩;walk_at"w";refine⟨l,_,_,_,rfl,rfl,hl,hat,?_⟩;walk_at"w";refine⟨_,_,dx,_,.int to,rfl,h1,T.q0d,T.q0R,rfl,?_⟩;walk_at"w";exact⟨by walk_at"side",k⟩
theorem xc2(T:Txt K mg a):xG P w K mg base CX0 4 a.q0t a.zH ["takes"] (xc1 K a):=by
 refine T.yY.okC ["takes"] T.xcP jk (fun vs H Q E h=>?_) (fun A outer s H vs Q E hr h=>?_)
 ·obtain⟨l,os,rs,rfl,_⟩:=h;rfl
 ·obtain⟨l,os,rs,rfl,hl,hp,htk,hle,hP,q⟩:=h;have nd:=jk.nd;refine⟨_,(xdV (x:="takes") (i:=0) nd rfl rfl rfl (by kernel_rfl) (xh (xt (i:=1) nd rfl (aS rfl) (xx (xiY T) (hr.mono (by decide)) (by rfl) T.xjI T.q1o.kp T.xjH .nil xw (xa (cv 0) xf)))
  (xh (xt (i:=2) nd rfl (aS rfl) (yK (xhr rfl) (by rfl) T.q2e xkD (xa (yq (yy (cap:=[]) (ys:=[]) rfl rfl rfl rfl rfl trivial (by decide+kernel)) rfl (yL (by rfl) T.q0O (xa (xo xq (by rfl) T.q0c xH (xa (cv 0) xf)) xf)) (fun _ _ _ _=>(yj (xa (cv 0) (xa zo xf)))) (fun _ _ _ _=>yz)) xf)))
  (xh (xt (i:=3) nd rfl (aS rfl) (yB xf))
  (xh (xt (i:=4) nd rfl (aS rfl) (yB xf))
  (xh (vO b8 (xC xeK (xo xia (by rfl) T.q0c xH (xa (cv 2) xf)) xg) (xh (xt (i:=5) nd rfl (aS rfl) (xx (xbH T) (hr.mono (by decide)) (by rfl) T.xck T.q0r.kp T.xcj .nil xw (xa (cv 1) (xa (cv 2) xf))))
  (xh (xeL (xT (xih (cv 5)) (xh (xt (i:=6) nd rfl (aS rfl) (xx (xei T) (hr.mono (by decide)) (by rfl) T.xfd T.q0M.kp T.xfc .nil xw (xa (cv 1) (xa (cv 2) xf))))
  (xh (xt (i:=5) nd rfl (aS rfl) (xkU (xaD T) (hr.mono (by decide)) rfl (by rfl) T.q1O (xa (cv 6) xf) (xaO (c:=q0f) (P:=yl) (qs:=yN) (fns:=["takes"]) rfl T.q1r (q:="put_in_order.<locals>.<lambda>") (by kernel_rfl) (.head _) (by kernel_rfl) (by kernel_rfl))))
  (xi (yf (zb PySem.F.plainAttrs_list PySem.F.slot_list_append PySem.F.type_list_append yk (cv 4) (xa (yj (xa (xr xN (cv 0) (cv 5) (fun _ _=>rfl)) (xa (yq (yy (cap:=[0]) (ys:=["takes"]) rfl rfl rfl rfl rfl ⟨⟨rfl,rfl,.inl rfl⟩,trivial⟩ (by decide+kernel)) rfl (yi (cv 6)) (fun _ _ _ _=>(xr (jV (K:=K) rfl) (cv 1) (cv 0) (fun _ _=>rfl))) (fun _ _ _ _=>yz)) xf))) xf)))))) (xi (yf (zb PySem.F.plainAttrs_list PySem.F.slot_list_append PySem.F.type_list_append yk (cv 3) (xa (xr xN (cv 0) (cv 5) (fun _ _=>rfl)) xf))))))
  (xi (yf (xjk (cv 2) (cv 5) ⟨by rfl,by rfl,by decide,by rfl⟩))))))
  (xi (xu (yj (xa (cv 3) (xa (cv 4) xf))))))))))),?_⟩
  have elen:os.length=rs.length:=hp.length;walk_at"w";intro a1 e1 z1 d1;refine fF z1 ?_;generalize hU1:upd H a1 _=H1;have s1:=xc.of_eq z1 hU1;have c1:=xm hU1;clear hU1;walk_at"w";refine⟨l,rs,rfl,⟨os,s1.seq hl,L2.Paired.imp' (fun _ _ z=>z.same s1) hp⟩,hle,htk,fun D as H2 s2 L=>?_⟩;walk_at"w";refine⟨l,_,rfl,.inl ((s1.trans s2).seq hl),?_⟩;walk_at"w";have en:zd 0 ((os.map V.ref).length:Nat) 1=rs.length:=by rw[ze,ab,elen];lia
  rw[en];refine xaR (fun i acc G=>∃ts:List Addr,acc=ts.map V.ref∧Paired (fun t (kv:Key×V)=>G t=some (.tup [kV kv.1,kv.2])) ts ((aI i).map fun(j:Nat)=>((cY (j:Int),V.bl true):Key×V))) (by rw[ay];lia) ⟨[],rfl,.nil⟩ (fun i acc H3 H3' hi s3 s3' hPv R hR=>?_) (fun D2 acc H3 H3' hD2 hD2' s3 s3' hPv hacc hv2=>?_)
  ·obtain⟨ts,rfl,hts⟩:=hPv;have ek:(0:Int)+(i:Int)*1=(i:Int):=by lia
   rw[ek];walk_at"w";refine⟨by walk_at"side",fun t ht=>hR _ _ (xc.new ht) fun G sG kG=>⟨ts++[t],by simp,?_⟩⟩;rw[fV,aD];exact xV (L2.Paired.imp' (fun _ _ z=>sG.at z) hts) (kG t _ (.inl ht) xj)
  obtain⟨ts,rfl,hts⟩:=hPv;have s03:xc H1 H3':=s2.trans (s3.trans s3');walk_at"w";refine⟨D2,ts,_,rfl,SqL.of hv2,L2.Paired.imp' (fun _ _ z=>s3'.at z) hts,?_,fun d hd=>?_⟩
  ·rw[bj];exact bu.mpr (dq.imp fun h e=>h (by have:=Sum.inl.inj e;lia))
  generalize hU4:upd H3' d _=H4;have s4:=xc.of_eq hd hU4;have c4:=xm hU4;clear hU4;walk_at"w";walk_at"ss";intro o ho;generalize hUo:upd H4 o _=H5;have sH5:=xc.of_eq ho hUo;have eo:=xm hUo;clear hUo;walk_at"w";walk_at"w";walk_at"ss";intro t ht;generalize hUt:upd H5 t _=H6;have sH6:=xc.of_eq ht hUt;have et:=xm hUt;clear hUt;walk_at"w";walk_at"w";have s26:xc H2 H6:=(s3.trans s3').trans (s4.trans (sH5.trans sH6));have fd:H2 d=none:=(s3.trans s3').back hd;have fo:H2 o=none:=((s3.trans s3').trans s4).back ho;have ft:H2 t=none:=(((s3.trans s3').trans s4).trans sH5).back ht;have hot:o≠t:=fun z=>by rw[z]at eo;rw[ht]at eo;cases eo
  have hspl:(xY rs).length=rs.length:=by simp[xY]
  have hspo:∀xs∈xY rs,xs.length≤1000:=fun xs hx=>by
   obtain⟨k,_,rfl⟩:=aG.mp hx;unfold uV;rw[ab];refine bp (bR _ _) ?_;simp;lia
  refine zP (m:=rs.length) (fun m σ G=>xc H2 G∧∃(left:List Int) (kvs:List (Key×V)) (ord:List Int) (tur:List (Int×List Int)) (trs:List Addr) (z5 z6:Option V),m=left.length∧σ=[some (.ref l),some (.ref D),some (.ref d),some (.ref o),some (.ref t),z5,z6]∧G d=some (.dK kvs)∧kvs.map (·.1)=left.map cY∧(∀x∈left,0≤x∧x<rs.length)∧
   G o=some (.lst (ord.map fun x=>V.ref (os.getD x.toNat 0)))∧G t=some (.lst (trs.map V.ref))∧Paired (xfA os G o t) trs tur∧ord.length+tur.length+left.length≤rs.length∧
   ∀ord' tur',Goes (xY rs) (fun x=>yF (rs.getD x.toNat dR)) left ord' tur'→Goes (xY rs) (fun x=>yF (rs.getD x.toNat dR)) ((aI rs.length).map fun(i:Nat)=>(i:Int)) (ord++ord') (tur++tur'))
   ⟨s26,(aI rs.length).map fun(i:Nat)=>(i:Int),_,[],[],[],_,_,by simp,rfl,(sH5.trans sH6).at c4,by rw[bj,bj];rfl,fun x hx=>?_,sH6.at eo,et,.nil,by simp,fun _ _ g=>g⟩ (fun m σ G hPv=>?_)
  ·obtain⟨i,hi,rfl⟩:=aG.mp hx;have:=a7.mp hi;exact⟨by lia,by lia⟩
  obtain⟨sG,left,kvs,ord,tur,trs,z5,z6,rfl,rfl,hdG,hks,hlo,hoG,htG,hpt,hsz,hgo⟩:=hPv;have hkl:kvs.length=left.length:=by have:=congrArg cn hks;simpa using this
  have LG:=L.same sG;walk_at"w";refine⟨d,kvs,rfl,hdG,?_⟩;walk_at"w";refine⟨fun e=>?_,fun e=>?_⟩
  ·refine⟨_,fun _ _ z=>z,?_⟩;have hlp:0<left.length:=by have:=of_decide_eq_true e;lia
   obtain⟨M,eM⟩:∃M:L2.St→Hp→Prop,M=fun σ' G'=>∃(kn:Int) (y6:Option V),σ'=[some (.ref l),some (.ref D),some (.ref d),some (.ref o),some (.ref t),some (.int kn),y6]∧kn∈left∧xc H2 G'∧G' d=some (.dK kvs)∧∃(ord1:List Int) (tur1:List (Int×List Int)) (trs1:List Addr),G' o=some (.lst (ord1.map fun x=>V.ref (os.getD x.toNat 0)))∧G' t=some (.lst (trs1.map V.ref))∧Paired (xfA os G' o t) trs1 tur1∧ord1.length+tur1.length+left.length≤rs.length+1∧
    ∀ord' tur',Goes (xY rs) (fun x=>yF (rs.getD x.toNat dR)) (left.filter fun x=>decide (x≠kn)) ord' tur'→Goes (xY rs) (fun x=>yF (rs.getD x.toNat dR)) ((aI rs.length).map fun(i:Nat)=>(i:Int)) (ord1++ord') (tur1++tur'):=⟨_,rfl⟩
   walk_at"w";refine⟨D,d,as,H1,xY rs,kvs,left,rfl,LG,hdG,hks,fun x hx=>by rw[hspl];exact hlo x hx,by lia,hspo,fun kn hkn hh G1 g1=>?_,fun hall G1 g1=>?_⟩
   ·walk_at"w";refine⟨M,?_,fun σ' H' hM=>?_⟩
    ·walk_at"w";refine⟨by walk_at"no",fun _=>?_⟩;walk_at"w";refine⟨.inl ⟨rfl,_,SqL.of (g1.at hoG)⟩,?_⟩;walk_at"w";have hok:=hlo kn hkn;have hat:atI (os.map V.ref) kn=some (.ref (os.getD kn.toNat 0)):=by
      have hx:kn.toNat<os.length:=by lia
      have:=yd (xs:=os.map V.ref) (j:=kn.toNat) (v:=.ref os[kn.toNat]) (by simp[hx]);rw[cH hok.1]at this;rw[this];simp[aX,hx]
     refine⟨l,_,_,_,rfl,rfl,(s1.trans (s2.trans (sG.trans g1))).seq hl,hat,?_⟩;walk_at"w";refine⟨o,_,_,rfl,rfl,g1.at hoG,by rw[ab,ay];lia,?_⟩;generalize hU:upd G1 o _=G2;have eo2:G2 o=some (.lst ((ord++[kn]).map fun x=>V.ref (os.getD x.toNat 0))):=by rw[←hU,xj,aD];rfl
     have off:∀b u,b≠o→G b=some u→G2 b=some u:=fun b u hb e=>by rw[←hU,xk hb];exact g1.at e
     have s2G:xc H2 G2:=xc.wr (sG.trans g1) fo hU;clear hU;subst eM;refine⟨kn,z6,rfl,hkn,s2G,off d _ (fun z=>by rw[z]at hdG;rw[hdG]at hoG;cases hoG) hdG,ord++[kn],tur,trs,eo2,off t _ (bO hot) htG,L2.Paired.imp' (fun p kr z=>?_) hpt,by rw[ax,bQ];lia,fun ord' tur' g=>?_⟩
     ·obtain⟨rl,n1,n2,x1,x2⟩:=z;exact⟨rl,n1,n2,off _ _ (fun z=>by rw[z]at x1;rw[x1]at hoG;cases hoG) x1,off _ _ n1 x2⟩
     ·have:=hgo (kn::ord') tur' (.keep kn hkn hh g);rw[gx];exact this
    subst eM
    ·obtain⟨kn,y6,rfl,hkm,sM,dM,⟨ord1,tur1,trs1,oM,tM,pM,zM,gM⟩⟩:=hM;have hsome:(zk kvs (.inl kn)).isSome=true:=by rw[jm hks];exact decide_eq_true hkm
     obtain⟨vv,hvv⟩:=gd.mp hsome;walk_at"w";refine⟨d,rfl,.inl ⟨_,.inl dM⟩,?_⟩;walk_at"w";refine⟨kvs,.inl kn,vv,dM,rfl,hvv,?_⟩;generalize hU:upd H' d _=G2;have ed2:G2 d=some (.dK (vt kvs (.inl kn))):=by rw[←hU,xj]
     have off:∀b u,b≠d→H' b=some u→G2 b=some u:=fun b u hb e=>by rw[←hU,xk hb];exact e
     have s2G:xc H2 G2:=xc.wr sM fd hU;clear hU;have hfl:=xbQ hkm;refine⟨_,hfl,s2G,left.filter fun x=>decide (x≠kn),_,ord1,tur1,trs1,_,_,rfl,rfl,ed2,xal hks,fun x hx=>hlo x (aE.mp hx).1,off o _ (fun z=>by rw[z]at oM;rw[oM]at dM;cases dM) oM,off t _ (fun z=>by rw[z]at tM;rw[tM]at dM;cases dM) tM,L2.Paired.imp' (fun p kr z=>?_) pM,by lia,gM⟩;obtain⟨rl,n1,n2,x1,x2⟩:=z;exact⟨rl,n1,n2,off _ _ (fun z=>by rw[z]at x1;rw[x1]at dM;cases dM) x1,off _ _ (fun z=>by rw[z]at x2;rw[x2]at dM;cases dM) x2⟩
   ·walk_at"w";refine⟨M,?_,fun σ' H' hM=>?_⟩
    ·walk_at"w";refine⟨fun _=>?_,by walk_at"no"⟩;walk_at"w";have hLok:xbb (xY rs) left:=fun x hx=>⟨(hlo x hx).1,by rw[hspl];exact(hlo x hx).2,hall x hx⟩;refine⟨D,d,as,H1,xY rs,kvs,left,rfl,LG.same g1,g1.at hdG,hks,List.ne_nil_of_length_pos hlp,by lia,hLok,by lia,hspo,fun ring hring r G2 g2 hr2 er2=>?_⟩;walk_at"w";have hat:∀x∈left,atI (os.map V.ref) x=some (.ref (os.getD x.toNat 0)):=fun x hx=>by
      have hok:=hlo x hx;have hx:x.toNat<os.length:=by lia
      have:=yd (xs:=os.map V.ref) (j:=x.toNat) (v:=.ref os[x.toNat]) (by simp[hx]);rw[cH hok.1]at this;rw[this];simp[aX,hx]
     obtain⟨rg1,rg2,rg3,_⟩:=xbc hLok (fun x hx=>xam (hlo x hx).1 (hlo x hx).2) hring;have rgl:ring.length≤1000:=by
      have:=ub rg2 rg3;lia
     have sH2:xc H G2:=s1.trans (s2.trans (sG.trans (g1.trans g2)));refine⟨sH2.at hP,[("takes",.ref l)],rfl,fun x v m=>?_,fun f G3 hf g3 hcl=>?_⟩
     ·simp only[az,Prod.mk.injEq,dW,or_false]at m;obtain⟨rfl,rfl⟩:=m;exact⟨a1,e1,(s2.trans (sG.trans (g1.trans g2))).at c1⟩
     walk_at"w";refine⟨r,f,ring,_,fun i=>yF (rs.getD (ring.getD i 0).toNat dR),rfl,rfl,SqL.of (g3.at er2),by lia,hcl,fun i x hx G4 g4=>?_,fun G4 g4=>?_⟩
     ·have hxm:x∈left:=rg3 x (aL hx);refine⟨l,os,rs,x,rfl,rfl,(sH2.trans (g3.trans g4)).seq hl,L2.Paired.imp' (fun _ _ z=>z.same (sH2.trans (g3.trans g4))) hp,htk,(hlo x hxm).1,(hlo x hxm).2,fun dd hdd=>⟨xc.new hdd,dd,rfl,?_⟩⟩;have:ring.getD i 0=x:=by simp[aX,hx]
      rw[xj];show _=some (HO.tup ((yF (rs.getD (ring.getD i 0).toNat dR)).map V.int));rw[this]
     have hbl:=xcJ (fun i=>yF (rs.getD (ring.getD i 0).toNat dR)) (ring.length - 1);generalize hkn:ring.getD (bst (fun i=>yF (rs.getD (ring.getD i 0).toNat dR)) (ring.length - 1)) 0=kn;have hkr:kn∈ring:=by
      rw[←hkn];exact getD_mem (by lia)
     have hkm:=rg3 kn hkr;have g14:xc G G4:=g1.trans (g2.trans (g3.trans g4));have sH4:xc H G4:=sH2.trans (g3.trans g4);walk_at"w";refine⟨.inl ⟨rfl,_,SqL.of (g14.at htG)⟩,?_⟩;walk_at"w";refine⟨l,_,_,_,rfl,rfl,sH4.seq hl,hat kn hkm,?_⟩;walk_at"w";refine⟨_,rfl,⟨_,SqL.of ((g3.trans g4).at er2)⟩,?_⟩;refine xaP (refOf os) (SqL.of ((g3.trans g4).at er2)) (by rw[ab,ay];lia) (fun v G5 hv g5 R hR=>?_) (fun rl G5 hrl g5 erl=>?_)
     ·obtain⟨x,hx,rfl⟩:=aG.mp hv;walk_at"w";refine⟨l,_,_,_,rfl,rfl,(sH4.trans g5).seq hl,hat x (rg3 x hx),?_⟩;exact hR _ (xc.refl _)
     walk_at"w";refine⟨by walk_at"side",fun p hpn=>?_⟩;generalize hV:upd G5 p _=G6;have g6:=xc.of_eq hpn hV;have ep6:=xm hV;clear hV;have g06:xc G G6:=g14.trans (g5.trans g6);walk_at"w";refine⟨t,_,_,rfl,rfl,g06.at htG,by rw[ab,hpt.length,ay];lia,?_⟩;generalize hU:upd G6 t _=G7;have et7:G7 t=some (.lst ((trs++[p]).map V.ref)):=by rw[←hU,xj,aD];rfl
     have off:∀b u,b≠t→G6 b=some u→G7 b=some u:=fun b u hb e=>by rw[←hU,xk hb];exact e
     have s2G:xc H2 G7:=xc.wr (sG.trans g06) ft hU;clear hU;have fp:G p=none:=(g14.trans g5).back hpn;have frl:G rl=none:=g14.back hrl;have hrlo:rl≠o:=fun z=>by rw[z]at frl;rw[frl]at hoG;cases hoG
     have hrlt:rl≠t:=fun z=>by rw[z]at frl;rw[frl]at htG;cases htG
     subst eM;refine⟨kn,_,rfl,hkm,s2G,off d _ (fun z=>by rw[z]at hdG;rw[hdG]at htG;cases htG) (g06.at hdG),ord,tur++[(kn,ring)],trs++[p],off o _ hot (g06.at hoG),et7,xV (L2.Paired.imp' (fun p' kr z=>?_) hpt) ⟨rl,hrlo,hrlt,off _ _ (fun z=>by rw[z]at fp;rw[fp]at htG;cases htG) ep6,off _ _ hrlt (g6.at (by rw[erl,bj];rfl))⟩,by rw[ax,bQ];lia,fun ord' tur' g=>?_⟩
     ·obtain⟨rl',n1,n2,x1,x2⟩:=z;exact⟨rl',n1,n2,off _ _ (fun z=>by rw[z]at x1;rw[x1]at htG;cases htG) (g06.at x1),off _ _ n2 (g06.at x2)⟩
     ·have:=hgo ord' ((kn,ring)::tur') (.turn kn hall hring hkn.symm hkm g);rw[gx];exact this
    subst eM
    ·obtain⟨kn,y6,rfl,hkm,sM,dM,⟨ord1,tur1,trs1,oM,tM,pM,zM,gM⟩⟩:=hM;have hsome:(zk kvs (.inl kn)).isSome=true:=by rw[jm hks];exact decide_eq_true hkm
     obtain⟨vv,hvv⟩:=gd.mp hsome;walk_at"w";refine⟨d,rfl,.inl ⟨_,.inl dM⟩,?_⟩;walk_at"w";refine⟨kvs,.inl kn,vv,dM,rfl,hvv,?_⟩;generalize hU:upd H' d _=G2;have ed2:G2 d=some (.dK (vt kvs (.inl kn))):=by rw[←hU,xj]
     have off:∀b u,b≠d→H' b=some u→G2 b=some u:=fun b u hb e=>by rw[←hU,xk hb];exact e
     have s2G:xc H2 G2:=xc.wr sM fd hU;clear hU;have hfl:=xbQ hkm;refine⟨_,hfl,s2G,left.filter fun x=>decide (x≠kn),_,ord1,tur1,trs1,_,_,rfl,rfl,ed2,xal hks,fun x hx=>hlo x (aE.mp hx).1,off o _ (fun z=>by rw[z]at oM;rw[oM]at dM;cases dM) oM,off t _ (fun z=>by rw[z]at tM;rw[tM]at dM;cases dM) tM,L2.Paired.imp' (fun p kr z=>?_) pM,by lia,gM⟩;obtain⟨rl,n1,n2,x1,x2⟩:=z;exact⟨rl,n1,n2,off _ _ (fun z=>by rw[z]at x1;rw[x1]at dM;cases dM) x1,off _ _ (fun z=>by rw[z]at x2;rw[x2]at dM;cases dM) x2⟩
  ·have hl0:left=[]:=dO.mp (by have:=of_decide_eq_false e;lia);subst hl0;walk_at"w";refine⟨by walk_at"side",fun p hpn=>?_⟩;have sGp:=xc.new (o:=HO.tup [.ref o,.ref t]) hpn;have g:=hgo [] [] .nil;rw[gU,gU]at g;have sHG:xc H G:=s1.trans (s2.trans sG);exact q p o t ord tur trs _ (sHG.trans sGp) (sHG.back hpn) ((s1.trans s2).back fo) ((s1.trans s2).back ft) hot xj (sGp.at hoG) (sGp.at htG) (L2.Paired.imp' (fun p kr z=>by obtain⟨rl,n1,n2,x1,x2⟩:=z;exact⟨rl,n1,n2,sGp.at x1,sGp.at x2⟩) hpt) g
end
namespace ML
theorem vF:∀xs:List Int,HT.lexLt xs xs=false
 |[]=>rfl
 |x::xs=>by rw[HT.yn,if_pos rfl];exact vF xs
theorem xc3:∀{xs ys zs:List Int},HT.lexLt xs ys=true→HT.lexLt ys zs=true→HT.lexLt xs zs=true
 |[],[],_,h,_=>by cases h
 |_::_,[],_,h,_=>by cases h
 |[],_::_,[],_,h=>by cases h
 |[],_::_,_::_,_,_=>rfl
 |_::_,_::_,[],_,h=>by cases h
 |x::xs,y::ys,z::zs,h1,h2=>by
  rw[HT.yn]at h1 h2⊢
  split at h1
  ·rename_i e1;subst e1
   split at h2
   ·rename_i e2;rw[if_pos e2];exact xc3 h1 h2
   ·rename_i e2;rw[if_neg e2];exact h2
  ·rename_i e1;have g1:=of_decide_eq_true h1
   split at h2
   ·rename_i e2;subst e2;rw[if_neg e1];exact h1
   ·have g2:=of_decide_eq_true h2;rw[if_neg (by omega)];exact decide_eq_true (by omega)
theorem xgL:∀{xs ys:List Int},xs.length≠ys.length→HT.lexLt xs ys=true∨HT.lexLt ys xs=true
 |[],[],h=>absurd rfl h
 |[],_::_,_=>.inl rfl
 |_::_,[],_=>.inr rfl
 |x::xs,y::ys,h=>by
  rw[HT.yn,HT.yn]
  by_cases e:x=y
  ·rw[if_pos e,if_pos e.symm];exact xgL (by simpa using h)
  ·rw[if_neg e,if_neg (fun z=>e z.symm)];rcases Int.lt_or_lt_of_ne e with z|z
   ·exact .inl (decide_eq_true z)
   ·exact .inr (decide_eq_true z)
theorem xle(es:List Int):STO (fun i j=>HT.lexLt (es.drop i) (es.drop j)) es.length where
 irr:=fun i _=>vF _
 tr:=fun i j k _ _ _ h1 h2=>xc3 h1 h2
 tot:=fun i j hi hj hne=>xgL (by rw[aQ,aQ];lia)
def xan(es:List Int)(p:List Nat):Prop:=p.Perm (aI es.length)∧p.Pairwise fun i j=>HT.lexLt (es.drop i) (es.drop j)=true
abbrev xev:Expr:=xhm (xmf ((xQ zy).getD 0 (.Pass ⟨0,0,0,0⟩)))
theorem xiZ:uH ["at","text"] ["at"] ["text"] (uL xev):=⟨rfl,rfl,rfl,by decide+kernel,rfl,by decide+kernel,by decide+kernel,by decide+kernel⟩
def xmw:List (Str×V)→Sp:=fun fv vs H Q _=>∃(e:Addr) (es:List Int) (i:Int),fv=([("text",.ref e)]:List (Str×V))∧vs=[.int i]∧H e=some (.lst (es.map V.int))∧0≤i∧∀d,H d=none→Q (.ref d) (upd H d (.lst ((es.drop i.toNat).map V.int)))
def xhC:Sp:=fun vs H Q _=>∃(e:Addr) (es:List Int),vs=[.ref e]∧H yD=some (.tbl zf)∧H e=some (.lst (es.map V.int))∧es.length<64∧∀(l:Addr) (p:List Nat) (H':Hp),xc H H'→H l=none→H' l=some (.lst (p.map fun(i:Nat)=>V.int i))→xan es p→Q (.ref l) H'
def lcp:List Int→List Int→Nat
 |x::xs,y::ys=>if x=y then lcp xs ys+1 else 0
 |_,_=>0
theorem zY(x y:Int)(xs ys:List Int):lcp (x::xs) (y::ys)=if x=y then lcp xs ys+1 else 0:=rfl
theorem xbf:∀xs ys:List Int,lcp xs ys≤ys.length
 |[],_=>aJ _
 |_::_,[]=>ao _
 |x::xs,y::ys=>by
  rw[zY];have:=xbf xs ys
  split<;> simp<;> omega
theorem xi0:∀{a b c:List Int},HT.lexLt a b=true→HT.lexLt b c=true→lcp a c≤lcp b c
 |[],_,_,_,_=>aJ _
 |_::_,[],_,h,_=>by cases h
 |_::_,_::_,[],_,h=>by cases h
 |x::a,y::b,z::c,h1,h2=>by
  rw[HT.yn]at h1 h2;rw[zY,zY]
  by_cases e:x=z
  ·subst e;rw[if_pos rfl]
   by_cases e1:x=y
   ·subst e1;rw[if_pos rfl]at h1 h2⊢;have:=xi0 h1 h2;lia
   ·rw[if_neg e1]at h1;rw[if_neg (fun q=>e1 q.symm)]at h2;have:=of_decide_eq_true h1;have:=of_decide_eq_true h2;lia
  ·rw[if_neg e];exact aJ _
theorem xfB:∀{a b c:List Int},HT.lexLt b a=true→HT.lexLt b c=false→lcp a c≤lcp b c
 |[],_,_,_,_=>aJ _
 |_::_,_,[],_,_=>aJ _
 |_::_,[],_::_,_,h=>by cases h
 |x::a,y::b,z::c,h1,h2=>by
  rw[HT.yn]at h1 h2;rw[zY,zY]
  by_cases e:x=z
  ·subst e;rw[if_pos rfl]
   by_cases e1:y=x
   ·subst e1;rw[if_pos rfl]at h1 h2⊢;have:=xfB h1 h2;lia
   ·rw[if_neg e1]at h1 h2;rw[h1]at h2;cases h2
  ·rw[if_neg e];exact aJ _
theorem jd:∀{m:Nat} {xs ys:List Int},m≤ys.length→(xs.take m=ys.take m↔m≤lcp xs ys)
 |0,xs,ys,_=>by simp
 |m+1,xs,[],h=>by simp at h
 |m+1,[],y::ys,_=>by simp[lcp]
 |m+1,x::xs,y::ys,h=>by
  have:=jd (m:=m) (xs:=xs) (ys:=ys) (by simpa using h);rw[lE,lE,zY]
  by_cases e:x=y
  ·subst e;rw[if_pos rfl];simp[this]
  ·rw[if_neg e];simp[e]
theorem xjN{xs ys:List Int}{k:Nat}(hk:xs.take k=ys.take k)(h1:k<xs.length)(h2:k<ys.length):(xs[k]=ys[k]↔xs.take (k+1)=ys.take (k+1)):=by
 rw[eX h1,eX h2,hk];refine⟨fun e=>by rw[e],fun e=>?_⟩;have:=List.append_cancel_left e;simpa using this
theorem xjO{xs ys:List Int}{k:Nat}(hk:xs.take k=ys.take k)(hy:k≤ys.length)(hn:k<xs.length→k<ys.length→xs.take (k+1)≠ys.take (k+1))(hx:k≤xs.length):lcp xs ys=k:=by
 have h1:=(jd hy).mp hk
 by_cases h:lcp xs ys≤k
 ·lia
 ·have hl:=xbf xs ys;have h2:=(jd (m:=k+1) (xs:=xs) (ys:=ys) (by lia)).mpr (by lia);have hlen:=congrArg cn h2;rw[bF,bF]at hlen;exact absurd h2 (hn (by lia) (by lia))
def xfC(es:List Int)(p:List Nat)(ps:List Int)(L:Nat):Prop:=L≤p.length∧(∀i,i<L→HT.lexLt (es.drop (p.getD i 0)) ps=true)∧∀i,L≤i→i<p.length→HT.lexLt (es.drop (p.getD i 0)) ps=false
theorem xc4{es:List Int}{p:List Nat}(hp:xan es p){i j:Nat}(h:i<j)(hj:j<p.length):HT.lexLt (es.drop (p.getD i 0)) (es.drop (p.getD j 0))=true:=by
 have:=bc.mp hp.2 i j (by lia) hj h;simp only[aX,ag hj,ag (show i<p.length by lia),Option.getD_some];exact this
def around(p:List Nat)(L:Nat):List Nat:=(p.drop (L - 1)).take (L+1 - (L - 1))
theorem xc5{p:List Nat}{L j:Nat}(h1:L - 1≤j)(h2:j≤L)(h3:j<p.length):p.getD j 0∈around p L:=by
 unfold around;refine aL (i:=j - (L - 1)) ?_;rw[List.getElem?_take,if_pos (by lia),gn,show L - 1+(j - (L - 1))=j by lia,ag h3];simp[aX,h3]
theorem xbR{es:List Int}{p:List Nat}{ps:List Int}{L:Nat}(hp:xan es p)(hL:xfC es p ps L){i:Nat}(hi:i<es.length):∃b∈around p L,lcp (es.drop i) ps≤lcp (es.drop b) ps:=by
 obtain⟨j,hj,e⟩:=cA.mp (hp.1.mem_iff.mpr (a7.mpr hi));have ej:p.getD j 0=i:=by simp[aX,hj,e]
 obtain⟨h0,h1,h2⟩:=hL
 by_cases h:j<L
 ·refine⟨p.getD (L - 1) 0,xc5 (ao _) (by omega) (by omega),?_⟩
  by_cases q:j=L - 1
  ·rw[←q,ej];exact ao _
  ·have a1:=xc4 hp (show j<L - 1 by omega) (by omega);rw[ej]at a1;exact xi0 a1 (h1 _ (by omega))
 ·refine⟨p.getD L 0,xc5 (by omega) (ao _) (by omega),?_⟩
  by_cases q:j=L
  ·rw[←q,ej];exact ao _
  ·have a1:=xc4 hp (show L<j by omega) hj;rw[ej]at a1;exact xfB a1 (h2 _ (ao _) (by omega))
theorem xd8{es:List Int}{p:List Nat}{L b:Nat}(hp:xan es p)(h:b∈around p L):b<es.length:=
 a7.mp (hp.1.mem_iff.mp (eJ (eK h)))
def zA(es ps:List Int)(n a c:Nat):Prop:=(∀i,i<n→lcp (es.drop i) ps≤c)∧((c=0∧a=0)∨(0<c∧a<n∧lcp (es.drop a) ps=c∧∀i,i<a→lcp (es.drop i) ps<c))
theorem zA.uniq{es ps:List Int}{n a c a' c':Nat}(h:zA es ps n a c)(h':zA es ps n a' c'):a=a'∧c=c':=by
 obtain⟨h1,h2⟩:=h;obtain⟨g1,g2⟩:=h';rcases h2 with⟨rfl,rfl⟩|⟨h2,h3,h4,h5⟩
 ·rcases g2 with⟨rfl,rfl⟩|⟨g2,g3,g4,g5⟩
  ·exact⟨rfl,rfl⟩
  ·have:=h1 a' g3;lia
 ·rcases g2 with⟨rfl,rfl⟩|⟨g2,g3,g4,g5⟩
  ·have:=g1 a h3;lia
  ·have b1:=h1 a' g3;have b2:=g1 a h3;have ec:c=c':=by lia
   refine⟨?_,ec⟩
   by_cases q:a=a'
   ·exact q
   ·exfalso;rcases Nat.lt_or_gt_of_ne q with z|z
    ·have:=g5 a z;lia
    ·have:=h5 a' z;lia
theorem xjP{es:List Int}{p:List Nat}{ps:List Int}{L:Nat}(hp:xan es p)(hL:xfC es p ps L){m:Int}
  (h0:(around p L).map (fun b=>((lcp (es.drop b) ps:Nat):Int))=[]→m=0)
  (h1:(around p L).map (fun b=>((lcp (es.drop b) ps:Nat):Int))≠[]→m∈(around p L).map (fun b=>((lcp (es.drop b) ps:Nat):Int))∧∀a∈(around p L).map (fun b=>((lcp (es.drop b) ps:Nat):Int)),a≤m):
  ∃c:Nat,m=c∧(∀i,i<es.length→lcp (es.drop i) ps≤c)∧(c=0∨∃a,a<es.length∧lcp (es.drop a) ps=c):=by
 by_cases e:around p L=[]
 ·refine⟨0,h0 (by rw[e];rfl),fun i hi=>?_,.inl rfl⟩;obtain⟨b,hb,_⟩:=xbR hp hL hi;rw[e]at hb;cases hb
 ·obtain⟨hm,hle⟩:=h1 (by simpa using e);obtain⟨b,hb,rfl⟩:=aG.mp hm;refine⟨_,rfl,fun i hi=>?_,.inr ⟨b,xd8 hp hb,rfl⟩⟩;obtain⟨b2,hb2,h2⟩:=xbR hp hL hi;have:=hle _ (fQ hb2);lia
theorem xlf{es ps:List Int}{c a:Nat}(h1:∀i,i<es.length→lcp (es.drop i) ps≤c)(hc:0<c)(ha:a<es.length)(h2:c≤lcp (es.drop a) ps)(h3:∀i,i<es.length→c≤lcp (es.drop i) ps→a≤i):zA es ps es.length a c:=by
 refine⟨h1,.inr ⟨hc,ha,by have:=h1 a ha;lia,fun i hi=>?_⟩⟩
 by_cases q:c≤lcp (es.drop i) ps
 ·have:=h3 i (by lia) q;lia
 ·lia
def xjQ:Sp:=fun vs H Q _=>∃(e q:Addr) (es ps:List Int) (i:Nat),vs=[.ref e,.int i,.ref q]∧H e=some (.lst (es.map V.int))∧H q=some (.lst (ps.map V.int))∧i≤es.length∧Q (.int (lcp (es.drop i) ps:Nat)) H
def xco:Sp:=fun vs H Q _=>∃(e t q:Addr) (es ps:List Int) (p:List Nat),vs=[.ref e,.ref t,.ref q]∧H e=some (.lst (es.map V.int))∧H t=some (.lst (p.map fun(i:Nat)=>V.int i))∧H q=some (.lst (ps.map V.int))∧xan es p∧∀(L:Nat) (H':Hp),xc H H'→xfC es p ps L→Q (.int L) H'
def xhD:Sp:=fun vs H Q _=>∃(e t q:Addr) (es ps:List Int) (p:List Nat),vs=[.ref e,.ref t,.ref q]∧H e=some (.lst (es.map V.int))∧H t=some (.lst (p.map fun(i:Nat)=>V.int i))∧H q=some (.lst (ps.map V.int))∧xan es p∧es.length<64∧ps.length<100∧
 ∀(r:Addr) (a c:Nat) (H':Hp),xc H H'→H r=none→H' r=some (.tup [.int a,.int c])→zA es ps es.length a c→Q (.ref r) H'
def uz(es ps:List Int)(least:Int):Prop:=∀a c,zA es ps es.length a c→(c:Int)<least
def xD(es ns:List Int)(least:Int):Nat→Bool→List xb→Nat→Bool→Prop
 |i,b,[],j,b'=>i=j∧b=b'
 |i,b,.put to sg::rs,j,b'=>b=false∧to=i∧sg≠[]∧i+sg.length≤ns.length∧sg=(ns.drop i).take sg.length∧(∀k,k<sg.length→uz es (ns.drop (i+k)) least)∧xD es ns least (i+sg.length) true rs j b'
 |i,_,.take to st c::rs,j,b'=>∃st' c':Nat,to=i∧st=st'∧c=c'∧i+c'≤ns.length∧0<c'∧least≤c'∧zA es (ns.drop i) es.length st' c'∧xD es ns least (i+c') false rs j b'
theorem xD.app{es ns:List Int}{least:Int}:∀{rs rs':List xb} {i j k:Nat} {b b' b'':Bool},xD es ns least i b rs j b'→xD es ns least j b' rs' k b''→xD es ns least i b (rs++rs') k b''
 |[],_,_,_,_,_,_,_,⟨h1,h2⟩,h'=>by subst h1;subst h2;exact h'
 | .put to sg::rs,_,_,_,_,_,_,_,h,h'=>by
  obtain⟨h1,h2,h3,h4,h5,h6,h7⟩:=h;exact⟨h1,h2,h3,h4,h5,h6,h7.app h'⟩
 | .take to st c::rs,_,_,_,_,_,_,_,h,h'=>by
  obtain⟨st',c',h1,h2,h3,h4,h5,h6,h7,h8⟩:=h;exact⟨st',c',h1,h2,h3,h4,h5,h6,h7,h8.app h'⟩
theorem xD.ends{es ns:List Int}{least:Int}{rs:List xb}{i:Nat}{b':Bool}(h:xD es ns least i true rs ns.length b'):i=ns.length∨¬uz es (ns.drop i) least:=by
 cases rs with
 |nil=>exact .inl h.1
 |cons r rs=>
  cases r with
  |put to sg=>exact absurd h.1 (by simp)
  |take to st c=>
   obtain⟨st',c',h1,h2,h3,h4,h5,h6,h7,h8⟩:=h;exact .inr fun z=>by have:=z _ _ h7;lia
theorem xD.uniq{es ns:List Int}{least:Int}:∀{rs rs':List xb} {i:Nat} {b b1 b2:Bool},xD es ns least i b rs ns.length b1→xD es ns least i b rs' ns.length b2→rs=rs'
 |[],[],_,_,_,_,_,_=>rfl
 |[],.put to sg::rs',i,_,_,_,h,h'=>by
  obtain⟨h1,h2,h3,h4,_⟩:=h';have:=bJ.mpr h3;have:=h.1;lia
 |[],.take to st c::rs',i,_,_,_,h,h'=>by
  obtain⟨st',c',h1,h2,h3,h4,h5,_⟩:=h';have:=h.1;lia
 | .put to sg::rs,[],i,_,_,_,h',h=>by
  obtain⟨h1,h2,h3,h4,_⟩:=h';have:=bJ.mpr h3;have:=h.1;lia
 | .take to st c::rs,[],i,_,_,_,h',h=>by
  obtain⟨st',c',h1,h2,h3,h4,h5,_⟩:=h';have:=h.1;lia
 | .put to sg::rs,.take to' st c::rs',i,_,_,_,h,h'=>by
  obtain⟨h1,h2,h3,h4,h5,h6,h7⟩:=h;obtain⟨st',c',g1,g2,g3,g4,g5,g6,g7,g8⟩:=h';have:=h6 0 (bJ.mpr h3) st' c' g7;lia
 | .take to' st c::rs',.put to sg::rs,i,_,_,_,h',h=>by
  obtain⟨h1,h2,h3,h4,h5,h6,h7⟩:=h;obtain⟨st',c',g1,g2,g3,g4,g5,g6,g7,g8⟩:=h';have:=h6 0 (bJ.mpr h3) st' c' g7;lia
 | .take to st c::rs,.take to' st2 c2::rs',i,_,_,_,h,h'=>by
  obtain⟨st',c',h1,h2,h3,h4,h5,h6,h7,h8⟩:=h;obtain⟨st'',c'',g1,g2,g3,g4,g5,g6,g7,g8⟩:=h';obtain⟨e1,e2⟩:=h7.uniq g7;subst e1;subst e2;subst h1;subst h2;subst h3;subst g2;subst g3;rw[xD.uniq h8 g8,g1]
 | .put to sg::rs,.put to' sg'::rs',i,_,_,_,h,h'=>by
  obtain⟨h1,h2,h3,h4,h5,h6,h7⟩:=h;obtain⟨g1,g2,g3,g4,g5,g6,g7⟩:=h';have el:sg.length=sg'.length:=by
   rcases c8 sg.length sg'.length with z|z|z
   ·rcases h7.ends with q|q
    ·lia
    ·exact absurd (g6 _ z) q
   ·exact z
   ·rcases g7.ends with q|q
    ·lia
    ·exact absurd (h6 _ z) q
  have es':sg=sg':=by rw[h5,g5,el]
  subst es';subst h2;rw[g2,xD.uniq h7 g7]
def uA(i:Int)(sg:List Int):List xb:=if sg=[]then[]else[.put (i - sg.length) sg]
def xfD(a:Adr):Sp:=fun vs H Q _=>∃(p dx q:Addr) (to:Int) (xs:List Int),vs=[.ref p,.int to,.ref q]∧H p=some (.ins a.q0b dx [])∧H q=some (.lst (xs.map V.int))∧
 ∀(u:Addr) (H':Hp),H u=none→(∀b o,b≠p→H b=some o→H' b=some o)→H' p=some (.ins a.q0b dx (xcX to u xs.length))→H' u=some (.tup (xs.map V.int))→Q .non H'
def xcp(K:ai)(a:Adr):Sp:=fun vs H Q _=>∃(q:Addr) (i:Int) (xs:List Int),vs=[.int i,.ref q]∧H q=some (.lst (xs.map V.int))∧
 ∀(l:Addr) (os:List Addr) (H':Hp),xc H H'→H l=none→H' l=some (.lst (os.map V.ref))→Paired (xB K a H') os (uA i xs)→Q (.ref l) H'
def xej(K:ai)(a:Adr):Sp:=fun vs H Q _=>∃(e n:Addr) (es ns:List Int) (least:Int),vs=[.ref e,.ref n,.int least]∧H yD=some (.tbl zf)∧H e=some (.lst (es.map V.int))∧H n=some (.lst (ns.map V.int))∧es.length<64∧ns.length<100∧1≤least∧
 ∀(l:Addr) (os:List Addr) (rs:List xb) (b:Bool) (H':Hp),xc H H'→H l=none→H' l=some (.lst (os.map V.ref))→Paired (xB K a H') os rs→xD es ns least 0 false rs ns.length b→Q (.ref l) H'
def xfE(K:ai):Sp:=fun vs H Q _=>∃(e n:Addr) (es ns:List Int) (least:Int),vs=[.ref e,.ref n,.int least]∧H yD=some (.tbl zf)∧H e=some (.lst (es.map V.int))∧H n=some (.lst (ns.map V.int))∧es.length<64∧ns.length<100∧1≤least∧
 ∀(l:Addr) (ts:List Addr) (rs:List xb) (b:Bool) (H':Hp),xc H H'→H l=none→H' l=some (.lst (ts.map V.ref))→Paired (TupAt K H') ts rs→xD es ns least 0 false rs ns.length b→Q (.ref l) H'
theorem xB.off{K:ai}{a:Adr}{H:Hp}{t p:Addr}{r:xb}{xs:List V}{o:HO}(h:xB K a H t r)(hp:H p=some (.lst xs)):xB K a (upd H p o) t r:=by
 cases r with
 |take to st c=>obtain⟨dx,h⟩:=h;exact⟨dx,by rw[xk (uP h hp (by intro z;cases z))];exact h⟩
 |put to sg=>
  obtain⟨dx,u,h1,h2⟩:=h;exact⟨dx,u,by rw[xk (uP h1 hp (by intro z;cases z))];exact h1,by rw[xk (uP h2 hp (by intro z;cases z))];exact h2⟩
theorem xD.put{es ns:List Int}{least:Int}{i:Nat}{sg:List Int}(h1:i+sg.length≤ns.length)(h2:sg=(ns.drop i).take sg.length)(h3:∀k,k<sg.length→uz es (ns.drop (i+k)) least):xD es ns least i false (uA ((i+sg.length:Nat):Int) sg) (i+sg.length) (decide (sg≠[])):=by
 unfold uA
 by_cases h:sg=[]
 ·rw[if_pos h,h];exact⟨rfl,rfl⟩
 ·rw[if_neg h,decide_eq_true h];exact⟨rfl,by lia,h,h1,h2,h3,rfl,rfl⟩
theorem xD.take{es ns:List Int}{least:Int}{i st c:Nat}{b:Bool}(hi:i≤ns.length)(h0:0<c)(h1:least≤c)(hb:zA es (ns.drop i) es.length st c):xD es ns least i b [.take i st c] (i+c) false∧i+c≤ns.length:=by
 have hc:c≤ns.length - i:=by
  rcases hb.2 with⟨z,_⟩|⟨_,_,z,_⟩
  ·lia
  ·have:=xbf (es.drop st) (ns.drop i);rw[aQ]at this;lia
 exact⟨⟨st,c,rfl,rfl,rfl,by lia,h0,h1,hb,rfl,rfl⟩,by lia⟩
theorem uz.of{es ps:List Int}{least:Int}{a c:Nat}(hb:zA es ps es.length a c)(h:(c:Int)<least):uz es ps least:=fun a' c' h'=>by
 obtain⟨_,rfl⟩:=hb.uniq h';exact h
theorem xi1{ns sg:List Int}{i:Nat}(h:sg=(ns.drop i).take sg.length)(hi:i+sg.length<ns.length):sg++[ns[i+sg.length]]=(ns.drop i).take (sg++[ns[i+sg.length]]).length:=by
 rw[ax,bQ,eX (by rw[aQ];lia),List.getElem_drop,←h]
theorem zI{α β:Type}{F:α→β→Prop}:∀{as cs:List α} {bs ds:List β},Paired F as bs→Paired F cs ds→Paired F (as++cs) (bs++ds)
 |_,_,_,_,.nil,h=>h
 |_,_,_,_,.cons x xs,h=>.cons x (zI xs h)
theorem xc6(i:Int)(sg:List Int):(uA i sg).length≤1:=by
 unfold uA
 split<;> simp
theorem xD.few{es ns:List Int}{least:Int}:∀{rs:List xb} {i j:Nat} {b b':Bool},xD es ns least i b rs j b'→i+rs.length≤j
 |[],_,_,_,_,h=>by rw[h.1];exact ao _
 | .put to sg::rs,i,j,_,_,h=>by
  obtain⟨h1,h2,h3,h4,h5,h6,h7⟩:=h;have:=h7.few;have:=bJ.mpr h3;rw[aY];lia
 | .take to st c::rs,i,j,_,_,h=>by
  obtain⟨st',c',h1,h2,h3,h4,h5,h6,h7,h8⟩:=h;have:=h8.few;rw[aY];lia
section
variable {P:aF} {w:World} {K:ai} {mg:Str→Option Value} {base:Heap} {a:Adr}
theorem uU(T:Txt K mg a):xG P w K mg base CX0 2 a.q0G a.vy ["self","to","signs"] (xfD a):=by
 refine T.q02.ok uT (fun vs H Q E h=>?_) (fun cdv A outer s H vs Q E hr h=>?_)
 ·obtain⟨p,dx,t,to,xs,rfl,_⟩:=h;rfl
 ·obtain⟨p,dx,t,to,xs,rfl,hp,ht,k⟩:=h;have nd:=uT.nd;have ne:t≠p:=uP ht hp (by intro z;cases z);refine⟨_,(xh (yf (xdg (by rfl) T.xhz T.q1j (jB T) (hr.mono (by decide)) T.xah .nil xw (xa (cv 0) (xa (cv 1) xf))))
  (xh (uX (cv 0) (yK vn (by rfl) T.q05 zu (xa (cv 2) xf)) rfl)
  (xi (uX (cv 0) (xo xq (by rfl) T.q0c xH (xa (xX (cv 0) rfl) xf)) rfl)))),?_⟩
  walk_at"w";refine⟨p,_,dx,to,rfl,hp,T.q0A,T.q0S,T.q0N,?_⟩;walk_at"w";refine⟨t,_,rfl,.inl ⟨SqL.of (by rw[xk ne];exact ht),fun u hu=>?_⟩⟩;have nup:u≠p:=fun z=>by rw[z,xj]at hu;cases hu
  have hu0:H u=none:=by rw[xk nup]at hu;exact hu
  generalize hU:upd H p _=H1 at hu⊢;have e1:=xm hU;have o1:∀b o,b≠p→H b=some o→H1 b=some o:=fun b o q z=>by rw[←hU,xk q];exact z
  clear hU;generalize hU:upd H1 u _=H2;have e2:=(show H2 p=H1 p by rw[←hU,xk (bO nup)]).trans e1;have eu:=xm hU;have o2:∀b o,b≠p→H b=some o→H2 b=some o:=fun b o q z=>by rw[←hU,xk (fun y=>by rw[y,hu0]at z;cases z)];exact o1 b o q z
  clear hU;walk_at"w";refine⟨p,_,dx,_,rfl,e2,T.q0A,T.q0z,by walk_at"few",?_⟩;walk_at"w";refine⟨p,_,dx,_,.ref u,rfl,xj,T.q0A,T.q0z,rfl,?_⟩;walk_at"w";refine⟨u,_,rfl,.inr (SqT.of (by rw[xk nup];exact eu)),?_⟩;walk_at"w";refine⟨p,_,dx,_,rfl,xj,T.q0A,T.q0N,by walk_at"few",?_⟩;walk_at"w";rw[zZ];generalize hU:upd H2 p _=H3;refine k u H3 hu0 (fun b o q z=>by rw[←hU,xk q];exact o2 b o q z) ?_ (by rw[←hU,xk nup];exact eu);rw[xm hU,ab];rfl
theorem xdF(T:Txt K mg a):uk P w K mg base CX0 1 "<lambda>" "endings.<locals>.<lambda>" (xdl xev) (.expr (xdm xev)) (uL xev) ["at"] xmw:=by
 refine xb8 xiZ (fun fv vs H Q E h=>?_) (fun _ _ _ _ _ us hl=>match us,hl with|[_],_=>rfl) (fun A outer s H f clos cdv fv vs Q E hr h=>?_)
 ·obtain⟨e,es,i,rfl,rfl,_⟩:=h;exact⟨rfl,rfl⟩
 ·obtain⟨e,es,i,rfl,rfl,he,hi,k⟩:=h;have nd:=xiZ.nd;refine⟨_,(ya yw (cv 1) (xM (cv 0)) yU),?_⟩;walk_at"w";refine⟨_,rfl,?_⟩;walk_at"w";refine⟨e,_,rfl,SqL.of he,fun d hd=>?_⟩;have e1:yA (es.map V.int) (some i) none=(es.drop i.toNat).map V.int:=by
   rw[yC,yo hi,HT.zR]
   congr 1
   rw[bg (by rw[aQ];lia)]
   by_cases h:i.toNat≤es.length
   ·rw[bU h]
   ·rw[eY (by lia),cR (ao _),cR (by lia)]
  rw[e1];exact k d hd
theorem xhE(T:Txt K mg a):xG P w K mg base CX0 4 a.q0Z a.jg ["text"] xhC:=by
 refine T.vf.okC ["text"] T.xhw xcT (fun vs H Q E h=>?_) (fun A outer s H vs Q E hr h=>?_)
 ·obtain⟨e,es,rfl,_⟩:=h;rfl
 ·obtain⟨e,es,rfl,hP,he,h64,q⟩:=h;have nd:=xcT.nd;refine⟨_,(xdV (x:="text") (i:=0) nd rfl rfl rfl (by kernel_rfl) (xi (xu (xhl (xdF T) (hr.mono (by decide)) rfl (by rfl) T.q1p (xa (xif (by rfl) T.q0O (xa (xo xq (by rfl) T.q0c xH (xa (cv 0) xf)) xf)) xf) (xaO (c:=q0H) (P:=yD) (qs:=zf) (fns:=["text"]) rfl T.q1M (q:="endings.<locals>.<lambda>") (by kernel_rfl) (.head _) (by kernel_rfl) (by kernel_rfl)))))),?_⟩;walk_at"w";intro a1 e1 z1 d1;refine fF z1 ?_;generalize hU1:upd H a1 _=H1;have s1:=xc.of_eq z1 hU1;have c1:=xm hU1;clear hU1;walk_at"w";refine⟨e,_,rfl,.inl (SqL.of (s1.at he)),?_⟩;intro r hr;generalize hUr:upd H1 r _=H2;have sH2:=xc.of_eq hr hUr;have er:=xm hUr;clear hUr;walk_at"w";have s2:xc H H2:=s1.trans sH2;refine⟨s2.at hP,[("text",.ref e)],rfl,fun x v m=>?_,fun f H3 hf s3 hc=>?_⟩
  ·simp only[az,Prod.mk.injEq,dW,or_false]at m;obtain⟨rfl,rfl⟩:=m;exact⟨a1,e1,sH2.at c1⟩
  walk_at"w";have er3:=s3.at er;rw[ab]at er3;refine⟨r,f,es.length,_,fun i=>es.drop i,rfl,rfl,er3,h64,hc,fun i hi H4 s4=>?_,xle es,fun l p H4 s4 hl el hp hpw=>?_⟩
  ·refine⟨e,es,_,rfl,rfl,(s2.trans (s3.trans s4)).at he,by lia,fun d hd=>⟨xc.new hd,d,rfl,?_⟩⟩;rw[xj,cI]
  ·exact q l p H4 (s2.trans (s3.trans s4)) ((s2.trans s3).back hl) el ⟨hp,hpw⟩
theorem xgf(T:Txt K mg a):xG P w K mg base CX0 1 a.q00 a.xad ["text","at","part"] xjQ:=by
 refine T.q01.ok xbM (fun vs H Q E h=>?_) (fun cdv A outer s H vs Q E hr h=>?_)
 ·obtain⟨e,q,es,ps,i,rfl,_⟩:=h;rfl
 ·obtain⟨e,q,es,ps,i,rfl,he,hq,hi,k⟩:=h;have nd:=xbM.nd;refine⟨_,(xh (xt (i:=3) nd rfl (aS rfl) xg)
  (xh (vO b8 (PW.pt (ug (xC jQ (cv 3) (xo xq (by rfl) T.q0c xH (xa (cv 2) xf))) (ug (xC jQ (xl xI (cv 1) (cv 3)) (xo xq (by rfl) T.q0c xH (xa (cv 0) xf))) (ua (xC zc (xr xN (cv 0) (xl xI (cv 1) (cv 3)) (fun _ _=>rfl)) (xr xN (cv 2) (cv 3) (fun _ _=>rfl))))))) (xi (xt (i:=3) nd rfl (aS rfl) (xl xI (cv 3) xg))))
  (xi (xu (cv 3))))),?_⟩
  walk_at"w";refine zP (m:=ps.length) (fun m σ G=>G=H∧∃x:Nat,m=ps.length - x∧σ=[some (.ref e),some (.int i),some (.ref q),some (.int x)]∧x≤ps.length∧i+x≤es.length∧(es.drop i).take x=ps.take x) ⟨rfl,0,rfl,rfl,aJ _,by lia,by simp⟩ (fun m σ G hP=>?_);obtain⟨rfl,x,rfl,rfl,hx,hy,heq⟩:=hP;have done:((es.drop i).length > x→ps.length > x→(es.drop i).take (x+1)≠ps.take (x+1))→Q (.int x) G:=fun hn=>by
   rw[xjO heq hx (fun h1 h2=>hn h1 h2) (by rw[aQ];lia)]at k;exact k
  walk_at"w";refine⟨q,_,rfl,.inl (SqL.of hq),?_⟩;walk_at"w";rw[ab];refine⟨fun e1=>?_,fun e1=>?_⟩
  ·have h1:x<ps.length:=by have:=of_decide_eq_true e1;lia
   walk_at"w";refine⟨e,_,rfl,.inl (SqL.of he),?_⟩;walk_at"w";rw[ab];refine⟨fun e2=>?_,fun e2=>?_⟩
   ·have h2:i+x<es.length:=by have:=of_decide_eq_true e2;lia
    have h3:x<(es.drop i).length:=by rw[aQ];lia
    walk_at"w";refine⟨e,_,_,.int es[i+x],rfl,rfl,SqL.of he,xmg (by lia) (by rw[show((i:Int)+(x:Int)).toNat=i+x by lia];simp[h2]),?_⟩;walk_at"w";refine⟨q,_,_,.int ps[x],rfl,rfl,SqL.of hq,yd (by simp[h1]),?_⟩;walk_at"w";have st:=xjN heq h3 h1;rw[List.getElem_drop]at st;refine⟨fun e3=>?_,fun e3=>?_⟩
    ·have e4:=st.mp (by simpa using e3);refine⟨fun σ' G'=>∃m',m'<ps.length - x∧G'=G∧∃x:Nat,m'=ps.length - x∧σ'=[some (.ref e),some (.int i),some (.ref q),some (.int x)]∧x≤ps.length∧i+x≤es.length∧(es.drop i).take x=ps.take x,fun _ _ z=>z,?_⟩;walk_at"w";exact⟨ps.length - (x+1),by lia,rfl,x+1,rfl,rfl,by lia,by lia,e4⟩
    ·walk_at"w";refine done fun _ _ z=>?_;have:=st.mpr z;simp[this]at e3
   ·refine⟨by walk_at"no",fun _=>?_⟩;walk_at"w";have:=of_decide_eq_false e2;exact done fun h1 _=>by rw[aQ]at h1;lia
  ·refine⟨by walk_at"no",fun _=>?_⟩;walk_at"w";have:=of_decide_eq_false e1;exact done fun _ h2=>by lia
theorem xfF(es:List Int)(i:Nat):yA (es.map V.int) (some (i:Int)) none=(es.drop i).map V.int:=by
 rw[yC,yo (by lia),HT.zR]
 congr 1
 rw[bg (by rw[aQ];lia),cI]
 by_cases h:i≤es.length
 ·rw[bU h]
 ·rw[eY (by lia),cR (ao _),cR (by lia)]
theorem xcq(T:Txt K mg a):xG P w K mg base CX0 1 a.q0u a.uw ["text","table","part"] xco:=by
 refine T.q0x.ok ja (fun vs H Q E h=>?_) (fun cdv A outer s H vs Q E hr h=>?_)
 ·obtain⟨e,t,q,es,ps,p,rfl,_⟩:=h;rfl
 ·obtain⟨e,t,q,es,ps,p,rfl,he,ht,hq,hp,k⟩:=h;have nd:=ja.nd;refine⟨_,(xh (xt (i:=3) nd rfl (aS rfl) xg)
  (xh (xt (i:=4) nd rfl (aS rfl) (xo xq (by rfl) T.q0c xH (xa (cv 1) xf)))
  (xh (vO b8 (xC jQ (cv 3) (cv 4)) (xh (xt (i:=5) nd rfl (aS rfl) (xl yg (xl xI (cv 3) (cv 4)) xg))
  (xi (xT (xC (xmb hr.units0) (ya yw (cv 0) (xM (xr xN (cv 1) (cv 5) (fun _ _=>rfl))) yU) (cv 2)) (xi (xt (i:=3) nd rfl (aS rfl) (xl xI (cv 5) xg))) (xi (xt (i:=4) nd rfl (aS rfl) (cv 5)))))))
  (xi (xu (cv 3)))))),?_⟩
  walk_at"w";refine⟨t,_,rfl,.inl (SqL.of ht),?_⟩;walk_at"w";rw[ab];refine zP (m:=p.length) (fun m σ G=>xc H G∧∃(lo hi:Nat) (x5:Option V),m=hi - lo∧σ=[some (.ref e),some (.ref t),some (.ref q),some (.int lo),some (.int hi),x5]∧lo≤hi∧hi≤p.length∧(∀i,i<lo→HT.lexLt (es.drop (p.getD i 0)) ps=true)∧∀i,hi≤i→i<p.length→HT.lexLt (es.drop (p.getD i 0)) ps=false)
   ⟨xc.refl _,0,p.length,_,rfl,rfl,aJ _,ao _,fun i hi=>absurd hi (dG _),fun i h1 h2=>absurd h2 (by lia)⟩ (fun m σ G hP=>?_)
  obtain⟨sG,lo,hi,x5,rfl,rfl,h1,h2,h3,h4⟩:=hP;walk_at"w";refine⟨fun e1=>?_,fun e1=>?_⟩
  ·have e1':lo<hi:=by have:=of_decide_eq_true e1;lia
   refine⟨fun σ' G'=>∃m',m'<hi - lo∧xc H G'∧∃(lo hi:Nat) (x5:Option V),m'=hi - lo∧σ'=[some (.ref e),some (.ref t),some (.ref q),some (.int lo),some (.int hi),x5]∧lo≤hi∧hi≤p.length∧(∀i,i<lo→HT.lexLt (es.drop (p.getD i 0)) ps=true)∧∀i,hi≤i→i<p.length→HT.lexLt (es.drop (p.getD i 0)) ps=false,fun _ _ z=>z,?_⟩;walk_at"w";walk_at"ss";have em:((lo:Int)+(hi:Int)) / 2=(((lo+hi) / 2:Nat):Int):=by lia
   generalize hz:(fun(i j:Int)=>V.int (i / j)) ((lo:Int)+(hi:Int)) 2=z;generalize hmid:(lo+hi) / 2=mid at em;have ez:z= .int (mid:Nat):=by rw[←hz];show V.int (((lo:Int)+(hi:Int)) / 2)=_;rw[em]
   clear hz;subst ez;have b1:lo≤mid∧mid<hi:=by lia
   have b2:mid<p.length:=by lia
   have g:p.getD mid 0=p[mid]:=by simp[aX,b2]
   refine⟨t,_,_,.int (p.getD mid 0:Nat),rfl,rfl,SqL.of (sG.at ht),yd (by rw[g];simp[b2]),?_⟩;walk_at"w";refine⟨_,rfl,?_⟩;walk_at"w";refine⟨e,_,rfl,SqL.of (sG.at he),?_⟩;intro d hd;generalize hUd:upd G d _=G1;have sG1:=xc.of_eq hd hUd;have ed:=xm hUd;clear hUd;walk_at"w";rw[xfF]at ed;refine⟨d,q,_,_,rfl,rfl,SqL.of ed,SqL.of ((sG.trans sG1).at hq),?_⟩;walk_at"w";refine⟨fun e2=>?_,fun e2=>?_⟩
   ·walk_at"w";refine⟨hi - (mid+1),by lia,sG.trans sG1,mid+1,hi,_,rfl,rfl,by lia,h2,fun i hi'=>?_,h4⟩
    by_cases c:i=mid
    ·rw[c];exact e2
    ·exact xc3 (xc4 hp (show i<mid by lia) b2) e2
   ·walk_at"w";refine⟨mid - lo,by lia,sG.trans sG1,lo,mid,_,rfl,rfl,by lia,by lia,h3,fun i h5 h6=>?_⟩
    by_cases c:i=mid
    ·rw[c];exact e2
    ·cases hc:HT.lexLt (es.drop (p.getD i 0)) ps with
     |false=>rfl
     |true=>
      have:=xc3 (xc4 hp (show mid<i by lia) h6) hc;rw[e2]at this;cases this
  ·have e1':lo=hi:=by have:=of_decide_eq_false e1;lia
   walk_at"w";subst e1';exact k lo G sG ⟨h2,h3,h4⟩
theorem xc7(ps:List Int)(c:Nat):yA (ps.map V.int) none (some (c:Int))=(ps.take c).map V.int:=by
 rw[yC,yo (by lia),HT.zR,List.drop_zero,cI,Nat.sub_zero]
 congr 1
 by_cases q:c≤ps.length
 ·rw[bU q]
 ·rw[eY (by lia),bg (ao _),bg (by lia)]
theorem xlg(es:List Int)(b c:Nat)(h:b≤es.length):yA (es.map V.int) (some (b:Int)) (some ((b:Int)+(c:Int)))=((es.drop b).take c).map V.int:=by
 rw[yC,yo (by lia),yo (by lia),cI,show((b:Int)+(c:Int)).toNat=b+c by lia,bU h]
 congr 1
 by_cases q:b+c≤es.length
 ·rw[bU q,show b+c - b=c by lia]
 ·rw[eY (by lia),bg (by rw[aQ];lia),bg (by rw[aQ];lia)]
theorem xhF(p:List Nat)(L:Nat)(h:L≤p.length):yA (p.map fun(i:Nat)=>V.int i) (some (max ((L:Int) - 1) 0)) (some ((L:Int)+1))=(around p L).map fun(i:Nat)=>V.int i:=by
 unfold yA around;rw[ab,yo (by lia),yo (by lia),←iC,←ll,show(max ((L:Int) - 1) 0).toNat=L - 1 by lia,show((L:Int)+1).toNat=L+1 by lia,bU (show L - 1≤p.length by lia)]
 congr 1
 by_cases q:L+1≤p.length
 ·rw[bU q]
 ·rw[eY (by lia),bg (by rw[aQ];lia),bg (by rw[aQ];lia)]
theorem xhG(T:Txt K mg a):xG P w K mg base CX0 2 a.q07 a.xaX ["text","table","part"] xhD:=by
 refine T.q1c.ok xcU (fun vs H Q E h=>?_) (fun cdv A outer s H vs Q E hr h=>?_)
 ·obtain⟨e,t,q,es,ps,p,rfl,_⟩:=h;rfl
 ·obtain⟨e,t,q,es,ps,p,rfl,he,ht,hq,hp,h64,h100,k⟩:=h;have nd:=xcU.nd;refine⟨_,(xh (xt (i:=3) nd rfl (aS rfl) (xx (xcq T) (hr.mono (by decide)) (by rfl) T.xcM T.q0x.kp T.xcL .nil xw (xa (cv 0) (xa (cv 1) (xa (cv 2) xf)))))
  (xh (xt (i:=4) nd rfl (gf rfl) (xkQ rfl (by rfl) T.q1X (xa (yq (yy (cap:=[0,2]) (ys:=["text","part"]) rfl rfl rfl rfl rfl ⟨⟨rfl,rfl,.inl rfl⟩,⟨⟨rfl,rfl,.inl rfl⟩,trivial⟩⟩ (by decide+kernel)) rfl (yi (ya yw (cv 1) (xM (xo (xig rfl) (by rfl) T.q1X xeO (xa (xl vw (cv 3) xg) (xa xg xf)))) (xM (xl xI (cv 3) xg)))) (fun _ _ _ _=>(xx (xgf T) (hr.mono (by decide)) (by rfl) T.xhy T.q01.kp T.xhx .nil xw (xa (cv 1) (xa (cv 0) (xa (cv 2) xf))))) (fun _ _ _ _=>yz)) xf) xg))
  (xh (xT (xC zc (cv 4) xg) (xi (xu (yj (xa xg (xa xg xf))))) xR)
  (xh (xt (i:=5) nd rfl (gf rfl) (ya yw (cv 2) yU (xM (cv 4))))
  (xi (xu (yj (xa (xo (xdX rfl) (by rfl) T.q1O xaK (xa (yq (yy (cap:=[0,4,5]) (ys:=["text","count","beginning"]) rfl rfl rfl rfl rfl ⟨⟨rfl,rfl,.inl rfl⟩,⟨⟨rfl,rfl,.inl rfl⟩,⟨⟨rfl,rfl,.inl rfl⟩,trivial⟩⟩⟩ (by decide+kernel)) rfl (yi (cv 1)) (fun _ _ _ _=>(cv 0)) (fun _ _ _ _=>(vE (xC (xnI (K:=K) rfl hr.units) (ya (xjs (K:=K) rfl) (cv 1) (xM (cv 0)) (xM (xl xI (cv 0) (cv 2)))) (cv 3))))) xf)) (xa (cv 4) xf))))))))),?_⟩
  walk_at"w";refine⟨e,t,q,es,ps,p,rfl,he,ht,hq,hp,fun L H1 s1 hL=>?_⟩;walk_at"w";refine⟨_,rfl,?_⟩;walk_at"w";refine⟨_,rfl,?_⟩;walk_at"w";refine⟨t,_,rfl,SqL.of (s1.at ht),?_⟩;intro d hd;generalize hUd:upd H1 d _=H2;have sH2:=xc.of_eq hd hUd;have ed:=xm hUd;clear hUd;walk_at"w";rw[xhF p L hL.1]at ed;have s2:=s1.trans sH2;have ba:(around p L).length≤64:=by
   have e1:(around p L).length≤p.length:=by unfold around;rw[bF,aQ];omega
   have e2:=hp.1.length_eq;rw[c7]at e2;omega
  refine⟨d,rfl,⟨_,SqL.of ed⟩,?_⟩;refine xaP (fun v=>match v with| .int x=>.int (lcp (es.drop x.toNat) ps:Nat)|v=>v) (SqL.of ed) (by rw[ab,ay];omega) (fun x H3 hx s3 R hR=>?_) (fun D G hD sG eD=>?_)
  ·obtain⟨b,hb,rfl⟩:=aG.mp hx;walk_at"w";exact⟨e,q,es,ps,b,rfl,(s2.trans s3).at he,(s2.trans s3).at hq,cx (xd8 hp hb),hR H3 (xc.refl _)⟩
  have eD':G D=some (.lst (((around p L).map fun b=>((lcp (es.drop b) ps:Nat):Int)).map V.int)):=by
   rw[eD,bj,bj];rfl
  have s4:=s2.trans sG;walk_at"w";refine⟨D,_,_,rfl,rfl,SqL.of eD',fun m m1 m2=>?_⟩;obtain⟨c,rfl,hle,hc⟩:=xjP hp hL m1 m2;walk_at"w";refine⟨fun e1=>?_,fun e1=>?_⟩
  ·have c0:c=0:=by have:=of_decide_eq_true e1;omega
   subst c0;walk_at"w";walk_at"ss";intro z hz;generalize hUz:upd G z _=G2;have sG2:=xc.of_eq hz hUz;have ez:=xm hUz;clear hUz;walk_at"w";exact k z 0 0 G2 (s4.trans sG2) (s4.back hz) ez ⟨hle,.inl ⟨rfl,rfl⟩⟩
  ·have c0:0<c:=by have:=of_decide_eq_false e1;omega
   obtain⟨a0,ha0,ea0⟩:=hc.resolve_left (by omega);have cl:c≤ps.length:=by rw[←ea0];exact xbf _ _
   walk_at"w";refine⟨_,rfl,?_⟩;walk_at"w";refine⟨q,_,rfl,SqL.of (s4.at hq),?_⟩;intro b hb;generalize hUb:upd G b _=G2;have sG2:=xc.of_eq hb hUb;have eb:=xm hUb;clear hUb;walk_at"w";rw[xc7]at eb;have s5:=s4.trans sG2;refine⟨t,rfl,⟨_,SqL.of (s5.at ht)⟩,?_⟩;refine uq (fun v=>match v with| .int x=>decide ((es.drop x.toNat).take c=ps.take c)|_=>false) (fun v=>v) (SqL.of (s5.at ht)) (by rw[ab,ay,hp.1.length_eq,c7];omega) (fun x H3 hx s3 R hR=>?_) (fun x H3 hx _ s3 R hR=>?_) (fun D2 G3 hD2 sG3 eD2=>?_)
   ·obtain⟨i,hi,rfl⟩:=aG.mp hx;have hi':i<es.length:=a7.mp (hp.1.mem_iff.mp hi);walk_at"w";refine⟨_,rfl,?_⟩;walk_at"w";refine⟨_,rfl,?_⟩;walk_at"w";refine⟨e,_,rfl,SqL.of ((s5.trans s3).at he),?_⟩;intro g hg;generalize hUg:upd H3 g _=H4;have sH4:=xc.of_eq hg hUg;have eg:=xm hUg;clear hUg;walk_at"w";rw[xlg es i c (by omega)]at eg;refine xkC (f:=fun b=>b) ⟨g,b,_,_,rfl,rfl,SqL.of eg,SqL.of ((s3.trans sH4).at eb),?_⟩;exact hR H4 sH4
   ·walk_at"w";exact hR H3 (xc.refl _)
   have eD3:G3 D2=some (.lst (((p.filter fun i=>decide ((es.drop i).take c=ps.take c)).map fun(i:Nat)=>(i:Int)).map V.int)):=by
    rw[eD2,List.map_id',fW,bj];rfl
   have s6:=s5.trans sG3;have mf:∀i,i∈(p.filter fun i=>decide ((es.drop i).take c=ps.take c))↔i<es.length∧c≤lcp (es.drop i) ps:=fun i=>by
    rw[aE,hp.1.mem_iff,a7,decide_eq_true_iff,jd cl]
   walk_at"w";refine⟨D2,_,rfl,SqL.of eD3,?_,fun m m1 m2=>?_⟩
   ·intro z;have:=(mf a0).mpr ⟨ha0,by omega⟩;rw[List.map_eq_nil_iff.mp z]at this;cases this
   obtain⟨i,hi,rfl⟩:=aG.mp m1;obtain⟨hi1,hi2⟩:=(mf i).mp hi;walk_at"w";walk_at"ss";intro z hz;generalize hUz:upd G3 z _=G4;have sG4:=xc.of_eq hz hUz;have ez:=xm hUz;clear hUz;walk_at"w";exact k z i c G4 (s6.trans sG4) (s6.back hz) ez (xlf hle c0 hi1 hi2 fun j hj1 hj2=>by
    have:=m2 _ (fQ (f:=fun(i:Nat)=>(i:Int)) ((mf j).mpr ⟨hj1,hj2⟩));omega)
theorem je(T:Txt K mg a):xG P w K mg base CX0 4 a.q0v a.ux ["end","signs"] (xcp K a):=by
 refine T.q0l.ok jb (fun vs H Q E h=>?_) (fun cdv A outer s H vs Q E hr h=>?_)
 ·obtain⟨q,i,xs,rfl,_⟩:=h;rfl
 ·obtain⟨q,i,xs,rfl,hq,k⟩:=h;have nd:=jb.nd;refine⟨_,(xh (xT (xC zc (xo xq (by rfl) T.q0c xH (xa (cv 1) xf)) xg) (xi (xu (yB xf))) xR)
  (xi (xu (yB (xa (xbq T.q1S (uU T) (hr.mono (by decide)) (by rfl) T.xes T.xai .nil xw (xa (xl vw (cv 0) (xo xq (by rfl) T.q0c xH (xa (cv 1) xf))) (xa (cv 1) xf))) xf))))),?_⟩
  walk_at"w";refine⟨q,_,rfl,.inl (SqL.of hq),?_⟩;walk_at"w";rw[ab];refine⟨fun e1=>?_,fun e1=>?_⟩
  ·have h0:xs=[]:=dO.mp (by have:=of_decide_eq_true e1;lia);walk_at"w";walk_at"ss";intro l hl;generalize hUl:upd H l _=H1;have sH1:=xc.of_eq hl hUl;have el:=xm hUl;clear hUl;walk_at"w";exact k l [] H1 sH1 hl el (by unfold uA;rw[if_pos h0];exact .nil)
  ·have h0:xs≠[]:=fun z=>by rw[z]at e1;simp at e1
   walk_at"w";refine⟨q,_,rfl,.inl (SqL.of hq),?_⟩;walk_at"w";rw[ab];intro x xdx hx hxdx nex;generalize hUx:upd H xdx (.own x)=H1;have sH1:=xc.of_eq hxdx hUx;have hx3:H1 x=none:=by rw[←hUx,xk (bO nex)];exact hx
   refine⟨x,xdx,q,_,xs,rfl,xj,(xc.new hx3).at (sH1.at hq),fun u H4 hu o4 e4 eu=>⟨rfl,?_⟩⟩;have s4:xc H H4:=fun b o z=>o4 b o (fun y=>by rw[y,hx]at z;cases z) ((sH1.trans (xc.new hx3)).at z);have nux:u≠x:=fun z=>by rw[z,xj]at hu;cases hu
   walk_at"w";walk_at"ss";intro l hl;generalize hUl:upd H4 l _=H5;have sH5:=xc.of_eq hl hUl;have el:=xm hUl;clear hUl;walk_at"w";refine k l [x] H5 (s4.trans sH5) (s4.back hl) el ?_;unfold uA;rw[if_neg h0];exact .cons ⟨xdx,u,sH5.at e4,sH5.at eu⟩ .nil
theorem xaB(T:Txt K mg a):xG P w K mg base CX0 5 a.q0L a.vY ["elder","newer","least"] (xej K a):=by
 refine T.q0F.ok xay (fun vs H Q E h=>?_) (fun cdv A outer s H vs Q E hr h=>?_)
 ·obtain⟨e,n,es,ns,least,rfl,_⟩:=h;rfl
 ·obtain⟨e,n,es,ns,least,rfl,hP,he,hn,h64,h100,hls,k⟩:=h;have nd:=xay.nd;refine⟨_,(xh (xt (i:=3) nd rfl (aS rfl) (xx (xhE T) (hr.mono (by decide)) (by rfl) T.xiK T.vf.kp T.xiJ .nil xw (xa (cv 0) xf)))
  (xh (xt (i:=4) nd rfl (aS rfl) (yB xf))
  (xh (xt (i:=5) nd rfl (aS rfl) (yB xf))
  (xh (xt (i:=6) nd rfl (aS rfl) xg)
  (xh (vO b8 (xC jQ (cv 6) (xo xq (by rfl) T.q0c xH (xa (cv 1) xf))) (xh (xt (i:=7) nd rfl (aS rfl) (xx (xhG T) (hr.mono (by decide)) (by rfl) T.xiM T.q1c.kp T.xiL .nil xw (xa (cv 0) (xa (cv 3) (xa (ya yw (cv 1) (xM (cv 6)) yU) xf)))))
  (xh (xt (i:=8) nd rfl (aS rfl) (xr xA (cv 7) xg (fun _ _=>rfl)))
  (xi (xT (PW.pt (ug (xC xeK (cv 8) xg) (ua (xC xl0 (cv 8) (cv 2))))) (xh (yf (zb PySem.F.plainAttrs_list PySem.F.slot_list_extend PySem.F.type_list_extend xdS (cv 4) (xa (xx (je T) (hr.mono (by decide)) (by rfl) T.ji T.q0l.kp T.jh .nil xw (xa (cv 6) (xa (cv 5) xf))) xf)))
  (xh (yf (zb PySem.F.plainAttrs_list PySem.F.slot_list_append PySem.F.type_list_append yk (cv 4) (xa (xbq T.q13 (xfs T) (hr.mono (by decide)) (by rfl) T.xcS T.xf9 .nil xw (xa (cv 6) (xa (xr xA (cv 7) xg (fun _ _=>rfl)) (xa (cv 8) xf)))) xf)))
  (xh (xt (i:=5) nd rfl (aS rfl) (yB xf))
  (xi (xt (i:=6) nd rfl (aS rfl) (xl xI (cv 6) (cv 8))))))) (xh (yf (zb PySem.F.plainAttrs_list PySem.F.slot_list_append PySem.F.type_list_append yk (cv 5) (xa (xr xN (cv 1) (cv 6) (fun _ _=>rfl)) xf)))
  (xi (xt (i:=6) nd rfl (aS rfl) (xl xI (cv 6) xg)))))))))
  (xi (xu (xl vL (cv 4) (xx (je T) (hr.mono (by decide)) (by rfl) T.ji T.q0l.kp T.jh .nil xw (xa (cv 6) (xa (cv 5) xf))))))))))),?_⟩
  walk_at"w";refine⟨e,es,rfl,hP,he,h64,fun t p H1 s1 ht et hp=>?_⟩;have he1:=s1.at he;have hn1:=s1.at hn;walk_at"w";walk_at"ss";intro rl hrl;generalize hUrl:upd H1 rl _=H2;have sH2:=xc.of_eq hrl hUrl;have erl:=xm hUrl;clear hUrl;walk_at"w";walk_at"ss";intro sl hsl;generalize hUsl:upd H2 sl _=H3;have sH3:=xc.of_eq hsl hUsl;have esl:=xm hUsl;clear hUsl;walk_at"w";have nrs:rl≠sl:=fun z=>by rw[←z,erl]at hsl;cases hsl
  refine zP (m:=ns.length) (fun m σ G=>xc H1 G∧∃(rl sl:Addr) (os:List Addr) (rs:List xb) (sg:List Int) (i:Nat) (x7 x8:Option V),m=ns.length - (i+sg.length)∧σ=[some (.ref e),some (.ref n),some (.int least),some (.ref t),some (.ref rl),some (.ref sl),some (.int (i+sg.length:Nat)),x7,x8]∧
    H1 rl=none∧H1 sl=none∧rl≠sl∧G rl=some (.lst (os.map V.ref))∧Paired (xB K a G) os rs∧os.length≤2*i∧G sl=some (.lst (sg.map V.int))∧i+sg.length≤ns.length∧sg=(ns.drop i).take sg.length∧(∀k,k<sg.length→uz es (ns.drop (i+k)) least)∧xD es ns least 0 false rs i false)
   ⟨sH2.trans sH3,rl,sl,[],[],[],0,_,_,rfl,rfl,hrl,sH2.back hsl,nrs,sH3.at erl,.nil,ao _,esl,aJ _,rfl,fun k hk=>absurd hk (dG _),rfl,rfl⟩ (fun m σ G hP=>?_)
  clear sH2 sH3 erl esl hrl hsl nrs H2 H3 rl sl;obtain⟨sG,rl,sl,os,rs,sg,i,x7,x8,rfl,rfl,hrl,hsl,nrs,erl,hpo,hos,esl,hle,hsg,hnb,hri⟩:=hP;have hol:=hpo.length;walk_at"w";refine⟨n,_,rfl,.inl (SqL.of (sG.at hn1)),?_⟩;walk_at"w";rw[ab];refine⟨fun e1=>?_,fun e1=>?_⟩
  ·have h1:i+sg.length<ns.length:=by have:=of_decide_eq_true e1;lia
   refine⟨fun σ' G'=>∃m',m'<ns.length - (i+sg.length)∧xc H1 G'∧∃(rl sl:Addr) (os:List Addr) (rs:List xb) (sg:List Int) (i:Nat) (x7 x8:Option V),m'=ns.length - (i+sg.length)∧σ'=[some (.ref e),some (.ref n),some (.int least),some (.ref t),some (.ref rl),some (.ref sl),some (.int (i+sg.length:Nat)),x7,x8]∧
    H1 rl=none∧H1 sl=none∧rl≠sl∧G' rl=some (.lst (os.map V.ref))∧Paired (xB K a G') os rs∧os.length≤2*i∧G' sl=some (.lst (sg.map V.int))∧i+sg.length≤ns.length∧sg=(ns.drop i).take sg.length∧(∀k,k<sg.length→uz es (ns.drop (i+k)) least)∧xD es ns least 0 false rs i false,fun _ _ z=>z,?_⟩
   walk_at"w";refine⟨_,rfl,?_⟩;walk_at"w";refine⟨n,_,rfl,SqL.of (sG.at hn1),?_⟩;intro d hd;generalize hUd:upd G d _=G1;have sG1:=xc.of_eq hd hUd;have ed:=xm hUd;clear hUd;walk_at"w";rw[xfF]at ed;have s01:=sG.trans sG1;refine⟨e,t,d,es,ns.drop (i+sg.length),p,rfl,s01.at he1,s01.at et,ed,hp,h64,by rw[aQ];lia,fun r a1 c G2 s2 hr2 er hb=>?_⟩;have s02:=s01.trans s2;have sg2:=sG1.trans s2;walk_at"w";refine⟨r,_,_,.int c,rfl,rfl,SqT.of er,rfl,?_⟩;have esl2:=sg2.at esl;have erl2:=sg2.at erl;have hpo2:=L2.Paired.imp' (fun _ _ z=>xB.same z sg2) hpo;have more:(c:Int)<least→∀G3 x7 x8,upd G2 sl (.lst (sg.map V.int++[.int ns[i+sg.length]]))=G3→∃m',m'<ns.length - (i+sg.length)∧xc H1 G3∧∃(rl' sl':Addr) (os:List Addr) (rs:List xb) (sg':List Int) (i':Nat) (x7' x8':Option V),m'=ns.length - (i'+sg'.length)∧[some (.ref e),some (.ref n),some (.int least),some (.ref t),some (.ref rl),some (.ref sl),some (.int (((i+sg.length:Nat):Int)+1)),x7,x8]=[some (.ref e),some (.ref n),some (.int least),some (.ref t),some (.ref rl'),some (.ref sl'),some (V.int (i'+sg'.length:Nat)),x7',x8']∧
    H1 rl'=none∧H1 sl'=none∧rl'≠sl'∧G3 rl'=some (.lst (os.map V.ref))∧Paired (xB K a G3) os rs∧os.length≤2*i'∧G3 sl'=some (.lst (sg'.map V.int))∧i'+sg'.length≤ns.length∧sg'=(ns.drop i').take sg'.length∧(∀k,k<sg'.length→uz es (ns.drop (i'+k)) least)∧xD es ns least 0 false rs i' false:=fun hc G3 x7 x8 hU=>by
    have hl1:(sg++[ns[i+sg.length]]).length=sg.length+1:=by rw[ax];rfl
    refine⟨ns.length - (i+(sg++[ns[i+sg.length]]).length),by lia,xc.wr s02 hsl hU,rl,sl,os,rs,sg++[ns[i+sg.length]],i,x7,x8,rfl,?_,hrl,hsl,nrs,by rw[←hU,xk nrs];exact erl2,?_,hos,by rw[xm hU,aD];rfl,by lia,xi1 hsg h1,fun k hk=>?_,hri⟩
    ·rw[hl1,show((i+(sg.length+1):Nat):Int)=((i+sg.length:Nat):Int)+1 by lia]
    ·rw[←hU];exact L2.Paired.imp' (fun _ _ z=>xB.off z esl2) hpo2
    ·rw[hl1]at hk
     by_cases z:k=sg.length
     ·rw[z];exact uz.of hb hc
     ·exact hnb k (by lia)
   walk_at"w";refine⟨fun e2=>?_,fun e2=>?_⟩
   ·have c0:0<c:=by have:=of_decide_eq_true e2;lia
    walk_at"w";refine⟨fun e3=>?_,fun e3=>?_⟩
    ·have c1:least≤(c:Int):=by have:=of_decide_eq_true e3;lia
     walk_at"w";refine⟨.inl ⟨rfl,_,SqL.of erl2⟩,?_⟩;walk_at"w";refine⟨sl,_,sg,rfl,esl2,fun l os2 G3 s3 hl el hp2=>?_⟩;have erl3:=s3.at erl2;have hpo3:=L2.Paired.imp' (fun _ _ z=>xB.same z s3) hpo2;have l2:os2.length≤1:=by
      have:=hp2.length;have:=xc6 ((i+sg.length:Nat):Int) sg;lia
     walk_at"w";refine⟨rl,l,_,_,rfl,rfl,erl3,el,by rw[ab,ab,ay];lia,?_⟩;generalize hU:upd G3 rl _=G4;have s04:=xc.wr (s02.trans s3) hrl hU;have erl4:=xm hU;have hpo4:Paired (xB K a G4) (os++os2) (rs++uA ((i+sg.length:Nat):Int) sg):=by
      rw[←hU];exact zI (L2.Paired.imp' (fun _ _ z=>xB.off z erl3) hpo3) (L2.Paired.imp' (fun _ _ z=>xB.off z erl3) hp2)
     have er4:G4 r=some (.tup [.int a1,.int c]):=by rw[←hU,xk (uP (s3.at er) erl3 (by intro z;cases z))];exact s3.at er
     clear hU;rw[←aD]at erl4;walk_at"w";refine⟨.inl ⟨rfl,_,SqL.of erl4⟩,?_⟩;walk_at"w";refine⟨r,_,_,.int a1,rfl,rfl,SqT.of er4,rfl,?_⟩;walk_at"w";intro x xdx hx hxdx nex;generalize hUx:upd G4 xdx (.own x)=G5;have sG5:=xc.of_eq hxdx hUx;have hx3:G5 x=none:=by rw[←hUx,xk (bO nex)];exact hx
     refine⟨x,xdx,_,_,_,rfl,xj,rfl,?_⟩;rw[zZ];generalize hVx:upd G5 x _=G6;have sG6:=xc.of_eq hx3 hVx;have ex:=xm hVx;walk_at"w";have s46:=sG5.trans sG6;refine⟨rl,_,_,rfl,rfl,s46.at erl4,by rw[ab,ax,ay];lia,?_⟩;generalize hU:upd G6 rl _=G8;have s08:=xc.wr (s04.trans s46) hrl hU;have erl8:=xm hU;have hpo8:Paired (xB K a G8) (os++os2++[x]) (rs++uA ((i+sg.length:Nat):Int) sg++[.take (i+sg.length:Nat) a1 c]):=by
      rw[←hU];refine zI (L2.Paired.imp' (fun _ _ z=>xB.off (xB.same z s46) (s46.at erl4)) hpo4) (.cons ?_ .nil);exact xB.off (r:=.take (i+sg.length:Nat) a1 c) ⟨xdx,ex⟩ (s46.at erl4)
     clear hU;walk_at"w";walk_at"ss";intro sz hsz;generalize hUsz:upd G8 sz _=G9;have sG9:=xc.of_eq hsz hUsz;have esz:=xm hUsz;clear hUsz;walk_at"w";obtain⟨rt,hlt⟩:=xD.take (b:=decide (sg≠[])) (cx h1) c0 c1 hb;refine⟨ns.length - (i+sg.length+c),by lia,s08.trans sG9,rl,sz,os++os2++[x],_,[],i+sg.length+c,some (.ref r),some (.int c),rfl,?_,hrl,s08.back hsz,(fun z=>by rw[←z,erl8]at hsz;cases hsz),?_,L2.Paired.imp' (fun _ _ z=>xB.same z sG9) hpo8,?_,esz,by simpa using hlt,by simp,fun k hk=>absurd hk (dG _),(hri.app (xD.put hle hsg hnb)).app rt⟩
     ·have ec:((i+sg.length+c+([]:List Int).length:Nat):Int)=((i+sg.length:Nat):Int)+(c:Int):=by show((i+sg.length+c:Nat):Int)=_;lia
      rw[ec];rfl
     ·rw[sG9.at erl8];simp
     ·simp;lia
    ·have c1:(c:Int)<least:=by have:=of_decide_eq_false e3;lia
     walk_at"w";refine⟨.inl ⟨rfl,_,SqL.of esl2⟩,?_⟩;walk_at"w";refine⟨n,_,_,.int ns[i+sg.length],rfl,rfl,SqL.of (s02.at hn1),yd (by simp[h1]),?_⟩;walk_at"w";refine⟨sl,_,_,rfl,rfl,esl2,by rw[ab,ay];lia,?_⟩;exact more c1 _ _ _ rfl
   ·have c1:(c:Int)<least:=by have:=of_decide_eq_false e2;lia
    refine⟨by walk_at"no",fun _=>?_⟩;walk_at"w";refine⟨.inl ⟨rfl,_,SqL.of esl2⟩,?_⟩;walk_at"w";refine⟨n,_,_,.int ns[i+sg.length],rfl,rfl,SqL.of (s02.at hn1),yd (by simp[h1]),?_⟩;walk_at"w";refine⟨sl,_,_,rfl,rfl,esl2,by rw[ab,ay];lia,?_⟩;exact more c1 _ _ _ rfl
  ·have h1:i+sg.length=ns.length:=by have:=of_decide_eq_false e1;lia
   walk_at"w";refine⟨sl,_,sg,rfl,esl,fun l os2 G3 s3 hl el hp2=>?_⟩;walk_at"w";have l2:os2.length≤1:=by
    have:=hp2.length;have:=xc6 ((i+sg.length:Nat):Int) sg;lia
   refine⟨rl,l,_,_,rfl,rfl,s3.at erl,el,by rw[ab,ab,ay];lia,?_⟩;intro z hz;generalize hUz:upd G3 z _=G4;have sG4:=xc.of_eq hz hUz;have ez:=xm hUz;clear hUz;walk_at"w";have s4:=s1.trans (sG.trans s3);refine k z (os++os2) _ (decide (sg≠[])) G4 (s4.trans sG4) (s4.back hz) (by rw[ez,aD]) (zI (L2.Paired.imp' (fun _ _ z=>xB.same z (s3.trans sG4)) hpo) (L2.Paired.imp' (fun _ _ z=>xB.same z sG4) hp2)) ?_;have:=hri.app (xD.put hle hsg hnb);rw[h1]at this;rw[h1];exact this
end
end ML
namespace ML
def xhH(K:ai)(a:Adr):Sp:=fun vs H Q _=>∃(o e:Addr) (to st c:Int) (es:List Int),vs=[.ref o,.ref e]∧xB K a H o (.take to st c)∧H e=some (.lst (es.map V.int))∧0≤st∧0≤c∧st+c≤es.length∧
 ∀(p:Addr) (H':Hp),xc H H'→H p=none→xB K a H' p (.put to ((es.drop st.toNat).take c.toNat))→Q (.ref p) H'
section
variable {P:aF} {w:World} {K:ai} {mg:Str→Option Value} {base:Heap} {a:Adr}
theorem xhI(T:Txt K mg a):xG P w K mg base CX0 4 a.q09 a.xaZ ["take","elder"] (xhH K a):=by
 refine T.q1d.ok xcV (fun vs H Q E h=>?_) (fun cdv A outer s H vs Q E hr h=>?_)
 ·obtain⟨o,e,to,st,c,es,rfl,_⟩:=h;rfl
 ·obtain⟨o,e,to,st,c,es,rfl,⟨dx,h1⟩,he,st0,c0,hle,k⟩:=h;have nd:=xcV.nd;refine⟨_,(xi (xu (xbq T.q1S (uU T) (hr.mono (by decide)) (by rfl) T.xes T.xai .nil xw (xa (xX (cv 0) rfl) (xa (ya yw (cv 1) (xM (xX (cv 0) rfl)) (xM (xl xI (xX (cv 0) rfl) (xX (cv 0) rfl)))) xf))))),?_⟩;walk_at"w";refine⟨_,_,dx,_,.int to,rfl,h1,T.q0d,T.q0R,rfl,?_⟩;walk_at"w";refine⟨_,_,dx,_,.int st,rfl,h1,T.q0d,T.q0g,rfl,?_⟩;walk_at"w";refine⟨_,rfl,?_⟩;walk_at"w";refine⟨_,_,dx,_,.int st,rfl,h1,T.q0d,T.q0g,rfl,?_⟩;walk_at"w";refine⟨_,_,dx,_,.int c,rfl,h1,T.q0d,T.q0o,rfl,?_⟩;walk_at"w";refine⟨_,rfl,?_⟩;walk_at"w";refine⟨e,_,rfl,SqL.of he,?_⟩;intro q hq;generalize hUq:upd H q _=H1;have sH1:=xc.of_eq hq hUq;have eq:=xm hUq;clear hUq;walk_at"w";have eq2:H1 q=some (.lst (((es.drop st.toNat).take c.toNat).map V.int)):=by
   rw[eq,yC,yo st0,yo (by lia)]
   congr 4
   ·rw[bU (by lia),bU (by lia)];lia
   ·rw[bU (by lia)]
  walk_at"w";intro x xdx hx hxdx nex;generalize hUx:upd H1 xdx (.own x)=H2;have sH2:=xc.of_eq hxdx hUx;have hx3:H2 x=none:=by rw[←hUx,xk (bO nex)];exact hx
  refine⟨x,xdx,q,_,(es.drop st.toNat).take c.toNat,rfl,xj,(xc.new hx3).at (sH2.at eq2),fun u H5 hu o5 e5 eu=>⟨rfl,?_⟩⟩;have s5:xc H1 H5:=fun b o z=>o5 b o (fun y=>by rw[y,hx]at z;cases z) ((sH2.trans (xc.new hx3)).at z);exact k x H5 (sH1.trans s5) (sH1.back hx) ⟨xdx,u,e5,eu⟩
end
end ML
def xng:Stmt→Expr
 | .For _ it _ _ _=>it
 |_=>.Constant .none 0 ⟨0,0,0,0⟩
abbrev xc8:Expr:=xhm (xng ((xQ zT).getD 1 (.Pass ⟨0,0,0,0⟩)))
theorem xgM:uH ["one"] ["one"] [] (uL xc8):=⟨rfl,rfl,rfl,by decide+kernel,rfl,by decide+kernel,by decide+kernel,by decide+kernel⟩
def xlh(a:Adr):List (Str×V)→Sp:=fun fv vs H Q _=>∃(p dx t:Addr) (to n:Int),fv=[]∧vs=[.ref p]∧H p=some (.ins a.q0b dx (xcX to t n))∧Q (.int to) H
def rTo:xb→Int
 | .take to _ _=>to
 | .put to _=>to
def xv(acc:List xb)(r:xb):List xb:=match acc.getLast?,r with
 |some (.put t sg),.put to sg'=>if t+sg.length=to then acc.dropLast++[.put t (sg++sg')]else acc++[r]
 |_,_=>acc++[r]
def ym(r:xb):Prop:=∃to sg,r= .put to sg∧sg≠[]∧0≤to∧to+sg.length≤1000
theorem jC{acc:List xb}{r:xb}(h:∀x∈acc,ym x)(hr:ym r):∀x∈xv acc r,ym x:=by
 obtain⟨to,sg',rfl,s1,s2,s3⟩:=id hr;intro x hx;unfold xv at hx
 split at hx
 ·rename_i t sg to2 sg2 hl e;cases e;obtain⟨to3,sg3,e3,u1,u2,u3⟩:=h _ (List.mem_of_getLast? hl);cases e3
  split at hx
  ·rcases bb.mp hx with z|z
   ·exact h x (List.dropLast_subset _ z)
   ·rw[aH.mp z];exact⟨t,sg++sg',rfl,by simp[u1],u2,by rw[ax];lia⟩
  ·rcases bb.mp hx with z|z
   ·exact h x z
   ·rw[aH.mp z];exact hr
 ·rcases bb.mp hx with z|z
  ·exact h x z
  ·rw[aH.mp z];exact hr
theorem xbS{α β:Type}{R:α→β→Prop}:∀{xs:List α} {ys:List β} {y:β},Paired R xs (ys++[y])→∃xs' x,xs=xs'++[x]∧Paired R xs' ys∧R x y
 |_,[],_,.cons h .nil=>⟨[],_,rfl,.nil,h⟩
 |_,_::ys,_,.cons h r=>by
  obtain⟨xs',x,rfl,h1,h2⟩:=xbS r;exact⟨_::xs',x,rfl,.cons h h1,h2⟩
def xi2(K:ai)(a:Adr):Sp:=fun vs H Q _=>∃(l:Addr) (os:List Addr) (ps:List xb),vs=[.ref l]∧SqL K H l (os.map V.ref)∧Paired (xB K a H) os ps∧(∀r∈ps,ym r)∧ps.length<64∧(ps.map rTo).Nodup∧H zz=some (.tbl ve)∧
 ∀(l':Addr) (os':List Addr) (p:List Nat) (G:Hp),xc H G→H l'=none→G l'=some (.lst (os'.map V.ref))→p.Perm (aI ps.length)→((p.map fun i=>rTo (ps.getD i dR)).Pairwise fun x y=>x<y)→Paired (xB K a G) os' ((p.map fun i=>ps.getD i dR).foldl xv [])→Q (.ref l') G
theorem zB(r:xb):xv [] r=[r]:=by unfold xv;simp
theorem yJ(acc:List xb)(t:Int)(sg:List Int)(to:Int)(sg':List Int):xv (acc++[.put t sg]) (.put to sg')=if t+sg.length=to then acc++[.put t (sg++sg')]else acc++[.put t sg]++[.put to sg']:=by
 unfold xv;simp only[List.getLast?_append,List.getLast?_singleton,Option.some_or,List.dropLast_concat]
theorem xB.offw{K:ai}{a:Adr}{H:Hp}{t p:Addr}{r:xb}{xs:List V}{o:HO}(h:xB K a H t r)(hp:H p=some (.lst xs)):xB K a (upd H p o) t r:=by
 have off:∀{b:Addr} {u:HO},H b=some u→(∀ys,u≠.lst ys)→upd H p o b=some u:=fun{b u} e n=>by
  rw[xk (fun z=>by rw[z,hp]at e;cases e;exact n _ rfl)];exact e
 cases r with
 |take to st c=>obtain⟨dx,h⟩:=h;exact⟨dx,off h (by intro _ z;cases z)⟩
 |put to sg=>obtain⟨dx,u,h1,h2⟩:=h;exact⟨dx,u,off h1 (by intro _ z;cases z),off h2 (by intro _ z;cases z)⟩
section
variable {P:aF} {w:World} {K:ai} {mg:Str→Option Value} {base:Heap} {a:Adr}
theorem xek(T:Txt K mg a):uk P w K mg base CX0 1 "<lambda>" "joined.<locals>.<lambda>" (xdl xc8) (.expr (xdm xc8)) (uL xc8) ["one"] (xlh a):=by
 refine xb8 xgM (fun fv vs H Q E h=>?_) (fun _ _ _ _ _ us hl=>match us,hl with|[_],_=>rfl) (fun A outer s H f clos cdv fv vs Q E hr h=>?_)
 ·obtain⟨p,dx,t,to,n,rfl,rfl,_⟩:=h;exact⟨rfl,rfl⟩
 ·obtain⟨p,dx,t,to,n,rfl,rfl,hp,k⟩:=h;have nd:=xgM.nd;refine⟨_,(xX (cv 0) rfl),?_⟩;walk_at"w";exact⟨_,_,dx,_,.int to,rfl,hp,T.q0A,T.q0S,rfl,k⟩
theorem xi3(T:Txt K mg a):xG P w K mg base CX0 4 a.q1a a.xag ["puts"] (xi2 K a):=by
 refine T.vZ.okC [] T.xiP xd6 (fun vs H Q E h=>?_) (fun A outer s H vs Q E hr h=>?_)
 ·obtain⟨l,os,ps,rfl,_⟩:=h;rfl
 ·obtain⟨l,os,ps,rfl,hl,hp,hok,h64,hnd,hP,k⟩:=h;have nd:=xd6.nd;refine⟨_,(xh (xt (i:=1) nd rfl (aS rfl) (yB xf))
  (xh (uY b8 rfl (yi (xf6 (xek T) (hr.mono (by decide)) (by rfl) T.q1p (xa (cv 0) xf) (xaO (c:=q0T) (P:=zz) (qs:=ve) (fns:=[]) rfl T.q1Q (q:="joined.<locals>.<lambda>") (by kernel_rfl) (.head _) (by kernel_rfl) (by kernel_rfl)))) (yE (i:=2) nd rfl (aS rfl)) (xi (xT (PW.pt (ug (xC xeK (xo xq (by rfl) T.q0c xH (xa (cv 1) xf)) xg) (ua (xC zc (xr xA (yP (xr xN (cv 1) (xmI xmU xg) (fun _ _=>rfl)) T.q0A T.q1E (xaA T) (hr.mono (by decide)) T.xa1 .nil xw) xg (fun _ _=>rfl)) (xX (cv 2) rfl))))) (xh (xt (i:=3) nd rfl (aS rfl) (xlU PySem.F.plainAttrs_list PySem.F.slot_list_pop PySem.F.type_list_pop xlV (cv 1)))
  (xi (yf (zb PySem.F.plainAttrs_list PySem.F.slot_list_append PySem.F.type_list_append yk (cv 1) (xa (xbq T.q1S (uU T) (hr.mono (by decide)) (by rfl) T.xes T.xai .nil xw (xa (xX (cv 3) rfl) (xa (xl xkv (xX (cv 3) rfl) (xX (cv 2) rfl)) xf))) xf))))) (xi (yf (zb PySem.F.plainAttrs_list PySem.F.slot_list_append PySem.F.type_list_append yk (cv 1) (xa (cv 2) xf)))))))
  (xi (xu (cv 1))))),?_⟩
  have elen:os.length=ps.length:=hp.length;walk_at"w";walk_at"ss";intro wl hwl;generalize hUwl:upd H wl _=H1;have sH1:=xc.of_eq hwl hUwl;have ewl:=xm hUwl;clear hUwl;walk_at"w";refine⟨sH1.at hP,[],rfl,fun x v m=>by simp at m,fun f H2 hf s2 hcl=>?_⟩;have s02:xc H H2:=sH1.trans s2;walk_at"w";refine⟨l,f,os.map V.ref,[],fun i=>rTo (ps.getD i dR),rfl,rfl,s02.seq hl,by rw[ab];lia,hcl,fun i x hx H3 s3=>?_,⟨fun i hi=>by simp,fun i j k _ _ _ h1 h2=>decide_eq_true (by have:=of_decide_eq_true h1;have:=of_decide_eq_true h2;lia),fun i j hi hj hij=>?_⟩,fun sl p H3 s3 hsl esl hpm hpw=>?_⟩
  ·rw[au]at hx;cases ho:os[i]? with
   |none=>rw[ho]at hx;cases hx
   |some o=>
    rw[ho]at hx;cases hx;obtain⟨pr,hy,py⟩:=xU hp ho;obtain⟨to,sg,rfl,_⟩:=hok pr (aL hy);obtain⟨dx,t,p1,p2⟩:=py;refine⟨o,dx,t,to,sg.length,rfl,rfl,(s02.trans s3).at p1,xc.refl _,?_⟩;have:ps.getD i dR= .put to sg:=by simp only[aX];rw[hy];rfl
    show V.int to=V.int (rTo (ps.getD i dR));rw[this];rfl
  ·rw[ab]at hi hj;have hi2:i<ps.length:=by lia
   have hj2:j<ps.length:=by lia
   have gi:rTo (ps.getD i dR)=rTo ps[i]:=by simp[aX,hi2]
   have gj:rTo (ps.getD j dR)=rTo ps[j]:=by simp[aX,hj2]
   show decide (rTo (ps.getD i dR)<rTo (ps.getD j dR))=true∨decide (rTo (ps.getD j dR)<rTo (ps.getD i dR))=true;rw[gi,gj];have ne:rTo ps[i]≠rTo ps[j]:=by
    rcases Nat.lt_or_gt_of_ne hij with z|z
    ·have:=bc.mp hnd i j (by simp;lia) (by simp;lia) z;simpa using this
    ·have:=bc.mp hnd j i (by simp;lia) (by simp;lia) z;intro e;exact this (by simp[e])
   rcases Int.lt_or_gt_of_ne ne with z|z
   ·exact .inl (decide_eq_true z)
   ·exact .inr (decide_eq_true z)
  ·walk_at"w";rw[ab,elen]at hpm;have s03:xc H H3:=s02.trans s3;have hwl:H wl=none:=hwl;refine⟨sl,rfl,⟨_,SqL.of esl⟩,?_⟩;have hmem:∀i∈p,i<ps.length:=fun i hi=>a7.mp (hpm.mem_iff.mp hi);refine xcF (fun i σ G=>xc H G∧G sl=some (.lst (p.map fun(i:Nat)=>(os.map V.ref).getD i .non))∧∃(z2 z3:Option V) (ros:List Addr),σ=[some (.ref l),some (.ref wl),z2,z3]∧G wl=some (.lst (ros.map V.ref))∧Paired (xB K a G) ros (((p.take i).map fun i=>ps.getD i dR).foldl xv [])∧(∀x∈((p.take i).map fun i=>ps.getD i dR).foldl xv [],ym x)∧ros.length≤i)
    ⟨s03,esl,_,_,[],rfl,(s2.trans s3).at ewl,.nil,fun x hx=>by simp at hx,ao _⟩ (fun i σ G _ hPv=>SqL.of hPv.2.1) (fun i x σ G hx hPv=>?_) (fun σ G hPv=>?_)
   ·obtain⟨sG,hsG,z2,z3,ros,rfl,hwG,hpr,hpk,hrl⟩:=hPv;rw[au]at hx;cases hpi:p[i]? with
    |none=>rw[hpi]at hx;cases hx
    |some j=>
    rw[hpi]at hx;have hj:j<ps.length:=hmem j (aL hpi);have hjo:j<os.length:=by lia
    have ex:x= .ref os[j]:=by cases hx;simp[aX,hjo]
    clear hx;subst ex;have hil:i<p.length:=(aW.mp hpi).1;have hpl:p.length=ps.length:=by have:=hpm.length_eq;simpa using this
    obtain⟨pr,hy,py⟩:=xU hp (ag hjo);have hpk2:=hok pr (aL hy);obtain⟨to,sg',rfl,g1,g2,g3⟩:=id hpk2;have egj:ps.getD j dR= .put to sg':=by simp only[aX];rw[hy];rfl
    have enext:((p.take (i+1)).map fun i=>ps.getD i dR).foldl xv []=xv (((p.take i).map fun i=>ps.getD i dR).foldl xv []) (.put to sg'):=by
     rw[cg,hpi];simp[List.foldl_append,egj];rw[←egj];rfl
    have hnext:=jC hpk hpk2;rw[enext];have hwsl:wl≠sl:=fun z=>by rw[z]at ewl;have:=s2.at ewl;rw[hsl]at this;cases this
    generalize ((p.take i).map fun i=>ps.getD i dR).foldl xv []=acc at hpr hpk hnext⊢;obtain⟨dx,u,o1,o2⟩:=py.same sG;clear enext;walk_at"w";refine⟨wl,_,rfl,.inl (SqL.of hwG),?_⟩;walk_at"w";have app:xv acc (.put to sg')=acc++[.put to sg']→∀(G':Hp),xc G G'→xc H (upd G' wl (.lst (ros.map V.ref++[.ref os[j]])))∧upd G' wl (.lst (ros.map V.ref++[.ref os[j]])) sl=some (.lst (p.map fun(i:Nat)=>(os.map V.ref).getD i .non))∧∃(z2' z3':Option V) (ros':List Addr),([some (.ref l),some (.ref wl),some (.ref os[j]),z3]:L2.St)=[some (.ref l),some (.ref wl),z2',z3']∧upd G' wl (.lst (ros.map V.ref++[.ref os[j]])) wl=some (.lst (ros'.map V.ref))∧Paired (xB K a (upd G' wl (.lst (ros.map V.ref++[.ref os[j]])))) ros' (xv acc (.put to sg'))∧(∀x∈xv acc (.put to sg'),ym x)∧ros'.length≤i+1:=fun ej G' g=>by
     refine⟨(sG.trans g).put hwl,by rw[xk (bO hwsl)];exact g.at hsG,_,_,ros++[os[j]],rfl,by rw[xj,aD];rfl,?_,hnext,by rw[ax,bQ];lia⟩;rw[ej];exact xV (L2.Paired.imp' (fun _ _ z=>(z.same g).offw (g.at hwG)) hpr) (xB.offw (r:=.put to sg') ⟨dx,u,g.at o1,g.at o2⟩ (g.at hwG))
    refine⟨fun e1=>?_,fun e1=>?_⟩
    ·rcases d8 acc with z|⟨acc',last,z⟩
     ·subst z;cases hpr;simp at e1
     rw[d9]at z;subst z;obtain⟨ros',lo,rfl,hpr',hlast⟩:=xbS hpr;obtain⟨t,sg,rfl,u1,u2,u3⟩:=hpk last (by simp);obtain⟨ldx,lu,l1,l2⟩:=hlast;walk_at"w";have hat:atI ((ros'++[lo]).map V.ref) (-1)=some (.ref lo):=by
      rw[aD];have e:ixN (ros'.length+1) (-1)=some ros'.length:=by
       unfold ixN
       first
        |(rw[if_neg (by lia),if_pos (by lia)];congr 1;lia)
        |(simp;lia)
        |simp
      simp[atI,e]
     refine⟨wl,_,_,_,rfl,rfl,SqL.of hwG,hat,?_⟩;walk_at"w";refine⟨lo,ldx,_,rfl,l1,rfl,?_⟩;walk_at"w";refine⟨lo,_,ldx,_,t,sg.length,rfl,l1,T.q0A,T.q0S,T.q0N,rfl,rfl,fun ct hct=>?_⟩;generalize hV:upd G ct _=G1;have gG1:=xc.of_eq hct hV;have ect:=xm hV;clear hV;walk_at"w";refine⟨ct,_,_,.int (t+sg.length),rfl,rfl,SqT.of ect,rfl,?_⟩;walk_at"w";refine⟨_,_,dx,_,.int to,rfl,gG1.at o1,T.q0A,T.q0S,rfl,?_⟩;walk_at"w";refine⟨fun e2=>?_,fun e2=>?_⟩
     ·have ht2:t+sg.length=to:=of_decide_eq_true e2;walk_at"w";refine⟨.inl ⟨rfl,_,SqL.of (gG1.at hwG)⟩,wl,_,.ref lo,rfl,rfl,gG1.at hwG,by simp,?_⟩;have edl:((ros'++[lo]).map V.ref).dropLast=ros'.map V.ref:=by rw[aD];simp
      rw[edl];generalize hU:upd G1 wl _=G2;have hw2:=xm hU;have off2:∀b w0,b≠wl→G1 b=some w0→G2 b=some w0:=fun b w0 hb e=>by rw[←hU,xk hb];exact e
      have hs2:xc H G2:=by rw[←hU];exact(sG.trans gG1).put hwl
      have nl:∀{b:Addr} {w0:HO},G1 b=some w0→(∀ys,w0≠.lst ys)→b≠wl:=fun{b w0} e n z=>by rw[z,gG1.at hwG]at e;cases e;exact n _ rfl
      have hpr2:Paired (xB K a G2) ros' acc':=by rw[←hU];exact L2.Paired.imp' (fun _ _ z=>(z.same gG1).offw (gG1.at hwG)) hpr'
      clear hU;have l1':=off2 lo _ (nl (gG1.at l1) (by intro _ z;cases z)) (gG1.at l1);have l2':=off2 lu _ (nl (gG1.at l2) (by intro _ z;cases z)) (gG1.at l2);have o1':=off2 os[j] _ (nl (gG1.at o1) (by intro _ z;cases z)) (gG1.at o1);have o2':=off2 u _ (nl (gG1.at o2) (by intro _ z;cases z)) (gG1.at o2);have hsl2:=off2 sl _ (bO hwsl) (gG1.at hsG);walk_at"w";refine⟨.inl ⟨rfl,_,SqL.of hw2⟩,?_⟩;walk_at"w";refine⟨_,_,ldx,_,.int t,rfl,l1',T.q0A,T.q0S,rfl,?_⟩;walk_at"w";refine⟨_,_,ldx,_,.ref lu,rfl,l1',T.q0A,T.q0z,rfl,?_⟩;walk_at"w";refine⟨_,_,dx,_,.ref u,rfl,o1',T.q0A,T.q0z,rfl,?_⟩;walk_at"w";refine⟨lu,u,_,_,rfl,rfl,SqT.of l2',SqT.of o2',by simpa using u1,by rw[ab,ab,ay];lia,fun z=>absurd z (by simpa using g1),fun _ cp hcp=>?_⟩;generalize hW:upd G2 cp _=G3;have g3':=xc.of_eq hcp hW;have ecp:=xm hW;clear hW;walk_at"w";intro x xdx hx hxdx nex;generalize hUx:upd G3 xdx (.own x)=G4;have sG4:=xc.of_eq hxdx hUx;have hx3:G4 x=none:=by rw[←hUx,xk (bO nex)];exact hx
      refine⟨x,xdx,cp,t,_,rfl,xj,SqT.of ((xc.new hx3).at (sG4.at ecp)),rfl,?_⟩;rw[zZ];generalize hX:upd G4 x _=G5;have g5:=xc.of_eq hx3 hX;have ex5:=xm hX;clear hX;have g35:xc G3 G5:=sG4.trans g5;have g25:xc G2 G5:=g3'.trans g35;walk_at"w";refine⟨wl,_,_,rfl,rfl,g25.at hw2,by rw[ab,ay];rw[ax,bQ]at hrl;lia,?_⟩;refine⟨(hs2.trans g25).put hwl,by rw[xk (bO hwsl)];exact g25.at hsl2,_,_,ros'++[x],rfl,by rw[xj,aD];rfl,?_,hnext,by rw[ax,bQ]at hrl⊢;lia⟩;rw[yJ,if_pos ht2];refine xV (L2.Paired.imp' (fun _ _ z=>(z.same g25).offw (g25.at hw2)) hpr2) (xB.offw (r:=.put t (sg++sg')) ⟨xdx,cp,?_,?_⟩ (g25.at hw2))
      ·rw[ex5];simp
      ·rw[g35.at ecp,aD]
     ·have ht2:¬t+sg.length=to:=of_decide_eq_false e2;walk_at"w";refine⟨.inl ⟨rfl,_,SqL.of (gG1.at hwG)⟩,?_⟩;walk_at"w";refine⟨wl,_,_,rfl,rfl,gG1.at hwG,by rw[ab,ay];lia,?_⟩;exact app (by rw[yJ,if_neg ht2]) _ gG1
    ·have hr0:ros=[]:=by
      have:=of_decide_eq_false e1;rw[ab]at this;exact dO.mp (by lia)
     subst hr0;have ha0:acc=[]:=by cases hpr;rfl
     subst ha0;refine⟨by walk_at"no",fun _=>?_⟩;walk_at"w";refine⟨.inl ⟨rfl,_,SqL.of ((xc.refl G).at hwG)⟩,?_⟩;walk_at"w";refine⟨wl,_,_,rfl,rfl,(xc.refl G).at hwG,by rw[ab,ay];lia,?_⟩;exact app (zB _) _ (xc.refl G)
   ·obtain⟨sG,hsG,z2,z3,ros,rfl,hwG,hpr,hpk,hrl⟩:=hPv;rw[ab,bg (ao _)]at hpr;walk_at"w";exact k wl ros p G sG hwl hwG hpm (bu.mpr (hpw.imp fun h=>of_decide_eq_true h)) hpr
end
theorem Goes.sub{xss:List (List Int)}{key:Int→List Int}{left ord:List Int}{tur:List (Int×List Int)}(h:Goes xss key left ord tur):(∀x∈ord,x∈left)∧∀x∈tur,x.1∈left:=by
 induction h with
 |nil=>exact⟨fun _ h=>h,fun _ h=>by simp at h⟩
 |keep k hk _ _ ih=>
  refine⟨fun x hx=>?_,fun x hx=>(aE.mp (ih.2 x hx)).1⟩;rcases az.mp hx with z|z
  ·rw[z];exact hk
  ·exact(aE.mp (ih.1 x z)).1
 |turn k _ _ _ hk _ ih=>
  refine⟨fun x hx=>(aE.mp (ih.1 x hx)).1,fun x hx=>?_⟩;rcases az.mp hx with z|z
  ·rw[z];exact hk
  ·exact(aE.mp (ih.2 x z)).1
theorem xbg{left:List Int}{k:Int}(hn:left.Nodup)(hk:k∈left):(k::left.filter fun x=>decide (x≠k)).Perm left:=by
 refine(fN ?_ hn).mpr fun x=>?_
 ·exact bZ.mpr ⟨fun h=>by simpa using(aE.mp h).2,hn.filter _⟩
 ·rw[az,aE];constructor
  ·rintro(z|z)
   ·rw[z];exact hk
   ·exact z.1
  ·intro h
   by_cases e:x=k
   ·exact .inl e
   ·exact .inr ⟨h,by simpa using e⟩
theorem Goes.perm{xss:List (List Int)}{key:Int→List Int}{left ord:List Int}{tur:List (Int×List Int)}(h:Goes xss key left ord tur):left.Nodup→(ord++tur.map (·.1)).Perm left:=by
 induction h with
 |nil=>exact fun _=>.refl _
 |keep k hk _ _ ih=>exact fun hn=>((ih (hn.filter _)).cons k).trans (xbg hn hk)
 |turn k _ _ _ hk _ ih=>exact fun hn=>(List.perm_middle.trans ((ih (hn.filter _)).cons k)).trans (xbg hn hk)
theorem Goes.pair{xss:List (List Int)}{key:Int→List Int}{left ord:List Int}{tur:List (Int×List Int)}(h:Goes xss key left ord tur):ord.Pairwise fun k x=>x∉xss.getD k.toNat []:=by
 induction h with
 |nil=>exact .nil
 |keep k hk hh hg ih=>exact cf.mpr ⟨fun x hx hm=>hh.1 ⟨x,(aE.mp (hg.sub.1 x hx)).1,hm⟩,ih⟩
 |turn k _ _ _ hk _ ih=>exact ih
theorem xfG:∀{rs:List xb} {n:Nat} {wr:List Int},(∀r∈rs,∀x∈r.rds,x∉wr)→(rs.Pairwise fun r s=>∀x∈s.rds,x∉r.wrs)→xeu n rs wr=none
 |[],_,_,_,_=>rfl
 |r::rs,n,wr,h,hp=>by
  obtain⟨h1,h2⟩:=cf.mp hp;have e:(r.rds.find? fun c=>decide (c∈wr))=none:=iq.mpr fun x hx=>by simpa using h r aA x hx
  unfold xeu;rw[e];exact xfG (fun s hs x hx hm=>by
   rcases bb.mp hm with z|z
   ·exact h s (aq _ hs) x hx z
   ·exact h1 s hs x hx z) h2
theorem xfH{lo x:Int}{n:Nat}(h:x∈zl lo n):lo≤x∧x<lo+n:=by
 unfold zl at h;obtain⟨i,hi,rfl⟩:=aG.mp h;have:=a7.mp hi;lia
theorem xmx{s:xb}{x:Int}(h:x∈s.rds):s.rd.1≤x∧x<s.rd.2:=by
 cases s with
 |put _ _=>simp[xb.rds]at h
 |take to st c=>
  by_cases e:st=to
  ·simp[xb.rds,e]at h
  ·have h2:x∈zl st c.toNat:=by simpa [xb.rds,e]using h
   have:=xfH h2;have e2:xb.rd (.take to st c)=(st,st+c):=by simp[xb.rd,e]
   rw[e2];exact⟨this.1,by show x<st+c;lia⟩
theorem xmy{s:xb}{x:Int}(h:x∈s.wrs):s.wr.1≤x∧x<s.wr.2:=by
 cases s with
 |put to sg=>exact xfH (show x∈zl to sg.length from h)
 |take to st c=>
  by_cases e:st=to
  ·simp[xb.wrs,e]at h
  ·have h2:x∈zl to c.toNat:=by simpa [xb.wrs,e]using h
   have:=xfH h2;have e2:xb.wr (.take to st c)=(to,to+c):=by simp[xb.wr,e]
   rw[e2];exact⟨this.1,by show x<to+c;lia⟩
theorem xli{r s:xb}(h:xak r.wr s.rd=false):∀x∈s.rds,x∉r.wrs:=fun x hx hw=>by
 have h:=of_decide_eq_false h;have a1:=xmx hx;have a2:=xmy hw;omega
theorem xnh{rs:List xb}{k x:Int}(k0:0≤k)(k1:k<rs.length)(x0:0≤x)(x1:x<rs.length)(ne:x≠k)(h:x∉(xY rs).getD k.toNat []):xak (rs.getD k.toNat dR).wr (rs.getD x.toNat dR).rd=false:=by
 have hk:k.toNat<rs.length:=by lia
 have hx:x.toNat<rs.length:=by lia
 have e:(xY rs).getD k.toNat []=uV k.toNat ((rs.map xb.wr).getD k.toNat (0,0)) (rs.map xb.rd):=by simp[xY,aX,hk]
 rw[e]at h;have e1:(rs.map xb.wr).getD k.toNat (0,0)=(rs.getD k.toNat dR).wr:=by simp[aX,hk]
 have e2:(rs.map xb.rd).getD x.toNat (0,0)=(rs.getD x.toNat dR).rd:=by simp[aX,hx]
 rw[e1]at h;cases hm:xak (rs.getD k.toNat dR).wr (rs.getD x.toNat dR).rd with
 |false=>rfl
 |true=>
  refine absurd (aG.mpr ⟨x.toNat,aE.mpr ⟨a7.mpr (by rw[ab];exact hx),?_⟩,by lia⟩) h;rw[e2,hm,gE];simp;lia
theorem xi4{rs puts:List xb}{key:Int→List Int}{ord:List Int}{tur:List (Int×List Int)}(h:Goes (xY rs) key ((aI rs.length).map fun(i:Nat)=>(i:Int)) ord tur)(hp:∀r∈puts,r.isTake=false):xkl ((ord.map fun x=>rs.getD x.toNat dR)++puts)=none:=by
 have hin:∀x∈ord,0≤x∧x<rs.length:=fun x hx=>by
  obtain⟨i,hi,rfl⟩:=aG.mp (h.sub.1 x hx);have:=a7.mp hi;lia
 have hnd:ord.Nodup:=by
  have h1:=(h.perm (bu.mpr (dq.imp fun h e=>h (by lia)))).nodup_iff.mpr (bu.mpr (dq.imp fun h e=>h (by lia)));exact(iN.mp h1).1
 have hput:∀{s:xb},s∈puts→s.rds=[]:=fun{s} hs=>by
  cases s with
  |take _ _ _=>have:=hp _ hs;cases this
  |put _ _=>rfl
 refine xfG (fun r _ x _=>by simp) (cP.mpr ⟨bu.mpr ?_,?_,fun r _ s hs x hx=>by rw[hput hs]at hx;simp at hx⟩)
 ·refine(hnd.and h.pair).imp_of_mem fun{k x} hk hx hq=>?_;exact xli (xnh (hin k hk).1 (hin k hk).2 (hin x hx).1 (hin x hx).2 (bO hq.1) hq.2)
 ·exact List.pairwise_of_forall_mem_list fun r _ s hs x hx=>by rw[hput hs]at hx;simp at hx
theorem xbh{acc:List xb}{to:Int}{sg':List Int}(h:∀x∈acc,ym x)(j:Nat):(∃r∈xv acc (.put to sg'),yp r j)↔(∃r∈acc,yp r j)∨yp (.put to sg') j:=by
 rcases d8 acc with z|⟨acc',last,z⟩
 ·subst z;rw[zB];simp
 ·rw[d9]at z;subst z;obtain⟨t,sg,rfl,u1,u2,u3⟩:=h last (by simp);rw[yJ]
  split
  ·rename_i e;have key:yp (.put t (sg++sg')) j↔yp (.put t sg) j∨yp (.put to sg') j:=by
    unfold yp;simp only[xb.to,xb.cnt,ax];omega
   simp only[bb,aH,or_and_right,exists_or,exists_eq_left,key];exact or_assoc.symm
  ·simp only[bb,aH,or_and_right,exists_or,exists_eq_left]
theorem xdG{es nw:List Int}{acc:List xb}{to:Int}{sg':List Int}(h:∀x∈acc,ym x)(hr:ym (.put to sg'))(ha:∀x∈acc,Tells es nw x)(ht:Tells es nw (.put to sg')):∀x∈xv acc (.put to sg'),Tells es nw x:=by
 rcases d8 acc with z|⟨acc',last,z⟩
 ·subst z;rw[zB];intro x hx;rw[aH.mp hx];exact ht
 ·rw[d9]at z;subst z;obtain⟨t,sg,rfl,u1,u2,u3⟩:=h last (by simp);obtain⟨to2,sg2,e2,v1,v2,v3⟩:=hr;cases e2;have hl:=ha _ (aT _ (e7 _));rw[yJ]
  split
  ·rename_i e;intro x hx;rcases bb.mp hx with q|q
   ·exact ha x (bW _ q)
   ·rw[aH.mp q];obtain⟨⟨a1,a2,a3,a4⟩,_,a5,a6⟩:=hl;obtain⟨⟨b1,b2,b3,b4⟩,_,b5,b6⟩:=ht;simp only[xb.to,xb.cnt,xb.sg]at a5 a6 b5 b6;refine⟨⟨a1,by simp[a2],by rw[ax];lia,fun y hy=>?_⟩,cZ,?_,fun i hi=>?_⟩
    ·rcases bb.mp hy with w|w
     ·exact a4 y w
     ·exact b4 y w
    ·simp only[xb.to,xb.cnt,ax];lia
    ·simp only[xb.to,xb.cnt,xb.sg,ax]at hi⊢
     by_cases c:i<sg.length
     ·rw[bH c];exact a6 i c
     ·rw[bP (by lia)];have:=b6 (i - sg.length) (by lia);rw[←this]
      congr 2
      lia
  ·intro x hx;rcases bb.mp hx with q|q
   ·exact ha x q
   ·rw[aH.mp q];exact ht
namespace ML
theorem xD.side{es ns:List Int}{least:Int}:∀{rs:List xb} {i j:Nat} {b b':Bool},xD es ns least i b rs j b'→i≤j∧(∀r∈rs,(i:Int)≤r.to∧r.to+r.cnt≤j∧0<r.cnt)∧(rs.Pairwise fun r s=>r.to+(r.cnt:Int)≤s.to)∧∀c,i≤c→c<j→∃r∈rs,yp r c
 |[],i,j,b,b',h=>by
  have:=h.1;exact⟨by lia,fun r hr=>by simp at hr,.nil,fun c h1 h2=>by lia⟩
 | .put to sg::rs,i,j,b,b',h=>by
  obtain⟨h1,h2,h3,h4,h5,h6,h7⟩:=h;obtain⟨g1,g2,g3,g4⟩:=h7.side;have hp:=bJ.mpr h3;subst h2;refine⟨by lia,fun r hr=>?_,cf.mpr ⟨fun s hs=>?_,g3⟩,fun c c1 c2=>?_⟩
  ·rcases az.mp hr with z|z
   ·rw[z];simp only[xb.to,xb.cnt];lia
   ·have:=g2 r z;lia
  ·have:=(g2 s hs).1;show(i:Int)+(sg.length:Int)≤s.to;lia
  ·by_cases q:c<i+sg.length
   ·exact⟨_,aA,by unfold yp;simp only[xb.to,xb.cnt];lia⟩
   ·obtain⟨r,hr,hc⟩:=g4 c (by lia) c2;exact⟨r,aq _ hr,hc⟩
 | .take to st c::rs,i,j,b,b',h=>by
  obtain⟨st',c',h1,h2,h3,h4,h5,h6,h7,h8⟩:=h;obtain⟨g1,g2,g3,g4⟩:=h8.side;subst h1;subst h2;subst h3;refine⟨by lia,fun r hr=>?_,cf.mpr ⟨fun s hs=>?_,g3⟩,fun d c1 c2=>?_⟩
  ·rcases az.mp hr with z|z
   ·rw[z];simp only[xb.to,xb.cnt];lia
   ·have:=g2 r z;lia
  ·have:=(g2 s hs).1;show(i:Int)+(((c':Int).toNat:Nat):Int)≤s.to;lia
  ·by_cases q:d<i+c'
   ·exact⟨_,aA,by unfold yp;simp only[xb.to,xb.cnt];lia⟩
   ·obtain⟨r,hr,hc⟩:=g4 d (by lia) c2;exact⟨r,aq _ hr,hc⟩
theorem xfI:∀xs ys:List Int,lcp xs ys≤xs.length
 |[],_=>by simp[lcp]
 |x::xs,[]=>by simp[lcp]
 |x::xs,y::ys=>by
  rw[zY]
  split
  ·have:=xfI xs ys;simp only[aY];lia
  ·lia
theorem zA.tells{es ps:List Int}{a c:Nat}(h:zA es ps es.length a c)(h0:0<c):a+c≤es.length∧(es.drop a).take c=ps.take c:=by
 rcases h.2 with z|⟨_,g1,g2,_⟩
 ·lia
 ·have h1:=xfI (es.drop a) ps;have h2:=xbf (es.drop a) ps;rw[aQ]at h1;exact⟨by lia,(jd (by lia)).mpr (by lia)⟩
theorem xD.tells{es ns:List Int}{least:Int}(hb:Bnd ns)(hn:ns.length≤100):∀{rs:List xb} {i j:Nat} {b b':Bool},xD es ns least i b rs j b'→∀r∈rs,Tells es ns r∧xjM es.length ns.length r
 |[],i,j,b,b',h=>fun r hr=>by simp at hr
 | .put to sg::rs,i,j,b,b',h=>fun r hr=>by
  obtain⟨h1,h2,h3,h4,h5,h6,h7⟩:=h;rcases az.mp hr with z|z
  ·subst z;subst h2;refine⟨⟨⟨by lia,h3,by lia,fun x hx=>?_⟩,cZ,by simp only[xb.to,xb.cnt];lia,fun k hk=>?_⟩,by show(i:Int)+sg.length≤ns.length;lia⟩
   ·rw[h5]at hx;exact hb x (eJ (eK hx))
   ·have hk:k<sg.length:=hk;show ns[((i:Int)+(k:Int)).toNat]? =sg[k]?;have e:sg[k]? =((ns.drop i).take sg.length)[k]? :=by rw[←h5]
    rw[e,dC hk,gn]
    congr 1
  ·exact h7.tells hb hn r z
 | .take to st c::rs,i,j,b,b',h=>fun r hr=>by
  obtain⟨st',c',h1,h2,h3,h4,h5,h6,h7,h8⟩:=h;rcases az.mp hr with z|z
  ·subst z;subst h1;subst h2;subst h3;obtain⟨g1,g2⟩:=h7.tells h5;refine⟨⟨⟨by lia,by lia,by lia⟩,by show(st':Int)+(c':Int)≤es.length;lia,by simp only[xb.to,xb.cnt];lia,fun k hk=>?_⟩,by show(st':Int)+c'≤es.length∧(i:Int)+c'≤ns.length;lia⟩;have hk:k<c':=by simpa [xb.cnt]using hk
   show ns[((i:Int)+(k:Int)).toNat]? =((es.drop (st':Int).toNat).take (c':Int).toNat)[k]?;rw[cI,cI,g2,dC hk,gn]
   congr 1
  ·exact h8.tells hb hn r z
theorem zi{α β:Type}{R:α→β→Prop}{p:α→Bool}{q:β→Bool}:∀{xs:List α} {ys:List β},Paired R xs ys→(∀x y,R x y→p x=q y)→Paired R (xs.filter p) (ys.filter q)
 |_,_,.nil,_=>.nil
 |x::xs,y::ys,.cons h r,e=>by
  have:=e x y h;cases hq:q y with
  |true=>rw[dN (by rw[this];exact hq),dN hq];exact .cons h (zi r e)
  |false=>rw[dJ (by rw[this,hq];decide),dJ (by rw[hq];decide)];exact zi r e
noncomputable def isT(K:ai)(a:Adr)(H:Hp)(o:Addr):Bool:=open Classical in decide (∃r,xB K a H o r∧r.isTake=true)
theorem xfJ{K:ai}{a:Adr}{H:Hp}{o:Addr}{r:xb}(h:xB K a H o r):isT K a H o=r.isTake:=by
 cases r with
 |take to st c=>unfold isT;exact@decide_eq_true _ (e9 _) ⟨_,h,rfl⟩
 |put to sg=>
  unfold isT;refine@decide_eq_false _ (e9 _) ?_;rintro⟨r2,h2,e2⟩;cases r2 with
  |put _ _=>cases e2
  |take to2 st2 c2=>
   obtain⟨dx,u,h1,_⟩:=h;obtain⟨dx2,h3⟩:=h2;rw[h1]at h3;injection h3 with h3;injection h3 with _ _ h4;have h5:((["to","count","signs"]:List Str))=(["to","count","source"]:List Str):=congrArg (fun l=>l.map (·.1)) h4
   revert h5
   decide+kernel
end ML
namespace ML
def Off(r s:xb):Prop:=∀c∈r.cv,c∉s.cv
theorem vA{r:xb}{c:Int}:c∈r.cv↔r.to≤c∧c<r.to+r.cnt:=by
 cases r with
 |take to st n=>exact xfn
 |put to sg=>exact xfn
theorem Off.sym{r s:xb}(h:Off r s):Off s r:=fun c h1 h2=>h c h2 h1
theorem xjR{A L:List xb}{x y z:xb}(e:∀c,c∈z.cv→c∈x.cv∨c∈y.cv)(h:(A++x::y::L).Pairwise Off):(A++z::L).Pairwise Off:=by
 obtain⟨h1,h2,h3⟩:=cP.mp h;obtain⟨h4,h5⟩:=cf.mp h2;obtain⟨h6,h7⟩:=cf.mp h5;refine cP.mpr ⟨h1,cf.mpr ⟨fun s hs c hc=>?_,h7⟩,fun r hr s hs=>?_⟩
 ·rcases e c hc with q|q
  ·exact h4 s (aq _ hs) c q
  ·exact h6 s hs c q
 ·rcases az.mp hs with q|q
  ·subst q;intro c c1 c2;rcases e c c2 with q|q
   ·exact h3 r hr x aA c c1 q
   ·exact h3 r hr y (aq _ aA) c c1 q
  ·exact h3 r hr s (aq _ (aq _ q))
theorem xfK{X acc L:List xb}{r:xb}(h:∀x∈acc,ym x)(hr:ym r)(hp:(X++acc++r::L).Pairwise Off):(X++xv acc r++L).Pairwise Off∧(xv acc r).length≤acc.length+1:=by
 obtain⟨to,sg',rfl,v1,v2,v3⟩:=hr;rcases d8 acc with z|⟨acc',last,z⟩
 ·subst z;rw[zB];exact⟨by simpa using hp,by simp⟩
 ·rw[d9]at z;subst z;obtain⟨t,sg,rfl,u1,u2,u3⟩:=h last (by simp);rw[yJ]
  split
  ·rename_i e;refine⟨?_,by simp⟩;have hp':((X++acc')++xb.put t sg::xb.put to sg'::L).Pairwise Off:=by simpa using hp
   have:=xjR (z:=.put t (sg++sg')) (fun c hc=>by
    rw[vA]at hc⊢;rw[vA];simp only[xb.to,xb.cnt,ax]at hc⊢;omega) hp'
   simpa using this
  ·exact⟨by simpa using hp,by simp⟩
theorem xkm{es nw:List Int}{X:List xb}:∀{L acc:List xb},(∀x∈acc,ym x)→(∀x∈L,ym x)→(∀x∈acc,Tells es nw x)→(∀x∈L,Tells es nw x)→(X++acc++L).Pairwise Off→
  (∀x∈L.foldl xv acc,ym x)∧(∀x∈L.foldl xv acc,Tells es nw x)∧(X++L.foldl xv acc).Pairwise Off∧(L.foldl xv acc).length≤acc.length+L.length∧∀j,((∃r∈acc,yp r j)∨∃r∈L,yp r j)→∃r∈L.foldl xv acc,yp r j
 |[],acc,h1,h2,h3,h4,h5=>⟨h1,h3,by simpa using h5,by simp,fun j h=>by
   rcases h with h|⟨r,hr,_⟩
   ·exact h
   ·simp at hr⟩
 |r::L,acc,h1,h2,h3,h4,h5=>by
  have hr:=h2 r aA;obtain⟨to,sg',rfl,v1,v2,v3⟩:=id hr;have ht:=h4 _ aA;obtain⟨o1,o2⟩:=xfK h1 hr h5;obtain⟨g1,g2,g3,g4,g5⟩:=xkm (L:=L) (jC h1 hr) (fun x hx=>h2 x (aq _ hx)) (xdG h1 hr h3 ht) (fun x hx=>h4 x (aq _ hx)) o1;refine⟨g1,g2,g3,?_,fun j hj=>g5 j ?_⟩
  ·rw[aY];rw[j8];lia
  ·rcases hj with q|⟨s,hs,hc⟩
   ·exact .inl ((xbh h1 j).mpr (.inl q))
   ·rcases az.mp hs with z|z
    ·subst z;exact .inl ((xbh h1 j).mpr (.inr hc))
    ·exact .inr ⟨s,z,hc⟩
def zr(es:List Int)(r:xb):xb:=.put r.to (r.sg es)
theorem xbi{es nw:List Int}{r:xb}(h:Tells es nw r):(zr es r).cnt=r.cnt:=xb.sg_len h.1 h.2.1
theorem xjS{es nw:List Int}{r:xb}(h:Tells es nw r):(zr es r).cv=r.cv:=by
 have:=xbi h;cases r with
 |take to st n=>unfold zr xb.cv;simp only[xb.to];congr 1
 |put to sg=>rfl
theorem zC{es nw:List Int}{r:xb}(h:Tells es nw r):0<r.cnt:=by
 cases r with
 |take to st n=>have:=h.1.2.2;show 0<n.toNat;lia
 |put to sg=>exact bJ.mpr h.1.2.1
theorem xbT{es nw:List Int}{r:xb}(hb:Bnd nw)(hn:nw.length≤60)(h:Tells es nw r):Tells es nw (zr es r)∧ym (zr es r):=by
 have hc:=xbi h;have hl:(r.sg es).length=r.cnt:=hc;have hp:=zC h;have h0:=h.1.to;obtain⟨h1,h2,h3,h4⟩:=h;have hne:r.sg es≠[]:=bJ.mp (by lia);refine⟨⟨⟨h0,hne,by lia,fun x hx=>?_⟩,cZ,?_,fun i hi=>?_⟩,r.to,r.sg es,rfl,hne,h0,by lia⟩
 ·obtain⟨i,hi,rfl⟩:=cA.mp hx;have:=h4 i (by lia);rw[ag hi]at this;exact hb _ (aL this)
 ·show r.to+((zr es r).cnt:Int)≤nw.length;rw[hc];exact h3
 ·exact h4 i (by lia)
theorem xd9{es nw:List Int}{r:xb}(he:es.length≤60)(hn:nw.length≤60)(h:Tells es nw r):xjM es.length nw.length r∧Sm r:=by
 obtain⟨h1,h2,h3,h4⟩:=h;cases r with
 |take to st n=>
  obtain⟨k1,k2,k3⟩:=h1;have h2:st+n≤es.length:=h2;have h3:to+(n.toNat:Int)≤nw.length:=h3;exact⟨⟨h2,by lia⟩,by lia,by lia,by lia⟩
 |put to sg=>
  have h3:to+(sg.length:Int)≤nw.length:=h3;have:=h1.1;exact⟨h3,by lia,by lia⟩
theorem xc9(r:xb):rTo r=r.to:=by cases r<;> rfl
theorem range_getD{α:Type}(xs:List α)(d:α):(aI xs.length).map (fun i=>xs.getD i d)=xs:=by
 apply List.ext_getElem
 ·simp
 ·intro i h1 h2;simp[aX,h2]
theorem xcr{es ns:List Int}{least:Int}:∀{rs:List xb} {i j:Nat} {b b':Bool},xD es ns least i b rs j b'→∀r∈rs,r.isTake=true→least≤r.cnt
 |[],i,j,b,b',h=>fun r hr=>by simp at hr
 | .put to sg::rs,i,j,b,b',h=>fun r hr ht=>by
  obtain⟨h1,h2,h3,h4,h5,h6,h7⟩:=h;rcases az.mp hr with z|z
  ·subst z;cases ht
  ·exact xcr h7 r z ht
 | .take to st c::rs,i,j,b,b',h=>fun r hr ht=>by
  obtain⟨st',c',h1,h2,h3,h4,h5,h6,h7,h8⟩:=h;rcases az.mp hr with z|z
  ·subst z;subst h3;show least≤(((c':Int).toNat:Nat):Int);lia
  ·exact xcr h8 r z ht
theorem xfL{r s:xb}(h:Off r s)(h1:r.to≤s.to)(h2:0<s.cnt):r.to+r.cnt≤s.to:=by
 rcases Int.lt_or_le s.to (r.to+r.cnt)with z|z
 ·exact absurd (vA.mpr ⟨by lia,by lia⟩) (h s.to (vA.mpr ⟨h1,z⟩))
 ·exact z
theorem xmz:∀(m:Nat) (D:List xb) (i n:Int),D.length=m→(∀r∈D,i≤r.to∧r.to+r.cnt≤n∧0<r.cnt)→D.Pairwise Off→(∀j,i≤j→j<n→∃r∈D,r.to≤j∧j<r.to+r.cnt)→(∀r∈D,∀s∈D,r.isTake=false→s.isTake=false→r.to+r.cnt≠s.to)→
  D.countP (fun r=> !r.isTake)≤D.countP xb.isTake+1∧((∀r∈D,r.isTake=false→r.to≠i)→D.countP (fun r=> !r.isTake)≤D.countP xb.isTake)
 |0,D,i,n,hm,_,_,_,_=>by
  rw[dO.mp hm];simp
 |m+1,D,i,n,hm,hb,hp,hc,ht=>by
  obtain⟨r0,h0⟩:∃r,r∈D:=List.exists_mem_of_length_pos (by lia);obtain⟨r,hr,hr1,hr2⟩:=hc i (ip _) (by have:=hb r0 h0;lia);have hri:r.to=i:=by have:=hb r hr;lia
  obtain⟨A,B,rfl⟩:=List.append_of_mem hr;have pm:(A++r::B).Perm (r::(A++B)):=List.perm_middle;have hp2:=(pm.pairwise_iff (fun h=>Off.sym h)).mp hp;obtain⟨hp3,hp4⟩:=cf.mp hp2;have sub:∀s∈A++B,s∈A++r::B:=fun s hs=>pm.mem_iff.mpr (aq _ hs);have hrc:=hb r hr;have bs:∀s∈A++B,i+r.cnt≤s.to∧s.to+s.cnt≤n∧0<s.cnt:=fun s hs=>by
   have h1:=hb s (sub s hs);have:=xfL (hp3 s hs) (by lia) h1.2.2;exact⟨by lia,h1.2⟩
  obtain⟨g1,g2⟩:=xmz m (A++B) (i+r.cnt) n (by have:=pm.length_eq;rw[aY]at this;lia) bs hp4 (fun j j1 j2=>by
   obtain⟨s,hs,hs1,hs2⟩:=hc j (by lia) j2;rcases az.mp (pm.mem_iff.mp hs)with z|z
   ·subst z;lia
   ·exact⟨s,z,hs1,hs2⟩) (fun x hx y hy=>ht x (sub x hx) y (sub y hy))
  rw[pm.countP_eq,pm.countP_eq,List.countP_cons,List.countP_cons];cases hk:r.isTake with
  |true=>simp only[iI,aV,if_false,if_true];exact⟨by lia,fun _=>by lia⟩
  |false=>
   have h2:=g2 fun s hs hsp e=>ht r hr s (sub s hs) hk hsp (by lia);simp only[Bool.not_false,if_true,aV,if_false];exact⟨by lia,fun z=>absurd hri (z r hr hk)⟩
theorem xdH{acc:List xb}{r:xb}(h:∀x∈acc,ym x)(hr:ym r)(hp:acc.Pairwise fun r s=>r.to+(r.cnt:Int)<s.to)(he:∀x∈acc,x.to+(x.cnt:Int)≤r.to):(xv acc r).Pairwise (fun r s=>r.to+(r.cnt:Int)<s.to)∧∀x∈xv acc r,x.to+(x.cnt:Int)≤r.to+r.cnt:=by
 obtain⟨to,sg',rfl,v1,v2,v3⟩:=hr;rcases d8 acc with z|⟨acc',last,z⟩
 ·subst z;rw[zB];exact⟨gu _ _,fun x hx=>by rw[aH.mp hx];exact ip _⟩
 ·rw[d9]at z;subst z;obtain⟨t,sg,rfl,u1,u2,u3⟩:=h last (by simp);obtain⟨p1,p2,p3⟩:=cP.mp hp;have hl:=he _ (aT _ (e7 _));simp only[xb.to,xb.cnt]at hl;have hsg:=bJ.mpr u1;rw[yJ]
  split
  ·rename_i e;refine⟨cP.mpr ⟨p1,gu _ _,fun x hx y hy=>?_⟩,fun x hx=>?_⟩
   ·rw[aH.mp hy];exact(p3 x hx (.put t sg) (e7 _):_<t)
   ·rcases bb.mp hx with q|q
    ·have:=he x (bW _ q);simp only[xb.to,xb.cnt]at this⊢;lia
    ·rw[aH.mp q];simp only[xb.to,xb.cnt,ax];lia
  ·rename_i e;refine⟨cP.mpr ⟨hp,gu _ _,fun x hx y hy=>?_⟩,fun x hx=>?_⟩
   ·rw[aH.mp hy];rcases bb.mp hx with q|q
    ·have:=p3 x q _ (e7 _);simp only[xb.to,xb.cnt]at this⊢;lia
    ·rw[aH.mp q];simp only[xb.to,xb.cnt];lia
   ·rcases bb.mp hx with q|q
    ·have:=he x q;simp only[xb.to,xb.cnt]at this⊢;lia
    ·rw[aH.mp q];exact ip _
theorem xbU:∀{L acc:List xb},(∀x∈acc,ym x)→(∀x∈L,ym x)→(acc.Pairwise fun r s=>r.to+(r.cnt:Int)<s.to)→(∀x∈acc,∀r∈L,x.to+(x.cnt:Int)≤r.to)→(L.Pairwise fun r s=>r.to+(r.cnt:Int)≤s.to)→(L.foldl xv acc).Pairwise fun r s=>r.to+(r.cnt:Int)<s.to
 |[],acc,_,_,h3,_,_=>h3
 |r::L,acc,h1,h2,h3,h4,h5=>by
  have hr:=h2 r aA;obtain⟨h6,h7⟩:=cf.mp h5;obtain⟨g1,g2⟩:=xdH h1 hr h3 fun x hx=>h4 x hx r aA;refine xbU (L:=L) (acc:=xv acc r) (jC h1 hr) (fun x hx=>h2 x (aq _ hx)) g1 (fun x hx s hs=>?_) h7;have:=g2 x hx;have:=h6 s hs;lia
theorem xlj{L:List xb}(h:∀r∈L,r.isTake=false):(L.map xb.cst).sum=2*(L.length:Int)+((L.map xb.cnt).sum:Nat):=by
 induction L with
 |nil=>simp
 |cons r L ih=>
  have hr:=h r aA;rw[a9,a9,iJ,iJ,ih fun x hx=>h x (aq _ hx),aY];cases r with
  |take _ _ _=>cases hr
  |put to sg=>simp only[xb.cst,xb.cnt];lia
theorem xjT{L:List xb}{least:Int}(hl:6≤least)(h:∀r∈L,r.isTake=true∧least≤r.cnt):(L.map xb.cst).sum+2*(L.length:Int)≤((L.map xb.cnt).sum:Nat):=by
 induction L with
 |nil=>simp
 |cons r L ih=>
  obtain⟨h1,h2⟩:=h r aA;have:=ih fun x hx=>h x (aq _ hx);rw[a9,a9,iJ,iJ,aY];cases r with
  |put _ _=>cases h1
  |take to st c=>simp only[xb.cst,xb.cnt]at h2⊢;lia
theorem xmA(r:xb):r.cv.length=r.cnt:=by
 cases r with
 |take to st c=>exact xbP _ _
 |put to sg=>exact xbP _ _
theorem xda{D:List xb}(h:D.Pairwise Off):(D.map xb.cv).flatten.Nodup:=by
 refine List.pairwise_flatten.mpr ⟨fun l hl=>?_,bu.mpr (h.imp (S:=fun r s=>∀x∈r.cv,∀y∈s.cv,x≠y) fun hrs x hx y hy e=>hrs x hx (e▸hy))⟩;obtain⟨r,_,rfl⟩:=aG.mp hl;exact xne r
theorem xlk{D:List xb}{n:Nat}(h:D.Pairwise Off)(hb:∀r∈D,0≤r.to∧r.to+r.cnt≤n):(D.map xb.cnt).sum≤n:=by
 have h1:=xda h;have h2:(D.map xb.cv).flatten.length≤((aI n).map fun(i:Nat)=>(i:Int)).length:=ub h1 fun x hx=>by
  obtain⟨l,hl,hx⟩:=List.mem_flatten.mp hx;obtain⟨r,hr,rfl⟩:=aG.mp hl;have:=vA.mp hx;have:=hb r hr;exact aG.mpr ⟨x.toNat,a7.mpr (by lia),by lia⟩
 rw[ab,c7,List.length_flatten,bj]at h2;rw[show(cn∘xb.cv)=xb.cnt from funext xmA]at h2;exact h2
structure Made(es nw:List Int)(least:Int)(ks all:List xb)(ord:List Int)(tur:List (Int×List Int)):Prop where
 ok:∀r∈all,ym r
 few:all.length<64
 nd:(all.map rTo).Nodup
 all:∀p:List Nat,p.Perm (aI all.length)→((p.map fun i=>rTo (all.getD i dR)).Pairwise fun x y=>x<y)→∀D,D=(ord.map fun x=>ks.getD x.toNat dR)++(p.map fun i=>all.getD i dR).foldl xv []→D.length≤60∧(∀r∈D,xjM es.length nw.length r∧Sm r∧Tells es nw r)∧Dis D∧xkl D=none∧(∀j,j<nw.length→∃r∈D,yp r j)∧D.Pairwise Off∧(6≤least→(D.map xb.cst).sum≤nw.length+2)∧(((p.map fun i=>all.getD i dR).foldl xv []).Pairwise fun r s=>r.to+(r.cnt:Int)<s.to)∧∀x∈(p.map fun i=>all.getD i dR).foldl xv [],ym x
theorem xgN{es nw:List Int}{rs:List xb}{b:Bool}{least:Int}{key:Int→List Int}{ord:List Int}{tur:List (Int×List Int)}(he:es.length≤60)(hn:nw.length≤60)(hb:Bnd nw)(hri:xD es nw least 0 false rs nw.length b)
  (hg:Goes (xY (rs.filter xb.isTake)) key ((aI (rs.filter xb.isTake).length).map fun(i:Nat)=>(i:Int)) ord tur):
  Made es nw least (rs.filter xb.isTake) ((rs.filter fun r=> !r.isTake)++tur.map fun kr=>zr es ((rs.filter xb.isTake).getD kr.1.toNat dR)) ord tur:=by
 obtain⟨_,_,s3,s4⟩:=hri.side;have hfew:=hri.few;have hlst:=xcr hri;have htl:∀r∈rs,Tells es nw r:=fun r hr=>(hri.tells hb (by lia) r hr).1;generalize hks:rs.filter xb.isTake=ks at*;generalize hps:(rs.filter fun r=> !r.isTake)=ps at*;have hperm:(ks++ps).Perm rs:=by rw[←hks,←hps];exact List.filter_append_perm _ _
 have hg2:=(hg.perm (bu.mpr (dq.imp fun h e=>h (by lia)))).map fun x=>ks.getD x.toNat dR;rw[bj,show((fun x:Int=>ks.getD x.toNat dR)∘fun(i:Nat)=>(i:Int))=fun i=>ks.getD i dR from funext fun i=>by simp,range_getD,aD,bj]at hg2
 -- all rows,the turned ones as takes
 have hL:((ord.map fun x=>ks.getD x.toNat dR)++(ps++tur.map fun kr=>ks.getD kr.1.toNat dR)).Perm rs:=by
  refine((List.Perm.append_left _ List.perm_append_comm).trans ?_).trans hperm;rw[←gx];exact hg2.append_right _
 have hmem:∀r,r∈rs↔r∈(ord.map fun x=>ks.getD x.toNat dR)++(ps++tur.map fun kr=>ks.getD kr.1.toNat dR):=fun r=>hL.mem_iff.symm;have hkt:∀r∈ord.map fun x=>ks.getD x.toNat dR,r.isTake=true:=fun r hr=>by
  have:=hg2.mem_iff.mp (bW _ hr);rw[←hks]at this;exact(aE.mp this).2
 have htur:∀kr∈tur,Tells es nw (ks.getD kr.1.toNat dR):=fun kr hk=>htl _ ((hmem _).mpr (aT _ (aT _ (aG.mpr ⟨kr,hk,rfl⟩))));have hoff:((ord.map fun x=>ks.getD x.toNat dR)++(ps++tur.map fun kr=>ks.getD kr.1.toNat dR)).Pairwise Off:=by
  refine(hL.pairwise_iff (fun h=>Off.sym h)).mpr (s3.imp fun{r s} h c c1 c2=>?_);have:=vA.mp c1;have:=vA.mp c2;lia
 have hcv:∀xs:List (Int×List Int),(∀kr∈xs,Tells es nw (ks.getD kr.1.toNat dR))→(xs.map fun kr=>zr es (ks.getD kr.1.toNat dR)).map xb.cv=(xs.map fun kr=>ks.getD kr.1.toNat dR).map xb.cv:=fun xs h=>by
  rw[bj,bj];exact lF fun kr hk=>xjS (h kr hk)
 have hoff2:((ord.map fun x=>ks.getD x.toNat dR)++(ps++tur.map fun kr=>zr es (ks.getD kr.1.toNat dR))).Pairwise Off:=by
  have key:∀xs:List xb,xs.Pairwise Off↔(xs.map xb.cv).Pairwise fun x y=>∀c∈x,c∉y:=fun xs=>by rw[bu];rfl
  rw[key]at hoff⊢;rw[aD,aD,hcv tur htur,←aD,←aD];exact hoff
 have hput:∀r∈ps++tur.map fun kr=>zr es (ks.getD kr.1.toNat dR),Tells es nw r∧ym r:=fun r hr=>by
  rcases bb.mp hr with q|q
  ·have ht:=htl r ((hmem r).mpr (aT _ (bW _ q)));have:r.isTake=false:=by
    rw[←hps]at q;simpa using(aE.mp q).2
   cases r with
   |take _ _ _=>cases this
   |put to sg=>exact⟨ht,(xbT hb hn ht).2⟩
  ·obtain⟨kr,hk,rfl⟩:=aG.mp q;exact xbT hb hn (htur kr hk)
 have hlen:=hL.length_eq;simp only[ax,ab]at hlen;generalize hall:(ps++tur.map fun kr=>zr es (ks.getD kr.1.toNat dR))=all at*;have hal:all.length=ps.length+tur.length:=by rw[←hall];simp
 refine⟨fun r hr=>(hput r hr).2,by lia,?_,fun p hp hso D hD=>?_⟩
 ·refine bu.mpr ((cP.mp hoff2).2.1.imp_of_mem fun{r s} hr hs h e=>?_);rw[xc9,xc9]at e;have p1:=zC (hput r hr).1;have p2:=zC (hput s hs).1;exact h r.to (vA.mpr ⟨by lia,by lia⟩) (vA.mpr ⟨by lia,by lia⟩)
 ·have hpa:(p.map fun i=>all.getD i dR).Perm all:=by
   have:=hp.map fun i=>all.getD i dR
   rwa [range_getD]at this
  have ho3:((ord.map fun(x:Int)=>ks.getD x.toNat dR)++[]++p.map fun i=>all.getD i dR).Pairwise Off:=by
   rw[gU];exact((hpa.append_left _).pairwise_iff (fun h=>Off.sym h)).mpr hoff2
  obtain⟨g1,g2,g3,g4,g5⟩:=xkm (es:=es) (nw:=nw) (fun x hx=>by simp at hx) (fun x hx=>(hput x (hpa.mem_iff.mp hx)).2) (fun x hx=>by simp at hx) (fun x hx=>(hput x (hpa.mem_iff.mp hx)).1) ho3;have gl:((p.map fun i=>all.getD i dR).foldl xv []).length≤all.length:=by
   refine bp g4 ?_;rw[hpa.length_eq];simp
  have hDt:∀r∈D,Tells es nw r:=fun r hr=>by
   rw[hD]at hr;rcases bb.mp hr with q|q
   ·exact htl r ((hmem r).mpr (bW _ q))
   ·exact g2 r q
  have hcovD:∀j,j<nw.length→∃r∈D,yp r j:=fun j hj=>by
   obtain⟨r,hr,hc⟩:=s4 j (by lia) hj;rcases bb.mp ((hmem r).mp hr)with q|q
   ·exact⟨r,by rw[hD];exact bW _ q,hc⟩
   ·have hin:∃s∈all,yp s j:=by
     rw[←hall];rcases bb.mp q with q|q
     ·exact⟨r,bW _ q,hc⟩
     ·obtain⟨kr,hk,rfl⟩:=aG.mp q;refine⟨_,aT _ (aG.mpr ⟨kr,hk,rfl⟩),?_⟩;have e:=xbi (htur kr hk);unfold yp at hc⊢;rw[e];exact hc
    obtain⟨s,hs,hsc⟩:=hin;obtain⟨u,hu,huc⟩:=g5 j (.inr ⟨s,hpa.mem_iff.mpr hs,hsc⟩);exact⟨u,by rw[hD];exact aT _ hu,huc⟩
  have hL9:(p.map fun i=>all.getD i dR).Pairwise fun r s=>r.to+(r.cnt:Int)≤s.to:=by
   have o4:=(cP.mp ho3).2.1;have s5:(p.map fun i=>all.getD i dR).Pairwise fun r s=>r.to<s.to:=by
    refine bu.mpr ((bu.mp hso).imp fun{x y} h=>?_);rw[xc9,xc9]at h;exact h
   refine(o4.and s5).imp_of_mem fun{r s} hr hs h=>?_;exact xfL h.1 (Int.le_of_lt h.2) (zC (hput s (hpa.mem_iff.mp hs)).1)
  have hap9:=xbU (acc:=[]) (fun x hx=>by simp at hx) (fun x hx=>(hput x (hpa.mem_iff.mp hx)).2) .nil (fun x hx=>by simp at hx) hL9;refine⟨?_,fun r hr=>⟨(xd9 he hn (hDt r hr)).1,(xd9 he hn (hDt r hr)).2,hDt r hr⟩,?_,?_,hcovD,(hD▸g3:D.Pairwise Off),(fun h6=>?_),hap9,g1⟩
  ·rw[hD,ax,ab];lia
  ·rw[←hD]at g3;intro i j r s hi hj c c1 c2;obtain⟨hi',rfl⟩:=aW.mp hi;obtain⟨hj',rfl⟩:=aW.mp hj;have pw:=bc.mp g3;rcases c8 i j with z|z|z
   ·exact absurd c2 (pw i j hi' hj' z c c1)
   ·exact z
   ·exact absurd c1 (pw j i hj' hi' z c c2)
  ·rw[hD];refine xi4 hg fun r hr=>?_;obtain⟨to,sg,rfl,_⟩:=g1 r hr;rfl
  ·have hJp:∀r∈(p.map fun i=>all.getD i dR).foldl xv [],r.isTake=false:=fun r hr=>by
    obtain⟨to,sg,rfl,_⟩:=g1 r hr;rfl
   have hok:∀r∈ord.map fun x=>ks.getD x.toNat dR,r.isTake=true∧least≤r.cnt:=fun r hr=>by
    have h1:=hkt r hr;exact⟨h1,hlst r ((hmem r).mpr (bW _ hr)) h1⟩
   have hap:=hap9;have hg:=xmz D.length D 0 nw.length rfl (fun r hr=>by
    have h1:=hDt r hr;exact⟨h1.1.to,h1.2.2.1,zC h1⟩) (hD▸g3) (fun j j0 j1=>by
     obtain⟨r,hr,c1,c2⟩:=hcovD j.toNat (by lia);exact⟨r,hr,by lia,by lia⟩) (fun r hr s hs hrp hsp e=>by
     have inJ:∀x∈D,x.isTake=false→x∈(p.map fun i=>all.getD i dR).foldl xv []:=fun x hx hxp=>by
      rw[hD]at hx;rcases bb.mp hx with q|q
      ·rw[(hok x q).1]at hxp;cases hxp
      ·exact q
     obtain⟨i,hi,rfl⟩:=cA.mp (inJ r hr hrp);obtain⟨j,hj,rfl⟩:=cA.mp (inJ s hs hsp);have pw:=bc.mp hap;have c1:=zC (hDt _ hr);have c2:=zC (hDt _ hs);rcases c8 i j with z|z|z
     ·have:=pw i j hi hj z;lia
     ·subst z;lia
     ·have:=pw j i hj hi z;lia)
   have hcs:=xlk (n:=nw.length) (hD▸g3:D.Pairwise Off) fun r hr=>⟨(hDt r hr).1.to,(hDt r hr).2.2.1⟩;have e1:D.countP (fun r=> !r.isTake)=((p.map fun i=>all.getD i dR).foldl xv []).length:=by
    rw[hD,lY,lG.mpr (fun r hr=>by rw[(hok r hr).1];simp),h9];exact kL.mpr fun r hr=>by rw[hJp r hr];rfl
   have e2:D.countP xb.isTake=(ord.map fun x=>ks.getD x.toNat dR).length:=by
    rw[hD,lY,lG (l:=(p.map fun i=>all.getD i dR).foldl xv []) |>.mpr (fun r hr=>by rw[hJp r hr];simp),lW];exact kL.mpr fun r hr=>(hok r hr).1
   have c1:=xlj hJp;have c2:=xjT h6 hok;have hg1:=hg.1;rw[e1,e2]at hg1;rw[hD,aD,List.sum_append]at hcs;rw[hD,aD,List.sum_append];lia
end ML
namespace ML
section
variable {P:aF} {w:World} {K:ai} {mg:Str→Option Value} {base:Heap} {a:Adr}
def vB(K:ai)(G:Hp)(t:Addr)(x:xb×List xb):Prop:=∃(b l:Addr) (us:List Addr),G t=some (.tup [.ref b,.ref l])∧TupAt K G b x.1∧G l=some (.lst (us.map V.ref))∧Paired (TupAt K G) us x.2
def xbw(ks:List xb)(kr:Int×List Int):xb×List xb:=(ks.getD kr.1.toNat dR,kr.2.map fun x=>ks.getD x.toNat dR)
def xhJ(es:List Int)(rs0:List xb)(tur:List (Int×List Int)):List xb:=(rs0.filter fun r=> !r.isTake)++tur.map fun kr=>zr es ((rs0.filter xb.isTake).getD kr.1.toNat dR)
inductive vj(es nw:List Int)(least:Int)(rs:List xb)(tn:List (xb×List xb)):Prop
 |mk (rs0:List xb) (b:Bool) (ord:List Int) (tur:List (Int×List Int)) (pm:List Nat):xD es nw least 0 false rs0 nw.length b→Goes (xY (rs0.filter xb.isTake)) (fun x=>yF ((rs0.filter xb.isTake).getD x.toNat dR)) ((aI (rs0.filter xb.isTake).length).map fun(i:Nat)=>(i:Int)) ord tur→
  pm.Perm (aI (xhJ es rs0 tur).length)→((pm.map fun i=>rTo ((xhJ es rs0 tur).getD i dR)).Pairwise fun x y=>x<y)→rs=(ord.map fun x=>(rs0.filter xb.isTake).getD x.toNat dR)++(pm.map fun i=>(xhJ es rs0 tur).getD i dR).foldl xv []→tn=tur.map (xbw (rs0.filter xb.isTake))→vj es nw least rs tn
theorem xbV{f:Nat→Int}:∀{p q:List Nat},p.Perm q→((p.map f).Pairwise fun x y=>x<y)→((q.map f).Pairwise fun x y=>x<y)→p=q
 |[],q,h,_,_=>(List.nil_perm.mp h).symm
 |x::p,[],h,_,_=>absurd h.symm.length_eq (by simp)
 |x::p,y::q,h,h1,h2=>by
  rw[a9,cf]at h1 h2;have e:x=y:=by
   rcases az.mp (h.mem_iff.mp (aA (a:=x)))with z|z
   ·exact z
   ·rcases az.mp (h.mem_iff.mpr (aA (a:=y)))with w|w
    ·exact w.symm
    ·have a1:=h1.1 _ (aG.mpr ⟨y,w,rfl⟩);have a2:=h2.1 _ (aG.mpr ⟨x,z,rfl⟩);lia
  subst e;rw[xbV h.cons_inv h1.2 h2.2]
theorem vj.uniq{es nw:List Int}{least:Int}{rs rs':List xb}{tn tn':List (xb×List xb)}(h:vj es nw least rs tn)(h':vj es nw least rs' tn'):rs=rs'∧tn=tn':=by
 obtain⟨rs0,b,ord,tur,pm,r,g,p,s,rfl,rfl⟩:=h;obtain⟨rs0',b',ord',tur',pm',r',g',p',s',rfl,rfl⟩:=h';have e:rs0=rs0':=xD.uniq r r';subst e;obtain⟨rfl,rfl⟩:=g.uniq g';have e:pm=pm':=xbV (f:=fun i=>rTo ((xhJ es rs0 tur).getD i dR)) (p.trans p'.symm) s s';subst e;exact⟨rfl,rfl⟩
def xgO(K:ai):Sp:=fun vs H Q _=>∃(e n:Addr) (es nw:List Int) (least:Int),vs=[.ref e,.ref n,.int least]∧1≤least∧H yD=some (.tbl zf)∧H yl=some (.tbl yN)∧H zz=some (.tbl ve)∧H e=some (.lst (es.map V.int))∧H n=some (.lst (nw.map V.int))∧es.length≤60∧nw.length≤60∧Bnd nw∧
 ∀(t p tt tr:Addr) (us trs:List Addr) (rs:List xb) (tn:List (xb×List xb)) (H':Hp),xc H H'→H' t=some (.tup [.ref p,.ref tr])→H' p=some (.tup [.int es.length,.int nw.length,.ref tt])→H' tt=some (.tup (us.map V.ref))→Paired (TupAt K H') us rs→H' tr=some (.lst (trs.map V.ref))→Paired (vB K H') trs tn→vj es nw least rs tn→Q (.ref t) H'
theorem uB(T:Txt K mg a):xG P w K mg base CX0 1 a.q0J a.jz ["self"] (xfq a):=by
 refine T.q04.ok xa8 (fun vs H Q E h=>?_) (fun cdv A outer s H vs Q E hr h=>?_)
 ·obtain⟨o,dx,to,st,c,rfl,_⟩:=h;rfl
 ·obtain⟨o,dx,to,st,c,rfl,h1,k⟩:=h;have nd:=xa8.nd;refine⟨_,(xi (xu (yj (xa xaE (xa (xX (cv 0) rfl) (xa (xX (cv 0) rfl) (xa (xX (cv 0) rfl) xf))))))),?_⟩;walk_at"w";refine⟨o,_,dx,_,.int to,rfl,h1,T.q0d,T.q0R,rfl,?_⟩;walk_at"w";refine⟨o,_,dx,_,.int st,rfl,h1,T.q0d,T.q0g,rfl,?_⟩;walk_at"w";refine⟨o,_,dx,_,.int c,rfl,h1,T.q0d,T.q0o,rfl,?_⟩;walk_at"w";exact⟨by walk_at"side",k⟩
theorem xbW(T:Txt K mg a):xG P w K mg base CX0 1 a.q0Q a.xaf ["self"] (xfr a):=by
 refine T.q1i.ok xbO (fun vs H Q E h=>?_) (fun cdv A outer s H vs Q E hr h=>?_)
 ·obtain⟨o,dx,u,to,n,rfl,_⟩:=h;rfl
 ·obtain⟨o,dx,u,to,n,rfl,h1,k⟩:=h;have nd:=xbO.nd;refine⟨_,(xi (xu (yj (xa xaE (xa (xX (cv 0) rfl) (xa (xX (cv 0) rfl) xf)))))),?_⟩;walk_at"w";refine⟨o,_,dx,_,.int to,rfl,h1,T.q0A,T.q0S,rfl,?_⟩;walk_at"w";refine⟨o,_,dx,_,.ref u,rfl,h1,T.q0A,T.q0z,rfl,?_⟩;walk_at"w";exact⟨by walk_at"side",k⟩
theorem xfM{H:Hp}{o:Addr}{r:xb}{Q:VK}{σ:L2.St}{i:Nat}(ho:xB K a H o r)
  (k:∀t H',xc H H'→TupAt K H' t r→Q (.ref t) H') (hσ:σ[i]? =some (some (.ref o)):=by rfl):
  xcx a.q0b "told" (xfr a) [] E0 (jr i) xg2 σ H Q∨xcx a.q0a "told" (xfq a) [] E0 (jr i) xg2 σ H Q:=by
 cases r with
 |put to sg=>
  obtain⟨dx,u,h1,h2⟩:=ho
  left
  unfold xcx jr;rw[hσ];exact⟨o,dx,_,rfl,h1,rfl,o,dx,u,to,_,rfl,h1,fun t ht=>k t _ (xc.new ht) ⟨u,xj,(xc.new ht).at h2⟩⟩
 |take to st c=>
  obtain⟨dx,h1⟩:=ho
  right
  unfold xcx jr;rw[hσ];exact⟨o,dx,_,rfl,h1,rfl,o,dx,to,st,c,rfl,h1,fun t ht=>k t _ (xc.new ht) xj⟩
theorem xao{α β:Type}{R S:α→β→Prop}:∀{xs:List α} {ys:List β},(∀x,∀y∈ys,R x y→S x y)→Paired R xs ys→Paired S xs ys
 |_,_,_,.nil=>.nil
 |_,_,h,.cons x r=>.cons (h _ _ aA x) (xao (fun x y hy=>h x y (aq _ hy)) r)
theorem xap{α β γ:Type}{R:α→β→Prop}{f:γ→α}{g:γ→β}:∀{xs:List γ},(∀x∈xs,R (f x) (g x))→Paired R (xs.map f) (xs.map g)
 |[],_=>.nil
 |x::xs,h=>.cons (h x aA) (xap fun y hy=>h y (aq _ hy))
theorem xhK{xss:List (List Int)}{key:Int→List Int}{left ord:List Int}{tur:List (Int×List Int)}(h:Goes xss key left ord tur):(∀x∈left,0≤x∧x<xss.length∧x∉xss.getD x.toNat [])→∀kr∈tur,(∀x∈kr.2,x∈left)∧kr.2.length≤left.length:=by
 induction h with
 |nil=>exact fun _ kr hk=>by simp at hk
 |keep k hk _ _ ih=>
  refine fun hl kr hkr=>?_;obtain⟨h1,h2⟩:=ih (fun x hx=>hl x (aE.mp hx).1) kr hkr;exact⟨fun x hx=>(aE.mp (h1 x hx)).1,bp h2 (bR _ _)⟩
 |turn k hh hr _ hk _ ih=>
  refine fun hl kr hkr=>?_;rcases az.mp hkr with z|z
  ·subst z;obtain⟨_,g2,g3,_⟩:=xbc (fun x hx=>⟨(hl x hx).1,(hl x hx).2.1,hh x hx⟩) (fun x hx=>(hl x hx).2.2) hr;exact⟨g3,ub g2 g3⟩
  ·obtain⟨h1,h2⟩:=ih (fun x hx=>hl x (aE.mp hx).1) kr z;exact⟨fun x hx=>(aE.mp (h1 x hx)).1,bp h2 (bR _ _)⟩
theorem yR{α β:Type}{R:α→β→Prop}{d:α}{d':β}:∀{xs:List α} {ys:List β} {i:Nat},Paired R xs ys→i<ys.length→R (xs.getD i d) (ys.getD i d')
 |_,_,0,.cons h _,_=>h
 |_,_,i+1,.cons _ r,hi=>yR (i:=i) r (Nat.lt_of_succ_lt_succ hi)
theorem jL(T:Txt K mg a):xG P w K mg base CX0 6 a.q1q a.xaY ["elder","newer","least"] (xgO K):=by
 refine T.vg.ok xgH (fun vs H Q E h=>?_) (fun cdv A outer s H vs Q E hr h=>?_)
 ·obtain⟨e,n,es,nw,least,rfl,_⟩:=h;rfl
 ·obtain⟨e,n,es,nw,least,rfl,hls,hP1,hP2,hP3,he,hn,hel,hnl,hbn,k⟩:=h;have nd:=xgH.nd;refine⟨_,(xh (xt (i:=3) nd rfl (aS rfl) (xx (xaB T) (hr.mono (by decide)) (by rfl) T.xa4 T.q0F.kp T.xa3 .nil xw (xa (cv 0) (xa (cv 1) (xa (cv 2) xf)))))
  (xh (xt (i:=4) nd rfl (aS rfl) (xx (xc2 T) (hr.mono (by decide)) (by rfl) T.xdC T.yY.kp T.xdB .nil xw (xa (yq (yy (cap:=[]) (ys:=[]) rfl rfl rfl rfl rfl trivial (by decide+kernel)) rfl (yi (cv 3)) (fun _ _ _ _=>(cv 0)) (fun _ _ _ _=>(vE (yv (xo (xmd (K:=K) rfl) (by rfl) T.q0e xZ (xa (cv 0) (xa (vC (v:=.ref a.q0a) (by rfl) T.xcS rfl) xf))))))) xf)))
  (xh (xt (i:=5) nd rfl (aS rfl) (xr xA (cv 4) xg (fun _ _=>rfl)))
  (xh (xt (i:=6) nd rfl (aS rfl) (xr xA (cv 4) xg (fun _ _=>rfl)))
  (xh (xha (i:=7) (yy (cap:=[]) (ys:=[]) rfl rfl rfl rfl rfl trivial (by decide+kernel)) rfl nd rfl rfl (yi (cv 3)) (fun _ _ _ _=>(cv 0)) (fun _ _ _ _=>(vE (yv (xo (xmd (K:=K) rfl) (by rfl) T.q0e xZ (xa (cv 0) (xa (vC (v:=.ref a.q0b) (by rfl) T.xes rfl) xf)))))))
  (xh (yf (zb PySem.F.plainAttrs_list PySem.F.slot_list_extend PySem.F.type_list_extend xdS (cv 7) (xa (xca (xdk (cap:=[0]) (ys:=["elder"]) rfl rfl rfl rfl rfl rfl ⟨⟨rfl,rfl,.inl rfl⟩,trivial⟩ (by decide+kernel)) rfl (yi (cv 6)) (fun _ _ _ _=>(xx (xhI T) (hr.mono (by decide)) (by rfl) T.xiO T.q1d.kp T.xiN .nil xw (xa (cv 0) (xa (cv 2) xf)))) (fun _ _ _ _=>yz)) xf)))
  (xh (xt (i:=8) nd rfl (aS rfl) (xl vL (cv 5) (xx (xi3 T) (hr.mono (by decide)) (by rfl) T.xjK T.vZ.kp T.xjJ .nil xw (xa (cv 7) xf))))
  (xh (xt (i:=9) nd rfl (aS rfl) (yj (xa (xo xq (by rfl) T.q0c xH (xa (cv 0) xf)) (xa (xo xq (by rfl) T.q0c xH (xa (cv 1) xf)) (xa (yK vn (by rfl) T.q05 zu (xa (yq (yy (cap:=[]) (ys:=[]) rfl rfl rfl rfl rfl trivial (by decide+kernel)) rfl (yi (cv 8)) (fun _ _ _ _=>(xib (yP (cv 0) T.q0A T.q1C (xbW T) (hr.mono (by decide)) T.xcN .nil xw) (yP (cv 0) T.q0d T.q0Y (uB T) (hr.mono (by decide)) T.uS .nil xw))) (fun _ _ _ _=>yz)) xf)) xf)))))
  (xi (xu (yj (xa (cv 9) (xa (xca (xdk (cap:=[]) (ys:=[]) rfl rfl rfl rfl rfl rfl trivial (by decide+kernel)) rfl (yi (cv 6)) (fun _ _ _ _=>(yj (xa (yP (cv 0) T.q0d T.q0Y (uB T) (hr.mono (by decide)) T.uS .nil xw) (xa (yq (yy (cap:=[]) (ys:=[]) rfl rfl rfl rfl rfl trivial (by decide+kernel)) rfl (xjA (K:=K) rfl (cv 1)) (fun _ _ _ _=>(yP (cv 0) T.q0d T.q0Y (uB T) (hr.mono (by decide)) T.uS .nil xw)) (fun _ _ _ _=>yz)) xf)))) (fun _ _ _ _=>yz)) xf))))))))))))),?_⟩
  walk_at"w";refine⟨e,n,es,nw,least,rfl,hP1,he,hn,by lia,by lia,hls,fun l os rs b H1 s1 hl el hpo hri=>?_⟩;have hpo:Paired (xB K a H1) os rs:=hpo;have elen:os.length=rs.length:=hpo.length;have hfw:=hri.few;have hsz:(os.map V.ref).length<aO:=by rw[ab,ay];lia
  have row:∀{v:V} {G:Hp},v∈os.map V.ref→xc H1 G→∃o r,v= .ref o∧xB K a G o r∧isT K a H1 o=r.isTake:=fun{v G} hv sG=>by
   obtain⟨o,ho,rfl⟩:=aG.mp hv;obtain⟨r,_,hT⟩:=Paired.mem hpo ho;exact⟨o,r,rfl,hT.same sG,xfJ hT⟩
  walk_at"w";refine⟨l,rfl,⟨_,SqL.of el⟩,?_⟩;refine uq (fun v=>match v with| .ref o=>isT K a H1 o|_=>false) id (SqL.of el) hsz (fun v G2 hv s2 R hR=>?_) (fun v G2 hv _ s2 R hR=>?_) (fun D1 H2 hD1 s2 eD1=>?_)
  ·obtain⟨o,r,rfl,ho,ht⟩:=row hv s2;have:=hR G2 (xc.refl _);dsimp only at this;rw[ht]at this;cases r with
   |take to st c=>
    obtain⟨dx,ho⟩:=ho;walk_at"w";exact⟨_,_,_,_,true,rfl,rfl,T.xbv ho,T.q1f,this⟩
   |put to sg=>
    obtain⟨dx,u,ho,_⟩:=ho;walk_at"w";exact⟨_,_,_,_,false,rfl,rfl,T.xiS ho,T.q1J,this⟩
  ·exact hR _ (xc.refl _)
  have eD1:H2 D1=some (.lst ((os.filter fun o=>isT K a H1 o).map V.ref)):=by rw[eD1,ko,fW];rfl
  have hpt:=zi (p:=fun o=>isT K a H1 o) (q:=xb.isTake) hpo fun x y z=>xfJ z;have hpp:=zi (p:=fun o=> !isT K a H1 o) (q:=fun r=> !r.isTake) hpo fun x y z=>by rw[xfJ z]
  generalize htk:(os.filter fun o=>isT K a H1 o)=tk at eD1 hpt;have hkl:(rs.filter xb.isTake).length≤rs.length:=bR _ _;have hpl:(rs.filter fun r=> !r.isTake).length≤rs.length:=bR _ _;walk_at"w";refine⟨D1,tk,rs.filter xb.isTake,rfl,SqL.of eD1,L2.Paired.imp' (fun _ _ z=>z.same s2) hpt,fun r hr=>(aE.mp hr).2,by lia,(s1.trans s2).at hP2,fun p o t ord tur trs H3 s3 hp ho ht hot ep eo et hpt2 hg=>?_⟩;have M:=xgN hel hnl hbn hri hg;have hks:∀r∈rs.filter xb.isTake,r.isTake=true∧Tells es nw r:=fun r hr=>⟨(aE.mp hr).2,(hri.tells hbn (by lia) r (aE.mp hr).1).1⟩;generalize hks2:rs.filter xb.isTake=ks at*;generalize hall:((rs.filter fun r=> !r.isTake)++tur.map fun kr=>zr es (ks.getD kr.1.toNat dR))=all at*;have tkAt:∀x∈(aI ks.length).map fun(i:Nat)=>(i:Int),∃to st c,ks.getD x.toNat dR= .take to st c∧xB K a H1 (tk.getD x.toNat 0) (.take to st c)∧Tells es nw (.take to st c):=fun x hx=>by
   obtain⟨i,hi,rfl⟩:=aG.mp hx;have hi:=a7.mp hi;have h1:=yR (d:=0) (d':=dR) hpt hi;have h2:=hks (ks.getD i dR) (by simp[aX,hi]);rw[cI];cases hr:ks.getD i dR with
   |put _ _=>rw[hr]at h2;cases h2.1
   |take to st c=>rw[hr]at h1 h2;exact⟨to,st,c,rfl,h1,h2.2⟩
  walk_at"w";refine⟨p,_,_,.ref o,rfl,rfl,SqT.of ep,rfl,?_⟩;walk_at"w";refine⟨p,_,_,.ref t,rfl,rfl,SqT.of ep,rfl,?_⟩;walk_at"w";refine⟨l,rfl,⟨_,SqL.of ((s2.trans s3).at el)⟩,?_⟩;refine uq (fun v=>match v with| .ref o=> !isT K a H1 o|_=>false) id (SqL.of ((s2.trans s3).at el)) hsz (fun v G2 hv s4 R hR=>?_) (fun v G2 hv _ s4 R hR=>?_) (fun D2 H4 hD2 s4 eD2=>?_)
  ·obtain⟨o,r,rfl,ho,ht⟩:=row hv ((s2.trans s3).trans s4);have:=hR G2 (xc.refl _);dsimp only at this;rw[ht]at this;cases r with
   |take to st c=>
    obtain⟨dx,ho⟩:=ho;walk_at"w";exact⟨_,_,_,_,false,rfl,rfl,T.xbv ho,T.q1K,this⟩
   |put to sg=>
    obtain⟨dx,u,ho,_⟩:=ho;walk_at"w";exact⟨_,_,_,_,true,rfl,rfl,T.xiS ho,T.q1N,this⟩
  ·exact hR _ (xc.refl _)
  have eD2:H4 D2=some (.lst ((os.filter fun o=> !isT K a H1 o).map V.ref)):=by
   rw[eD2,ko,fW];rfl
  generalize hpu:(os.filter fun o=> !isT K a H1 o)=pu at eD2 hpp;have s14:xc H1 H4:=s2.trans (s3.trans s4);have hturl:=hpt2.length;have hlen:tur.length≤60:=by
   have:=M.few;have h1:=hg.perm (bu.mpr (dq.imp fun h e=>h (by lia)));have h2:=h1.length_eq;simp only[ax,ab,c7]at h2;lia
  walk_at"w";refine⟨.inl ⟨rfl,_,SqL.of eD2⟩,?_⟩;walk_at"w";refine⟨t,rfl,⟨_,SqL.of (s4.at et)⟩,?_⟩;refine xbL (fun i acc G=>∃us:List Addr,acc=us.map V.ref∧Paired (xB K a G) us ((tur.take i).map fun kr=>zr es (ks.getD kr.1.toNat dR))) (SqL.of (s4.at et)) (by rw[ab,ay];lia) ⟨[],rfl,.nil⟩ (fun i x acc G3 G3' hx g3 g3' hPv=>?_) (fun B acc H5 H5' hB hB5 s5 s5' hPv hacc eB=>?_)
  ·obtain⟨us,rfl,hus⟩:=hPv;rw[au]at hx;cases hc0:trs[i]? with
   |none=>rw[hc0]at hx;cases hx
   |some y=>
   rw[hc0]at hx;cases hx;obtain⟨kr,hkr,rl,n1,n2,x1,x2⟩:=xU hpt2 hc0;obtain⟨to,st,c,ek,hob,htl⟩:=tkAt kr.1 (hg.sub.2 kr (aL hkr));refine⟨y,_,_,rfl,SqT.of ((s4.trans (g3.trans g3')).at x1),fun R hR=>?_⟩;walk_at"w";have hs4:st+c≤es.length:=htl.2.1;have hs5:=htl.1;refine⟨_,e,to,st,c,es,rfl,hob.same (s14.trans (g3.trans g3')),(s1.trans (s14.trans (g3.trans g3'))).at he,hs5.2.1,by have:=hs5.2.2;lia,hs4,fun q G5 g5 hq hoq=>hR _ _ g5 fun G7 s7 k7=>⟨us++[q],by simp,?_⟩⟩;rw[cg,hkr,gp,aD,iu,ek];exact xV (L2.Paired.imp' (fun _ _ z=>z.same s7) hus) (hoq.mv k7)
  obtain⟨us,rfl,hus⟩:=hPv;rw[ab,hturl,cO]at hus;have gB:xc H4 H5':=s5.trans s5';have hul:=hus.length;rw[ab]at hul;walk_at"w";refine⟨D2,B,_,_,rfl,rfl,gB.at eD2,eB,by rw[ab,ab,ay,hpp.length];lia,?_⟩;generalize hU:upd H5' D2 _=H6;have eD6:H6 D2=some (.lst ((pu++us).map V.ref)):=by rw[←hU,xj,aD]
  have hus6:=L2.Paired.imp' (fun _ _ z=>show xB K a H6 _ _ by rw[←hU];exact(z.same s5').offw (gB.at eD2)) hus;have s36:xc H3 H6:=xc.wr (s4.trans gB) hD2 hU;clear hU;have s16:xc H1 H6:=s2.trans (s3.trans s36);have hpa:=zI (L2.Paired.imp' (fun _ _ z=>z.same s16) hpp) hus6;rw[hall]at hpa;walk_at"w";refine⟨D2,pu++us,all,rfl,SqL.of eD6,hpa,M.ok,M.few,M.nd,(s1.trans s16).at hP3,fun l' os' pm H7 s7 hl' el' hpm hso hpj=>?_⟩;have hmade:vj es nw least ((ord.map fun x=>ks.getD x.toNat dR)++(pm.map fun i=>all.getD i dR).foldl xv []) (tur.map (xbw ks)):=by
   subst hall;subst hks2;exact .mk rs b ord tur pm hri hg hpm hso rfl rfl
  obtain⟨m1,m2,m3,m4,m5,m6,m7⟩:=M.all pm hpm hso _ rfl;have s37:=s36.trans s7;have s17:=s16.trans s7;have hdo:Paired (xB K a H7) ((ord.map fun x=>tk.getD x.toNat 0)++os') ((ord.map fun x=>ks.getD x.toNat dR)++(pm.map fun i=>all.getD i dR).foldl xv []):=zI (xap fun x hx=>by
   obtain⟨to,st,c,ek,hob,_⟩:=tkAt x (hg.sub.1 x hx);rw[ek];exact hob.same s17) hpj
  have eo7:H7 o=some (.lst ((ord.map fun x=>tk.getD x.toNat 0).map V.ref)):=by rw[bj];exact s37.at eo
  generalize ord.map (fun x=>tk.getD x.toNat 0)=oo at*;generalize (ord.map fun x=>ks.getD x.toNat dR)++(pm.map fun i=>all.getD i dR).foldl xv []=D at*;have hdl:=hdo.length;walk_at"w";refine⟨o,l',_,_,rfl,rfl,eo7,el',by rw[←ax,←aD,ab,ay];lia,fun dn hdn=>?_⟩;rw[←aD];generalize oo++os'=dos at*;generalize hV:upd H7 dn _=H8;have s8:=xc.of_eq hdn hV;have ed:=xm hV;clear hV;have s08:xc H H8:=s1.trans (s17.trans s8);walk_at"w";refine⟨e,_,rfl,.inl (SqL.of (s08.at he)),?_⟩;walk_at"w";refine⟨n,_,rfl,.inl (SqL.of (s08.at hn)),?_⟩;rw[ab,ab];walk_at"w";refine⟨dn,rfl,⟨_,SqL.of ed⟩,?_⟩;refine uo (fun i acc G=>∃ts:List Addr,acc=ts.map V.ref∧Paired (TupAt K G) ts (D.take i)) (SqL.of ed) (by rw[ab,ay];lia) ⟨[],rfl,.nil⟩ (fun i x acc G3 G3' hx g3 g3' hPv R hR=>?_) (fun D3 acc H9 H9' hD3 hD9 s9 s9' hPv hacc e3=>?_)
  ·obtain⟨ts,rfl,hts⟩:=hPv;rw[au]at hx;cases hc0:dos[i]? with
   |none=>rw[hc0]at hx;cases hx
   |some y=>
   rw[hc0]at hx;cases hx;obtain⟨r,hr',ho⟩:=xU hdo hc0;walk_at"w";refine xfM (xB.same ho (s8.trans (g3.trans g3'))) fun t H4 s4 ht4=>hR _ _ s4 fun G7 s7 k7=>⟨ts++[t],by simp,?_⟩;rw[cg,hr'];exact xV (L2.Paired.imp' (fun _ _ z=>TupAt.same z s7) hts) (ht4.mv k7)
  obtain⟨ts,rfl,hts⟩:=hPv;rw[ab,hdl,cO]at hts;have s89:xc H8 H9':=s9.trans s9';have hts:=L2.Paired.imp' (fun _ _ z=>TupAt.same z s9') hts;walk_at"w";refine⟨D3,_,rfl,.inl ⟨SqL.of e3,fun tt htt=>?_⟩⟩;generalize hV:upd H9' tt _=H10;have s10:=xc.of_eq htt hV;have ett:=xm hV;clear hV;walk_at"w";refine⟨by walk_at"side",fun pp hpq=>?_⟩;generalize hV:upd H10 pp _=H11;have s11:=xc.of_eq hpq hV;have epp:=xm hV;clear hV;have s3z:xc H3 H11:=s37.trans (s8.trans (s89.trans (s10.trans s11)));have s1z:xc H1 H11:=s17.trans (s8.trans (s89.trans (s10.trans s11)));walk_at"w";refine⟨t,rfl,⟨_,SqL.of (s3z.at et)⟩,?_⟩;refine xbL (fun i acc G=>∃ts:List Addr,acc=ts.map V.ref∧Paired (vB K G) ts ((tur.take i).map (xbw ks))) (SqL.of (s3z.at et)) (by rw[ab,ay];lia) ⟨[],rfl,.nil⟩ (fun i x acc G3 G3' hx g3 g3' hPv=>?_) (fun D5 acc H12 H12' hD5 hD12 s12 s12' hPv hacc e5=>?_)
  ·obtain⟨qs,rfl,hqs⟩:=hPv;rw[au]at hx;cases hc0:trs[i]? with
   |none=>rw[hc0]at hx;cases hx
   |some y=>
   rw[hc0]at hx;cases hx;obtain⟨kr,hkr,rl,n1,n2,x1,x2⟩:=xU hpt2 hc0;have hkm:=aL hkr;obtain⟨to,st,c,ek,hob,htl⟩:=tkAt kr.1 (hg.sub.2 kr hkm);obtain⟨r1,r2⟩:=xhK hg (fun x hx=>by
    obtain⟨i,hi,rfl⟩:=aG.mp hx;have hi:=a7.mp hi;exact⟨by lia,by rw[show(xY ks).length=ks.length by simp[xY]];lia,xam (by lia) (by lia)⟩) kr hkm
   rw[ab,c7]at r2;have g3z:=s3z.trans (g3.trans g3');have g1z:=s1z.trans (g3.trans g3');refine⟨y,_,_,rfl,SqT.of (g3z.at x1),fun R hR=>?_⟩;obtain⟨dx,hob⟩:=hob;walk_at"w";refine⟨_,dx,_,rfl,g1z.at hob,rfl,?_⟩;walk_at"w";refine⟨_,dx,to,st,c,rfl,g1z.at hob,fun t1 ht1=>?_⟩;generalize hG4:upd G3' t1 _=G4;have f1:=xc.of_eq ht1 hG4;have e1:=xm hG4;clear hG4;walk_at"w";refine⟨rl,rfl,⟨_,SqL.of ((g3z.trans f1).at x2)⟩,?_⟩;refine uo (fun i acc G=>∃us:List Addr,acc=us.map V.ref∧Paired (TupAt K G) us ((kr.2.take i).map fun x=>ks.getD x.toNat dR)) (SqL.of ((g3z.trans f1).at x2)) (by rw[ab,ay];lia) ⟨[],rfl,.nil⟩ (fun i x acc G5 G5' hx g5 g5' hPv R hR2=>?_) (fun D6 acc G6 G6' hD6 hD6' g6 g6' hPv hacc e6=>?_)
   ·obtain⟨us,rfl,hus⟩:=hPv;rw[au]at hx;cases hc1:kr.2[i]? with
    |none=>rw[hc1]at hx;cases hx
    |some z=>
    rw[hc1]at hx;cases hx;obtain⟨to2,st2,c2,ek2,⟨dx2,hob2⟩,_⟩:=tkAt z (r1 z (aL hc1));have hz:=((g1z.trans f1).trans (g5.trans g5')).at hob2;walk_at"w";refine⟨_,dx2,_,rfl,hz,rfl,?_⟩;walk_at"w";refine⟨_,dx2,to2,st2,c2,rfl,hz,fun t2 ht2=>hR2 _ _ (xc.new ht2) fun G7 s7 k7=>⟨us++[t2],by simp,?_⟩⟩;rw[cg,hc1,gp,aD,iu,ek2];exact xV (L2.Paired.imp' (fun _ _ z=>TupAt.same z s7) hus) (show G7 t2=_ from k7 _ _ (.inl ht2) xj)
   obtain⟨us,rfl,hus⟩:=hPv;rw[ab,cO]at hus;have hus:=L2.Paired.imp' (fun _ _ z=>TupAt.same z g6') hus;have g66:xc G4 G6':=g6.trans g6';walk_at"w";refine⟨by walk_at"side",fun q hq=>hR _ _ (f1.trans (g66.trans (xc.new hq))) fun G7 s7 k7=>⟨qs++[q],by simp,?_⟩⟩;have sq:=xc.new (o:=HO.tup [.ref t1,.ref D6]) hq;rw[cg,hkr,gp,aD,iu];refine xV (xao (fun x y hy z=>?_) hqs) ?_
   ·obtain⟨b,l,us,z1,z2,z3,z4⟩:=z;exact⟨b,l,us,s7.at z1,z2.same s7,s7.at z3,L2.Paired.imp' (fun _ _ w=>TupAt.same w s7) z4⟩
   ·refine⟨t1,D6,us,k7 _ _ (.inl ((f1.trans g66).back hq)) xj,?_,k7 _ _ (.inl (f1.back hD6)) (sq.at e6),L2.Paired.imp' (fun _ _ w=>(w.same sq).mv k7) hus⟩;show TupAt K G7 t1 (ks.getD kr.1.toNat dR);rw[ek];exact k7 _ _ (.inl ht1) ((g66.trans sq).at e1)
  walk_at"w";refine⟨by walk_at"side",fun q hq=>?_⟩;have s12z:=s12.trans s12';have sq:=s12z.trans (xc.new (o:=HO.tup [.ref pp,.ref D5]) hq);obtain⟨qs,rfl,hqs⟩:=hPv;rw[ab,hturl,cO]at hqs;refine k q pp tt D5 ts qs D (tur.map (xbw ks)) _ (s08.trans (s89.trans (s10.trans (s11.trans sq)))) xj (sq.at epp) ((s11.trans sq).at ett) (L2.Paired.imp' (fun _ _ z=>z.same (s10.trans (s11.trans sq))) hts) ((xc.new (o:=HO.tup [.ref pp,.ref D5]) hq).at e5) (xao (fun x y hy z=>?_) hqs) hmade;obtain⟨b,l,us,z1,z2,z3,z4⟩:=z;have s7:=s12'.trans (xc.new (o:=HO.tup [.ref pp,.ref D5]) hq);exact⟨b,l,us,s7.at z1,z2.same s7,s7.at z3,L2.Paired.imp' (fun _ _ w=>TupAt.same w s7) z4⟩
end
end ML
namespace ML
section
variable {P:aF} {w:World} {K:ai} {mg:Str→Option Value} {base:Heap} {a:Adr}
theorem xcs(T:Txt K mg a):xG P w K mg base CX0 6 a.q1g a.jJ ["elder","newer","least"] (xfE K):=by
 refine T.vH.ok xfi (fun vs H Q E h=>?_) (fun cdv A outer s H vs Q E hr h=>?_)
 ·obtain⟨e,n,es,ns,least,rfl,_⟩:=h;rfl
 ·obtain⟨e,n,es,ns,least,rfl,hP,he,hn,h64,h100,hls,k⟩:=h;have nd:=xfi.nd;refine⟨_,(xi (xu (yq (yy (cap:=[]) (ys:=[]) rfl rfl rfl rfl rfl trivial (by decide+kernel)) rfl (yi (xx (xaB T) (hr.mono (by decide)) (by rfl) T.xa4 T.q0F.kp T.xa3 .nil xw (xa (cv 0) (xa (cv 1) (xa (cv 2) xf))))) (fun _ _ _ _=>(xib (yP (cv 0) T.q0A T.q1C (xbW T) (hr.mono (by decide)) T.xcN .nil xw) (yP (cv 0) T.q0d T.q0Y (uB T) (hr.mono (by decide)) T.uS .nil xw))) (fun _ _ _ _=>yz)))),?_⟩;walk_at"w";refine⟨e,n,es,ns,least,rfl,hP,he,hn,h64,h100,hls,fun l os rs b H1 s1 hl el hpo hri=>?_⟩;walk_at"w";refine⟨l,rfl,⟨_,SqL.of el⟩,?_⟩;have hol:=hpo.length;have hb:=xD.few hri;refine uo (fun i acc G=>∃ts:List Addr,acc=ts.map V.ref∧Paired (TupAt K G) ts (rs.take i)) (SqL.of el) (by rw[ab,ay];lia) ⟨[],rfl,by rw[List.take_zero];exact .nil⟩ (fun i x acc H3 H3' hx s3 s3' hP R hR=>?_) (fun D acc H3 H3' hD hD3 s3 s3' hP hl2 hv=>?_)
  ·obtain⟨ts,rfl,hts⟩:=hP;rw[au]at hx;cases hc0:os[i]? with
   |none=>rw[hc0]at hx;cases hx
   |some y=>
   rw[hc0]at hx;cases hx;obtain⟨r,hr',ho⟩:=xU hpo hc0;walk_at"w";refine xfM (xB.same ho (s3.trans s3')) fun t H4 s4 ht4=>hR _ _ s4 fun G7 s7 k7=>⟨ts++[t],by simp,?_⟩;rw[cg,hr'];exact xV (L2.Paired.imp' (fun _ _ z=>TupAt.same z s7) hts) (ht4.mv k7)
  ·obtain⟨ts,rfl,hts⟩:=hP;rw[ab,hol,cO]at hts;exact k D ts rs b H3' (s1.trans (s3.trans s3')) (s1.back hD) hv (L2.Paired.imp' (fun _ _ z=>TupAt.same z s3') hts) hri
end
end ML
theorem xea(xs:List V)(i:Nat):yA xs (some (i:Int)) none=xs.drop i:=by
 unfold yA;rw[yo (by lia),HT.zR,cI]
 by_cases h:i≤xs.length
 ·rw[bU h];exact bg (by rw[aQ];lia)
 ·rw[eY (by lia),kq (ao _),kq (by lia)];simp
theorem xbX{α β:Type}{F:α→β→Prop}:∀{l₁:List α} {l₂:List β} (n:Nat),Paired F l₁ l₂→Paired F (l₁.drop n) (l₂.drop n)
 |_,_,0,h=>h
 |_,_,n+1,.nil=>.nil
 |_,_,n+1,.cons _ t=>xbX n t
theorem xll(xs:List V)(i:Nat):yA xs none (some (i:Int))=xs.take i:=by
 unfold yA;rw[yo (by lia),HT.zR,cI];simp[←kM]
theorem xbY{α β:Type}{F:α→β→Prop}:∀{l₁:List α} {l₂:List β} (n:Nat),Paired F l₁ l₂→Paired F (l₁.take n) (l₂.take n)
 |_,_,0,_=>.nil
 |_,_,n+1,.nil=>.nil
 |_,_,n+1,.cons h t=>.cons h (xbY n t)
section
variable {P:aF} {w:World} {K:ai} {mg:Str→Option Value} {base:Heap} {a:Adr}
def xlm:Sp:=fun vs H Q _=>∃c k:Int,vs=[.int c,.int k]∧∀v:Int,0≤v→v<2^40→Q (.int v) H
theorem xgP(T:Txt K mg a):xG P w K mg base CX0 1 a.q1G a.xfb ["_law_cell","_law_k"] xlm:=by
 refine T.q1D.ok xgI (fun vs H Q E h=>?_) (fun cdv A outer s H vs Q E hr h=>?_)
 ·obtain⟨c,k,rfl,_⟩:=h;rfl
 ·obtain⟨c,k,rfl,q⟩:=h;have nd:=xgI.nd;refine⟨_,(xh (xT (xC zc (xl xS (cv 0) xg) xg) (xi (xu (xl xS (xl yg (cv 0) xg) (xl xg7 xg xg)))) xR)
  (xh (xt (i:=2) nd rfl (aS rfl) (xl xS (xl xbr (xl xI (xl xI (cv 0) (xl xbr xg (cv 1))) xg) xg) xg))
  (xh (xt (i:=2) nd rfl (aS rfl) (xl xS (xl xbr (cv 2) (xl xI (xl yg (cv 2) xg) xg)) xg))
  (xi (xu (xl xS (xl xbr (cv 2) (xl xI (xl yg (cv 2) xg) xg)) xg)))))),?_⟩
  walk_at"w";walk_at"ss";refine⟨fun e=>?_,fun e=>?_⟩
  ·walk_at"w";walk_at"ss";exact q _ (bo _ (by decide)) (bt _ (by decide))
  ·walk_at"w";walk_at"ss";have b1:=bo ((c+7919*k+1)*48271) (show(2147483647:Int)≠0 by decide);have b2:=bt ((c+7919*k+1)*48271) (show(0:Int)<2147483647 by decide);generalize (c+7919*k+1)*48271%2147483647=x at b1 b2;exact q _ (bo _ (by decide)) (ia (bt _ (by decide)) (by decide))
theorem Bnd.app{xs ys:List Int}(h1:Bnd xs)(h2:Bnd ys):Bnd (xs++ys):=fun x hx=>by
 rcases bb.mp hx with z|z
 ·exact h1 x z
 ·exact h2 x z
theorem Bnd.one{x:Int}(h:(x.natAbs:Int)<10^60):Bnd [x]:=fun y hy=>by rw[aH.mp hy];exact h
def xi5:Sp:=fun vs H Q _=>∃(c b m:Int),vs=[.int c,.int b,.int m]∧1≤b∧b≤5∧m≤60∧∀(l:Addr) (xs:List Int) (H':Hp),xc H H'→H l=none→H' l=some (.lst (xs.map V.int))→xs.length=m.toNat→Bnd xs→Q (.ref l) H'
theorem xeb(T:Txt K mg a):xG P w K mg base CX0 1 a.q1n a.xci ["_law_cell","_law_base","_law_many"] xi5:=by
 refine T.q1e.ok xd7 (fun vs H Q E h=>?_) (fun cdv A outer s H vs Q E hr h=>?_)
 ·obtain⟨c,b,m,rfl,_⟩:=h;rfl
 ·obtain⟨c,b,m,rfl,b1,b5,hm,q⟩:=h;have nd:=xd7.nd;refine⟨_,(xh (xt (i:=3) nd rfl (aS rfl) (yB xf))
  (xh (uY b8 rfl (yL (by rfl) T.q0O (xa (cv 2) xf)) (yE (i:=4) nd rfl (aS rfl)) (xh (yf (zb PySem.F.plainAttrs_list PySem.F.slot_list_append PySem.F.type_list_append yk (cv 3) (xa (xl xS (cv 0) (cv 1)) xf)))
  (xi (xt (i:=0) nd rfl (aS rfl) (xl yg (cv 0) (cv 1))))))
  (xi (xu (cv 3))))),?_⟩
  walk_at"w";walk_at"ss";intro sl hsl;generalize hUsl:upd H sl _=H1;have sH1:=xc.of_eq hsl hUsl;have esl:=xm hUsl;clear hUsl;walk_at"w";walk_at"ss";obtain⟨N,hN⟩:∃N:Nat,N=zd 0 m 1:=⟨_,rfl⟩;rw[←hN];rw[ze]at hN;refine vc (fun i σ G=>xc H G∧∃(c:Int) (sg:List Int) (x4:Option V),σ=[some (.int c),some (.int b),some (.int m),some (.ref sl),x4]∧G sl=some (.lst (sg.map V.int))∧sg.length=i∧Bnd sg)
   ⟨sH1,c,[],_,rfl,esl,rfl,fun _ z=>by cases z⟩ (fun i σ G hi hP=>?_) (fun σ G hP=>?_)
  ·obtain⟨sG,c,sg,x4,rfl,eG,hlen,hbs⟩:=hP;walk_at"w";refine⟨.inl ⟨rfl,_,SqL.of eG⟩,?_⟩;walk_at"w";refine fF (show(0:Int)<b by lia) ?_;have r0:=bo c (show b≠0 by lia);have r1:=bt c (show 0<b by lia);walk_at"w";refine⟨sl,_,_,rfl,rfl,eG,by rw[ab,ay];lia,?_⟩;generalize hU:upd G sl _=G2;have e2:G2 sl=some (.lst ((sg++[c%b]).map V.int)):=by rw[←hU,xj,aD];rfl
   have s2:xc H G2:=xc.wr sG hsl hU;clear hU;walk_at"w";refine fF ⟨by lia,?_⟩ ?_
   ·exact lS (Nat.log2_lt (by lia) |>.mpr (show b.natAbs<2^3 by lia)) (by decide)
   exact⟨s2,_,sg++[c%b],_,rfl,e2,by simp[hlen],hbs.app (Bnd.one (ia (show((c%b).natAbs:Int)<10 by lia) (by decide)))⟩
  ·obtain⟨sG,c,sg,x4,rfl,eG,hlen,hbs⟩:=hP;walk_at"w";exact q sl sg G sG hsl eG (by lia) hbs
theorem near{r p:Int}(h0:0≤r)(h1:r<2*p - 1):((r - p+1).natAbs:Int)<p:=by lia
def xjU(K:ai):Sp:=fun vs H Q _=>∃(l:Addr) (ns:List Int),vs=[.ref l]∧SqL K H l (ns.map V.int)∧∀(e:Addr) (es:List Int) (H':Hp),xc H H'→H e=none→H' e=some (.lst (es.map V.int))→es.length≤40→Bnd es→Q (.ref e) H'
theorem xjV(T:Txt K mg a):xG P w K mg base CX0 2 a.q1t a.xds ["_law_script"] (xjU K):=by
 refine T.q1x.ok xfj (fun vs H Q E h=>?_) (fun cdv A outer s H vs Q E hr h=>?_)
 ·obtain⟨l,ns,rfl,_⟩:=h;rfl
 ·obtain⟨l,ns,rfl,hl,q⟩:=h;have nd:=xfj.nd;refine⟨_,(xh (xt (i:=1) nd rfl (aS rfl) (xx (yO T) (hr.mono (by decide)) (by rfl) T.za T.q0m.kp T.yZ .nil xw (xa (cv 0) (xa xg xf))))
  (xh (xT (PW.pt (ug (xC zc (xl xS (cv 1) xg) xg) (ua (xC zc (xl xS (xl yg (cv 1) xg) xg) xg)))) (xi (xu (xx (xeb T) (hr.mono (by decide)) (by rfl) T.xfh T.q1e.kp T.xfg .nil xw (xa (xx (yO T) (hr.mono (by decide)) (by rfl) T.za T.q0m.kp T.yZ .nil xw (xa (cv 0) (xa xg xf))) (xa (xl xI xg (xl xS (xl yg (cv 1) xg) xg)) (xa (xl xS (xl yg (cv 1) xg) xg) xf)))))) xR)
  (xh (xt (i:=2) nd rfl (aS rfl) (yB xf))
  (xh (uY b8 rfl (yL (by rfl) T.q0O (xa (xl xS (xl yg (cv 1) xg) xg) xf)) (yE (i:=3) nd rfl (aS rfl)) (xh (xt (i:=4) nd rfl (aS rfl) (xx (xgP T) (hr.mono (by decide)) (by rfl) T.xiR T.q1D.kp T.xiQ .nil xw (xa (xx (yO T) (hr.mono (by decide)) (by rfl) T.za T.q0m.kp T.yZ .nil xw (xa (cv 0) (xa (xl xI xg (xl xS (cv 3) xg)) xf))) (xa (cv 3) xf))))
  (xi (xT (xC zc (xl xS (cv 1) xg) xg) (xi (yf (zb PySem.F.plainAttrs_list PySem.F.slot_list_append PySem.F.type_list_append yk (cv 2) (xa (xl xS (cv 4) (xl xI xg (xl xS (xl yg (cv 1) xg) xg))) xf)))) (xi (xT (xC zc (xl xS (cv 1) xg) xg) (xi (yf (zb PySem.F.plainAttrs_list PySem.F.slot_list_append PySem.F.type_list_append yk (cv 2) (xa (xl xI (xl vw (xl xS (xl xI (xx (yO T) (hr.mono (by decide)) (by rfl) T.za T.q0m.kp T.yZ .nil xw (xa (cv 0) (xa (xl xI xg (xl xS (cv 3) xg)) xf))) (xl xS (cv 3) xg)) (xl vw (xl xbr xg (xl xg7 xg xg)) xg)) (xl xg7 xg xg)) xg) xf)))) (xi (yf (zb PySem.F.plainAttrs_list PySem.F.slot_list_append PySem.F.type_list_append yk (cv 2) (xa (xl xI (xl xbr (xl yg (cv 4) xg) xg) (cv 3)) xf))))))))))
  (xi (xu (cv 2))))))),?_⟩
  walk_at"w";refine⟨l,ns,0,rfl,hl,by decide,?_⟩;generalize cellAt ns 0=f;have f0:=bo (f / 3) (show(41:Int)≠0 by decide);have f1:=bt (f / 3) (show(0:Int)<41 by decide);have g0:=bo (f / 123) (show(4:Int)≠0 by decide);have g1:=bt (f / 123) (show(0:Int)<4 by decide);walk_at"w";walk_at"ss";refine(fun rest=>fF (fun e1=>?_) fun _=>rest) ?_
  ·walk_at"w";walk_at"ss";refine⟨fun e2=>?_,fun e2=>rest.2 rfl⟩;walk_at"w";refine⟨l,ns,14,rfl,hl,by decide,?_⟩;walk_at"w";walk_at"ss";exact⟨_,_,_,rfl,by lia,by lia,by lia,fun e es H' s' he' ee hlen hb=>q e es H' s' he' ee (by lia) hb⟩
  walk_at"w";refine⟨by walk_at"no",fun _=>?_⟩;walk_at"w";walk_at"ss";intro tx htx;generalize hUtx:upd H tx _=H1;have sH1:=xc.of_eq htx hUtx;have etx:=xm hUtx;clear hUtx;walk_at"w";walk_at"ss";obtain⟨N,hN⟩:∃N:Nat,N=zd 0 (f / 3%41) 1:=⟨_,rfl⟩;rw[←hN];rw[ze]at hN;refine vc (fun i σ G=>xc H G∧∃(sg:List Int) (x3 x4:Option V),σ=[some (.ref l),some (.int f),some (.ref tx),x3,x4]∧G tx=some (.lst (sg.map V.int))∧sg.length=i∧Bnd sg)
   ⟨sH1,[],_,_,rfl,etx,rfl,fun _ z=>by cases z⟩ (fun i σ G hi hP=>?_) (fun σ G hP=>?_)
  ·obtain⟨sG,sg,x3,x4,rfl,eG,hlen,hbs⟩:=hP;have fin:∀(v:Int) (x3 x4:Option V),(v.natAbs:Int)<10^60→xc H (upd G tx (.lst (sg.map V.int++[V.int v])))∧∃(sg':List Int) (y3 y4:Option V),[some (.ref l),some (.int f),some (.ref tx),x3,x4]=[some (.ref l),some (.int f),some (.ref tx),y3,y4]∧upd G tx (.lst (sg.map V.int++[V.int v])) tx=some (.lst (sg'.map V.int))∧sg'.length=i+1∧Bnd sg':=fun v x3 x4 hv=>
    ⟨xc.wr sG htx rfl,sg++[v],_,_,rfl,by rw[xj,aD];rfl,by simp[hlen],hbs.app (Bnd.one hv)⟩
   walk_at"w";walk_at"ss";have ei:(0:Int)+(i:Int)*1=(i:Int):=by lia
   rw[ei];have k0:=bo (i:Int) (show(48:Int)≠0 by decide);refine⟨l,ns,_,rfl,sG.seq hl,by lia,?_⟩;walk_at"w";refine⟨_,_,rfl,fun d d0 d1=>?_⟩;walk_at"w";walk_at"ss";refine⟨fun e=>?_,fun e=>?_⟩
   ·walk_at"w";refine⟨.inl ⟨rfl,_,SqL.of eG⟩,?_⟩;walk_at"w";walk_at"ss";have r0:=bo d (show 1+f / 123%4≠0 by lia);have r1:=bt d (show 0<1+f / 123%4 by lia);walk_at"w";refine⟨tx,_,_,rfl,rfl,eG,by rw[ab,ay];lia,?_⟩;exact fin _ _ _ (ia (show((d%(1+f / 123%4)).natAbs:Int)<10 by lia) (by decide))
   ·walk_at"w";walk_at"ss";refine⟨fun e=>?_,fun e=>?_⟩
    ·walk_at"w";refine⟨.inl ⟨rfl,_,SqL.of eG⟩,?_⟩;walk_at"w";walk_at"ss";have k1:=bo (i:Int) (show(7:Int)≠0 by decide);refine⟨l,ns,_,rfl,sG.seq hl,by lia,?_⟩;generalize cellAt ns _=cc;walk_at"w";walk_at"ss";refine⟨tx,_,_,rfl,rfl,eG,by rw[ab,ay];lia,?_⟩;exact fin _ _ _ (near (bo (cc+(i:Int)%5) (show(2*10^Int.toNat 60 - 1:Int)≠0 by decide)) (bt (cc+(i:Int)%5) (show(0:Int)<2*10^Int.toNat 60 - 1 by decide)))
    ·walk_at"w";refine⟨.inl ⟨rfl,_,SqL.of eG⟩,?_⟩;walk_at"w";walk_at"ss";refine⟨tx,_,_,rfl,rfl,eG,by rw[ab,ay];lia,?_⟩;exact fin _ _ _ (ia (show((d / 8*64+(i:Int)).natAbs:Int)<10^20 by lia) (by decide))
  ·obtain⟨sG,sg,x3,x4,rfl,eG,hlen,hbs⟩:=hP;walk_at"w";exact q tx sg G sG htx eG (by lia) hbs
theorem xc7(sg:List Int){n:Int}(h:0≤n):yA (sg.map V.int) none (some n)=(sg.take n.toNat).map V.int:=by
 rw[yC,yo h,HT.zR];simp[←kM]
theorem xln(sg:List Int){n:Int}(h:0≤n):yA (sg.map V.int) (some n) none=(sg.drop n.toNat).map V.int:=by
 have:=xea (sg.map V.int) n.toNat;rw[cH h]at this;rw[this,iC]
theorem xhL(ns:List Int):∃ys:List Int,yA (ns.map V.int) (some 2) (some 14)=ys.map V.int∧ys.length≤12∧(ys.length=0∨ys.length+2≤ns.length):=by
 rw[yC,yo (by decide),yo (by decide)];refine⟨_,rfl,?_⟩;rw[bF,aQ];show _≤12∧_;have:(2:Int).toNat=2:=rfl;have:(14:Int).toNat=14:=rfl;lia
theorem xgQ(sg:List Int){m n:Int}(hm:0≤m)(h:m≤n):∃ys:List Int,yA (sg.map V.int) (some m) (some n)=ys.map V.int∧(ys.length:Int)≤n - m∧∀x∈ys,x∈sg:=by
 rw[yC,yo hm,yo (by lia)];refine⟨_,rfl,?_,fun x hx=>eJ (eK hx)⟩;rw[bF,aQ];lia
def xjW(K:ai):Sp:=fun vs H Q _=>∃(l e:Addr) (ns es:List Int),vs=[.ref l,.ref e]∧SqL K H l (ns.map V.int)∧ns.length≤63∧H e=some (.lst (es.map V.int))∧es.length≤40∧Bnd es∧∀(n:Addr) (nw:List Int) (H':Hp),xc H H'→H n=none→H' n=some (.lst (nw.map V.int))→nw.length≤60→Bnd nw→Q (.ref n) H'
theorem xjX(T:Txt K mg a):xG P w K mg base CX0 2 a.q1u a.xdt ["_law_script","_law_elder_here"] (xjW K):=by
 refine T.q1y.ok xfk (fun vs H Q E h=>?_) (fun cdv A outer s H vs Q E hr h=>?_)
 ·obtain⟨l,e,ns,es,rfl,_⟩:=h;rfl
 ·obtain⟨l,e,ns,es,rfl,hl,hns,he,hel,hbe,q⟩:=h;have nd:=xfk.nd;refine⟨_,(xh (ui (i:=2) nd rfl (aS rfl) (xl yg (xx (yO T) (hr.mono (by decide)) (by rfl) T.za T.q0m.kp T.yZ .nil xw (xa (cv 0) (xa xg xf))) xg))
  (xh (ui (i:=3) nd rfl (aS rfl) (xl xS (xl yg (cv 2) xg) (xl xI (xo xq (by rfl) T.q0c xH (xa (cv 1) xf)) xg)))
  (xh (ui (i:=4) nd rfl (aS rfl) (xl xI (cv 3) (xl xS (xl yg (cv 2) xg) (xl xI (xl vw (xo xq (by rfl) T.q0c xH (xa (cv 1) xf)) (cv 3)) xg))))
  (xh (xT (xC zc (xl xS (cv 2) xg) xg) (xi (xu (xl vL (xl vL (ya yw (cv 1) (xM (cv 4)) yU) (ya yw (cv 1) (xM (cv 3)) (xM (cv 4)))) (ya yw (cv 1) yU (xM (cv 3)))))) xR)
  (xh (xT (xC zc (xl xS (cv 2) xg) xg) (xi (xu (xx (xeb T) (hr.mono (by decide)) (by rfl) T.xfh T.q1e.kp T.xfg .nil xw (xa (xx (yO T) (hr.mono (by decide)) (by rfl) T.za T.q0m.kp T.yZ .nil xw (xa (cv 0) (xa xg xf))) (xa (xl xI xg (xl xS (xl yg (cv 2) xg) xg)) (xa (xl xS (xl yg (cv 2) xg) xg) xf)))))) xR)
  (xh (ui (i:=5) nd rfl (aS rfl) (yB xf))
  (xh (uY b8 rfl (yL (by rfl) T.q0O (xa (xo xq (by rfl) T.q0c xH (xa (ya yw (cv 0) (xM xg) (xM xg)) xf)) xf)) (yE (i:=6) nd rfl (aS rfl)) (xh (ui (i:=7) nd rfl (aS rfl) (xx (xgP T) (hr.mono (by decide)) (by rfl) T.xiR T.q1D.kp T.xiQ .nil xw (xa (xr xN (cv 0) (xl xI xg (cv 6)) (fun _ _=>rfl)) (xa (cv 6) xf))))
  (xh (ui (i:=8) nd rfl (aS rfl) (xl xS (cv 7) (xl xI (xo xq (by rfl) T.q0c xH (xa (cv 1) xf)) xg)))
  (xh (ui (i:=9) nd rfl (aS rfl) (xl xI xg (xl xS (xl yg (cv 7) xg) xg)))
  (xi (xT (xC xeK (xl xS (xl yg (cv 7) xg) xg) xg) (xi (ui (i:=5) nd rfl (aS rfl) (xl vL (cv 5) (ya yw (cv 1) (xM (cv 8)) (xM (xl xI (cv 8) (cv 9))))))) (xi (ui (i:=5) nd rfl (aS rfl) (xl vL (cv 5) (xl xlW (yB (xa (xl vw (xl xS (xl yg (cv 7) xg) xg) xg) xf)) (xl xS (xl yg (cv 7) xg) xg)))))))))))
  (xi (xu (ya yw (cv 5) yU (xM xg))))))))))),?_⟩
  walk_at"w";refine⟨l,ns,1,rfl,hl,by decide,?_⟩;walk_at"w";walk_at"ss";refine vD fun c hc=>?_;walk_at"w";walk_at"ss";refine⟨e,_,rfl,.inl (SqL.of he),?_⟩;walk_at"w";rw[ab];refine fF (show(0:Int)<(es.length:Int)+1 by lia) ?_;have o0:=bo (c / 2) (show(es.length:Int)+1≠0 by lia);have o1:=bt (c / 2) (show 0<(es.length:Int)+1 by lia);refine vD fun u hu=>?_;walk_at"w";rw[←hu]at o0 o1;walk_at"ss";refine⟨e,_,rfl,.inl (SqL.of he),?_⟩;walk_at"w";rw[ab];refine fF (show(0:Int)<(es.length:Int) - u+1 by lia) ?_;have p0:=bo (c / 82) (show(es.length:Int) - u+1≠0 by lia);have p1:=bt (c / 82) (show 0<(es.length:Int) - u+1 by lia);refine vD fun v hv=>?_;walk_at"w";have v0:u≤v:=by lia
  have v1:v≤es.length:=by lia
  clear hv p0 p1 hu hc;walk_at"ss";refine⟨fun e1=>?_,fun e1=>?_⟩
  ·walk_at"w";refine⟨v,rfl,?_⟩;walk_at"w";refine⟨e,_,rfl,SqL.of he,?_⟩;rw[xln _ (by lia)];intro y1 hy1;generalize hUy1:upd H y1 _=H1;have sH1:=xc.of_eq hy1 hUy1;have ey1:=xm hUy1;clear hUy1;walk_at"w";refine⟨u,rfl,?_⟩;walk_at"w";refine⟨v,rfl,?_⟩;walk_at"w";refine⟨e,_,rfl,SqL.of (sH1.at he),?_⟩;obtain⟨ys,hys,hyl,hym⟩:=xgQ es o0 v0;rw[hys];intro y2 hy2;generalize hUy2:upd H1 y2 _=H2;have sH2:=xc.of_eq hy2 hUy2;have ey2:=xm hUy2;clear hUy2;walk_at"w";refine⟨y1,y2,_,_,rfl,rfl,sH2.at ey1,ey2,by rw[ab,ab,aQ,ay];lia,?_⟩;intro y3 hy3;generalize hUy3:upd H2 y3 _=H3;have sH3:=xc.of_eq hy3 hUy3;have ey3:=xm hUy3;clear hUy3;walk_at"w";rw[←aD]at ey3;refine⟨u,rfl,?_⟩;walk_at"w";refine⟨e,_,rfl,SqL.of ((sH1.trans (sH2.trans sH3)).at he),?_⟩;rw[xc7 _ o0];intro y4 hy4;generalize hUy4:upd H3 y4 _=H4;have sH4:=xc.of_eq hy4 hUy4;have ey4:=xm hUy4;clear hUy4;walk_at"w";refine⟨y3,y4,_,_,rfl,rfl,sH4.at ey3,ey4,by rw[ab,ab,ax,aQ,bF,ay];lia,?_⟩;intro y5 hy5;generalize hUy5:upd H4 y5 _=H5;have sH5:=xc.of_eq hy5 hUy5;have ey5:=xm hUy5;clear hUy5;walk_at"w";rw[←aD]at ey5;have s04:=sH1.trans (sH2.trans (sH3.trans sH4));exact q y5 _ _ (s04.trans sH5) (s04.back hy5) ey5 (by rw[ax,ax,aQ,bF];lia) (Bnd.app (Bnd.app (fun x hx=>hbe x (eJ hx)) (fun x hx=>hbe x (hym x hx))) (fun x hx=>hbe x (eK hx)))
  ·walk_at"w";walk_at"ss";refine⟨fun e2=>?_,fun e2=>?_⟩
   ·walk_at"w";refine⟨l,ns,2,rfl,hl,by decide,?_⟩;have b0:=bo (c / 4) (show(5:Int)≠0 by decide);have b1:=bt (c / 4) (show(0:Int)<5 by decide);have m0:=bo (c / 20) (show(61:Int)≠0 by decide);have m1:=bt (c / 20) (show(0:Int)<61 by decide);walk_at"w";walk_at"ss";exact⟨_,_,_,rfl,by lia,by lia,by lia,fun n nw H' s' hn' en hlen hb=>q n nw H' s' hn' en (by lia) hb⟩
   ·walk_at"w";walk_at"ss";intro tx0 htx0;generalize hUtx0:upd H tx0 _=H1;have sH1:=xc.of_eq htx0 hUtx0;have etx0:=xm hUtx0;clear hUtx0;walk_at"w";refine xde ?_;walk_at"w";refine⟨2,rfl,?_⟩;walk_at"w";refine⟨14,rfl,?_⟩;walk_at"w";refine⟨l,_,rfl,sH1.seq hl,?_⟩;obtain⟨ys,hys,hyl,hyn⟩:=xhL ns;rw[hys];intro sc hsc;generalize hUsc:upd H1 sc _=H2;have sH2:=xc.of_eq hsc hUsc;have esc:=xm hUsc;clear hUsc;walk_at"w";refine⟨sc,_,rfl,.inl (SqL.of esc),?_⟩;walk_at"w";rw[ab];walk_at"ss";obtain⟨N,hN⟩:∃N:Nat,N=zd 0 (ys.length:Int) 1:=⟨_,rfl⟩;rw[←hN];rw[ze]at hN;refine vc (fun i σ G=>xc H G∧∃(tx:Addr) (sg:List Int) (x6 x7 x8 x9:Option V),σ=[some (.ref l),some (.ref e),some (.int c),some (.int u),some (.int v),some (.ref tx),x6,x7,x8,x9]∧G tx=some (.lst (sg.map V.int))∧sg.length≤12*i∧Bnd sg)
     ⟨sH1.trans sH2,tx0,[],_,_,_,_,rfl,sH2.at etx0,by simp,fun _ z=>by cases z⟩ (fun i σ G hi hP=>?_) (fun σ G hP=>?_)
    ·obtain⟨sG,tx,sg,x6,x7,x8,x9,rfl,eG,hlen,hbs⟩:=hP;have ei:(0:Int)+(i:Int)*1=(i:Int):=by lia
     walk_at"w";rw[ei];walk_at"ss";have hi2:2+i<ns.length:=by lia
     refine⟨l,_,_,.int ns[2+i],rfl,rfl,sG.seq hl,?_,?_⟩
     ·have:=yd (xs:=ns.map V.int) (j:=2+i) (v:=.int ns[2+i]) (by simp[hi2]);rw[show(2:Int)+(i:Int)=((2+i:Nat):Int)by lia];exact this
     walk_at"w";refine⟨_,_,rfl,fun d d0 d1=>?_⟩;refine vD fun dr hdr=>?_;walk_at"w";refine⟨e,_,rfl,.inl (SqL.of (sG.at he)),?_⟩;walk_at"w";rw[ab];refine fF (show(0:Int)<(es.length:Int)+1 by lia) ?_;have a0:=bo dr (show(es.length:Int)+1≠0 by lia);refine vD fun at1 hat1=>?_;walk_at"w";rw[←hat1]at a0;walk_at"ss";have m0:=bo (dr / 64) (show(12:Int)≠0 by decide);have m1:=bt (dr / 64) (show(0:Int)<12 by decide);refine vD fun mn hmn=>?_;walk_at"w";walk_at"ss";refine⟨fun e3=>?_,fun e3=>?_⟩
     ·walk_at"w";refine⟨at1,rfl,?_⟩;walk_at"w";refine⟨_,rfl,?_⟩;walk_at"w";refine⟨e,_,rfl,SqL.of (sG.at he),?_⟩;obtain⟨zs,hzs,hzl,hzm⟩:=xgQ es a0 (show at1≤at1+mn by lia);rw[hzs];intro z1 hz1;generalize hUz1:upd G z1 _=G1;have sG1:=xc.of_eq hz1 hUz1;have ez1:=xm hUz1;clear hUz1;walk_at"w";refine⟨tx,z1,_,_,rfl,rfl,sG1.at eG,ez1,by rw[ab,ab,ay];lia,?_⟩;intro z2 hz2;generalize hUz2:upd G1 z2 _=G2;have sG2:=xc.of_eq hz2 hUz2;have ez2:=xm hUz2;clear hUz2;walk_at"w";rw[←aD]at ez2;refine xde ?_;walk_at"w";exact⟨sG.trans (sG1.trans sG2),z2,sg++zs,_,_,_,_,rfl,ez2,by rw[ax];lia,hbs.app (fun x hx=>hbe x (hzm x hx))⟩
     ·walk_at"w";walk_at"ss";have w0:=bo (dr / 4096) (show(5:Int)≠0 by decide);have w1:=bt (dr / 4096) (show(0:Int)<5 by decide);have y0:=bo (dr / 32768) (show(4:Int)≠0 by decide);have y1:=bt (dr / 32768) (show(0:Int)<4 by decide);intro z1 hz1;generalize hUz1:upd G z1 _=G1;have sG1:=xc.of_eq hz1 hUz1;have ez1:=xm hUz1;clear hUz1;walk_at"w";walk_at"ss";refine⟨z1,_,_,rfl,rfl,ez1,by lia,by lia,by rw[ay];simp;lia,?_⟩;intro z3 hz3;generalize hUz3:upd G1 z3 _=G2;have sG2:=xc.of_eq hz3 hUz3;have ez3:=xm hUz3;clear hUz3;walk_at"w";refine⟨tx,z3,_,_,rfl,rfl,(sG1.trans sG2).at eG,ez3,by rw[ay];simp;lia,?_⟩;intro z2 hz2;generalize hUz2:upd G2 z2 _=G3;have sG3:=xc.of_eq hz2 hUz2;have ez2:=xm hUz2;clear hUz2;walk_at"w";have ez2:G3 z2=some (.lst ((sg++b7 (dr / 32768%4).toNat (dr / 4096%5 - 2)).map V.int)):=by
       rw[ez2,aD,List.flatten_replicate_singleton,List.map_replicate]
      refine xde ?_;walk_at"w";exact⟨sG.trans (sG1.trans (sG2.trans sG3)),z2,_,_,_,_,_,rfl,ez2,by rw[ax,gL];lia,hbs.app (fun x hx=>by rw[(List.mem_replicate.mp hx).2];exact ia (show((dr / 4096%5 - 2).natAbs:Int)<10 by lia) (by decide))⟩
    ·obtain⟨sG,tx,sg,x6,x7,x8,x9,rfl,eG,hlen,hbs⟩:=hP;walk_at"w";refine⟨60,rfl,?_⟩;walk_at"w";refine⟨tx,_,rfl,SqL.of eG,?_⟩;rw[xc7 _ (by decide)];intro fl hfl;generalize hUfl:upd G fl _=G2;have sG2:=xc.of_eq hfl hUfl;have efl:=xm hUfl;clear hUfl;walk_at"w";exact q fl (sg.take 60) G2 (sG.trans sG2) (sG.back hfl) efl (by rw[bF];lia) (fun x hx=>hbs x (eK hx))
end
theorem xaq(r:xb):bT r.dat=true:=by
 unfold bT;have:=xba r;rw[vI r,decide_eq_true (show bG r.dat≤64 by lia)];rfl
def xmB(xss:List (List Int))(left:List Int)(k:Int)(ring:List Int):Prop:=k∈ring∧2≤ring.length∧ring.Nodup∧(∀x∈ring,x∈left)∧∀i,i<ring.length→∃x y,ring[if i=0 then ring.length - 1 else i - 1]? =some x∧ring[i]? =some y∧x∈xss.getD y.toNat []
theorem xjY{ks:List xb}{x y:Int}(hx:0≤x∧x<ks.length)(hy:0≤y∧y<ks.length)(h:x∈(xY ks).getD y.toNat []){to st c to2 st2 c2:Int}(e1:ks.getD x.toNat dR= .take to st c)(e2:ks.getD y.toNat dR= .take to2 st2 c2):
  to≠st∧to2≠st2∧st<to2+c2∧to2<st+c:=by
 have hk:y.toNat<ks.length:=by lia
 have hkx:x.toNat<ks.length:=by lia
 have e:(xY ks).getD y.toNat []=uV y.toNat ((ks.map xb.wr).getD y.toNat (0,0)) (ks.map xb.rd):=by simp[xY,aX,hk]
 rw[e]at h;unfold uV at h;obtain⟨i,hi,e3⟩:=aG.mp h;have hm:=(aE.mp hi).2;rw[dh]at hm;have hm:=hm.2;have hix:i=x.toNat:=by lia
 subst hix;have f1:(ks.map xb.wr).getD y.toNat (0,0)=(xb.take to2 st2 c2).wr:=by
  rw[←e2];simp[aX,hk]
 have f2:(ks.map xb.rd).getD x.toNat (0,0)=(xb.take to st c).rd:=by
  rw[←e1];simp[aX,hkx]
 rw[f1,f2]at hm;unfold xak xb.wr xb.rd at hm;have hm:=of_decide_eq_true hm;dsimp only at hm
 split at hm
 ·split at hm
  ·dsimp only at hm;lia
  ·dsimp only at hm;lia
 ·split at hm
  ·dsimp only at hm;lia
  ·dsimp only at hm;lia
theorem xdI{es ns:List Int}{least:Int}:∀{rs:List xb} {i j:Nat} {b b':Bool},ML.xD es ns least i b rs j b'→(∀r∈rs,(i:Int)≤r.to)∧rs.Pairwise fun r r'=>r.to<r'.to
 |[],_,_,_,_,_=>⟨by simp,.nil⟩
 | .put to sg::rs,i,j,_,_,h=>by
  obtain⟨h1,h2,h3,h4,h5,h6,h7⟩:=h;obtain⟨q1,q2⟩:=xdI h7;have hp:=bJ.mpr h3;refine⟨fun r hr=>?_,.cons (fun r hr=>?_) q2⟩
  ·rcases az.mp hr with rfl|hr
   ·show(i:Int)≤to;lia
   ·have:=q1 r hr;lia
  ·have:=q1 r hr;show to<r.to;lia
 | .take to st c::rs,i,j,_,_,h=>by
  obtain⟨st',c',h1,h2,h3,h4,h5,h6,h7,h8⟩:=h;obtain⟨q1,q2⟩:=xdI h8;refine⟨fun r hr=>?_,.cons (fun r hr=>?_) q2⟩
  ·rcases az.mp hr with rfl|hr
   ·show(i:Int)≤to;lia
   ·have:=q1 r hr;lia
  ·have:=q1 r hr;show to<r.to;lia
theorem xfN{ks:List xb}(h:ks.Pairwise fun r r'=>r.to<r'.to){x y:Int}(hx:0≤x∧x<ks.length)(hy:0≤y∧y<ks.length)(e:ks.getD x.toNat dR=ks.getD y.toNat dR):x=y:=by
 have hx':x.toNat<ks.length:=by lia
 have hy':y.toNat<ks.length:=by lia
 have e1:ks.getD x.toNat dR=ks[x.toNat]:=by simp[aX,hx']
 have e2:ks.getD y.toNat dR=ks[y.toNat]:=by simp[aX,hy']
 rw[e1,e2]at e;have p:=bc.mp h;rcases c8 x.toNat y.toNat with z|z|z
 ·have:=p _ _ hx' hy' z;rw[e]at this;lia
 ·lia
 ·have:=p _ _ hy' hx' z;rw[e]at this;lia
def kOf:xb→List Key
 | .take to st c=>[.inr "take",.inl to,.inl st,.inl c]
 | .put _ _=>[]
theorem xjZ{to st c to2 st2 c2:Int}(h:cm (xb.take to st c).dat (xb.take to2 st2 c2).dat=true):xb.take to st c=xb.take to2 st2 c2:=by
 simp[xb.dat,cm,fc]at h;obtain⟨rfl,rfl,rfl⟩:=h;rfl
theorem xj0{α:Type}{xs:List α}{k:Nat}(hk:k<xs.length):atI xs ((k:Int) - 1)=xs[if k=0 then xs.length - 1 else k - 1]? :=by
 unfold atI ixN
 by_cases h0:k=0
 ·rw[if_neg (by lia),if_pos (by lia),if_pos h0];show xs[((k:Int) - 1+xs.length).toNat]? =_
  congr 1
  lia
 ·rw[if_pos (by lia),if_pos (by lia),if_neg h0];show xs[((k:Int) - 1).toNat]? =_
  congr 1
  lia
theorem xec{α β γ:Type}{F:α→β→Prop}{F':α→γ→Prop}{f:Int→β}{g:Int→γ}:∀{xs:List α} {ys:List Int},Paired F xs (ys.map f)→(∀y∈ys,∀x,F x (f y)→F' x (g y))→Paired F' xs (ys.map g)
 |[],[],_,_=>.nil
 |x::xs,y::ys,.cons h t,k=>.cons (k y aA x h) (xec t fun z hz=>k z (aq _ hz))
theorem xbj{β:Type}{f:Int→β}:∀{xs:List Int},xs.Nodup→(∀x∈xs,∀y∈xs,f x=f y→x=y)→(xs.map f).Nodup
 |[],_,_=>.nil
 |x::xs,h,k=>by
  rw[bZ]at h;rw[a9,bZ];refine⟨fun z=>?_,xbj h.2 fun a ha b hb=>k a (aq _ ha) b (aq _ hb)⟩;obtain⟨y,hy,e⟩:=aG.mp z;have:=k y (aq _ hy) x aA e;exact h.1 (this▸hy)
theorem xbZ{α β:Type}{F:α→β→Prop}:∀{as cs:List α} {bs ds:List β},Paired F as bs→Paired F cs ds→Paired F (as++cs) (bs++ds)
 |_,_,_,_,.nil,h=>h
 |_,_,_,_,.cons x xs,h=>.cons x (xbZ xs h)
theorem TupAt.off2{K:ai}{H:Hp}{t p:Addr}{r:xb}{xs:List V}{o:HO}(h:TupAt K H t r)(hp:H p=some (.lst xs)):TupAt K (upd H p o) t r:=by
 cases r with
 |take to st c=>show upd H p o t=_;rw[xk (uP h hp (by intro z;cases z))];exact h
 |put to sg=>
  obtain⟨u,h1,h2⟩:=h;exact⟨u,by rw[xk (uP h1 hp (by intro z;cases z))];exact h1,by rw[xk (uP h2 hp (by intro z;cases z))];exact h2⟩
theorem xmC(a b c d:Int):HT.lexLt [a,b] [c,d]=true↔a<c∨(a=c∧b<d):=by
 rw[HT.yn]
 by_cases e:a=c
 ·rw[if_pos e,HT.yn]
  by_cases e2:b=d
  ·rw[if_pos e2,HT.xau];simp;lia
  ·rw[if_neg e2,decide_eq_true_iff];lia
 ·rw[if_neg e,decide_eq_true_iff];lia
theorem xkn(a b c d:Int):HT.lexLt [a,b] [c,d]=false↔¬(a<c∨(a=c∧b<d)):=by
 rw[←xmC];simp
theorem xgR{kk:Nat→List Int}:∀(j:Nat),(∀i,i≤j→∃a b,kk i=[a,b])→∀i,i≤j→HT.lexLt (kk i) (kk (bst kk j))=false
 |0,h,i,hi=>by
  obtain rfl:i=0:=by lia
  exact vF _
 |j+1,h,i,hi=>by
  have ih:=xgR j fun i hi=>h i (by lia);unfold bst
  split
  ·rename_i e
   by_cases z:i=j+1
   ·subst z;exact vF _
   ·have q:=ih i (by lia);obtain⟨a,b,e1⟩:=h i hi;obtain⟨c,d,e2⟩:=h (j+1) (ao _);obtain⟨x,y,e3⟩:=h (bst kk j) (by have:=xcJ kk j;lia);rw[e1,e3,xkn]at q;rw[e2,e3,xmC]at e;rw[e1,e2,xkn];lia
  ·rename_i e
   by_cases z:i=j+1
   ·subst z;simpa using e
   ·exact ih i (by lia)
def jn(ks:List xb):List Int→List (Int×List Int)→Prop
 |_,[]=>True
 |left,(k,ring)::tur=>(xmB (xY ks) left k ring∧∀x∈ring,HT.lexLt (yF (ks.getD x.toNat dR)) (yF (ks.getD k.toNat dR))=false)∧jn ks (left.filter fun x=>decide (x≠k)) tur
theorem jn.mono{ks:List xb}:∀{tur:List (Int×List Int)} {l l':List Int},(∀x∈l,x∈l')→jn ks l tur→jn ks l' tur
 |[],_,_,_,_=>trivial
 |(k,ring)::tur,l,l',h,f=>by
  obtain⟨⟨⟨a,b,c,d,e⟩,m⟩,g⟩:=f;refine⟨⟨⟨a,b,c,fun x hx=>h x (d x hx),e⟩,m⟩,jn.mono (fun x hx=>?_) g⟩;obtain⟨q1,q2⟩:=aE.mp hx;exact aE.mpr ⟨h x q1,q2⟩
theorem yS{ks:List xb}(h:∀r∈ks,r.isTake=true){x:Int}(hx:0≤x∧x<ks.length):∃to st c,ks.getD x.toNat dR= .take to st c∧xb.take to st c∈ks:=by
 have hx':x.toNat<ks.length:=by lia
 have e1:ks.getD x.toNat dR=ks[x.toNat]:=by simp[aX,hx']
 have hm:=cN hx';have ht:=h _ hm;rw[e1];cases hr:ks[x.toNat]with
 |take to st c=>exact⟨to,st,c,rfl,hr▸hm⟩
 |put to sg=>rw[hr]at ht;cases ht
theorem xhM{ks:List xb}(hks:∀r∈ks,r.isTake=true){left ord:List Int}{tur:List (Int×List Int)}(h:Goes (xY ks) (fun x=>yF (ks.getD x.toNat dR)) left ord tur):(∀x∈left,0≤x∧x<ks.length)→jn ks left tur:=by
 induction h with
 |nil=>exact fun _=>trivial
 |keep k hk _ _ ih=>exact fun hl=>(ih fun x hx=>hl x (aE.mp hx).1).mono fun x hx=>(aE.mp hx).1
 | @turn left ord ring tur k hh hr hk1 hk _ ih=>
  intro hl;have hsl:(xY ks).length=ks.length:=by simp[xY]
  obtain⟨g1,g2,g3,g4⟩:=xbc (fun x hx=>⟨(hl x hx).1,by rw[hsl];exact(hl x hx).2,hh x hx⟩) (fun x hx=>xam (hl x hx).1 (hl x hx).2) hr;have hb:=xcJ (fun i=>yF (ks.getD (ring.getD i 0).toNat dR)) (ring.length - 1);refine⟨⟨⟨?_,g1,g2,g3,g4⟩,fun x hx=>?_⟩,ih fun x hx=>hl x (aE.mp hx).1⟩
  ·rw[hk1];exact getD_mem (by lia)
  ·obtain⟨i,hi,rfl⟩:=cA.mp hx;have:=xgR (kk:=fun i=>yF (ks.getD (ring.getD i 0).toNat dR)) (ring.length - 1) (fun i hi=>by
    obtain⟨to,st,c,e,_⟩:=yS hks (hl _ (g3 _ (getD_mem (xs:=ring) (i:=i) (by lia))));exact⟨c,to,by rw[e];rfl⟩) i (by lia)
   rw[hk1];have e:ring.getD i 0=ring[i]:=by simp[hi]
   rw[e]at this;exact this
structure xi6(ks:List xb)(tur:List (Int×List Int)):Prop where
 tk:∀r∈ks,r.isTake=true
 few:ks.length≤60
 rise:ks.Pairwise fun r r'=>r.to<r'.to
 fine:jn ks ((aI ks.length).map fun(i:Nat)=>(i:Int)) tur
 many:tur.length≤60
def yu:List Int→List (Int×List Int)→List Int
 |L,[]=>L
 |L,kr::tur=>yu (L.filter fun x=>decide (x≠kr.1)) tur
theorem xed:∀(t:List (Int×List Int)) {L:List Int} {u:List (Int×List Int)},yu L (t++u)=yu (yu L t) u
 |[],_,_=>rfl
 |kr::t,L,u=>xed t
theorem vk:∀{t:List (Int×List Int)} {L:List Int} {x:Int},x∈yu L t↔x∈L∧∀kr∈t,kr.1≠x
 |[],L,x=>by simp[yu]
 |kr::t,L,x=>by
  show x∈yu _ t↔_;rw[vk,aE];simp only[az,forall_eq_or_imp,decide_eq_true_iff];constructor
  ·rintro⟨⟨a,b⟩,c⟩;exact⟨a,bO b,c⟩
  ·rintro⟨a,b,c⟩;exact⟨⟨a,bO b⟩,c⟩
theorem jo:∀(t:List (Int×List Int)) (L:List Int),(yu L t).Sublist L
 |[],L=>.refl _
 |kr::t,L=>(jo t _).trans lD
theorem xhN{xss:List (List Int)}{key:Int→List Int}{left ord:List Int}{tur:List (Int×List Int)}(h:Goes xss key left ord tur)(hn:left.Nodup):(yu left tur).Perm ord:=by
 have p:=h.perm hn;have nd:=p.nodup_iff.mpr hn;obtain⟨n1,n2,n3⟩:=iN.mp nd;refine(fN (hn.sublist (jo _ _)) n1).mpr fun x=>?_;rw[vk];constructor
 ·rintro⟨a,b⟩;rcases bb.mp (p.mem_iff.mpr a)with z|z
  ·exact z
  ·obtain⟨kr,hk,rfl⟩:=aG.mp z;exact absurd rfl (b kr hk)
 ·intro hx;exact⟨p.mem_iff.mp (bW _ hx),fun kr hk e=>n3 x hx x (aG.mpr ⟨kr,hk,e⟩) rfl⟩
theorem xfO:∀{L:List Int} {k:Int},L.Nodup→k∈L→∃j,L[j]? =some k∧(∀i x,i<j→L[i]? =some x→x≠k)∧L.eraseIdx j=L.filter fun x=>decide (x≠k)
 |y::L,k,hn,hk=>by
  rw[bZ]at hn
  by_cases e:y=k
  ·subst e;refine⟨0,rfl,fun i x hi=>absurd hi (dG _),?_⟩;rw[dJ (by simp),List.eraseIdx_cons_zero];exact(List.filter_eq_self.mpr fun x hx=>by simp only[decide_eq_true_iff];exact fun z=>hn.1 (z▸hx)).symm
  ·obtain⟨j,h1,h2,h3⟩:=xfO hn.2 ((az.mp hk).resolve_left (bO e));refine⟨j+1,h1,fun i x hi hx=>?_,?_⟩
   ·cases i with
    |zero=>cases hx;exact e
    |succ i=>exact h2 i x (by lia) hx
   ·rw[dN (by simpa using e),gs,h3]
theorem xbk{α β:Type}(f:α→β):∀(l:List α) (j:Nat),(l.map f).eraseIdx j=(l.eraseIdx j).map f
 |[],_=>rfl
 |x::l,0=>rfl
 |x::l,j+1=>by simp only[a9,gs,xbk f l j]
theorem xbl{α β:Type}{F:α→β→Prop}:∀{xs:List α} {ys:List β} (j:Nat),Paired F xs ys→Paired F (xs.eraseIdx j) (ys.eraseIdx j)
 |_,_,_,.nil=>.nil
 |_,_,0,.cons _ t=>t
 |_,_,j+1,.cons h t=>.cons h (xbl j t)
theorem jD{α:Type}{f:α→Int}:∀{p q:List α},p.Perm q→(p.Pairwise fun x y=>f x<f y)→(q.Pairwise fun x y=>f x<f y)→p=q
 |[],q,h,_,_=>(List.nil_perm.mp h).symm
 |x::p,[],h,_,_=>absurd h.symm.length_eq (by simp)
 |x::p,y::q,h,h1,h2=>by
  rw[cf]at h1 h2;have e:x=y:=by
   rcases az.mp (h.mem_iff.mp (aA (a:=x)))with z|z
   ·exact z
   ·rcases az.mp (h.mem_iff.mpr (aA (a:=y)))with w|w
    ·exact w.symm
    ·have a1:=h1.1 _ w;have a2:=h2.1 _ z;lia
  subst e;rw[jD h.cons_inv h1.2 h2.2]
theorem xct{α:Type}{xs:List α}{key:α→Int}{d:α}{pm:List Nat}(h:pm.Perm (aI xs.length))(hp:pm.Pairwise fun i j=>(xs.map key).getD i 0<(xs.map key).getD j 0):(pm.map fun i=>xs.getD i d).Perm xs∧(pm.map fun i=>xs.getD i d).Pairwise fun x y=>key x<key y:=by
 have hb:∀i∈pm,i<xs.length:=fun i hi=>a7.mp (h.mem_iff.mp hi);refine⟨?_,bu.mpr (hp.imp_of_mem fun{i j} hi hj z=>?_)⟩
 ·have:=h.map fun i=>xs.getD i d
  rwa [ML.range_getD]at this
 ·have a:=hb i hi;have b:=hb j hj;simpa [aX,a,b]using z
theorem jE{α β:Type}{F:α→β→Prop}{xs:List α}{ys:List β}{x:α}{y:β}{pm:List Nat}(h:Paired F xs ys)(hp:pm.Perm (aI xs.length)):Paired F (pm.map fun i=>xs.getD i x) (pm.map fun i=>ys.getD i y):=
 ML.xap fun i hi=>L2.yR (x:=x) (y:=y) h (a7.mp (hp.mem_iff.mp hi))
def cellsOf(es:List Int)(r:xb):List (Int×Int):=(aI r.cnt).map fun(k:Nat)=>(r.to+(k:Int),(r.sg es).getD k 0)
def xP(es:List Int)(rs:List xb):List (Int×Int):=(rs.map (cellsOf es)).flatten
def zj(nw:List Int):List (Int×Int):=(aI nw.length).map fun(k:Nat)=>((k:Int),nw.getD k 0)
theorem xi7(es:List Int)(rs:List xb):(xP es rs).map (·.1)=(rs.map xb.cv).flatten:=by
 unfold xP;rw[List.map_flatten,bj]
 congr 1
 refine lF fun r _=>?_;show(cellsOf es r).map (·.1)=r.cv;unfold cellsOf;rw[bj];cases r<;> rfl
theorem xb0{es:List Int}{rs:List xb}(h:rs.Pairwise ML.Off):((xP es rs).map (·.1)).Nodup:=by
 rw[xi7];exact ML.xda h
theorem xfP{α β:Type}{f:α→β}{l:List α}(h:(l.map f).Nodup):l.Nodup:=(bu.mp h).imp fun{a b} z (e:a=b)=>z (by rw[e])
theorem xhO{es nw:List Int}{rs:List xb}(ho:rs.Pairwise ML.Off)(ht:∀r∈rs,Tells es nw r)(hc:∀j,j<nw.length→∃r∈rs,yp r j):(xP es rs).Perm (zj nw):=by
 have n1:=xfP (xb0 (es:=es) ho);have n2:(zj nw).Nodup:=by
  unfold zj;exact bu.mpr (dq.imp fun h e=>h (by have:=congrArg Prod.fst e;have:=Int.ofNat.inj this;exact this))
 refine(fN n1 n2).mpr fun q=>?_;have val:∀r∈rs,∀k,k<r.cnt→(r.to+(k:Int),(r.sg es).getD k 0)=(((r.to+(k:Int)).toNat:Int),nw.getD (r.to+(k:Int)).toNat 0)∧(r.to+(k:Int)).toNat<nw.length:=fun r hr k hk=>by
  obtain⟨a1,a2,a3,a4⟩:=ht r hr;have h0:=a1.to;have e:=a4 k hk;refine⟨?_,by lia⟩;rw[bq,bq,e]
  congr 1
  lia
 unfold xP zj;rw[List.mem_flatten,aG];constructor
 ·rintro⟨l,hl,hq⟩;obtain⟨r,hr,rfl⟩:=aG.mp hl;obtain⟨k,hk,rfl⟩:=aG.mp hq;obtain⟨e,hlt⟩:=val r hr k (a7.mp hk);exact⟨_,a7.mpr hlt,e.symm⟩
 ·rintro⟨j,hj,rfl⟩;obtain⟨r,hr,c1,c2⟩:=hc j (a7.mp hj);have hk:((j:Int) - r.to).toNat<r.cnt:=by lia
  obtain⟨e,_⟩:=val r hr _ hk;refine⟨_,aG.mpr ⟨r,hr,rfl⟩,aG.mpr ⟨((j:Int) - r.to).toNat,a7.mpr hk,?_⟩⟩;have e2:(r.to+(((j:Int) - r.to).toNat:Int)).toNat=j:=by lia
  rw[e,e2]
theorem xgg(nw:List Int):(zj nw).Pairwise fun x y=>x.1<y.1:=by
 unfold zj;refine bu.mpr (List.pairwise_lt_range.imp fun{i j} h=>?_);show(i:Int)<(j:Int);lia
section
variable {P:aF} {w:World} {K:ai} {mg:Str→Option Value} {base:Heap} {a:Adr}
def xj1(K:ai):Sp:=fun vs H Q _=>∃(t u:Addr) (to st c to2 st2 c2:Int),vs=[.ref t,.ref u]∧TupAt K H t (.take to st c)∧TupAt K H u (.take to2 st2 c2)∧to≠st∧to2≠st2∧st<to2+c2∧to2<st+c∧Q (.bl true) H
theorem xj2(T:Txt K mg a):xG P w K mg base CX0 1 a.q1v a.xdu ["_law_row","_law_other"] (xj1 K):=by
 refine T.q1z.ok xfl (fun vs H Q E h=>?_) (fun cdv A outer s H vs Q E hr h=>?_)
 ·obtain⟨t,u,to,st,c,to2,st2,c2,rfl,_⟩:=h;rfl
 ·obtain⟨t,u,to,st,c,to2,st2,c2,rfl,ht,hu,n1,n2,l1,l2,q⟩:=h;have nd:=xfl.nd;refine⟨_,(xh (xT (PW.pt (zp (xC zc (xr xA (cv 0) xg (fun _ _=>rfl)) (xr xA (cv 0) xg (fun _ _=>rfl))) (uW (xC zc (xr xA (cv 1) xg (fun _ _=>rfl)) (xr xA (cv 1) xg (fun _ _=>rfl)))))) (xi (xu zo)) xR)
  (xi (xu (xl1 (xaI jQ (xr xA (cv 0) xg (fun _ _=>rfl)) (xl xI (xr xA (cv 1) xg (fun _ _=>rfl)) (xr xA (cv 1) xg (fun _ _=>rfl)))) (xlA (xaI jQ (xr xA (cv 1) xg (fun _ _=>rfl)) (xl xI (xr xA (cv 0) xg (fun _ _=>rfl)) (xr xA (cv 0) xg (fun _ _=>rfl))))))))),?_⟩
  walk_at"w";refine⟨t,_,_,.int to,rfl,rfl,SqT.of ht,rfl,?_⟩;walk_at"w";refine⟨t,_,_,.int st,rfl,rfl,SqT.of ht,rfl,?_⟩;walk_at"w";refine⟨fun z=>absurd (of_decide_eq_true z) n1,fun _=>?_⟩;walk_at"w";refine⟨u,_,_,.int to2,rfl,rfl,SqT.of hu,rfl,?_⟩;walk_at"w";refine⟨u,_,_,.int st2,rfl,rfl,SqT.of hu,rfl,?_⟩;walk_at"w";refine⟨fun z=>absurd (of_decide_eq_true z) n2,fun _=>?_⟩;walk_at"w";refine⟨t,_,_,.int st,rfl,rfl,SqT.of ht,rfl,?_⟩;walk_at"w";refine⟨u,_,_,.int to2,rfl,rfl,SqT.of hu,rfl,?_⟩;walk_at"w";refine⟨u,_,_,.int c2,rfl,rfl,SqT.of hu,rfl,?_⟩;walk_at"w";refine⟨fun _=>?_,fun z=>absurd l1 (of_decide_eq_false z)⟩;walk_at"w";refine⟨u,_,_,.int to2,rfl,rfl,SqT.of hu,rfl,?_⟩;walk_at"w";refine⟨t,_,_,.int st,rfl,rfl,SqT.of ht,rfl,?_⟩;walk_at"w";refine⟨t,_,_,.int c,rfl,rfl,SqT.of ht,rfl,?_⟩;walk_at"w";show Q (.bl (decide (to2<st+c))) H;rw[decide_eq_true l2];exact q
structure xni(ks:List xb)(k:Int)(ring:List Int)(lr:List xb):Prop where
 tk:∀r∈ks,r.isTake=true
 rise:ks.Pairwise fun r r'=>r.to<r'.to
 inL:∀x∈ring,0≤x∧x<ks.length
 kin:k∈ring
 two:2≤ring.length
 few:ring.length≤60
 nd:ring.Nodup
 sub:∀x∈ring,ks.getD x.toNat dR∈lr
 cons:∀i,i<ring.length→∃x y,ring[if i=0 then ring.length - 1 else i - 1]? =some x∧ring[i]? =some y∧x∈(xY ks).getD y.toNat []
 least:∀x∈ring,HT.lexLt (yF (ks.getD x.toNat dR)) (yF (ks.getD k.toNat dR))=false
def xlo(K:ai):Sp:=fun vs H Q _=>∃(b l lf:Addr) (us ls:List Addr) (ks lr:List xb) (k:Int) (ring:List Int),vs=[.ref b,.ref l,.ref lf]∧TupAt K H b (ks.getD k.toNat dR)∧H l=some (.lst (us.map V.ref))∧Paired (TupAt K H) us (ring.map fun(x:Int)=>ks.getD x.toNat dR)∧H lf=some (.lst (ls.map V.ref))∧Paired (TupAt K H) ls lr∧xni ks k ring lr∧∀H',xc H H'→Q (.bl true) H'
theorem xcu(T:Txt K mg a):xG P w K mg base CX0 2 a.q0w a.uy ["_law_row","_law_ring","_law_left"] (xlo K):=by
 refine T.q0y.ok jc (fun vs H Q E h=>?_) (fun cdv A outer s H vs Q E hr h=>?_)
 ·obtain⟨b,l,lf,us,ls,ks,lr,k,ring,rfl,_⟩:=h;rfl
 ·obtain⟨b,l,lf,us,ls,ks,lr,k,ring,rfl,hb,hl,z4,hlf,hls,ok,q⟩:=h;have nd:=jc.nd;refine⟨_,(xh (xT (PW.pt (zp (zh (yv (xo yQ (by rfl) T.q0e xZ (xa (cv 1) (xa (uC (v:=.ty "list") (by rfl) T.q1s uG rfl) xf))))) (zp (xC jQ (xo xq (by rfl) T.q0c xH (xa (cv 1) xf)) xg) (zp (xC (xdZ hr.units65) (cv 0) (cv 1) (by rfl)) (uW (xC xen (xo xiG (by rfl) T.q0c xH (xa (yK (xf8 rfl hr.units) (by rfl) T.q2l xmh (xa (cv 1) xf)) xf)) (xo xq (by rfl) T.q0c xH (xa (cv 1) xf)))))))) (xi (xu zo)) xR)
  (xh (uY b8 rfl (yL (by rfl) T.q0O (xa (xo xq (by rfl) T.q0c xH (xa (cv 1) xf)) xf)) (yE (i:=3) nd rfl (aS rfl)) (xh (xT (PW.pt (zp (xC (xdZ hr.units65) (xr xN (cv 1) (cv 3) (fun _ _=>rfl)) (cv 2) (by rfl)) (uW (zh (yv (xx (xj2 T) (hr.mono (by decide)) (by rfl) T.xk7 T.q1z.kp T.xk6 .nil xw (xa (xr xN (cv 1) (xl vw (cv 3) xg) (fun _ _=>rfl)) (xa (xr xN (cv 1) (cv 3) (fun _ _=>rfl)) xf)))))))) (xi (xu zo)) xR)
  (xi (xT (xC (xlP hr.units0) (yj (xa (xr xA (xr xN (cv 1) (cv 3) (fun _ _=>rfl)) xg (fun _ _=>rfl)) (xa (xr xA (xr xN (cv 1) (cv 3) (fun _ _=>rfl)) xg (fun _ _=>rfl)) xf))) (yj (xa (xr xA (cv 0) xg (fun _ _=>rfl)) (xa (xr xA (cv 0) xg (fun _ _=>rfl)) xf)))) (xi (xu zo)) xR))))
  (xi (xu zo)))),?_⟩
  have ul:us.length=ring.length:=by have:=z4.length;rwa [ab]at this
  have two:=ok.two;have few:=ok.few;walk_at"w";refine⟨_,_,_,_,true,rfl,rfl,yG.lst hl,rfl,?_⟩;walk_at"w";refine⟨by walk_at"no",fun _=>?_⟩;walk_at"w";refine⟨l,_,rfl,.inl (SqL.of hl),?_⟩;walk_at"w";refine⟨fun z=>by have:=of_decide_eq_true z;rw[ab]at this;lia,fun _=>?_⟩;walk_at"w";refine⟨_,(ring.map fun(x:Int)=>ks.getD x.toNat dR).map xb.dat,hb.rp,.lst (SqL.of hl) (ud z4),xaq _,zX _,?_⟩;have a1:(((ring.map fun(x:Int)=>ks.getD x.toNat dR).map xb.dat).any fun z=>cm z (ks.getD k.toNat dR).dat)=true:=by
   rw[dt];exact⟨_,aG.mpr ⟨_,aG.mpr ⟨k,ok.kin,rfl⟩,rfl⟩,kN _ (vI _)⟩
  rw[a1];walk_at"w";refine⟨by walk_at"no",fun _=>?_⟩;walk_at"w";refine⟨l,us,(ring.map fun(x:Int)=>ks.getD x.toNat dR).map kOf,rfl,SqL.of hl,?_,?_,by rw[ab,ab];lia,?_⟩
  ·rw[bj];refine xec z4 fun x hx t ht=>?_;obtain⟨to,st,c,e,_⟩:=yS ok.tk (ok.inL x hx);show H t=some (.tup ((kOf (ks.getD x.toNat dR)).map kV));rw[e]at ht⊢;exact ht
  ·rw[bj];refine xbj ok.nd fun x hx y hy e=>?_;obtain⟨to,st,c,e1,_⟩:=yS ok.tk (ok.inL x hx);obtain⟨to2,st2,c2,e2,_⟩:=yS ok.tk (ok.inL y hy);refine xfN ok.rise (ok.inL x hx) (ok.inL y hy) ?_;have e:kOf (ks.getD x.toNat dR)=kOf (ks.getD y.toNat dR):=e;rw[e1,e2]at e⊢;unfold kOf at e;simp at e;obtain⟨rfl,rfl,rfl⟩:=e;rfl
  intro d hd;generalize hUd:upd H d _=H1;have sH1:=xc.of_eq hd hUd;have ed:=xm hUd;clear hUd;walk_at"w";rw[ab,ab]at ed;refine⟨d,_,rfl,ed,by lia,?_⟩;walk_at"w";refine⟨l,_,rfl,.inl (SqL.of (sH1.at hl)),?_⟩;walk_at"w";refine⟨fun z=>by rw[ab,ul]at z;simp at z,fun _=>?_⟩;walk_at"w";refine⟨l,_,rfl,.inl (SqL.of (sH1.at hl)),?_⟩;walk_at"w";generalize hn:zd 0 _ 1=n;have bn:n=ring.length:=by
   rw[←hn,ze,ab,ul];lia
  clear hn;refine vc (fun i σ G2=>xc H1 G2∧∃x3,σ=[some (.ref b),some (.ref l),some (.ref lf),x3]) ⟨xc.refl _,_,rfl⟩ (fun j σ G2 hj hP2=>?_) (fun σ G2 hP2=>?_)
  ·obtain⟨sG,x3,rfl⟩:=hP2;have hj':j<ring.length:=by lia
   obtain⟨xp,yc,hxp,hyc,hsp⟩:=ok.cons j hj';have hxm:xp∈ring:=aL hxp;have hym:yc∈ring:=aL hyc;obtain⟨to,st,c,e1,_⟩:=yS ok.tk (ok.inL xp hxm);obtain⟨to2,st2,c2,e2,m2⟩:=yS ok.tk (ok.inL yc hym);obtain⟨to3,st3,c3,e3,_⟩:=yS ok.tk (ok.inL k ok.kin);obtain⟨n1,n2,n3,n4⟩:=xjY (ok.inL xp hxm) (ok.inL yc hym) hsp e1 e2;have sG1:xc H G2:=sH1.trans sG;have z4c:Paired (TupAt K G2) us (ring.map fun(x:Int)=>ks.getD x.toNat dR):=L2.Paired.imp' (fun _ _ z=>TupAt.same z sG1) z4;obtain⟨tp,htp,ptp⟩:=um z4c (b:=ks.getD xp.toNat dR) (i:=if j=0 then ring.length - 1 else j - 1) (by rw[au,hxp];rfl);obtain⟨tc,htc,ptc⟩:=um z4c (b:=ks.getD yc.toNat dR) (i:=j) (by rw[au,hyc];rfl);have atc:atI (us.map V.ref) (0+(j:Int)*1)=some (.ref tc):=by
    rw[show(0:Int)+(j:Int)*1=(j:Int)by lia];exact yd (by rw[au,htc];rfl)
   have atp:atI (us.map V.ref) (0+(j:Int)*1 - 1)=some (.ref tp):=by
    rw[show(0:Int)+(j:Int)*1 - 1=(j:Int) - 1 by lia,xj0 (by rw[ab,ul];exact hj'),au,ab,ul,htp];rfl
   have hl2:=sG1.at hl;have hls2:=L2.Paired.imp' (fun _ _ z=>TupAt.same z sG1) hls;have hb2:=hb.same sG1;have hlx:=ok.least yc hym;have hin:=ok.sub yc hym;rw[e1]at ptp;rw[e2]at ptc hin hlx;rw[e3]at hb2 hlx;walk_at"w";refine⟨l,_,_,.ref tc,rfl,rfl,SqL.of hl2,atc,?_⟩;walk_at"w";refine⟨_,lr.map xb.dat,ptc.rp,.lst (SqL.of (sG1.at hlf)) (ud hls2),xaq _,zX _,?_⟩;have a2:((lr.map xb.dat).any fun z=>cm z (xb.take to2 st2 c2).dat)=true:=by
    rw[dt];exact⟨_,aG.mpr ⟨_,hin,rfl⟩,kN _ (vI _)⟩
   rw[a2];walk_at"w";refine⟨by walk_at"no",fun _=>?_⟩;walk_at"w";refine⟨l,_,_,.ref tp,rfl,rfl,SqL.of hl2,atp,?_⟩;walk_at"w";refine⟨l,_,_,.ref tc,rfl,rfl,SqL.of hl2,atc,?_⟩;walk_at"w";refine⟨tp,tc,to,st,c,to2,st2,c2,rfl,ptp,ptc,n1,n2,n3,n4,?_⟩;walk_at"w";refine⟨by walk_at"no",fun _=>?_⟩;walk_at"w";refine⟨l,_,_,.ref tc,rfl,rfl,SqL.of hl2,atc,?_⟩;walk_at"w";refine⟨tc,_,_,.int c2,rfl,rfl,SqT.of ptc,rfl,?_⟩;walk_at"w";refine⟨l,_,_,.ref tc,rfl,rfl,SqL.of hl2,atc,?_⟩;walk_at"w";refine⟨tc,_,_,.int to2,rfl,rfl,SqT.of ptc,rfl,?_⟩;walk_at"w";refine⟨by walk_at"side",fun p1 hp1=>?_⟩;generalize hU:upd G2 p1 _=G3;have g3:=xc.of_eq hp1 hU;have ep1:=xm hU;clear hU;walk_at"w";refine⟨b,_,_,.int c3,rfl,rfl,SqT.of (g3.at hb2),rfl,?_⟩;walk_at"w";refine⟨b,_,_,.int to3,rfl,rfl,SqT.of (g3.at hb2),rfl,?_⟩;walk_at"w";refine⟨by walk_at"side",fun p2 hp2=>?_⟩;generalize hU:upd G3 p2 _=G4;have g4:=xc.of_eq hp2 hU;have ep2:=xm hU;clear hU;walk_at"w";refine⟨p1,p2,[c2,to2],[c3,to3],rfl,rfl,SqT.of (g4.at ep1),SqT.of ep2,?_⟩;have hlx:HT.lexLt [c2,to2] [c3,to3]=false:=hlx;rw[hlx];walk_at"w";refine⟨by walk_at"no",fun _=>?_⟩;exact⟨sG.trans (g3.trans g4),_,rfl⟩
  ·obtain⟨sG,x3,rfl⟩:=hP2;walk_at"w";exact q G2 (sH1.trans sG)
end
section
variable {P:aF} {w:World} {K:ai} {mg:Str→Option Value} {base:Heap} {a:Adr}
abbrev zm(n:Nat):List Int:=(aI n).map fun(i:Nat)=>(i:Int)
theorem xdJ{n:Nat}{x:Int}(h:x∈zm n):0≤x∧x<n:=by
 obtain⟨i,hi,rfl⟩:=aG.mp h;have:=a7.mp hi;lia
theorem xbx(n:Nat):(zm n).Nodup:=bu.mpr (dq.imp fun h e=>h (by lia))
theorem xj3{α:Type}(ks:List α)(d:α):(zm ks.length).map (fun(x:Int)=>ks.getD x.toNat d)=ks:=by
 rw[bj];exact ML.range_getD ks d
def xi8(K:ai):Sp:=fun vs H Q _=>∃(tr tk:Addr) (trs ts:List Addr) (ks:List xb) (tur:List (Int×List Int)),vs=[.ref tr,.ref tk]∧H tr=some (.lst (trs.map V.ref))∧Paired (ML.vB K H) trs (tur.map (ML.xbw ks))∧H tk=some (.lst (ts.map V.ref))∧Paired (TupAt K H) ts ks∧xi6 ks tur∧
 ∀(lf:Addr) (us:List Addr) (H':Hp),xc H H'→H lf=none→H' lf=some (.lst (us.map V.ref))→Paired (TupAt K H') us ((yu (zm ks.length) tur).map fun(x:Int)=>ks.getD x.toNat dR)→Q (.ref lf) H'
theorem xbm(T:Txt K mg a):xG P w K mg base CX0 3 a.q0i a.zN ["_law_turned","_law_takes"] (xi8 K):=by
 refine T.q0k.ok vi (fun vs H Q E h=>?_) (fun cdv A outer s H vs Q E hr h=>?_)
 ·obtain⟨tr,tk,trs,ts,ks,tur,rfl,_⟩:=h;rfl
 ·obtain⟨tr,tk,trs,ts,ks,tur,rfl,htr,hpt,htk,hts,ok,q⟩:=h;have nd:=vi.nd;refine⟨_,(xh (xt (i:=2) nd rfl (aS rfl) (yK uf (by rfl) T.q1s uG (xa (cv 1) xf)))
  (xh (xT (zh (yv (xo yQ (by rfl) T.q0e xZ (xa (cv 0) (xa (uC (v:=.ty "list") (by rfl) T.q1s uG rfl) xf))))) (xi (xu xex)) xR)
  (xh (uY b8 rfl (yi (cv 0)) (yE (i:=3) nd rfl (aS rfl)) (xh (xT (PW.pt (zp (zh (yv (xo yQ (by rfl) T.q0e xZ (xa (cv 3) (xa (uC (v:=.ty "tuple") (by rfl) T.q05 zu rfl) xf))))) (zp (xC xen (xo xq (by rfl) T.q0c xH (xa (cv 3) xf)) xg) (uW (zh (yv (xx (xcu T) (hr.mono (by decide)) (by rfl) T.xcR T.q0y.kp T.xcQ .nil xw (xa (xr xA (cv 3) xg (fun _ _=>rfl)) (xa (xr xA (cv 3) xg (fun _ _=>rfl)) (xa (cv 2) xf)))))))))) (xi (xu xex)) xR)
  (xi (yf (zb PySem.F.plainAttrs_list PySem.F.slot_list_remove PySem.F.type_list_remove (xhu hr.units65) (cv 2) (xa (xr xA (cv 3) xg (fun _ _=>rfl)) xf))))))
  (xi (xu (cv 2)))))),?_⟩
  have tl:trs.length=tur.length:=by have:=hpt.length;rwa [ab]at this
  have few:=ok.few;walk_at"w";refine⟨tk,_,rfl,.inl (SqL.of htk),?_⟩;intro lf hlf;generalize hUlf:upd H lf _=H1;have sH1:=xc.of_eq hlf hUlf;have elf:=xm hUlf;clear hUlf;walk_at"w";refine⟨_,_,_,_,true,rfl,rfl,yG.lst (sH1.at htr),rfl,?_⟩;walk_at"w";refine⟨by walk_at"no",fun _=>?_⟩;walk_at"w";refine⟨tr,rfl,⟨_,SqL.of (sH1.at htr)⟩,?_⟩;refine xcF (xs:=trs.map V.ref) (fun i σ G=>xc H G∧∃us x3,σ=[some (.ref tr),some (.ref tk),some (.ref lf),x3]∧G lf=some (.lst (us.map V.ref))∧Paired (TupAt K G) us ((yu (zm ks.length) (tur.take i)).map fun(x:Int)=>ks.getD x.toNat dR)∧∃left,jn ks left (tur.drop i)∧∀x∈left,x∈yu (zm ks.length) (tur.take i))
   ⟨sH1,ts,_,rfl,elf,?_,_,ok.fine,fun x hx=>hx⟩ (fun i σ G hi hP=>SqL.of (hP.1.at htr)) (fun i x σ G hx hP=>?_) (fun σ G hP=>?_)
  ·show Paired (TupAt K H1) ts ((zm ks.length).map _);rw[xj3];exact L2.Paired.imp' (fun _ _ z=>TupAt.same z sH1) hts
  ·obtain⟨sG,us,x3,rfl,eG,hus,left,hF,hleft⟩:=hP;rw[au]at hx;obtain⟨t0,ht0,rfl⟩:=cD.mp hx;obtain⟨y,hy,b,l,rs2,z1,z2,z3,z4⟩:=xU hpt ht0;rw[au]at hy;obtain⟨⟨k,ring⟩,hkr,rfl⟩:=cD.mp hy;have hil:i<tur.length:=(aW.mp hkr).1;have hdrop:tur.drop i=(k,ring)::tur.drop (i+1):=by
    rw[eI hil];rw[ag hil]at hkr;rw[bw hkr]
   rw[hdrop]at hF;obtain⟨⟨⟨kin,r2,rnd,rsub,rcons⟩,rleast⟩,hF'⟩:=hF;have z2:TupAt K H b (ks.getD k.toNat dR):=z2;have z4:Paired (TupAt K H) rs2 (ring.map fun(x:Int)=>ks.getD x.toNat dR):=z4;have hLn:(yu (zm ks.length) (tur.take i)).Nodup:=(xbx _).sublist (jo _ _);have hLin:∀x∈yu (zm ks.length) (tur.take i),0≤x∧x<ks.length:=fun x hx=>xdJ (vk.mp hx).1;have inL:∀x∈ring,0≤x∧x<ks.length:=fun x hx=>hLin x (hleft x (rsub x hx));have et:tur.take (i+1)=tur.take i++[(k,ring)]:=by rw[cg,hkr];rfl
   have eL:yu (zm ks.length) (tur.take (i+1))=(yu (zm ks.length) (tur.take i)).filter fun x=>decide (x≠k):=by
    rw[et,xed];rfl
   have rl:ring.length≤60:=by
    have:=ub rnd (l₂:=zm ks.length) fun x hx=>(vk.mp (hleft x (rsub x hx))).1;rw[ab,c7]at this;lia
   rw[eL];generalize yu (zm ks.length) (tur.take i)=L at*;walk_at"w";refine⟨_,_,_,_,true,rfl,rfl,yG.tup (sG.at z1),rfl,?_⟩;walk_at"w";refine⟨by walk_at"no",fun _=>?_⟩;walk_at"w";refine⟨t0,_,rfl,.inr (SqT.of (sG.at z1)),?_⟩;walk_at"w";refine⟨by walk_at"no",fun _=>?_⟩;walk_at"w";refine⟨t0,_,_,.ref b,rfl,rfl,SqT.of (sG.at z1),rfl,?_⟩;walk_at"w";refine⟨t0,_,_,.ref l,rfl,rfl,SqT.of (sG.at z1),rfl,?_⟩;walk_at"w";refine⟨b,l,lf,rs2,us,ks,_,k,ring,rfl,z2.same sG,sG.at z3,L2.Paired.imp' (fun _ _ z=>TupAt.same z sG) z4,eG,hus,⟨ok.tk,ok.rise,inL,kin,r2,rl,rnd,fun x hx=>aG.mpr ⟨x,hleft x (rsub x hx),rfl⟩,rcons,rleast⟩,fun G2 sG2=>?_⟩;walk_at"w";refine⟨by walk_at"no",fun _=>?_⟩;walk_at"w";have s02:=sG.trans sG2;have eG2:=sG2.at eG;have hus2:=L2.Paired.imp' (fun _ _ z=>TupAt.same z sG2) hus;refine fF (.inl ⟨rfl,_,SqL.of eG2⟩) ?_;walk_at"w";refine⟨t0,_,_,.ref b,rfl,rfl,SqT.of (s02.at z1),rfl,?_⟩;walk_at"w";obtain⟨j,hj,hno,he⟩:=xfO hLn (hleft k (rsub k kin));refine⟨lf,_,_,(L.map fun(x:Int)=>ks.getD x.toNat dR).map xb.dat,(ks.getD k.toNat dR).dat,(ks.getD k.toNat dR).dat,j,rfl,rfl,eG2,ud hus2,(z2.same s02).rp,xaq _,zX _,?_,kN _ (vI _),fun i2 di hi2 hdi=>?_,?_⟩
   ·rw[bj,au,hj];rfl
   ·rw[bj,au]at hdi;obtain⟨x,hx2,rfl⟩:=cD.mp hdi;have hxk:=hno i2 x hi2 hx2;have hxL:=hLin x (aL hx2);obtain⟨to,st,c,e1,_⟩:=yS ok.tk hxL;obtain⟨to2,st2,c2,e2,_⟩:=yS ok.tk (inL k kin);show cm (ks.getD x.toNat dR).dat (ks.getD k.toNat dR).dat=false;cases hq:cm (ks.getD x.toNat dR).dat (ks.getD k.toNat dR).dat with
    |false=>rfl
    |true=>
     rw[e1,e2]at hq;exact absurd (xfN ok.rise hxL (inL k kin) (by rw[e1,e2,xjZ hq])) hxk
   ·refine⟨s02.put hlf,us.eraseIdx j,_,rfl,by rw[xj,xbk],?_,_,hF',fun x hx=>?_⟩
    ·rw[←he,←xbk];exact xbl j (L2.Paired.imp' (fun _ _ z=>TupAt.off2 z eG2) hus2)
    ·obtain⟨q1,q2⟩:=aE.mp hx;exact aE.mpr ⟨hleft x q1,q2⟩
  ·obtain⟨sG,us,x3,rfl,eG,hus,_⟩:=hP;rw[ab,tl,cO]at hus;walk_at"w";exact q lf us G sG hlf eG hus
end
section
variable {P:aF} {w:World} {K:ai} {mg:Str→Option Value} {base:Heap} {a:Adr}
theorem xgh(sg:List Int):bT (.tuple (sg.map cz))=true:=by
 unfold bT;have h1:bx (.tuple (sg.map cz))=true:=by unfold bx;exact hO sg
 have h2:bG (.tuple (sg.map cz))≤64:=by simp[bG,iA sg]
 rw[h1,decide_eq_true h2];rfl
def xlp(K:ai):Sp:=fun vs H Q _=>∃(t:Addr) (us:List Addr) (rs:List xb),vs=[.ref t]∧SqT K H t (us.map V.ref)∧Paired (TupAt K H) us rs∧(∀r∈rs,ym r)∧(rs.Pairwise fun r s=>r.to+(r.cnt:Int)<s.to)∧∀H',xc H H'→Q (.bl true) H'
theorem xbI(T:Txt K mg a):xG P w K mg base CX0 1 a.q0q a.zW ["_law_rows"] (xlp K):=by
 refine T.q0s.ok vp (fun vs H Q E h=>?_) (fun cdv A outer s H vs Q E hr h=>?_)
 ·obtain⟨t,us,rs,rfl,_⟩:=h;rfl
 ·obtain⟨t,us,rs,rfl,ht,hus,hpk,hpw,q⟩:=h;have nd:=vp.nd;refine⟨_,(xh (uY b8 rfl (yL (by rfl) T.q0O (xa (xo xq (by rfl) T.q0c xH (xa (cv 0) xf)) xf)) (yE (i:=1) nd rfl (aS rfl)) (xh (xT (PW.pt (zp (xC xmT (xr xA (xr xA (cv 0) (cv 1) (fun _ _=>rfl)) xg (fun _ _=>rfl)) xaE) (zp (zh (yv (xo yQ (by rfl) T.q0e xZ (xa (xr xA (xr xA (cv 0) (cv 1) (fun _ _=>rfl)) xg (fun _ _=>rfl)) (xa (uC (v:=.ty "tuple") (by rfl) T.q05 zu rfl) xf))))) (uW (xC (xhf hr.units) (xr xA (xr xA (cv 0) (cv 1) (fun _ _=>rfl)) xg (fun _ _=>rfl)) (yj xf)))))) (xi (xu zo)) xR)
  (xi (xT (PW.pt (ug (xC xeK (cv 1) xg) (ua (xC xl0 (xl xI (xr xA (xr xA (cv 0) (xl vw (cv 1) xg) (fun _ _=>rfl)) xg (fun _ _=>rfl)) (xo xq (by rfl) T.q0c xH (xa (xr xA (xr xA (cv 0) (xl vw (cv 1) xg) (fun _ _=>rfl)) xg (fun _ _=>rfl)) xf))) (xr xA (xr xA (cv 0) (cv 1) (fun _ _=>rfl)) xg (fun _ _=>rfl)))))) (xi (xu zo)) xR))))
  (xi (xu zo))),?_⟩
  have ul:us.length=rs.length:=hus.length;walk_at"w";refine⟨t,_,rfl,.inr ht,?_⟩;walk_at"w";generalize hn:zd 0 _ 1=n;have bn:n=rs.length:=by
   rw[←hn,ze,ab,ul];lia
  clear hn;refine vc (fun i σ G=>xc H G∧∃x1,σ=[some (.ref t),x1]) ⟨xc.refl _,_,rfl⟩ (fun j σ G hj hP=>?_) (fun σ G hP=>?_)
  ·obtain⟨sG,x1,rfl⟩:=hP;have hj':j<rs.length:=by lia
   have husG:=L2.Paired.imp' (fun _ _ z=>TupAt.same z sG) hus;have row:∀(i:Nat) (hi:i<rs.length),∃to sg u z,rs[i]= .put to sg∧sg≠[]∧us[i]? =some u∧G u=some (.tup [.str "put",.int to,.ref z])∧G z=some (.tup (sg.map V.int)):=fun i hi=>by
    obtain⟨u,hu,pu⟩:=um husG (ag hi);obtain⟨to,sg,e,h1,_⟩:=hpk _ (cN hi);rw[e]at pu;obtain⟨z,p1,p2⟩:=pu;exact⟨to,sg,u,z,e,h1,hu,p1,p2⟩
   obtain⟨to,sg,u,z,e1,hsg,hu,p1,p2⟩:=row j hj';have ej:(0:Int)+(j:Int)*1=(j:Int):=by lia
   have atc:atI (us.map V.ref) (0+(j:Int)*1)=some (.ref u):=by
    rw[ej];exact yd (by rw[au,hu];rfl)
   walk_at"w";refine⟨t,_,_,.ref u,rfl,rfl,sG.seqT ht,atc,?_⟩;walk_at"w";refine⟨u,_,_,.str "put",rfl,rfl,SqT.of p1,rfl,?_⟩;walk_at"w";refine⟨by walk_at"no",fun _=>?_⟩;walk_at"w";refine⟨t,_,_,.ref u,rfl,rfl,sG.seqT ht,atc,?_⟩;walk_at"w";refine⟨u,_,_,.ref z,rfl,rfl,SqT.of p1,rfl,?_⟩;walk_at"w";refine⟨_,_,_,_,true,rfl,rfl,yG.tup p2,rfl,?_⟩;walk_at"w";refine⟨by walk_at"no",fun _=>?_⟩;walk_at"w";refine⟨t,_,_,.ref u,rfl,rfl,sG.seqT ht,atc,?_⟩;walk_at"w";refine⟨u,_,_,.ref z,rfl,rfl,SqT.of p1,rfl,?_⟩;walk_at"w";refine⟨by walk_at"side",fun ev hev=>?_⟩;generalize hU:upd G ev _=G2;have g2:=xc.of_eq hev hU;have eev:=xm hU;clear hU;walk_at"w";refine⟨.tuple (sg.map cz),.tuple [],.tup (SqT.of (g2.at p2)) (.ints sg),.tup (SqT.of eev) .nil,?_,rfl,?_⟩
   ·exact xgh sg
   have hne:cm (.tuple (sg.map cz)) (.tuple [])=false:=by
    cases sg with
    |nil=>exact absurd rfl hsg
    |cons x r=>simp[cm,fc]
   rw[hne];walk_at"w";refine⟨by walk_at"no",fun _=>?_⟩;walk_at"w";refine⟨fun k1=>?_,fun _=>⟨by walk_at"no",fun _=>⟨sG.trans g2,_,rfl⟩⟩⟩;have hj0:0<j:=by have:=of_decide_eq_true k1;lia
   obtain⟨to0,sg0,u0,z0,f1,_,hu0,r1,r2⟩:=row (j - 1) (by lia);have atp:atI (us.map V.ref) (0+(j:Int)*1 - 1)=some (.ref u0):=by
    rw[show(0:Int)+(j:Int)*1 - 1=((j - 1:Nat):Int)by lia];exact yd (by rw[au,hu0];rfl)
   walk_at"w";refine⟨t,_,_,.ref u0,rfl,rfl,(sG.trans g2).seqT ht,atp,?_⟩;walk_at"w";refine⟨u0,_,_,.int to0,rfl,rfl,SqT.of (g2.at r1),rfl,?_⟩;walk_at"w";refine⟨t,_,_,.ref u0,rfl,rfl,(sG.trans g2).seqT ht,atp,?_⟩;walk_at"w";refine⟨u0,_,_,.ref z0,rfl,rfl,SqT.of (g2.at r1),rfl,?_⟩;walk_at"w";refine⟨z0,_,rfl,.inr (SqT.of (g2.at r2)),?_⟩;walk_at"w";refine⟨t,_,_,.ref u,rfl,rfl,(sG.trans g2).seqT ht,atc,?_⟩;walk_at"w";refine⟨u,_,_,.int to,rfl,rfl,SqT.of (g2.at p1),rfl,?_⟩;walk_at"w";have hap:=bc.mp hpw (j - 1) j (by lia) hj' (by lia);rw[e1,f1]at hap;have hap:to0+(sg0.length:Int)<to:=hap;refine⟨fun z=>?_,fun _=>⟨sG.trans g2,_,rfl⟩⟩;have:=of_decide_eq_true z;rw[ab]at this;lia
  ·obtain⟨sG,x1,rfl⟩:=hP;walk_at"w";exact q G sG
end
section
variable {P:aF} {w:World} {K:ai} {mg:Str→Option Value} {base:Heap} {a:Adr}
theorem xaC{es:List Int}{rs:List xb}{i:Nat}{r:xb}(h:rs[i]? =some r):xP es (rs.take (i+1))=xP es (rs.take i)++cellsOf es r:=by
 unfold xP;rw[cg,h,gp,aD,lH];simp
theorem xb1(es:List Int)(r:xb):(cellsOf es r).length=r.cnt:=by simp[cellsOf]
theorem xfQ{es:List Int}{rs:List xb}(i:Nat):(xP es (rs.take i)).length≤(xP es rs).length:=by
 have e:rs=rs.take i++rs.drop i:=(List.take_append_drop i rs).symm;have e2:xP es rs=xP es (rs.take i)++xP es (rs.drop i):=by
  unfold xP;rw[←lH,←aD,←e]
 rw[e2,ax];lia
theorem xar{H:Hp}:∀{ts:List Addr} {ps:List (Int×Int)},Paired (yM H) ts ps→Paired (fun t q=>H t=some (.tup q)) ts (ps.map fun q=>[V.int q.1,V.int q.2])∧Paired (xeq none) (ps.map fun q=>[V.int q.1,V.int q.2]) (ps.map (·.1))
 |_,_,.nil=>⟨.nil,.nil⟩
 |_,_,.cons h t=>⟨.cons h (xar t).1,.cons ⟨_,rfl⟩ (xar t).2⟩
def xj4(K:ai):Sp:=fun vs H Q _=>∃(t e:Addr) (us:List Addr) (rs:List xb) (es nw:List Int),vs=[.ref t,.ref e]∧H t=some (.tup (us.map V.ref))∧Paired (TupAt K H) us rs∧H e=some (.lst (es.map V.int))∧(∀r∈rs,Tells es nw r)∧rs.Pairwise ML.Off∧(xP es rs).length<64∧
 ∀(l:Addr) (ts:List Addr) (qs:List (Int×Int)) (H':Hp),xc H H'→H' l=some (.lst (ts.map V.ref))→Paired (yM H') ts qs→qs.Perm (xP es rs)→(qs.Pairwise fun x y=>x.1<y.1)→Q (.ref l) H'
theorem xj5(T:Txt K mg a):xG P w K mg base CX0 1 a.q1w a.xdv ["_law_rows","_law_elder_here"] (xj4 K):=by
 refine T.q1A.ok xfm (fun vs H Q E h=>?_) (fun cdv A outer s H vs Q E hr h=>?_)
 ·obtain⟨t,e,us,rs,es,nw,rfl,_⟩:=h;rfl
 ·obtain⟨t,e,us,rs,es,nw,rfl,ht,hus,he,htl,hoff,h64,q⟩:=h;have nd:=xfm.nd;refine⟨_,(xh (xt (i:=2) nd rfl (aS rfl) (yB xf))
  (xh (uY b8 rfl (xlE (cv 0)) (yE (i:=3) nd rfl (gf rfl)) (xh (xeL (xT (xC xkg (xr xA (cv 3) xg (fun _ _=>rfl)) xaE) (xi (xt (i:=4) nd rfl (gf rfl) (yK uf (by rfl) T.q1s uG (xa (xr xA (cv 3) xg (fun _ _=>rfl)) xf)))) (xi (xt (i:=4) nd rfl (gf rfl) (ya yw (cv 1) (xM (xr xA (cv 3) xg (fun _ _=>rfl))) (xM (xl xI (xr xA (cv 3) xg (fun _ _=>rfl)) (xr xA (cv 3) xg (fun _ _=>rfl)))))))))
  (xi (xt (i:=2) nd rfl (aS rfl) (xl vL (cv 2) (yq (yy (cap:=[3,4]) (ys:=["_law_row","_law_signs"]) rfl rfl rfl rfl rfl ⟨⟨rfl,rfl,.inl rfl⟩,⟨⟨rfl,rfl,.inl rfl⟩,trivial⟩⟩ (by decide+kernel)) rfl (yL (by rfl) T.q0O (xa (xo xq (by rfl) T.q0c xH (xa (cv 4) xf)) xf)) (fun _ _ _ _=>(yj (xa (xl xI (xr (xgy (K:=K) rfl) (cv 1) xg (fun _ _=>rfl)) (cv 0)) (xa (xr (jV (K:=K) rfl) (cv 2) (cv 0) (fun _ _=>rfl)) xf)))) (fun _ _ _ _=>yz)))))))
  (xi (xu (xo (vQ none) (by rfl) T.q1p va (xa (cv 2) xf)))))),?_⟩
  have ul:us.length=rs.length:=hus.length;walk_at"w";walk_at"ss";intro c0 hc0;generalize hUc0:upd H c0 _=H1;have sH1:=xc.of_eq hc0 hUc0;have ec0:=xm hUc0;clear hUc0;walk_at"w";refine⟨t,rfl,⟨_,SqT.of (sH1.at ht)⟩,?_⟩;refine xii (xs:=us.map V.ref) (fun i σ G=>xc H G∧∃(cl:Addr) (ts:List Addr) (x3 x4:Option V),σ=[some (.ref t),some (.ref e),some (.ref cl),x3,x4]∧G cl=some (.lst (ts.map V.ref))∧Paired (yM G) ts (xP es (rs.take i)))
   ⟨sH1,c0,[],_,_,rfl,ec0,.nil⟩ (fun i σ G _ hP=>SqT.of (hP.1.at ht)) (fun i x σ G hx hP=>?_) (fun σ G hP=>?_)
  ·obtain⟨sG,cl,ts,x3,x4,rfl,eG,hts⟩:=hP;rw[au]at hx;obtain⟨u,hu,rfl⟩:=cD.mp hx;obtain⟨r,hrr,pu⟩:=xU hus hu;have hrm:=aL hrr;obtain⟨t1,t2,t3,t4⟩:=htl r hrm;have hsl:=xb.sg_len t1 t2;have hcl:(xP es (rs.take i)).length+r.cnt<64:=by
    have:=xfQ (es:=es) (rs:=rs) (i+1);rw[xaC hrr,ax,xb1]at this;lia
   have tl:ts.length=(xP es (rs.take i)).length:=hts.length;have puG:=pu.same sG;walk_at"w";refine⟨fun σ' G'=>xc G G'∧∃sl,σ'=[some (.ref t),some (.ref e),some (.ref cl),some (.ref u),some (.ref sl)]∧G' sl=some (.lst ((r.sg es).map V.int)),?_,?_⟩
   ·cases r with
    |put to sg=>
     obtain⟨z,p1,p2⟩:=puG;refine⟨u,_,_,.str "put",rfl,rfl,SqT.of p1,rfl,?_⟩;walk_at"w";refine⟨fun _=>?_,by walk_at"no"⟩;walk_at"w";refine⟨u,_,_,.ref z,rfl,rfl,SqT.of p1,rfl,?_⟩;walk_at"w";refine⟨z,_,rfl,.inr (SqT.of p2),?_⟩;intro sl hsl;generalize hUsl:upd G sl _=G2;have sG2:=xc.of_eq hsl hUsl;have esl:=xm hUsl;clear hUsl;walk_at"w";exact⟨sG2,sl,rfl,esl⟩
    |take to st c=>
     have puG:G u=some (.tup [.str "take",.int to,.int st,.int c]):=puG;refine⟨u,_,_,.str "take",rfl,rfl,SqT.of puG,rfl,?_⟩;walk_at"w";refine⟨by walk_at"no",fun _=>?_⟩;walk_at"w";refine⟨u,_,_,.int st,rfl,rfl,SqT.of puG,rfl,?_⟩;walk_at"w";refine⟨_,rfl,?_⟩;walk_at"w";refine⟨u,_,_,.int st,rfl,rfl,SqT.of puG,rfl,?_⟩;walk_at"w";refine⟨u,_,_,.int c,rfl,rfl,SqT.of puG,rfl,?_⟩;walk_at"w";refine⟨_,rfl,?_⟩;walk_at"w";refine⟨e,_,rfl,SqL.of (sG.at he),?_⟩;intro sl hsl;generalize hUsl:upd G sl _=G2;have sG2:=xc.of_eq hsl hUsl;have esl:=xm hUsl;clear hUsl;walk_at"w";have st0:0≤st:=t1.2.1;have c0':1≤c:=t1.2.2;have hle:st+c≤es.length:=t2;refine⟨sG2,sl,rfl,?_⟩;rw[esl,yC,yo st0,yo (by lia)];show some (HO.lst (((es.drop (min st.toNat es.length)).take (min (st+c).toNat es.length - min st.toNat es.length)).map V.int))=some (HO.lst (((es.drop st.toNat).take c.toNat).map V.int))
     congr 4
     ·rw[bU (by lia),bU (by lia)];lia
     ·rw[bU (by lia)]
   ·rintro σ' G' ⟨sG',sl,rfl,esl⟩;have puG':=puG.same sG';have to_at:∃ys,SqT K G' u ys∧ys[1]? =some (V.int r.to):=by
     cases r with
     |put to sg=>obtain⟨z,p1,p2⟩:=puG';exact⟨_,SqT.of p1,rfl⟩
     |take to st c=>exact⟨_,SqT.of puG',rfl⟩
    obtain⟨ys,hys,hy1⟩:=to_at;walk_at"w";refine⟨sl,_,rfl,.inl (SqL.of esl),?_⟩;walk_at"w";rw[ab,hsl];have er:zd 0 (r.cnt:Int) 1=r.cnt:=by rw[ze];lia
    rw[er];refine xaR (fun j acc G3=>∃vs:List Addr,acc=vs.map V.ref∧Paired (yM G3) vs ((cellsOf es r).take j)) (by rw[ay];lia) ⟨[],rfl,.nil⟩ (fun j acc H3 H3' hj s3 s3' hP R hR=>?_) (fun D acc H9 H9' hD hD3 s9 s9' hP hl9 hv=>?_)
    ·obtain⟨vs,rfl,hvs⟩:=hP;have ej:(0:Int)+(j:Int)*1=(j:Int):=by lia
     have s33:=s3.trans s3';have hjs:(r.sg es)[j]? =some ((r.sg es).getD j 0):=by
      rw[bq,ag (by lia)];rfl
     walk_at"w";rw[ej];refine⟨u,_,_,.int r.to,rfl,rfl,s33.seqT hys,yd (j:=1) hy1,?_⟩;walk_at"w";refine⟨sl,_,_,.int ((r.sg es).getD j 0),rfl,rfl,SqL.of (s33.at esl),yd (by rw[au,hjs];rfl),?_⟩;walk_at"w";refine⟨by walk_at"side",fun p hp=>hR _ _ (xc.new hp) fun H6 sx kx=>⟨vs++[p],by simp,?_⟩⟩;have et:(cellsOf es r).take (j+1)=(cellsOf es r).take j++[(r.to+(j:Int),(r.sg es).getD j 0)]:=by
      rw[cg]
      congr 1
      unfold cellsOf;rw[au,fR hj];rfl
     rw[et];exact xV (L2.Paired.imp' (fun _ _ (z:yM H3 _ _)=>sx.at z) hvs) (kx p _ (.inl hp) xj)
    ·obtain⟨vs,rfl,hvs⟩:=hP;rw[bg (by rw[xb1];exact ao _)]at hvs;have hvs:=L2.Paired.imp' (fun _ _ (z:yM H9 _ _)=>s9'.at z) hvs;have s99:=s9.trans s9';rw[ab]at hl9;walk_at"w";refine⟨cl,D,_,_,rfl,rfl,(sG'.trans s99).at eG,hv,by rw[ab,ab,ay];lia,?_⟩;intro c2 hc2;generalize hUc2:upd H9' c2 _=G5;have sG5:=xc.of_eq hc2 hUc2;have ec2:=xm hUc2;clear hUc2;walk_at"w";rw[←aD]at ec2;refine⟨(sG.trans (sG'.trans s99)).trans sG5,c2,ts++vs,_,_,rfl,ec2,?_⟩;rw[xaC hrr];exact xbZ (L2.Paired.imp' (fun _ _ (z:yM G _ _)=>((sG'.trans s99).trans sG5).at z) hts) (L2.Paired.imp' (fun _ _ (z:yM H9' _ _)=>sG5.at z) hvs)
  ·obtain⟨sG,cl,ts,x3,x4,rfl,eG,hts⟩:=hP;rw[ab,ul,cO]at hts;have tl:=hts.length;walk_at"w";obtain⟨hd1,hd2⟩:=xar hts;refine⟨cl,ts,_,_,rfl,.inl (SqL.of eG),hd1,hd2,xb0 hoff,by lia,fun l pm hpm hpw hl=>?_⟩;have hpm':pm.Perm (aI (xP es rs).length):=by rw[←tl];exact hpm
   obtain⟨o1,o2⟩:=xct (d:=(0,0)) hpm' hpw;have snew:=xc.new (o:=HO.lst (pm.map fun i=>V.ref (ts.getD i 0))) hl;refine q l (pm.map fun i=>ts.getD i 0) (pm.map fun i=>(xP es rs).getD i (0,0)) _ (sG.trans snew) (by rw[xj,bj];rfl) ?_ o1 o2;exact L2.Paired.imp' (fun _ _ (z:yM G _ _)=>snew.at z) (jE hts hpm)
end
theorem shp{d:dF}(h1:bx d=true)(h2:bG d≤64):bT d=true:=by
 unfold bT;rw[h1,decide_eq_true h2];rfl
theorem xdK{α:Type}{f:α→dF}(h:∀x,bx (f x)=true):∀xs:List α,br (xs.map f)=true
 |[]=>by simp[br]
 |x::r=>by simp only[a9,br,h,xdK h r,gE]
theorem xbn{α:Type}{f:α→dF}{n:Nat}(h:∀x,bG (f x)≤n):∀xs:List α,bM (xs.map f)≤n
 |[]=>by simp[bM]
 |x::r=>by
  simp only[a9,bM];have:=h x;have:=xbn h r;lia
def pairD(q:Int×Int):dF:=.tuple [.int q.1,.int q.2]
theorem xfR(qs:List (Int×Int)):bT (.list (qs.map pairD))=true:=by
 refine shp ?_ ?_
 ·unfold bx;exact xdK (fun x=>by simp[pairD,bx,br]) qs
 ·have:=xbn (f:=pairD) (n:=1) (fun x=>by simp[pairD,bG,bM]) qs;unfold bG;lia
theorem xcv{K:ai}{H:Hp}:∀{ts:List Addr} {qs:List (Int×Int)},Paired (yM H) ts qs→Rps K H (ts.map V.ref) (qs.map pairD)
 |_,_,.nil=>.nil
 |_,_,.cons h t=>.cons (.tup (SqT.of h) (.cons (.int _) (.cons (.int _) .nil))) (xcv t)
def xby(x:xb×List xb):dF:=.tuple [x.1.dat,.list (x.2.map xb.dat)]
theorem xfS{K:ai}{H:Hp}:∀{ts:List Addr} {tn:List (xb×List xb)},Paired (ML.vB K H) ts tn→Rps K H (ts.map V.ref) (tn.map xby)
 |_,_,.nil=>.nil
 |_,_,.cons h t=>by
  obtain⟨b,l,us,z1,z2,z3,z4⟩:=h;exact .cons (.tup (SqT.of z1) (.cons z2.rp (.cons (.lst (SqL.of z3) (ud z4)) .nil))) (xfS t)
def xew(o n:Int)(rs:List xb)(tn:List (xb×List xb)):dF:=.tuple [.tuple [.int o,.int n,.tuple (rs.map xb.dat)],.list (tn.map xby)]
theorem xgi(o n:Int)(rs:List xb)(tn:List (xb×List xb)):bT (xew o n rs tn)=true:=by
 have c1:=zX rs;have d1:=vz rs;have c2:br (tn.map xby)=true:=xdK (fun x=>by simp[xby,bx,br,vI,zX]) tn;have d2:bM (tn.map xby)≤4:=xbn (fun x=>by
  have:=xba x.1;have:=vz x.2;simp only[xby,bG,bM];lia) tn
 refine shp ?_ ?_
 ·simp[xew,bx,br,c1,c2]
 ·simp only[xew,bG,bM];lia
theorem xgj(rs:List xb):bT (.list (rs.map xb.dat))=true:=xgc rs
theorem xgk(o n:Int):bT (.tuple [.int o,.int n])=true:=shp (by simp[bx,br]) (by simp[bG,bM])
theorem vB.same2{K:ai}{G G':Hp}{t:Addr}{x:xb×List xb}(h:ML.vB K G t x)(s:xc G G'):ML.vB K G' t x:=by
 obtain⟨b,l,us,z1,z2,z3,z4⟩:=h;exact⟨b,l,us,s.at z1,z2.same s,s.at z3,L2.Paired.imp' (fun _ _ w=>TupAt.same w s) z4⟩
theorem xi9{K:ai}{G:Hp}{l a b:Addr}{xs ys:List Int}(h:G l=some (.lst [.ref a,.ref b]))(ha:G a=some (.lst (xs.map V.int)))(hb:G b=some (.lst (ys.map V.int))):Rp K G (.ref l) (dLL [xs,ys]):=
 .lst (SqL.of h) (.cons (.ints (SqL.of ha)) (.cons (.ints (SqL.of hb)) .nil))
def xmD:xb→List V
 | .take to st c=>[.str "take",.int to,.int st,.int c]
 | .put _ _=>[]
theorem xas{K:ai}{H:Hp}:∀{ts:List Addr} {rs:List xb},Paired (TupAt K H) ts rs→(∀r∈rs,r.isTake=true)→Paired (fun t q=>H t=some (.tup q)) ts (rs.map xmD)∧Paired (xeq (some "take")) (rs.map xmD) (rs.map xb.to)
 |_,_,.nil,_=>⟨.nil,.nil⟩
 |t::ts,r::rs,.cons h x,k=>by
  obtain⟨i1,i2⟩:=xas x fun r hr=>k r (aq _ hr);have hk:=k r aA;cases r with
  |put _ _=>cases hk
  |take to st c=>exact⟨.cons h i1,.cons ⟨_,rfl⟩ i2⟩
theorem xja{ks:List xb}(h:ks.Pairwise fun r r'=>r.to<r'.to){x y:Int}(hx:0≤x∧x<ks.length)(hy:0≤y∧y<ks.length)(e:(ks.getD x.toNat dR).to=(ks.getD y.toNat dR).to):x=y:=by
 have hx':x.toNat<ks.length:=by lia
 have hy':y.toNat<ks.length:=by lia
 have e1:ks.getD x.toNat dR=ks[x.toNat]:=by simp[aX,hx']
 have e2:ks.getD y.toNat dR=ks[y.toNat]:=by simp[aX,hy']
 rw[e1,e2]at e;have p:=bc.mp h;rcases c8 x.toNat y.toNat with z|z|z
 ·have:=p _ _ hx' hy' z;lia
 ·lia
 ·have:=p _ _ hy' hx' z;lia
noncomputable def xdL(H:Hp)(o:Addr):Bool:=open Classical in decide (∃to st c:Int,H o=some (.tup [.str "take",.int to,.int st,.int c]))
theorem xgS{K:ai}{H:Hp}{o:Addr}{r:xb}(h:TupAt K H o r):xdL H o=r.isTake:=by
 cases r with
 |take to st c=>unfold xdL;exact@decide_eq_true _ (e9 _) ⟨to,st,c,h⟩
 |put to sg=>
  unfold xdL;refine@decide_eq_false _ (e9 _) ?_;rintro⟨to2,st2,c2,h2⟩;obtain⟨u,h1,_⟩:=h;rw[h1]at h2;injection h2 with h2;injection h2 with h2;have:=congrArg cn h2;simp at this
structure Facts(es nw:List Int)(rs0 rs:List xb)(ord:List Int)(tur:List (Int×List Int))(J:List xb):Prop where
 rings:xi6 (rs0.filter xb.isTake) tur
 eq:rs=(ord.map fun x=>(rs0.filter xb.isTake).getD x.toNat dR)++J
 put:∀r∈J,ym r
 apart:J.Pairwise fun r s=>r.to+(r.cnt:Int)<s.to
 left:(yu (zm (rs0.filter xb.isTake).length) tur).Perm ord
 tells:∀r∈rs,Tells es nw r
 off:rs.Pairwise ML.Off
 cov:∀j,j<nw.length→∃r∈rs,yp r j
 few:rs.length≤60
theorem xj6{es nw:List Int}{least:Int}{rs:List xb}{tn:List (xb×List xb)}(he:es.length≤60)(hn:nw.length≤60)(hb:Bnd nw)(h:ML.vj es nw least rs tn):
  ∃(rs0:List xb) (b:Bool) (ord:List Int) (tur:List (Int×List Int)) (J:List xb),ML.xD es nw least 0 false rs0 nw.length b∧tn=tur.map (ML.xbw (rs0.filter xb.isTake))∧Facts es nw rs0 rs ord tur J:=by
 obtain⟨rs0,b,ord,tur,pm,r,g,p,s,e,rfl⟩:=h;obtain⟨m1,m2,m3,m4,m5,m6,m7,m8,m9⟩:=(ML.xgN he hn hb r g).all pm p s rs e;have h1:=r.few;have h2:(rs0.filter xb.isTake).length≤rs0.length:=bR _ _;have hp:=(g.perm (xbx _)).length_eq;rw[ax,ab,ab,c7]at hp;refine⟨rs0,b,ord,tur,_,r,rfl,⟨⟨fun r hr=>(aE.mp hr).2,by lia,(xdI r).2.filter _,xhM (fun r hr=>(aE.mp hr).2) g fun x hx=>xdJ hx,by lia⟩,e,m9,m8,xhN g (xbx _),fun r hr=>(m2 r hr).2.2,m6,m5,m1⟩⟩
section
variable {P:aF} {w:World} {K:ai} {mg:Str→Option Value} {base:Heap} {a:Adr}
def xfT(K:ai):Sp:=fun vs H Q _=>∃(l:Addr) (ns:List Int),vs=[.ref l]∧SqL K H l (ns.map V.int)∧ns.length≤63∧H yD=some (.tbl zf)∧H yl=some (.tbl yN)∧H zz=some (.tbl ve)∧∀H',Q (.bl true) H'
theorem jL(T:Txt K mg a):xG P w K mg base CX0 6 a.q1q a.xaY ["elder","newer","least"] (ML.xgO K):=ML.jL T
theorem xcs(T:Txt K mg a):xG P w K mg base CX0 6 a.q1g a.jJ ["elder","newer","least"] (ML.xfE K):=ML.xcs T
def xat(K:ai)(G:Hp)(t p tt tr:Addr)(us trs:List Addr)(es nw:List Int)(rs:List xb)(tn:List (xb×List xb)):Prop:=G t=some (.tup [.ref p,.ref tr])∧G p=some (.tup [.int es.length,.int nw.length,.ref tt])∧G tt=some (.tup (us.map V.ref))∧Paired (TupAt K G) us rs∧G tr=some (.lst (trs.map V.ref))∧Paired (ML.vB K G) trs tn
theorem xat.same{K:ai}{G G':Hp}{t p tt tr:Addr}{us trs:List Addr}{es nw:List Int}{rs:List xb}{tn:List (xb×List xb)}(h:xat K G t p tt tr us trs es nw rs tn)(s:xc G G'):xat K G' t p tt tr us trs es nw rs tn:=by
 obtain⟨a1,a2,a3,a4,a5,a6⟩:=h;exact⟨s.at a1,s.at a2,s.at a3,L2.Paired.imp' (fun _ _ z=>TupAt.same z s) a4,s.at a5,L2.Paired.imp' (fun _ _ z=>vB.same2 z s) a6⟩
theorem xat.rp{K:ai}{G:Hp}{t p tt tr:Addr}{us trs:List Addr}{es nw:List Int}{rs:List xb}{tn:List (xb×List xb)}(h:xat K G t p tt tr us trs es nw rs tn){q:Addr}(hq:G q=some (.tup [.ref p,.ref tr])):Rp K G (.ref q) (xew es.length nw.length rs tn):=by
 obtain⟨a1,a2,a3,a4,a5,a6⟩:=h;exact .tup (SqT.of hq) (.cons (.tup (SqT.of a2) (.cons (.int _) (.cons (.int _) (.cons (.tup (SqT.of a3) (ud a4)) .nil)))) (.cons (.lst (SqL.of a5) (xfS a6)) .nil))
theorem xmE(T:Txt K mg a):xG P w K mg base CX0 7 a.q1I a.xhv ["_law_script"] (xfT K):=by
 refine T.xer.ok xiT (fun vs H Q E h=>?_) (fun cdv A outer s H vs Q E hr h=>?_)
 ·obtain⟨l,ns,rfl,_⟩:=h;rfl
 ·obtain⟨l,ns,rfl,hl,hns,hPe,hPo,hPj,q⟩:=h;have nd:=xiT.nd;refine⟨_,(xh (xt (i:=1) nd rfl (aS rfl) (xx (xjV T) (hr.mono (by decide)) (by rfl) T.xk3 T.q1x.kp T.xk2 .nil xw (xa (cv 0) xf)))
  (xh (xt (i:=2) nd rfl (gf rfl) (xx (xjX T) (hr.mono (by decide)) (by rfl) T.xk5 T.q1y.kp T.xk4 .nil xw (xa (cv 0) (xa (cv 1) xf))))
  (xh (xt (i:=3) nd rfl (aS rfl) (xl xI xg (xl xS (xl yg (xx (yO T) (hr.mono (by decide)) (by rfl) T.za T.q0m.kp T.yZ .nil xw (xa (cv 0) (xa xg xf))) xg) xg)))
  (xh (xt (i:=4) nd rfl (aS rfl) (yB (xa (yK uf (by rfl) T.q1s uG (xa (cv 1) xf)) (xa (yK uf (by rfl) T.q1s uG (xa (cv 2) xf)) xf))))
  (xh (xeL (xT (xC zc (xl xS (xx (yO T) (hr.mono (by decide)) (by rfl) T.za T.q0m.kp T.yZ .nil xw (xa (cv 0) (xa xg xf))) xg) xg) (xh (xt (i:=3) nd rfl (aS rfl) xg)
  (xi (xt (i:=5) nd rfl (aS rfl) (xx (dvs:=[.int 6]) (jL T) (hr.mono (by decide)) (by rfl) T.xff T.vg.kp T.xdA (.cons ⟨_,rfl⟩ .nil) xw (xa (xr xN (cv 4) xg (fun _ _=>rfl)) (xa (xr xN (cv 4) xg (fun _ _=>rfl)) xf)))))) (xi (xt (i:=5) nd rfl (aS rfl) (xx (jL T) (hr.mono (by decide)) (by rfl) T.xff T.vg.kp T.xcO .nil xw (xa (xr xN (cv 4) xg (fun _ _=>rfl)) (xa (xr xN (cv 4) xg (fun _ _=>rfl)) (xa (cv 3) xf))))))))
  (xh (xT (PW.pt (zp (zh (yv (xo yQ (by rfl) T.q0e xZ (xa (cv 5) (xa (uC (v:=.ty "tuple") (by rfl) T.q05 zu rfl) xf))))) (zp (xC xen (xo xq (by rfl) T.q0c xH (xa (cv 5) xf)) xg) (uW (xC (xcE hr.units) (cv 4) (yB (xa (cv 1) (xa (cv 2) xf)))))))) (xi (xu zo)) xR)
  (xh (xlD (cv 5) (xhS rfl (jO (yE (i:=6) nd rfl (aS rfl)) (jO (yE (i:=7) nd rfl (aS rfl)) xgl))))
  (xh (xT (PW.pt (zp (zh (yv (xo yQ (by rfl) T.q0e xZ (xa (cv 6) (xa (uC (v:=.ty "tuple") (by rfl) T.q05 zu rfl) xf))))) (zp (xC (xcE hr.units) (ya xh3 (cv 6) yU (xM xg)) (yj (xa (xo xq (by rfl) T.q0c xH (xa (cv 1) xf)) (xa (xo xq (by rfl) T.q0c xH (xa (cv 2) xf)) xf)))) (uW (zh (yv (xo yQ (by rfl) T.q0e xZ (xa (xr xA (cv 6) xg (fun _ _=>rfl)) (xa (uC (v:=.ty "tuple") (by rfl) T.q05 zu rfl) xf))))))))) (xi (xu zo)) xR)
  (xh (xt (i:=8) nd rfl (aS rfl) (xx (xbm T) (hr.mono (by decide)) (by rfl) T.xbF T.q0k.kp T.xbE .nil xw (xa (cv 7) (xa (yq (yy (cap:=[]) (ys:=[]) rfl rfl rfl rfl rfl trivial (by decide+kernel)) rfl (yi (xx (xcs T) (hr.mono (by decide)) (by rfl) T.xk1 T.vH.kp T.xdz .nil xw (xa (cv 1) (xa (cv 2) (xa (cv 3) xf))))) (fun _ _ _ _=>(cv 0)) (fun _ _ _ _=>(vE (xC xkg (xr (xgy (K:=K) rfl) (cv 0) xg (fun _ _=>rfl)) xaE)))) xf))))
  (xh (xT (PW.pt (zp (xih (cv 8)) (uW (xC (xcE hr.units) (xo (vQ (some "take")) (by rfl) T.q1p va (xa (ya xgF (xr xA (cv 6) xg (fun _ _=>rfl)) yU (xM (xo xq (by rfl) T.q0c xH (xa (cv 8) xf)))) xf)) (xo (vQ (some "take")) (by rfl) T.q1p va (xa (cv 8) xf)))))) (xi (xu zo)) xR)
  (xh (xT (zh (yv (xx (xbI T) (hr.mono (by decide)) (by rfl) T.xcm T.q0s.kp T.xcl .nil xw (xa (ya xgF (xr xA (cv 6) xg (fun _ _=>rfl)) (xM (xo xq (by rfl) T.q0c xH (xa (cv 8) xf))) yU) xf)))) (xi (xu zo)) xR)
  (xh (xT (xC (xcE hr.units) (xx (xj5 T) (hr.mono (by decide)) (by rfl) T.xk9 T.q1A.kp T.xk8 .nil xw (xa (xr xA (cv 6) xg (fun _ _=>rfl)) (xa (cv 1) xf))) (yq (yy (cap:=[2]) (ys:=["_law_newer_here"]) rfl rfl rfl rfl rfl ⟨⟨rfl,rfl,.inl rfl⟩,trivial⟩ (by decide+kernel)) rfl (yL (by rfl) T.q0O (xa (xo xq (by rfl) T.q0c xH (xa (cv 2) xf)) xf)) (fun _ _ _ _=>(yj (xa (cv 0) (xa (xr (jV (K:=K) rfl) (cv 1) (cv 0) (fun _ _=>rfl)) xf)))) (fun _ _ _ _=>yz))) (xi (xu zo)) xR)
  (xi (xu (xaI (xhf hr.units) (xx (jL T) (hr.mono (by decide)) (by rfl) T.xff T.vg.kp T.xcO .nil xw (xa (xr xN (cv 4) xg (fun _ _=>rfl)) (xa (xr xN (cv 4) xg (fun _ _=>rfl)) (xa (cv 3) xf)))) (yj (xa (cv 6) (xa (cv 7) xf)))))))))))))))))),?_⟩
  walk_at"w";refine⟨l,ns,rfl,hl,fun e es H1 s1 he0 he hel hbe=>?_⟩;walk_at"w";refine⟨l,e,ns,es,rfl,s1.seq hl,hns,he,hel,hbe,fun n nw H2 s2 hn0 hn hnl hbn=>?_⟩;have s02:xc H H2:=s1.trans s2;walk_at"w";refine⟨l,ns,1,rfl,s02.seq hl,by decide,?_⟩;walk_at"w";walk_at"ss";have k0:=bo (cellAt ns 1 / 2) (show(12:Int)≠0 by decide);refine⟨e,_,rfl,.inl (SqL.of (s2.at he)),?_⟩;intro h0 hh0;generalize hUh0:upd H2 h0 _=H3;have sH3:=xc.of_eq hh0 hUh0;have eh0:=xm hUh0;clear hUh0;walk_at"w";refine⟨n,_,rfl,.inl (SqL.of (sH3.at hn)),?_⟩;intro h1 hh1;generalize hUh1:upd H3 h1 _=H4;have sH4:=xc.of_eq hh1 hUh1;have eh1:=xm hUh1;clear hUh1;walk_at"w";walk_at"ss";intro hd hhd;generalize hUhd:upd H4 hd _=H5;have sH5:=xc.of_eq hhd hUhd;have ehd:=xm hUhd;clear hUhd;walk_at"w";have s25:=sH3.trans (sH4.trans sH5);have he5:=s25.at (s2.at he)
  have hn5:=s25.at hn;have eh0:=(sH4.trans sH5).at eh0;have eh1:=sH5.at eh1;have s05:=s02.trans s25;clear sH3 sH4 sH5 hh0 hh1;refine⟨fun σ' G=>xc H5 G∧∃(least:Int) (t p tt tr:Addr) (us trs:List Addr) (rs:List xb) (tn:List (xb×List xb)),σ'=[some (.ref l),some (.ref e),some (.ref n),some (.int least),some (.ref hd),some (.ref t),none,none,none]∧1≤least∧xat K G t p tt tr us trs es nw rs tn∧ML.vj es nw least rs tn,?_,?_⟩
  ·walk_at"w";refine⟨l,ns,1,rfl,s05.seq hl,by decide,?_⟩;walk_at"w";walk_at"ss";refine⟨fun e1=>?_,fun e1=>?_⟩
   ·walk_at"w";refine⟨hd,_,_,.ref h0,rfl,rfl,SqL.of ehd,rfl,?_⟩;walk_at"w";refine⟨hd,_,_,.ref h1,rfl,rfl,SqL.of ehd,rfl,?_⟩;walk_at"w";refine⟨h0,h1,es,nw,6,rfl,by decide,s05.at hPe,s05.at hPo,s05.at hPj,eh0,eh1,by lia,hnl,hbn,fun t p tt tr us trs rs tn G sG et ep ett hus etr htr hm=>?_⟩;walk_at"w";exact⟨sG,6,t,p,tt,tr,us,trs,rs,tn,rfl,by decide,⟨et,ep,ett,hus,etr,htr⟩,hm⟩
   ·walk_at"w";refine⟨hd,_,_,.ref h0,rfl,rfl,SqL.of ehd,rfl,?_⟩;walk_at"w";refine⟨hd,_,_,.ref h1,rfl,rfl,SqL.of ehd,rfl,?_⟩;walk_at"w";refine⟨h0,h1,es,nw,_,rfl,by lia,s05.at hPe,s05.at hPo,s05.at hPj,eh0,eh1,by lia,hnl,hbn,fun t p tt tr us trs rs tn G sG et ep ett hus etr htr hm=>?_⟩;walk_at"w";exact⟨sG,_,t,p,tt,tr,us,trs,rs,tn,rfl,by lia,⟨et,ep,ett,hus,etr,htr⟩,hm⟩
  rintro σ' G ⟨sG,least,t,p,tt,tr,us,trs,rs,tn,rfl,hls,Z,hm⟩;obtain⟨rs0,b0,ord,tur,J,hri,rfl,F⟩:=xj6 (by lia) hnl hbn hm;have hul:us.length=rs.length:=Z.2.2.2.1.length;obtain⟨Frings,Feq,Fput,Fapart,Fleft,Ftells,Foff,Fcov,few⟩:=F;have hLl:=Fleft.length_eq;walk_at"w";refine⟨_,_,_,_,true,rfl,rfl,yG.tup Z.1,rfl,?_⟩;walk_at"w";refine⟨by walk_at"no",fun _=>?_⟩;walk_at"w";refine⟨t,_,rfl,.inr (SqT.of Z.1),?_⟩;walk_at"w";refine⟨by walk_at"no",fun _=>?_⟩;walk_at"w";walk_at"ss";intro z hz;generalize hUz:upd G z _=G1;have sG1:=xc.of_eq hz hUz;have ez:=xm hUz;clear hUz;walk_at"w";have t1:=sG.trans sG1;refine xjo (xi9 (t1.at ehd) (t1.at eh0) (t1.at eh1)) (xi9 ez (t1.at he5) (t1.at hn5)) ?_;walk_at"w";rw[decide_eq_true rfl];refine⟨by walk_at"no",fun _=>?_⟩;have Z:=Z.same sG1;walk_at"w";refine⟨t,_,rfl,SqT.of Z.1,rfl,_,_,rfl,_,_,rfl,rfl,?_⟩;walk_at"w";refine⟨_,_,_,_,true,rfl,rfl,yG.tup Z.2.1,rfl,?_⟩;walk_at"w";refine⟨by walk_at"no",fun _=>?_⟩;walk_at"w";refine⟨2,rfl,?_⟩;walk_at"w";refine⟨p,_,rfl,SqT.of Z.2.1,fun z=>absurd z.2 (show¬HT.sIx 3 3 (some 2)=3 by decide),?_⟩;intro c2 hc2;generalize hUc2:upd G1 c2 _=G2;have sG2:=xc.of_eq hc2 hUc2;have ec2:=xm hUc2;clear hUc2;walk_at"w";refine⟨e,_,rfl,.inl (SqL.of ((t1.trans sG2).at he5)),?_⟩;walk_at"w";refine⟨n,_,rfl,.inl (SqL.of ((t1.trans sG2).at hn5)),?_⟩;walk_at"w";rw[ab,ab];refine⟨by walk_at"side",fun c3 hc3=>?_⟩;generalize hU:upd G2 c3 _=G3;have g3:=xc.of_eq hc3 hU;have ec3:=xm hU;clear hU;walk_at"w";refine jU (f:=fun b=> !b) (.tup (SqT.of (g3.at ec2)) (.cons (.int _) (.cons (.int _) .nil))) (.tup (SqT.of ec3) (.cons (.int _) (.cons (.int _) .nil))) (xgk _ _) ?_;walk_at"w";refine⟨by walk_at"no",fun _=>?_⟩;have t3:=t1.trans (sG2.trans g3);have Z:=Z.same (sG2.trans g3);walk_at"w";refine⟨p,_,_,.ref tt,rfl,rfl,SqT.of Z.2.1,rfl,?_⟩;walk_at"w";refine⟨_,_,_,_,true,rfl,rfl,yG.tup Z.2.2.1,rfl,?_⟩;walk_at"w";refine⟨by walk_at"no",fun _=>?_⟩;walk_at"w";refine⟨e,n,es,nw,least,rfl,(s05.trans t3).at hPe,t3.at he5,t3.at hn5,by lia,by lia,hls,fun fl ts rs1 b1 G4 s4 hfl efl hts1 hri1=>?_⟩;obtain rfl:=hri1.uniq hri;have tsl:=hts1.length;have fw:=hri.few;walk_at"w";refine⟨fl,rfl,⟨_,SqL.of efl⟩,?_⟩;refine uq (fun v=>match v with| .ref o=>xdL G4 o|_=>false) id (SqL.of efl) (by rw[ab,ay];lia) (fun v G5 hv s5 R hR=>?_) (fun v G5 hv _ s5 R hR=>?_) (fun tk G5 htk s5 etk=>?_)
  ·obtain⟨o,ho,rfl⟩:=aG.mp hv;obtain⟨r,_,hT⟩:=Paired.mem hts1 ho;have hk:=hR G5 (xc.refl _);dsimp only at hk;rw[xgS hT]at hk;cases r with
   |take to st c=>
    walk_at"w";exact⟨o,_,_,.str "take",rfl,rfl,SqT.of (s5.at hT),rfl,hk⟩
   |put to sg=>
    obtain⟨u,p1,p2⟩:=hT;walk_at"w";exact⟨o,_,_,.str "put",rfl,rfl,SqT.of (s5.at p1),rfl,hk⟩
  ·exact hR _ (xc.refl _)
  have etk:G5 tk=some (.lst ((ts.filter fun o=>xdL G4 o).map V.ref)):=by rw[etk,ko,fW];rfl
  have hpt:=ML.zi (p:=fun o=>xdL G4 o) (q:=xb.isTake) hts1 fun x y z=>xgS z;have Z:=Z.same (s4.trans s5);have t5:=t3.trans (s4.trans s5);walk_at"w";refine⟨tr,tk,trs,_,rs1.filter xb.isTake,tur,rfl,Z.2.2.2.2.1,Z.2.2.2.2.2,etk,L2.Paired.imp' (fun _ _ z=>TupAt.same z s5) hpt,Frings,fun lf ls G6 s6 hlf elf hls6=>?_⟩;have Z:=Z.same s6;have t6:=t5.trans s6;have lsl:=hls6.length;rw[ab]at lsl;have ordl:ord.length≤rs.length:=by rw[Feq,ax,ab];lia
  generalize hks:rs1.filter xb.isTake=ks at*;have e1:rs.take ord.length=ord.map fun(x:Int)=>ks.getD x.toNat dR:=by
   rw[Feq,List.take_left' (by rw[ab])]
  have e2:rs.drop ord.length=J:=by
   rw[Feq,List.drop_left' (by rw[ab])]
  have hLn:(yu (zm ks.length) tur).Nodup:=(xbx _).sublist (jo _ _);have hLin:∀x∈yu (zm ks.length) tur,0≤x∧x<ks.length:=fun x hx=>xdJ (vk.mp hx).1;have hOn:ord.Nodup:=Fleft.nodup_iff.mp hLn;have hOin:∀x∈ord,0≤x∧x<ks.length:=fun x hx=>hLin x (Fleft.mem_iff.mpr hx);have tkAll:∀(M:List Int),(∀x∈M,0≤x∧x<ks.length)→∀r∈M.map fun(x:Int)=>ks.getD x.toNat dR,r.isTake=true:=fun M hM r hr=>by
   obtain⟨x,hx,rfl⟩:=aG.mp hr;obtain⟨to,st,c,e,_⟩:=yS Frings.tk (hM x hx);rw[e];rfl
  have ndAll:∀(M:List Int),M.Nodup→(∀x∈M,0≤x∧x<ks.length)→((M.map fun(x:Int)=>ks.getD x.toNat dR).map xb.to).Nodup:=fun M h1 hM=>by
   rw[bj];exact xbj h1 fun x hx y hy e=>xja Frings.rise (hM x hx) (hM y hy) e
  walk_at"w";refine⟨by walk_at"no",fun _=>?_⟩;walk_at"w";refine⟨p,_,_,.ref tt,rfl,rfl,SqT.of Z.2.1,rfl,?_⟩;walk_at"w";refine⟨lf,_,rfl,.inl (SqL.of elf),?_⟩;walk_at"w";refine⟨_,rfl,?_⟩;walk_at"w";refine⟨tt,_,rfl,SqT.of Z.2.2.1,fun sl G7 s7 esl=>?_⟩;rw[ab,lsl,hLl,xll,←ll]at esl;have Z:=Z.same s7;have t7:=t6.trans s7;have hsl:=xbY ord.length Z.2.2.2.1;rw[e1]at hsl;have hsll:=hsl.length;rw[ab]at hsll;obtain⟨q1,q2⟩:=xas hsl (tkAll ord hOin);walk_at"w";refine⟨sl,_,_,_,rfl,.inr esl,q1,q2,ndAll ord hOn hOin,by lia,fun l1 pm1 hp1 hw1 hl1=>?_⟩;generalize hU:upd G7 l1 _=G8;have g8:=xc.of_eq hl1 hU;have el1:=xm hU;clear hU;have hls8:=L2.Paired.imp' (fun _ _ z=>TupAt.same z (s7.trans g8)) hls6;obtain⟨q3,q4⟩:=xas hls8 (tkAll _ hLin);walk_at"w";refine⟨lf,_,_,_,rfl,.inl (SqL.of ((s7.trans g8).at elf)),q3,q4,ndAll _ hLn hLin,by lia,fun l2 pm2 hp2 hw2 hl2=>?_⟩;generalize hU:upd G8 l2 _=G9;have g9:=xc.of_eq hl2 hU;have el2:=xm hU;clear hU;have hp1':pm1.Perm (aI (ord.map fun(x:Int)=>ks.getD x.toNat dR).length):=by rw[ab,←hsll];exact hp1
  have hp2':pm2.Perm (aI ((yu (zm ks.length) tur).map fun(x:Int)=>ks.getD x.toNat dR).length):=by rw[ab,←lsl];exact hp2
  obtain⟨o1,o2⟩:=xct (d:=dR) hp1' hw1;obtain⟨o3,o4⟩:=xct (d:=dR) hp2' hw2;have eAB:=jD (o1.trans ((Fleft.symm.map _).trans o3.symm)) o2 o4;have d1:=jE (x:=0) (y:=dR) hsl hp1;have d2:=jE (x:=0) (y:=dR) hls8 hp2;rw[eAB]at d1;walk_at"w";refine jU (f:=fun b=> !b) (.lst (SqL.of (g9.at el1)) ?_) (.lst (SqL.of el2) ?_) (xgj (pm2.map fun i=>((yu (zm ks.length) tur).map fun(x:Int)=>ks.getD x.toNat dR).getD i dR)) ?_
  ·have:=ud (L2.Paired.imp' (fun _ _ z=>TupAt.same z (g8.trans g9)) d1);rw[bj]at this;exact this
  ·have:=ud (L2.Paired.imp' (fun _ _ z=>TupAt.same z g9) d2);rw[bj]at this;exact this
  walk_at"w";refine⟨by walk_at"no",fun _=>?_⟩;have t9:=t7.trans (g8.trans g9);have Z:=Z.same (g8.trans g9);walk_at"w";refine⟨p,_,_,.ref tt,rfl,rfl,SqT.of Z.2.1,rfl,?_⟩;walk_at"w";refine⟨lf,_,rfl,.inl (SqL.of ((s7.trans (g8.trans g9)).at elf)),?_⟩;walk_at"w";refine⟨_,rfl,?_⟩;walk_at"w";refine⟨tt,_,rfl,SqT.of Z.2.2.1,fun sr G10 s10 esr=>?_⟩;rw[ab,lsl,hLl,xea,←iC]at esr;have Z:=Z.same s10;have hsr:=xbX ord.length Z.2.2.2.1;rw[e2]at hsr;walk_at"w";refine⟨sr,_,J,rfl,esr,hsr,Fput,Fapart,fun G11 s11=>?_⟩;have Z:=Z.same s11;have t11:=t9.trans (s10.trans s11);walk_at"w";refine⟨by walk_at"no",fun _=>?_⟩;walk_at"w";refine⟨p,_,_,.ref tt,rfl,rfl,SqT.of Z.2.1,rfl,?_⟩;walk_at"w";have cp:=xhO Foff Ftells Fcov;have cl:=cp.length_eq;have cnl:(zj nw).length=nw.length:=by simp[zj]
  refine⟨tt,e,us,rs,es,nw,rfl,Z.2.2.1,Z.2.2.2.1,t11.at he5,Ftells,Foff,by lia,fun cc cts qs G12 s12 ecc hcts hqp hqw=>?_⟩;have eqs:=jD (hqp.trans cp) hqw (xgg nw);subst eqs;have t12:=t11.trans s12;walk_at"w";refine⟨n,_,rfl,.inl (SqL.of (t12.at hn5)),?_⟩;walk_at"w";rw[ab];have er:zd 0 (nw.length:Int) 1=nw.length:=by rw[ze];lia
  rw[er];refine xaR (fun j acc G3=>∃vs:List Addr,acc=vs.map V.ref∧Paired (yM G3) vs ((zj nw).take j)) (by rw[ay];lia) ⟨[],rfl,.nil⟩ (fun j acc H3 H3' hj s3 s3' hP R hR=>?_) (fun D acc H9 H9' hD hD3 s9 s9' hP hl9 hv=>?_)
  ·obtain⟨vs,rfl,hvs⟩:=hP;have ej:(0:Int)+(j:Int)*1=(j:Int):=by lia
   have hjs:nw[j]? =some (nw.getD j 0):=by
    rw[bq,ag hj];rfl
   walk_at"w";rw[ej];refine⟨n,_,_,.int (nw.getD j 0),rfl,rfl,SqL.of ((t12.trans (s3.trans s3')).at hn5),yd (by rw[au,hjs];rfl),?_⟩;walk_at"w";refine⟨by walk_at"side",fun p hp=>hR _ _ (xc.new hp) fun H6 sx kx=>⟨vs++[p],by simp,?_⟩⟩;have et:(zj nw).take (j+1)=(zj nw).take j++[((j:Int),nw.getD j 0)]:=by
    rw[cg]
    congr 1
    unfold zj;rw[au,fR hj];rfl
   rw[et];exact xV (L2.Paired.imp' (fun _ _ (z:yM H3 _ _)=>sx.at z) hvs) (kx p _ (.inl hp) xj)
  obtain⟨vs,rfl,hvs⟩:=hP;rw[bg (by rw[cnl];exact ao _)]at hvs;have hvs:=L2.Paired.imp' (fun _ _ (z:yM H9 _ _)=>s9'.at z) hvs;have s99:=s9.trans s9';walk_at"w";refine jU (f:=fun b=> !b) (.lst (SqL.of (s99.at ecc)) (xcv (L2.Paired.imp' (fun _ _ (z:yM G12 _ _)=>s99.at z) hcts))) (.lst (SqL.of hv) (xcv hvs)) (xfR _) ?_;walk_at"w";refine⟨by walk_at"no",fun _=>?_⟩;have t13:=t12.trans s99;have Z:=Z.same (s12.trans s99);walk_at"w";refine⟨hd,_,_,.ref h0,rfl,rfl,SqL.of (t13.at ehd),rfl,?_⟩;walk_at"w";refine⟨hd,_,_,.ref h1,rfl,rfl,SqL.of (t13.at ehd),rfl,?_⟩;walk_at"w";refine⟨h0,h1,es,nw,least,rfl,hls,(s05.trans t13).at hPe,(s05.trans t13).at hPo,(s05.trans t13).at hPj,t13.at eh0,t13.at eh1,by lia,hnl,hbn,fun t' p' tt' tr' us' trs' rs' tn' G14 s14 et ep ett hus etr htr hm'=>?_⟩;obtain⟨er1,er2⟩:=hm'.uniq hm;subst er1;subst er2;walk_at"w";walk_at"ss";intro fin hfin;generalize hUfin:upd G14 fin _=G15;have sG15:=xc.of_eq hfin hUfin;have efin:=xm hUfin;clear hUfin;walk_at"w";have Z:=(Z.same s14).same sG15;have Z':=xat.same (K:=K) ⟨et,ep,ett,hus,etr,htr⟩ sG15;refine jU (f:=fun b=>b) (Z'.rp Z'.1) (Z.rp efin) (xgi _ _ _ _) ?_;exact q _
end
abbrev NI(K:ai)(x:Str)(f:Addr):Prop:=W.nsIn K bA x=some (some (.ref f))
abbrev NN(K:ai)(x:Str):Prop:=W.nsIn K bA x=some none
def FL(K:ai)(x q:Str)(st:Stmt)(f:Addr):Prop:=∃fd,Fun K x q st f fd
theorem yT{n:Nat}{us:List Value}(h:us.length=n+1):∃u r,us=u::r∧r.length=n:=by
 cases us with
 |nil=>cases h
 |cons u r=>exact⟨u,r,rfl,Nat.succ.inj h⟩
theorem xbz{us:List Value}(h:us.length=0):us=[]:=dO.mp h
theorem bn1{K:ai}{x q:Str}{st:Stmt}{f:Addr}{fd:aR}{p1:Str}(F:Fun K x q st f fd)(h:∀(kV doc pm:Value) (an:Option Addr) (cdv ct u1:Value),gc (dD x q (ye st) (xQ st) (xn st) .none kV doc pm an cdv ct) ⟨[u1],[]⟩=pure [(p1,u1)]:=by intros;exact rfl):Binds K fd [p1] []:=by
 refine F.binds fun kV doc pm an cdv ct us hl=>?_;obtain⟨u1,r1,rfl,k1⟩:=yT hl;obtain rfl:=xbz k1;exact h kV doc pm an cdv ct u1
theorem bn2{K:ai}{x q:Str}{st:Stmt}{f:Addr}{fd:aR}{p1 p2:Str}(F:Fun K x q st f fd)(h:∀(kV doc pm:Value) (an:Option Addr) (cdv ct u1 u2:Value),gc (dD x q (ye st) (xQ st) (xn st) .none kV doc pm an cdv ct) ⟨[u1,u2],[]⟩=pure [(p1,u1),(p2,u2)]:=by intros;exact rfl):Binds K fd [p1,p2] []:=by
 refine F.binds fun kV doc pm an cdv ct us hl=>?_;obtain⟨u1,r1,rfl,k1⟩:=yT hl;obtain⟨u2,r2,rfl,k2⟩:=yT k1;obtain rfl:=xbz k2;exact h kV doc pm an cdv ct u1 u2
theorem bn3{K:ai}{x q:Str}{st:Stmt}{f:Addr}{fd:aR}{p1 p2 p3:Str}(F:Fun K x q st f fd)(h:∀(kV doc pm:Value) (an:Option Addr) (cdv ct u1 u2 u3:Value),gc (dD x q (ye st) (xQ st) (xn st) .none kV doc pm an cdv ct) ⟨[u1,u2,u3],[]⟩=pure [(p1,u1),(p2,u2),(p3,u3)]:=by intros;exact rfl):Binds K fd [p1,p2,p3] []:=by
 refine F.binds fun kV doc pm an cdv ct us hl=>?_;obtain⟨u1,r1,rfl,k1⟩:=yT hl;obtain⟨u2,r2,rfl,k2⟩:=yT k1;obtain⟨u3,r3,rfl,k3⟩:=yT k2;obtain rfl:=xbz k3;exact h kV doc pm an cdv ct u1 u2 u3
theorem bn4{K:ai}{x q:Str}{st:Stmt}{f:Addr}{fd:aR}{p1 p2 p3 p4:Str}(F:Fun K x q st f fd)(h:∀(kV doc pm:Value) (an:Option Addr) (cdv ct u1 u2 u3 u4:Value),gc (dD x q (ye st) (xQ st) (xn st) .none kV doc pm an cdv ct) ⟨[u1,u2,u3,u4],[]⟩=pure [(p1,u1),(p2,u2),(p3,u3),(p4,u4)]:=by intros;exact rfl):Binds K fd [p1,p2,p3,p4] []:=by
 refine F.binds fun kV doc pm an cdv ct us hl=>?_;obtain⟨u1,r1,rfl,k1⟩:=yT hl;obtain⟨u2,r2,rfl,k2⟩:=yT k1;obtain⟨u3,r3,rfl,k3⟩:=yT k2;obtain⟨u4,r4,rfl,k4⟩:=yT k3;obtain rfl:=xbz k4;exact h kV doc pm an cdv ct u1 u2 u3 u4
theorem xmF{l:W.OpenLaw}{w:World}{K:ai}{h:Heap}{mg:Str→Option Value}{fa:Addr}{q0Z q07 q0u q00 q0P q0n q0I q0D q0J q0G q0Q q1l q0U q0K q0B q0h q1F q1g q1q q0L q0v q0t q0p q09 q1a q1b q1G q1n q1t q1u q1v q0w q0i q1w q0q q1I q06 q0a q0b:Addr}{q0E:Addr}{q14:Option Addr}{q2b:Nat}{q15:Array (Option Value)}{q1Y q1Z:Tok}{q2f:Addr}{q2n:Option Addr}{q2w:Nat}{q2o:Array (Option Value)}{q2p:Value}{q08:Tok}{q2j:Addr}{q2x:Option Addr}{q2H:Nat}{q2y:Array (Option Value)}{q2z:Value}{q1m:Tok}{od0 an0 q3m q3n q3o q3p q3q q3r q3s q3t q3u q3v:Option Addr}{sl0 q3w q3x q3y q3z q3A:Array (Option Value)}{oc0 kV0 dc0 pm0 ct0 q3B q3C q3D q3E q2W q3F q3G q3H q3I q3J q2X q3K q3L q3M q3N q3O q3P q3Q q3R q3S q3T q3U q3V q3W q3X q3Y q2Y q3Z:Value}(X:K.In h)(G:h.Ns bA mg)(hfa:mg "law"=some (.ref fa))
  (q2Z:NI K "Row" q06)
  (q2I:NI K "Take" q0a)
  (q20:NI K "Put" q0b)
  (q2q:NI K "endings" q0Z)
  (q1M:jt K q0H yD)
  (q2r:K.lookup q0Z=some ⟨oc0,od0,.func (dD "endings" "endings" (ye zy) (xQ zy) (xn zy) .none kV0 dc0 pm0 an0 (.ref q0H) ct0),sl0⟩)
  (q0H:fj K (.ref q0H) "endings"=true)
  (q2s:dQ K (.ref q0Z)=true)
  (q2t:NI K "longest" q07)
  (q1c:FL K "longest" "longest" xaU q07)
  (q10:NI K "how_many_less" q0u)
  (q0x:FL K "how_many_less" "how_many_less" ur q0u)
  (q2m:NI K "agreeing" q00)
  (q01:FL K "agreeing" "agreeing" jZ q00)
  (q3f:cU K (.ref q06) "__init__"=some (some (.ref q0P)))
  (q1h:FL K "__init__" "Row.__init__" xaa q0P)
  (q21:cU K (.ref q06) "covers"=some (some (.ref q0n)))
  (q0W:FL K "covers" "Row.covers" vR q0n)
  (q3d:cU K (.ref q0a) "__init__"=some (some (.ref q0I)))
  (q03:FL K "__init__" "Take.__init__" jv q0I)
  (q22:cU K (.ref q0a) "stays"=some (some (.ref q0D)))
  (q0X:FL K "stays" "Take.stays" vS q0D)
  (q3e:cU K (.ref q0a) "told"=some (some (.ref q0J)))
  (q04:FL K "told" "Take.told" jw q0J)
  (q3g:cU K (.ref q0b) "__init__"=some (some (.ref q0G)))
  (q02:FL K "__init__" "Put.__init__" xab q0G)
  (q3h:cU K (.ref q0b) "told"=some (some (.ref q0Q)))
  (q1i:FL K "told" "Put.told" xac q0Q)
  (q2A:NI K "spoils" q1l)
  (q1o:FL K "spoils" "spoils" xcf q1l)
  (q2i:NI K "spoilt_by" q0U)
  (q0V:FL K "spoilt_by" "spoilt_by" jx q0U)
  (q2g:NI K "ring_among" q0K)
  (q0M:FL K "ring_among" "ring_among" vT q0K)
  (q16:NI K "stretch_read" q0B)
  (q0C:FL K "stretch_read" "stretch_read" uN q0B)
  (q1T:NI K "stretch_written" q0h)
  (q0j:FL K "stretch_written" "stretch_written" zJ q0h)
  (q23:NI K "meet" q1F)
  (q1H:FL K "meet" "meet" xe8 q1F)
  (q2J:NI K "found" q1g)
  (q2K:K.lookup q1g=some ⟨q3B,q3m,.func (dD "found" "found" (ye vG) (xQ vG) (xn vG) (.ref q2f) q3C q3D q3E q3n q2W q3F),q3w⟩)
  (q2B:K.lookup q2f=some ⟨q2p,q2n,.seq #[.int 6 q08] q2w,q2o⟩)
  (q2L:fj K q2W "found"=true)
  (q2M:dQ K (.ref q1g)=true)
  (q24:NI K "made" q1q)
  (q25:K.lookup q1q=some ⟨q3G,q3o,.func (dD "made" "made" (ye jI) (xQ jI) (xn jI) (.ref q2j) q3H q3I q3J q3p q2X q3K),q3x⟩)
  (q2N:K.lookup q2j=some ⟨q2z,q2x,.seq #[.int 6 q1m] q2H,q2y⟩)
  (q26:fj K q2X "made"=true)
  (q27:dQ K (.ref q1q)=true)
  (q2h:NI K "rows_found" q0L)
  (q0F:FL K "rows_found" "rows_found" vU q0L)
  (q11:NI K "put_ending_at" q0v)
  (q0l:FL K "put_ending_at" "put_ending_at" uu q0v)
  (q17:NI K "put_in_order" q0t)
  (q1r:jt K q0f yl)
  (q18:K.lookup q0t=some ⟨q3L,q3q,.func (dD "put_in_order" "put_in_order" (ye yx) (xQ yx) (xn yx) .none q3M q3N q3O q3r (.ref q0f) q3P),q3y⟩)
  (q0f:fj K (.ref q0f) "put_in_order"=true)
  (q19:dQ K (.ref q0t)=true)
  (q1V:NI K "harmless_among" q0p)
  (q0r:FL K "harmless_among" "harmless_among" zS q0p)
  (q2u:NI K "put_for" q09)
  (q1d:FL K "put_for" "put_for" xaV q09)
  (q2C:NI K "joined" q1a)
  (q1Q:jt K q0T zz)
  (q2D:K.lookup q1a=some ⟨q3Q,q3s,.func (dD "joined" "joined" (ye zT) (xQ zT) (xn zT) .none q3R q3S q3T q3t (.ref q0T) q3U),q3z⟩)
  (q0T:fj K (.ref q0T) "joined"=true)
  (q2E:dQ K (.ref q1a)=true)
  (q2v:NI K "_law_cell_at" q1b)
  (q0m:FL K "_law_cell_at" "_law_cell_at" xaW q1b)
  (q28:NI K "_law_draw" q1G)
  (q1D:FL K "_law_draw" "_law_draw" xe9 q1G)
  (q2F:NI K "_law_digits" q1n)
  (q1e:FL K "_law_digits" "_law_digits" xcg q1n)
  (q2O:NI K "_law_elder" q1t)
  (q1x:FL K "_law_elder" "_law_elder" xdo q1t)
  (q2P:NI K "_law_newer" q1u)
  (q1y:FL K "_law_newer" "_law_newer" xdp q1u)
  (q2Q:NI K "_law_meets" q1v)
  (q1z:FL K "_law_meets" "_law_meets" xdq q1v)
  (q12:NI K "_law_ring_is_right" q0w)
  (q0y:FL K "_law_ring_is_right" "_law_ring_is_right" uv q0w)
  (q1U:NI K "_law_turned_is_right" q0i)
  (q0k:FL K "_law_turned_is_right" "_law_turned_is_right" zK q0i)
  (q2R:NI K "_law_cells" q1w)
  (q1A:FL K "_law_cells" "_law_cells" xdr q1w)
  (q1W:NI K "_law_puts_are_right" q0q)
  (q0s:FL K "_law_puts_are_right" "_law_puts_are_right" zU q0q)
  (q3i:NI K "law" q1I)
  (q3j:K.lookup q1I=some ⟨q3V,q3u,.func (dD "law" "law" (ye xbu) (xQ xbu) (xn xbu) .none q3W q3X q3Y q3v q2Y q3Z),q3A⟩)
  (q3k:fj K q2Y "law"=true)
  (q3l:dQ K (.ref q1I)=true)
  (q2G:Cls K q06)
  (q1R:xW K q06 "count")
  (q2a:xW K q06 "to")
  (q0d:Cls K q0a)
  (q0o:xW K q0a "count")
  (q0g:xW K q0a "source")
  (q0R:xW K q0a "to")
  (q13:Mk K q0a q0I)
  (q0A:Cls K q0b)
  (q0N:xW K q0b "count")
  (q0z:xW K q0b "signs")
  (q0S:xW K q0b "to")
  (q1S:Mk K q0b q0G)
  (q1E:Meth K q0b "covers" q0n)
  (q1C:Meth K q0b "told" q0Q)
  (q1B:Meth K q0a "covers" q0n)
  (q1k:Meth K q0a "stays" q0D)
  (q0Y:Meth K q0a "told" q0J)
  (q1j:xjn K q06 "__init__" q0P)
  (q29:cU K (.ref q0b) "__class__"=some (some (.builtin "object.__class__")))
  (q3a:kg K (.builtin "object.__class__") "__get__"=some (some (.builtin "getset_descriptor.__get__")))
  (q3b:W.takesIn K (.builtin "object.__class__")=some true)
  (q3c:W.mroIn K q0b (.type "object")=some true)
  (q2S:cU K (.ref q0a) "__class__"=some (some (.builtin "object.__class__")))
  (q2T:kg K (.builtin "object.__class__") "__get__"=some (some (.builtin "getset_descriptor.__get__")))
  (q2U:W.takesIn K (.builtin "object.__class__")=some true)
  (q2V:W.mroIn K q0a (.type "object")=some true)
  (q1N:fK K (.ref q0b) (.ref q0b)=some true)
  (q1J:fK K (.ref q0b) (.ref q0a)=some false)
  (q1K:fK K (.ref q0a) (.ref q0b)=some false)
  (q1f:fK K (.ref q0a) (.ref q0a)=some true)
  (q2c:NI K "NO_STRETCH" q0E)
  (q2d:K.lookup q0E=some ⟨.type "tuple",q14,.seq #[.int 0 q1Y,.int 0 q1Z] q2b,q15⟩)
  (q2k:NN K "any")
  (q2e:NN K "dict")
  (q1L:NN K "enumerate")
  (q0e:NN K "isinstance")
  (q0c:NN K "len")
  (q1s:NN K "list")
  (q1X:NN K "max")
  (q1O:NN K "min")
  (q0O:NN K "range")
  (q1P:NN K "reversed")
  (q2l:NN K "set")
  (q1p:NN K "sorted")
  (q05:NN K "tuple")
  :∃fd:aR,(∀(s:ae) (v:Value),BindsTo s fd ⟨[v],[]⟩ [("_law_script",v)])∧∀base:Heap,K.In base→base.Ns bA mg→xG l.prog w K mg base CX0 7 fa fd ["_law_script"] (xfT K):=by
 have e:=hfa.symm.trans (W.mg_of X G q3i);have e2:q1I=fa:=by injection e with e;injection e with e;exact e.symm
 subst e2;have vf:=xaH (st:=zy) q2r q0H q2s;obtain⟨_,q1c⟩:=q1c;obtain⟨_,q0x⟩:=q0x;obtain⟨_,q01⟩:=q01;obtain⟨_,q1h⟩:=q1h;obtain⟨_,q0W⟩:=q0W;obtain⟨_,q03⟩:=q03;obtain⟨_,q0X⟩:=q0X;obtain⟨_,q04⟩:=q04;obtain⟨_,q02⟩:=q02;obtain⟨_,q1i⟩:=q1i;obtain⟨_,q1o⟩:=q1o;obtain⟨_,q0V⟩:=q0V;obtain⟨_,q0M⟩:=q0M;obtain⟨_,q0C⟩:=q0C;obtain⟨_,q0j⟩:=q0j;obtain⟨_,q1H⟩:=q1H;have vH:=xgz (st:=vG) (ds:=[.int 6 q08]) q2K q2L q2M q2B;have xdz:=vH.binds (ps:=["elder","newer","least"]) (es:=[]) 3 rfl fun _ _ _ _ _ _ _ us hl=>match us,hl with|[_,_,_],_=>⟨_,rfl,rfl⟩
 have xfe:=vH.binds (ps:=["elder","newer","least"]) (es:=[.int 6 q08]) 2 rfl fun _ _ _ _ _ _ _ us hl=>match us,hl with|[_,_],_=>⟨_,rfl,rfl⟩
 have vg:=xgz (st:=jI) (ds:=[.int 6 q1m]) q25 q26 q27 q2N;have xcO:=vg.binds (ps:=["elder","newer","least"]) (es:=[]) 3 rfl fun _ _ _ _ _ _ _ us hl=>match us,hl with|[_,_,_],_=>⟨_,rfl,rfl⟩
 have xdA:=vg.binds (ps:=["elder","newer","least"]) (es:=[.int 6 q1m]) 2 rfl fun _ _ _ _ _ _ _ us hl=>match us,hl with|[_,_],_=>⟨_,rfl,rfl⟩
 obtain⟨_,q0F⟩:=q0F;obtain⟨_,q0l⟩:=q0l;have yY:=xaH (st:=yx) q18 q0f q19;obtain⟨_,q0r⟩:=q0r;obtain⟨_,q1d⟩:=q1d;have vZ:=xaH (st:=zT) q2D q0T q2E;obtain⟨_,q0m⟩:=q0m;obtain⟨_,q1D⟩:=q1D;obtain⟨_,q1e⟩:=q1e;obtain⟨_,q1x⟩:=q1x;obtain⟨_,q1y⟩:=q1y;obtain⟨_,q1z⟩:=q1z;obtain⟨_,q0y⟩:=q0y;obtain⟨_,q0k⟩:=q0k;obtain⟨_,q1A⟩:=q1A;obtain⟨_,q0s⟩:=q0s;have xer:=xaH (st:=xbu) q3j q3k q3l;have g {x v} (q:W.nsIn K bA x=some (some v)):=W.mg_of X G q;have g0 {x} (q:W.nsIn K bA x=some none):=W.mg_none_of X G q;have T:Txt K mg ⟨q0Z,_,q07,_,q0u,_,q00,_,q0P,_,q0n,_,q0I,_,q0D,_,q0J,_,q0G,_,q0Q,_,q1l,_,q0U,_,q0K,_,q0B,_,q0h,_,q1F,_,q1g,_,q08,q1q,_,q1m,q0L,_,q0v,_,q0t,_,q0p,_,q09,_,q1a,_,q1b,_,q1G,_,q1n,_,q1t,_,q1u,_,q1v,_,q0w,_,q0i,_,q1w,_,q0q,_,q1I,_,q06,q0a,q0b,q0E⟩:=⟨vf,bn1 vf,g q2q,q1M,rfl,q1c,bn3 q1c,g q2t,q0x,bn3 q0x,g q10,q01,bn3 q01,g q2m,q1h,bn2 q1h,q0W,bn1 q0W,q03,bn4 q03,q0X,bn1 q0X,q04,bn1 q04,q02,bn3 q02,q1i,bn1 q1i,q1o,bn1 q1o,g q2A,q0V,bn3 q0V,g q2i,q0M,bn2 q0M,g q2g,q0C,bn1 q0C,g q16,q0j,bn1 q0j,g q1T,q1H,bn2 q1H,g q23,vH,xfe,xdz,g q2J,vg,xdA,xcO,g q24,q0F,bn3 q0F,g q2h,q0l,bn2 q0l,g q11,yY,bn1 yY,g q17,q1r,rfl,q0r,bn2 q0r,g q1V,q1d,bn2 q1d,g q2u,vZ,bn1 vZ,g q2C,q1Q,rfl,q0m,bn2 q0m,g q2v,q1D,bn2 q1D,g q28,q1e,bn3 q1e,g q2F,q1x,bn1 q1x,g q2O,q1y,bn2 q1y,g q2P,q1z,bn2 q1z,g q2Q,q0y,bn3 q0y,g q12,q0k,bn2 q0k,g q1U,q1A,bn2 q1A,g q2R,q0s,bn1 q0s,g q1W,xer,bn1 xer,g q2Z,q2G,q1R,q2a,g q2I,q0d,q0o,q0g,q0R,q13,g q20,q0A,q0N,q0z,q0S,q1S,fun e=>.ins e q0A q29 q3a q3b q3c,fun e=>.ins e q0d q2S q2T q2U q2V,q1N,q1J,q1K,q1f,g q2c,fun _=>.inr ⟨_,_,_,q2d,rfl,rfl,by simp[ay],(.cons ⟨_,rfl⟩ (.cons ⟨_,rfl⟩ .nil))⟩,q1E,q1C,q1B,q1k,q0Y,q1j,g0 q2k,g0 q2e,g0 q1L,g0 q0e,g0 q0c,g0 q1s,g0 q1X,g0 q1O,g0 q0O,g0 q1P,g0 q2l,g0 q1p,g0 q05⟩;exact⟨_,fun s v=>.of_eq rfl,fun base _ _=>xmE T⟩
end K37
open PySem PySem.W PyProof.Rows
namespace PySem.W.Fast
theorem tw16208176335779552868:True:=trivial
theorem tw3801226763051932839:True:=trivial
theorem tw12926336257913631368:True:=trivial
theorem tw6495762747958086218:True:=trivial
theorem tw9274231411387212012:True:=trivial
theorem tw7924628348895141260:True:=trivial
theorem tw10332851849993402829:True:=trivial
theorem tw3716910960739246383:True:=trivial
theorem tw15745039157100436079:True:=trivial
theorem tw4477456411911410837:True:=trivial
theorem tw1599612997535142293:True:=trivial
theorem tw11224218657234303766:True:=trivial
theorem tw14662028213714241751:True:=trivial
theorem tw4499332544728909208:True:=trivial
theorem tw7784716475595129145:True:=trivial
theorem tw3990737864297820825:True:=trivial
theorem tw123968660841968730:True:=trivial
theorem tw4948955335327242493:True:=trivial
theorem tw7120651994962832350:True:=trivial
theorem tw3293082397344160817:True:=trivial
theorem tw17606103743795927877:True:=trivial
theorem tw3933132735710059584:True:=trivial
theorem tw18279361725788616499:True:=trivial
theorem tw3305571125457801613:True:=trivial
theorem tw2795775258929111102:True:=trivial
theorem tw143699918222878162:True:=trivial
theorem tw4308918562687003066:True:=trivial
theorem tw13755343009010337341:True:=trivial
theorem tw9074269410829077686:True:=trivial
theorem tw2310683426873189953:True:=trivial
theorem tw1628802343018044695:True:=trivial
theorem tw4836679968229832467:True:=trivial
theorem tw659890344496249116:True:=trivial
theorem tw18221600909945932523:True:=trivial
theorem tw4570328565833813810:True:=trivial
theorem tw18273277513679239714:True:=trivial
theorem tw14939840651036537601:True:=trivial
theorem tw17879536771720995648:True:=trivial
theorem tw14941537154605599599:True:=trivial
theorem tw11361647423684724473:True:=trivial
theorem tw3115487047517615014:True:=trivial
theorem tw15035996325203378857:True:=trivial
theorem tw5898436197344546625:True:=trivial
theorem tw734502265199828658:True:=trivial
theorem tw14912123403806229624:True:=trivial
theorem tw14569638156679953346:True:=trivial
theorem tw16528762214770945677:True:=trivial
theorem tw11888075157132109863:True:=trivial
theorem tw1049280266208964505:True:=trivial
theorem tw16677558077738491064:True:=trivial
theorem tw5223395879580363653:True:=trivial
theorem tw9079035176478067501:True:=trivial
theorem tw17847499594249655868:True:=trivial
theorem tw10857850550896258264:True:=trivial
theorem tw11950042461424574004:True:=trivial
theorem tw8697585486667875685:True:=trivial
theorem tw7212644675856104857:True:=trivial
theorem tw2359602789236984665:True:=trivial
theorem tw14382670245664321151:True:=trivial
theorem tw6596413385457680465:True:=trivial
theorem tw12077089745026660059:True:=trivial
theorem tw6419451675711101257:True:=trivial
theorem tw15622688218607144609:True:=trivial
theorem tw3159153377928357679:True:=trivial
theorem tw17798398266604726944:True:=trivial
theorem tw1112087682251249036:True:=trivial
theorem tw14451610818937756171:True:=trivial
theorem tw12459388632626809932:True:=trivial
theorem tw944704580982493746:True:=trivial
theorem tw9500351117494812049:True:=trivial
theorem tw11101908982374676262:True:=trivial
theorem tw8568622633190523800:True:=trivial
theorem tw14535774854880776763:True:=trivial
theorem tw10358737185764952666:True:=trivial
theorem tw10053386175764363337:True:=trivial
theorem tw15494700900091336870:True:=trivial
theorem tw3371515645587773382:True:=trivial
theorem tw8080230154407694010:True:=trivial
theorem tw12241451096955420756:True:=trivial
theorem tw1385382459418758685:True:=trivial
theorem tw17607026812231714463:True:=trivial
theorem tw6116614347986630184:True:=trivial
theorem tw9676500478333612914:True:=trivial
theorem tw3947933910644389326:True:=trivial
theorem tw1341385926942196582:True:=trivial
theorem tw13139583719811993007:True:=trivial
theorem tw5362055692867124798:True:=trivial
theorem tw3406858766282346028:True:=trivial
theorem tw344145202353352908:True:=trivial
theorem tw3516758581387661725:True:=trivial
theorem tw5499788406380588090:True:=trivial
theorem tw8301745526394039605:True:=trivial
theorem tw93173856960876930:True:=trivial
theorem tw5886240738130167051:True:=trivial
theorem tw3975187571320621565:True:=trivial
theorem tw12553263748661092573:True:=trivial
theorem tw6278703702299303980:True:=trivial
theorem tw10392542923941814225:True:=trivial
theorem tw14337161553484942833:True:=trivial
theorem tw2976317827030617290:True:=trivial
theorem tw4411884094159524206:True:=trivial
theorem tw6278293177801371043:True:=trivial
theorem tw4555646654248717528:True:=trivial
theorem tw10296419930704170547:True:=trivial
theorem tw2641129414808072184:True:=trivial
theorem tw13184880650104635209:True:=trivial
theorem tw16726861420227822239:True:=trivial
theorem tw10759994721216294813:True:=trivial
theorem tw8892374103405985536:True:=trivial
theorem tw11213667742887604979:True:=trivial
theorem tw1664639865170928519:True:=trivial
theorem tw3167543416631599960:True:=trivial
theorem tw3601914632931017253:True:=trivial
theorem tw14072116473626428961:True:=trivial
theorem tw14965299308812677232:True:=trivial
theorem tw4571139070580785469:True:=trivial
theorem tw6557962296232551755:True:=trivial
theorem tw5744090932118687368:True:=trivial
theorem tw6051995692516555131:True:=trivial
theorem tw6627835221386443847:True:=trivial
theorem tw9209992672943815991:True:=trivial
theorem tw12409546464316907423:True:=trivial
theorem tw12429926398698945690:True:=trivial
theorem tw2573643361615333176:True:=trivial
theorem tw5281722975277344640:True:=trivial
theorem tw15786162750931867722:True:=trivial
theorem tw10426521332385348867:True:=trivial
theorem tw18225267819880650538:True:=trivial
theorem tw8109418902130102891:True:=trivial
end PySem.W.Fast
set_option maxRecDepth 100000 in
set_option maxHeartbeats 0 in
theorem PySem.Challenge.cw_oneroom_k37_papers_made_holds : PySem.Challenge.rw_oneroom_k37_papers_made.Holds := by
 w_on;o_law;k_head;(case hw=>w_witness2)
 k_fill
 refine L2.xjp (l:=PySem.Challenge.rw_oneroom_k37_papers_made) (n:=63) (k:=7) (x:="_law_script") (CX:=L2.CX0) (sp:=K37.xfT) (tabs:=[(K37.q0H,K37.yD,K37.zf),(K37.q0f,K37.yl,K37.yN),(K37.q0T,K37.zz,K37.ve)]) rfl (by decide) rfl ⟨rfl,by decide,by decide⟩ (fun w h Y=>PySem.W.km_in_of Y) (fun w h Y KX=>(List.forall_mem_cons.mpr ⟨⟨PySem.W.codeHd_of_K (c:=K37.q0H) (P:=K37.yD) KX (by kernel_rfl),PySem.W.km_tabs_of Y _ (by decide)⟩,(List.forall_mem_cons.mpr ⟨⟨PySem.W.codeHd_of_K (c:=K37.q0f) (P:=K37.yl) KX (by kernel_rfl),PySem.W.km_tabs_of Y _ (by decide)⟩,(List.forall_mem_cons.mpr ⟨⟨PySem.W.codeHd_of_K (c:=K37.q0T) (P:=K37.zz) KX (by kernel_rfl),PySem.W.km_tabs_of Y _ (by decide)⟩,(fun _ z=>nomatch z)⟩)⟩)⟩)) (fun w=>by kernel_rfl) (by decide) ?F ?S ?C
 case F=>
  intro w mg fa h KX G hmg
  refine' K37.xmF KX G hmg ?_ ?_ ?_ ?_ ?_ ?_ ?_ ?_ ?_ ?_ ?_ ?_ ?_ ?_ ?_ ?_ ?_ ?_ ?_ ?_ ?_ ?_ ?_ ?_ ?_ ?_ ?_ ?_ ?_ ?_ ?_ ?_ ?_ ?_ ?_ ?_ ?_ ?_ ?_ ?_ ?_ ?_ ?_ ?_ ?_ ?_ ?_ ?_ ?_ ?_ ?_ ?_ ?_ ?_ ?_ ?_ ?_ ?_ ?_ ?_ ?_ ?_ ?_ ?_ ?_ ?_ ?_ ?_ ?_ ?_ ?_ ?_ ?_ ?_ ?_ ?_ ?_ ?_ ?_ ?_ ?_ ?_ ?_ ?_ ?_ ?_ ?_ ?_ ?_ ?_ ?_ ?_ ?_ ?_ ?_ ?_ ?_ ?_ ?_ ?_ ?_ ?_ ?_ ?_ ?_ ?_ ?_ ?_ ?_ ?_ ?_ ?_ ?_ ?_ ?_ ?_ ?_ ?_ ?_ ?_ ?_ ?_ ?_ ?_ ?_ ?_ ?_ ?_ ?_ ?_ ?_ ?_ ?_ ?_ ?_ ?_ ?_ ?_
  iterate 2 all_goals first|(show(_:Prop);first|exact⟨_,L2.xaH (by k_is) (by k_is) (by k_is)⟩|exact L2.xkK (by kernel_rfl)|exact⟨by k_is,by k_is,by k_is⟩|exact⟨by k_is,by k_is,by k_is,by k_is⟩|exact⟨by kernel_rfl,by kernel_rfl,by kernel_rfl,by kernel_rfl,by kernel_rfl,by kernel_rfl⟩|exact⟨by kernel_rfl,by kernel_rfl,by kernel_rfl,by kernel_rfl,by kernel_rfl,by kernel_rfl,by kernel_rfl,by kernel_rfl⟩|k_is|(show _=_;k_is)|kernel_rfl)|skip
 case S=>exact fun K H a ns hl hS hT=>⟨a,ns,rfl,hS,hl,hT _ (.head _),hT _ (.tail _ (.head _)),hT _ (.tail _ (.tail _ (.head _))),fun _=>rfl⟩
 case C=>exact fun _ _ _ _ z=>z
#print axioms PySem.Challenge.cw_oneroom_k37_papers_made_holds
