import PyProof.Rows.All
import Wide.All
import OpenK.AllK
import Wide.FinOn
import Lean
import PyProof.EqAt
import PyProof.EqKinds
import PyProof.TupleCall
import PySem.Challenge.RW_oneroom_k63_texts_of_no_paper
set_option Elab.async false
set_option linter.all false
set_option maxRecDepth 100000
open And renaming intro→aY
open Array renaming getElem?_eq_some_iff→bE,length_toList→c9,getElem?_setIfInBounds_ne→de,size_append→fE,toArray_toList→gq
open Bool renaming false_ne_true→aM,and_eq_true→bN,not_eq_false'→bP,false_and→cX,eq_iff_iff→di,true_and→dO,false_eq_true→ee,and_false→gf
open Classical renaming choose_spec→gj
open False renaming elim→bu
open ForInStep renaming yield→dn
open Int renaming emod_lt_of_pos→bt,emod_nonneg→bI,toNat_of_nonneg→fh,toNat_natCast→fF
open List renaming length_map→aa,length_append→aj,mem_cons_of_mem→ak,length_cons→ao,mem_append_right→av,mem_singleton→aw,mem_cons→ax,map_append→aA,getElem?_eq_getElem→aB,size_toArray→aC,map_cons→aH,length_take→aI,getElem?_map→aJ,mem_cons_self→aL,mem_append→aN,mem_of_getElem?→aQ,mem_append_left→aU,length_drop→aV,take_length→bj,mem_map→br,getElem?_eq_some_iff→bx,all_eq_true→bA,take_succ→bB,length_singleton→bD,getElem?_cons_succ→bQ,not_mem_nil→bS,mem_of_mem_drop→bT,lookup_cons→bX,getElem_mem→bY,length→bZ,length_dropLast→b5,mem_of_mem_take→b6,drop_succ_cons→cf,getElem?_eq_none→cm,drop_zero→cn,getElem?_set_ne→cu,map_map→cy,cons_append→cE,map_nil→cJ,length_set→cK,length_nil→cL,map_drop→cO,getD_eq_getElem?_getD→cP,append_assoc→cR,map_take→dg,find?_cons→dm,count_eq_zero→dw,getElem?_set_self→dy,take_of_length_le→dA,replicate→dB,dropLast_concat→dM,getElem?_append_right→dN,lookup→dQ,filterMap_cons→dS,length_pos_iff→dW,nil_append→d5,mem_or_eq_of_mem_set→d7,length_eq_zero_iff→eJ,count_append→eM,any_cons→eU,nodup_cons→fb,dropLast_subset→ff,eq_nil_of_length_eq_zero→fg,flatMap_append→fj,take_succ_cons→fk,map_singleton→fw,getElem?_append_left→fG,all_map→fS,mem_filter→fU,of_mem_zip→fW,drop_eq_nil_of_le→f7,take_zero→gk,range→gn,count_cons_self→gu,getElem?_of_mem→gv,all_cons→gz,map_eq_nil_iff→gF,map_congr_left→gG,mem_filterMap→gK,filter_append→gN,map_inj_right→gQ,map_set→gS
open List.cons renaming injEq→du,inj→gD
open Nat renaming lt_of_lt_of_le→az,le_refl→aD,le_trans→aO,ne_of_lt→bc,mul_le_mul_right→bF,zero_le→bV,lt_irrefl→cA,pos_of_ne_zero→eD,lt_of_le_of_lt→ft,le_of_lt→fK,ne_of_gt→fM,pow_le_pow_right→gr,succ_mul→gP
open Ne renaming symm→bz
open Option renaming map_eq_some_iff→aX,isSome_iff_exists→fP,toList_some→gR,getD_none→gX,bind_some→gY
open Option.some renaming inj→aE,injEq→gT
open Or renaming inl→aR
open PyProof.Rows renaming slot_tuple_getitem→bL,callWith_type1→dF,AllBare→dP,envOfC→eO,Constant_none→gw,subscriptTail→gy
open PySem renaming Shared→ae,wpAny_bind→af,sizeLine_eq→ag,wpAny_pure→aq,sizeLine→ay,Program→aF,FuncData→aK,wpAny_mono→aP,starEach→aT,Around→aW,PyData→bq,wpAny_holding→bC,compareOp→bG,wpAny_field→bH,bootBuiltins→bJ,mainGlobals→bM,rawInt→bU,wpAny_truthy_bool→b9,binaryOp→cb,wpAny_newObj_type→cc,backTo→cg,wpAny_Call_Name_kw→ck,behindInMarks→cC,wpAny_standAt→cD,NameKind→cM,foldedSetIterable→cQ,lookup_relabel_local→cU,wpAny_setField→cY,codeAny_mono→cZ,codeAny→df,call_meets→dj,sysModules→dG,typeIs_str→dI,sliceBounds→dR,wpAny_execs_nil→dX,letOwnedTupleGo→dY,wpAny_passesOwn→dZ,compEnvC→ef,builtinsNs→eE,wpAny_call→eF,getItem→eH,relabel→eI,wpAny_assign_Name→eK,strIterType→eQ,attributeBase→eR,wpAny_isTrue_Compare1→eV,noteFrame→eX,assign→eZ,assignEach→e7,IsPart→fc,callerA→fo,valueAt→fJ,wpAny_execs_cons→fL,Result→fN,bindArgs→fO,wpAny_comprehension_free→fQ,wpAny_callSpecial?_slot→fT,swapsWith→fV,Arguments→fX,keywordEach→fY,subscripted→fZ,holding→f9,wpAny_loadPart→gc,BindsTo→gd,newFunctionEnv→gg,comprehension→gB,wpAny_attempt→gC
open PySem.Around renaming under→gL
open PySem.Builtin.List renaming listTooLong→cw
open PySem.Builtin.Range renaming rangeSize→b8
open PySem.Builtin.Slice renaming slicePlaces→cT,sliceAdjust→d4,sliceApplied→fA
open PySem.Builtin.Str renaming occurrences→b7,strKind→gE,subAt→gU
open PySem.Builtin.Tuple renaming tupleExact→c7,tupleItemsOf→fB
open PySem.Calls renaming Name_function_global→fz,callWith_builtin→f6,Constant_str→gJ
open PySem.Code renaming isFrame→gM
open PySem.EntryCells renaming newEntry→dU
open PySem.F renaming args_str_split_2→fu,entry_str_split→fD,slot_str_split→fR
open PySem.Heap renaming get?_push_of_some→au,lt_size→aG,get?_push_size→ba,get?_update_other→bh,get?_update_self→bO,SameBut→cI,get?_none_of_le→eY,size_push→fm
open PySem.Heap.SameBut renaming update→fi
open PySem.NameKind renaming free→cN,cell→gA
open PySem.Obj renaming mapFields→bf,isFreed_of_fields→dD,data_mapFields→eo,mapSeq→fe
open PySem.PassesOwn renaming never→cz
open PySem.PyData renaming int→bw,canLay0→cq,eqv→cH,canLayAll0→cS,depthAll→dr,depth→eA
open PySem.PyData.int renaming injEq→dJ
open PySem.PyData.tuple renaming injEq→eB
open PySem.SeqAt renaming shaped→c8
open PySem.SeqAt.EqAt renaming int_str→gH,str_int→gI
open PySem.Str renaming ofString→ai,join→aZ,length→bR,empty→bW
open PySem.StrLaws renaming join_split→dq,split_free→gO
open PySem.Value renaming ref→aS,none→bg,bool→cF,str→d8,int→fq,type→gm,float→gW
open PySem.W renaming Frag→ah,kitOne→bK,findIn→cj,emptyDict→cV,kia_one→cW,kitCls→dz,keepIn→dH,instObj→d9,callWith_K→ed,nsIn→ez,fnOf→eP,plainGet→gp,plainGet_of→gx
open Sum renaming inl→fH,inr→fI
open True renaming intro→cG
namespace L2
open PySem PySem.Spec PyProof.Rows
abbrev Key:=Sum Int Str
def xas:Key→Value→Bool
 | .inl k,v=>Value.isInt k v
 | .inr x,v=>Value.isStrOf x v
def xku(w:World):Key→Int
 | .inl k=>hashInt k
 | .inr x=>hashStr w x
theorem ye:∀{k:Key} {v:Value},xas k v=true→(∃i t,k=fH i∧v=fq i t)∨(∃x t,k=fI x∧v=d8 x t)
 | .inl i,v,h=>by
  obtain⟨t,e⟩:=Value.isInt_shape (k:=i) (v:=v) h;exact .inl ⟨i,t,rfl,e⟩
 | .inr x,v,h=>by
  obtain⟨t,e⟩:=Value.isStrOf_shape (x:=x) (v:=v) h;exact .inr ⟨x,t,rfl,e⟩
theorem xfV(i:Int)(t:Tok):xas (.inl i) (.int i t)=true:=by simp[xas,Value.isInt]
theorem xfW(x:Str)(t:Tok):xas (.inr x) (.str x t)=true:=by simp[xas,Value.isStrOf]
theorem xi9(a b:Int):decide ((fH a:Key)=fH b)=(a==b):=by
 by_cases e:a=b
 ·subst e;simp
 ·have h:¬(fH a:Key)=fH b:=fun q=>e (Sum.inl.inj q);rw[decide_eq_false h];exact(beq_eq_false_iff_ne.mpr e).symm
theorem xja(a b:Str):decide ((fI a:Key)=fI b)=decide (a=b):=by
 by_cases e:a=b
 ·subst e;simp
 ·have h:¬(fI a:Key)=fI b:=fun q=>e (Sum.inr.inj q);rw[decide_eq_false h,decide_eq_false e]
theorem xjb(a:Int)(b:Str):decide ((fH a:Key)=fI b)=false:=decide_eq_false (fun q=>nomatch q)
theorem xjc(a:Str)(b:Int):decide ((fI a:Key)=fH b)=false:=decide_eq_false (fun q=>nomatch q)
def yi(prog:aF)(w:World):PySem.KeyKind prog w Key where
 is:=xas
 hash:=xku w
 inj:=fun v a b ha hb=>by
  rcases ye ha with⟨i,t,rfl,rfl⟩|⟨x,t,rfl,rfl⟩
  ·rcases ye hb with⟨j,u,rfl,e⟩|⟨y,u,rfl,e⟩
   ·injection e with e1 _;rw[e1]
   ·exact nomatch e
  ·rcases ye hb with⟨j,u,rfl,e⟩|⟨y,u,rfl,e⟩
   ·exact nomatch e
   ·injection e with e1 _;rw[e1]
 byValue:=fun k v h=>by
  rcases ye h with⟨i,t,rfl,rfl⟩|⟨x,t,rfl,rfl⟩<;> rfl
 pyHash:=fun hv h=>by
  rcases ye hv with⟨i,t,rfl,rfl⟩|⟨x,t,rfl,rfl⟩
  ·exact wpAny_pyHash_int h
  ·exact wpAny_pyHash_str h
 eqBool:=fun hu hv h=>by
  rcases ye hu with⟨i,t,rfl,rfl⟩|⟨x,t,rfl,rfl⟩
  ·rcases ye hv with⟨j,u,rfl,rfl⟩|⟨y,u,rfl,rfl⟩
   ·rw[xi9]at h;exact wpAny_eqBool_int h
   ·rw[xjb]at h;exact gH i t y u _ _ _ _ h
  ·rcases ye hv with⟨j,u,rfl,rfl⟩|⟨y,u,rfl,rfl⟩
   ·rw[xjc]at h;exact gI x t j u _ _ _ _ h
   ·rw[xja]at h;exact wpAny_eqBool_str h
 «strs»:=fun k x t v h=>by
  rcases ye h with⟨i,u,rfl,e⟩|⟨y,u,rfl,e⟩
  ·exact nomatch e
  ·injection e with e1 _;subst e1;cases v<;> rfl
theorem xea(prog:aF)(w:World)(i:Int)(t:Tok):(yi prog w).is (.inl i) (.int i t)=true:=xfV i t
theorem xeb(prog:aF)(w:World)(x:Str)(t:Tok):(yi prog w).is (.inr x) (.str x t)=true:=xfW x t
end L2
namespace L2
open PySem PySem.Spec PyProof.Rows
inductive V where
 |non|bl (b:Bool)|int (i:Int)|str (x:Str)|byt (b:Array UInt8)|flt (b:UInt64)|ref (a:Addr)|ty (n:String)
 deriving DecidableEq
def RelV:V→Value→Prop
 | .non,u=>u=bg
 | .bl b,u=>u=cF b
 | .int i,u=>∃t,u=fq i t
 | .str x,u=>∃t,u=d8 x t
 | .byt b,u=>∃t,u=Value.bytes b t
 | .flt b,u=>∃t,u=gW b t
 | .ref a,u=>u=aS a
 | .ty n,u=>u=gm n
theorem RelV.fn{x y:V}{u:Value}(a:RelV x u)(b:RelV y u):x=y:=by
 cases x<;> simp only[RelV]at a<;> (first|subst a|(obtain⟨_,rfl⟩:=a))<;> cases y<;> simp only[RelV]at b<;> first|rfl|(cases b;done)|(cases b;rfl)|(obtain⟨_,b⟩:=b;cases b;done)|(obtain⟨_,b⟩:=b;cases b;rfl)
abbrev Vals:List V→List Value→Prop:=Paired RelV
theorem Vals.length{xs:List V}{us:List Value}(r:Vals xs us):xs.length=us.length:=Paired.length r
theorem Vals.get:∀{xs:List V} {us:List Value} {i:Nat} {x:V},Vals xs us→xs[i]? =some x→∃u,us[i]? =some u∧RelV x u
 |_,_,_,_,.nil,e=>by simp at e
 |_,_,0,_,.cons r _,e=>by simp at e;subst e;exact⟨_,rfl,r⟩
 |_,_,i+1,x,.cons _ t,e=>by
  obtain⟨u,h1,h2⟩:=Vals.get (i:=i) (x:=x) t (by simpa using e);exact⟨u,by simpa using h1,h2⟩
theorem Vals.set{x:V}{u:Value}(r:RelV x u):∀{xs:List V} {us:List Value} (i:Nat),Vals xs us→Vals (xs.set i x) (us.set i u)
 |_,_,_,.nil=>.nil
 |_,_,0,.cons _ t=>.cons r t
 |_,_,i+1,.cons q t=>.cons q (Vals.set r i t)
theorem Vals.append:∀{xs ys:List V} {us ws:List Value},Vals xs us→Vals ys ws→Vals (xs++ys) (us++ws)
 |_,_,_,_,.nil,s=>s
 |_,_,_,_,.cons r t,s=>.cons r (Vals.append t s)
theorem Vals.take:∀{xs:List V} {us:List Value} (n:Nat),Vals xs us→Vals (xs.take n) (us.take n)
 |_,_,0,_=>.nil
 |_,_,_+1,.nil=>.nil
 |_,_,n+1,.cons r t=>.cons r (Vals.take n t)
theorem Vals.drop:∀{xs:List V} {us:List Value} (n:Nat),Vals xs us→Vals (xs.drop n) (us.drop n)
 |_,_,0,r=>r
 |_,_,_+1,.nil=>.nil
 |_,_,n+1,.cons _ t=>Vals.drop n t
def zm:Option V→Option Value→Prop
 |some v,some u=>RelV v u
 |none,none=>True
 |_,_=>False
def KV{κ:Type}:List (κ×V)→List (κ×Value)→Prop:=Paired fun(p:κ×V) (q:κ×Value)=>p.1=q.1∧RelV p.2 q.2
def kV:Key→V
 | .inl i=>.int i
 | .inr x=>.str x
inductive HO where
 |lst (xs:List V)
 |tup (xs:List V)
 |dK (kvs:List (Key×V))|dT (kvs:List (List Key×V))
 |set (S:Int→Bool) (n:Nat)
 |ins (C dx:Addr) (fs:List (Str×V))
 |own (x:Addr)
 |xd (fs:List (Str×V))
 |met (f x:Addr)
 |rng (lo hi:Int)
 |frz (o:Obj) (u:HO)
 |tbl (qs:List (Pos×Str))
 |cel (v:Option V)
 |ext (φ:Heap→Prop)
abbrev Hp:=Addr→Option HO
def upd(H:Hp)(a:Addr)(o:HO):Hp:=fun b=>if b=a then some o else H b
theorem xn{H:Hp}{a:Addr}{o:HO}:upd H a o a=some o:=by unfold upd;rw[if_pos rfl]
theorem xH{H:Hp}{a b:Addr}{o:HO}(h:b≠a):upd H a o b=H b:=by unfold upd;rw[if_neg h]
theorem zC{H:Hp}{a:Addr}{o u:HO}:upd (upd H a o) a u=upd H a u:=by
 funext b;unfold upd;split<;> rfl
theorem xat{H:Hp}{a b:Addr}{o u:HO}(h:H a=some o)(h':H b=some u)(d:o≠u):a≠b:=by
 intro e;subst e;rw[h]at h';exact d (aE h')
theorem zH{H:Hp}{a b:Addr}{o:HO}(h:H a=some o)(h':H b=none):a≠b:=by
 intro e;subst e;rw[h]at h';cases h'
section
variable (P:aF) (w:World)
def xT(H:Hp)(h:Heap)(a:Addr):HO→Prop
 | .lst xs=>xs.length≤ay∧∃(its:List Value) (n:Nat),Vals xs its∧h.get? a=some {cls:=.type "list",data:=.seq its.toArray n}
 | .tup xs=>xs.length≤ay∧∃its:List Value,Vals xs its∧IsTup h a its.toArray
 | .dK kvs=>kvs.length≤ay∧(a==dG)=false∧∃vs,KV kvs vs∧h.DictOf (yi P w) a vs
 | .dT kvs=>kvs.length≤ay∧(a==dG)=false∧∃xs:List (List Key×Addr×Value),
   Paired (fun(p:List Key×V) (q:List Key×Addr×Value)=>p.1=q.1∧H q.2.1=some (.tup (p.1.map kV))∧RelV p.2 q.2.2) kvs xs∧
   ∃o es ep,h.get? a=some o∧o.ExactDict∧o.data= .dict es ep∧es.toList=xs.map (entryOfKey (tupleKind (yi P w)))∧(xs.map (·.1)).Nodup
 | .set S n=>h.SetOf (intKind P w) a S n
 | .ins C dx fs=>H dx=some (.own a)∧fs.length≤1000∧dx≠a∧h.get? a=some (d9 C dx)∧
   ∃mA,h.Ns1 dx mA∧(∀f,zm (fs.lookup f) (mA f))∧PySem.Within mA (fs.map (·.1))
 | .own _=>∃o,h.get? a=some o
 | .xd fs=>∃mA,h.Ns1 a mA∧∀f,zm (fs.lookup f) (mA f)
 | .rng lo hi=>∃t u v,h.get? a=some {cls:=.type "range",data:=.fields #[.int lo t,.int hi u,.int 1 v]}
 | .frz o u=>h.get? a=some o∧xT H h a u
 | .tbl qs=>∃ps:Array Value,h.get? a=some {cls:=.none,data:=.fields ps}∧TriplesOk ps.toList∧∀pos q,(pos,q)∈qs→
   codeAmong pos ps.toList=none∨∃c o u vs t,codeAmong pos ps.toList=some (.ref c)∧H c=some (.frz o u)∧o.data= .fields vs∧vs[1]? =some (.str q t)
 | .cel v=>∃u,h.IsCell a u∧∀x,v=some x→∃y,u=some y∧RelV x y
 | .met f x=>h.get? a=some (W.methodObj (.ref f) (.ref x))
 | .ext φ=>φ h∧(∃o,h.get? a=some o)∧∀h1 h2:Heap,φ h1→(∀o,h1.get? a=some o→h2.get? a=some o)→φ h2
def HOk(H:Hp)(h:Heap):Prop:=∀a o,H a=some o→xT P w H h a o
end
section
variable {P:aF} {w:World} {H H':Hp} {h h':Heap} {a:Addr} {o:HO}
def xjd:HO→Prop
 | .tup _=>True
 | .frz _ _=>True
 |_=>False
def Fix:HO→Prop
 | .tup _=>True
 | .frz _ _=>True
 | .tbl _=>True
 | .cel _=>True
 |_=>False
theorem xT.lt(x:xT P w H h a o):a<h.objs.size:=by
 cases o with
 |lst xs=>obtain⟨_,_,_,_,e⟩:=x;exact aG e
 |tup xs=>obtain⟨_,_,_,p⟩:=x;exact p.lt
 |dK kvs=>obtain⟨_,_,_,_,o,_,_,e,_⟩:=x;exact aG e
 |dT kvs=>obtain⟨_,_,_,_,o,_,_,e,_⟩:=x;exact aG e
 |set S n=>obtain⟨o,_,_,_,e,_⟩:=x;exact aG e
 |ins C dx fs=>obtain⟨_,_,_,e,_⟩:=x;exact aG e
 |own y=>obtain⟨_,e⟩:=x;exact aG e
 |xd fs=>obtain⟨_,⟨_,_,_,e,_⟩,_⟩:=x;exact aG e
 |rng lo hi=>obtain⟨_,_,_,e⟩:=x;exact aG e
 |frz ob u=>obtain⟨e,_⟩:=x;exact aG e
 |tbl qs=>obtain⟨_,e,_⟩:=x;exact aG e
 |cel v=>obtain⟨_,⟨_,e,_⟩,_⟩:=x;exact aG e
 |met f y=>exact aG (show h.get? a=some _ from x)
 |ext φ=>obtain⟨_,⟨_,e⟩,_⟩:=x;exact aG e
theorem Paired.mapP{α β:Type}{F G:α→β→Prop}:∀{l₁:List α} {l₂:List β},Paired F l₁ l₂→(∀a b,F a b→G a b)→Paired G l₁ l₂
 |_,_,.nil,_=>.nil
 |_,_,.cons r t,f=>.cons (f _ _ r) (Paired.mapP t f)
theorem Paired.imp'{α β:Type}{F G:α→β→Prop}(f:∀a b,F a b→G a b){l₁:List α}{l₂:List β}(r:Paired F l₁ l₂):Paired G l₁ l₂:=Paired.mapP r f
theorem xT.stay(x:xT P w H h a o)(k:∀b u,(b=a∨H b=some (.own a))→h.get? b=some u→h'.get? b=some u)
  (ho:∀b,H b=some (.own a)→H' b=some (.own a)) (ht:∀b u,H b=some u→xjd u→H' b=some u):xT P w H' h' a o:=by
 induction o with
 |lst xs=>obtain⟨z,its,n,r,e⟩:=x;exact⟨z,its,n,r,k _ _ (.inl rfl) e⟩
 |tup xs=>obtain⟨z,its,r,ob,e,c⟩:=x;exact⟨z,its,r,ob,k _ _ (.inl rfl) e,c⟩
 |dK kvs=>obtain⟨z,y,vs,r,ob,es,ep,e,c⟩:=x;exact⟨z,y,vs,r,ob,es,ep,k _ _ (.inl rfl) e,c⟩
 |dT kvs=>
  obtain⟨z,y,xs,r,ob,es,ep,e,c⟩:=x;exact⟨z,y,xs,Paired.mapP r fun p q z=>⟨z.1,ht _ _ z.2.1 trivial,z.2.2⟩,ob,es,ep,k _ _ (.inl rfl) e,c⟩
 |set S n=>obtain⟨ob,es,ep,t,e,c⟩:=x;exact⟨ob,es,ep,t,k _ _ (.inl rfl) e,c⟩
 |ins C dx fs=>
  obtain⟨d,z,ne,e,mA,⟨od,es,ep,e2,c⟩,r⟩:=x;exact⟨ho _ d,z,ne,k _ _ (.inl rfl) e,mA,⟨od,es,ep,k _ _ (.inr d) e2,c⟩,r⟩
 |own y=>obtain⟨ob,e⟩:=x;exact⟨ob,k _ _ (.inl rfl) e⟩
 |xd fs=>obtain⟨mA,⟨od,es,ep,e,c⟩,r⟩:=x;exact⟨mA,⟨od,es,ep,k _ _ (.inl rfl) e,c⟩,r⟩
 |rng lo hi=>obtain⟨t,u,v,e⟩:=x;exact⟨t,u,v,k _ _ (.inl rfl) e⟩
 |frz ob u ih=>obtain⟨e,q⟩:=x;exact⟨k _ _ (.inl rfl) e,ih q⟩
 |tbl qs=>
  obtain⟨ps,e,tr,r⟩:=x;refine⟨ps,k _ _ (.inl rfl) e,tr,fun pos q m=>?_⟩;rcases r pos q m with z|⟨c,ob,u,vs,t,z1,z2,z3⟩
  ·exact .inl z
  ·exact .inr ⟨c,ob,u,vs,t,z1,ht _ _ z2 trivial,z3⟩
 |cel v=>obtain⟨u,⟨ob,e,d⟩,r⟩:=x;exact⟨u,⟨ob,k _ _ (.inl rfl) e,d⟩,r⟩
 |met f y=>
  have e:h.get? a=some (W.methodObj (.ref f) (.ref y)):=x;show h'.get? a=some (W.methodObj (.ref f) (.ref y));exact k a _ (.inl rfl) e
 |ext φ=>obtain⟨p,⟨o,e⟩,st⟩:=x;exact⟨st _ _ p fun o q=>k _ _ (.inl rfl) q,⟨o,k _ _ (.inl rfl) e⟩,st⟩
theorem HOk.lt(x:HOk P w H h)(e:H a=some o):a<h.objs.size:=(x a o e).lt
theorem HOk.fresh(x:HOk P w H h)(e:h.objs.size≤a):H a=none:=by
 cases q:H a with
 |none=>rfl
 |some u=>exact absurd (az (x.lt q) e) (cA _)
theorem HOk.kept(x:HOk P w H h)(k:∀b u,h.get? b=some u→h'.get? b=some u):HOk P w H h':=fun a o e=>
 (x a o e).stay (fun b u _ q=>k b u q) (fun _ q=>q) fun _ _ q _=>q
theorem HOk.laid(x:HOk P w H h)(k:∀b u,h.get? b=some u→h'.get? b=some u)(hp:h.objs.size≤a)(new:xT P w (upd H a o) h' a o):HOk P w (upd H a o) h':=fun b u e=>by
 have hn:=x.fresh hp
 by_cases hb:b=a
 ·subst hb;rw[xn]at e;cases e;exact new
 ·rw[xH hb]at e;exact(x b u e).stay (fun c v _ q=>k c v q) (fun c q=>by rw[xH (zH q hn)];exact q) fun c xs q _=>by rw[xH (zH q hn)];exact q
end
def Rd(H:Hp)(a:Addr)(u:HO):Prop:=H a=some u∨∃o,H a=some (.frz o u)
theorem Rd.ok{P:aF}{w:World}{H:Hp}{h:Heap}{a:Addr}{u:HO}(r:Rd H a u)(x:HOk P w H h):xT P w H h a u:=by
 rcases r with r|⟨o,r⟩
 ·exact x a u r
 ·obtain⟨_,q⟩:=x a _ r;exact q
def Mut:Option HO→Prop
 |some (.lst _)=>True
 |some (.dK _)=>True
 |some (.dT _)=>True
 |some (.set _ _)=>True
 |some (.ins _ _ _)=>True
 |some (.ext _)=>True
 |_=>False
section
variable {P:aF} {w:World} {H:Hp} {h h':Heap} {x e:Addr} {o':HO}
theorem HOk.write(ok:HOk P w H h)(mu:Mut (H x))(he:e=x∨H e=some (.own x))(k:∀b u,b≠e→h.get? b=some u→h'.get? b=some u)(heo:∃u,h'.get? e=some u)
  (new:xT P w (upd H x o') h' x o'):HOk P w (upd H x o') h':=fun b u q=>by
 have nown:∀c y,H c=some (.own y)→c≠x:=fun c y r z=>by subst z;rw[r]at mu;exact mu
 have ntup:∀c u,H c=some u→xjd u→c≠x:=fun c u r hf z=>by
  subst z;rw[r]at mu;cases u<;> first|exact mu|exact hf
 by_cases hb:b=x
 ·subst hb;rw[xn]at q;cases q;exact new
 ·rw[xH hb]at q
  by_cases hbe:b=e
  ·have q':H b=some (.own x):=by
    rcases he with z|z
    ·exact absurd (hbe.trans z) hb
    ·rw[hbe];exact z
   rw[q]at q';cases q';obtain⟨v,hv⟩:=heo;exact⟨v,by rw[hbe];exact hv⟩
  ·refine(ok b u q).stay (fun c v hc r=>k c v ?_ r) (fun c r=>by rw[xH (nown c b r)];exact r) fun c xs r hf=>by rw[xH (ntup c xs r hf)];exact r
   rcases hc with rfl|hc
   ·exact hbe
   ·rintro rfl;rcases he with z|z
    ·exact nown c b hc z
    ·rw[hc]at z;cases z;exact hb rfl
end
structure Un(fs ex:List Addr)(H H':Hp)(h h':Heap):Prop where
 keep:∀b o,h.get? b=some o→H b=none→b∉fs→b∉ex→h'.get? b=some o
 slot:∀b o,h.get? b=some o→H b=none→b∈fs→b∉ex→∃sl,h'.get? b=some {o with slots:=sl}
 free:∀b o,h.get? b=some o→H b=none→b∉ex→H' b=none
 there:∀b o,h.get? b=some o→b∉ex→∃o',h'.get? b=some o'
 fix:∀b u,H b=some u→Fix u→H' b=some u
section
variable {fs fs' ex ex':List Addr} {H H1 H2:Hp} {h h1 h2 h':Heap} {a x e:Addr} {o:HO}
theorem Un.any(u:Un fs ex H H1 h h1){b:Addr}{ob:Obj}(q:h.get? b=some ob)(n:H b=none)(hx:b∉ex):∃sl,h1.get? b=some {ob with slots:=sl}:=by
 by_cases hb:b∈fs
 ·exact u.slot b ob q n hb hx
 ·exact⟨ob.slots,u.keep b ob q n hb hx⟩
theorem Un.kept(k:∀b u,h.get? b=some u→h'.get? b=some u):Un fs ex H H h h':=
 ⟨fun b ob q _ _ _=>k b ob q,fun b ob q _ _ _=>⟨ob.slots,k b ob q⟩,fun _ _ _ n _=>n,fun b ob q _=>⟨ob,k b ob q⟩,fun _ _ q _=>q⟩
theorem Un.refl:Un fs ex H H h h:=Un.kept fun _ _ q=>q
theorem Un.laid(k:∀b u,h.get? b=some u→h'.get? b=some u)(hp:h.objs.size≤a)(hn:H a=none):Un fs ex H (upd H a o) h h' where
 keep:=fun b u q _ _ _=>k b u q
 slot:=fun b u q _ _ _=>⟨u.slots,k b u q⟩
 free:=fun b u q n _=>by rw[xH (bc (az (aG q) hp))];exact n
 there:=fun b u q _=>⟨u,k b u q⟩
 fix:=fun b u q _=>by rw[xH (zH q hn)];exact q
theorem Un.write(mu:Mut (H x))(he:e=x∨H e=some (.own x))(k:∀b u,b≠e→h.get? b=some u→h'.get? b=some u)(heo:∃u,h'.get? e=some u):Un fs ex H (upd H x o) h h':=by
 have hx:∀b,H b=none→b≠x:=fun b n z=>by subst z;rw[n]at mu;exact mu
 have hb:∀b,H b=none→b≠e:=fun b n z=>by
  subst z;rcases he with r|r
  ·exact hx b n r
  ·rw[n]at r;cases r
 have hm:∀b u,H b=some u→¬Mut (some u)→b≠x:=fun b u q nm z=>by subst z;rw[q]at mu;exact nm mu
 refine⟨fun b u q n _ _=>k b u (hb b n) q,fun b u q n _ _=>⟨u.slots,k b u (hb b n) q⟩,fun b u q n _=>by rw[xH (hx b n)];exact n,fun b u q _=>?_,
  fun b u q hf=>by rw[xH (hm b _ q fun z=>by cases u<;> first|exact z|exact hf)];exact q⟩
 by_cases hbe:b=e
 ·subst hbe;exact heo
 ·exact⟨u,k b u hbe q⟩
end
def trk(h:Heap)(H:Hp):List Addr:=(gn h.objs.size).filter fun a=>(H a).isSome
def vR(h:Heap)(H:Hp):Heap:=W.hideAll h (trk h H)
theorem xfX(h:Heap)(H:Hp):(vR h H).objs.size=h.objs.size:=W.hideAll_size _ _
theorem xg7{h:Heap}{H:Hp}{b:Addr}{o:Obj}(e:h.get? b=some o)(n:H b=none):(vR h H).get? b=some o:=
 W.hideAll_get _ e fun hm=>by
  have q:(H b).isSome=true:=(fU.mp hm).2;rw[n]at q;simp at q
theorem xie{h:Heap}{H:Hp}{b:Addr}{o:Obj}(e:(vR h H).get? b=some o):h.get? b=some o∧H b=none:=by
 have e':h.get? b=some o:=W.of_hideAll (trk h H) e;refine⟨e',?_⟩;cases q:H b with
 |none=>rfl
 |some x=>
  have hm:b∈trk h H:=fU.mpr ⟨List.mem_range.mpr (aG e'),by simp[q]⟩;have z:(vR h H).get? b=none:=W.hideAll_none (trk h H) hm;rw[z]at e;cases e
end L2
namespace L2
open PySem PySem.Spec PyProof.Rows
structure Mod(K:ah)(mg:Str→Option Value)(base:Heap):Prop where
 kin:K.In base
 glob:base.Ns bM mg
 blt:∃mb,base.Ns eE mb∧∀x:Str,x≠"__name__"→mb x=bJ x
 nolimit:base.NoLimit
 bm:∃b o,mg "__builtins__"=some (.ref b)∧b≠eE∧base.get? b=some o∧o.cls= .type "module"∧o.dict=some eE∧o.data= .plain
structure Cx where
 prog:aF
 w:World
 K:ah
 mg:Str→Option Value
 base:Heap
 A:aW
 N:List Str
 s₀:ae
 H₀:Hp
 env:Env
 outer:List Env
 stack:List Env
 ex:List Addr
 fn:Str→Bool
 calm:Bool
 pn:List (Addr×Obj)
 xe:Value→ae→Prop
 cp:Str→Bool
def frs(l:List Env):List Addr:=l.filterMap (·.frame)
abbrev Cx.fs(X:Cx):List Addr:=frs X.outer
def Vis(sc:Scope)(x:Str):Prop:=sc.names.lookup x=some .local∨sc.names.lookup x=some .cell∨sc.names.lookup x=some .free
def Loc(sc:Scope)(x:Str):Prop:=sc.names.lookup x=some .local∨sc.names.lookup x=some .cell
def Look(env:Env)(h:Heap)(m:Str→Option Value)(x:Str)(u:Value):Prop:=
 (env.kindOf x=some .local∧m x=some u)∨((env.kindOf x=some .cell∨env.kindOf x=some .free)∧∃c,env.cells.lookup x=some c∧h.IsCell c (some u))
structure Cx.Ok(X:Cx):Prop where
 mod:Mod X.K X.mg X.base
 kind:X.env.scope.kind= .function
 glob:X.env.globals=bM
 blt:X.env.builtins=eE
 above:X.s₀.heap.objs.size≤X.env.locals
 inj:∀x y c,X.env.cells.lookup x=some c→X.env.cells.lookup y=some c→x=y
 has:∀x,(X.env.kindOf x=some .cell∨X.env.kindOf x=some .free)→∃c,X.env.cells.lookup x=some c
 cab:∀x c,X.fn x=true→X.env.cells.lookup x=some c→X.s₀.heap.objs.size≤c
 hd:X.calm=true→X.A.handled=none
 frames:X.A.frames=some X.stack
 stk:X.stack=X.outer∨(X.stack=X.env::X.outer∧X.env.frame=some X.env.locals)
 exf:∀b∈X.ex,b≠X.env.locals∧∀x c,X.env.cells.lookup x=some c→c≠b
 bs:∀b o,X.base.get? b=some o→X.s₀.heap.get? b=some o∧X.H₀ b=none
 bsz:X.base.objs.size≤X.s₀.heap.objs.size
 noex:∀b o,X.base.get? b=some o→b∉X.ex
 exfs:∀b∈X.ex,b∉X.fs
 funs:X.s₀.heap.FunFrames X.base X.outer
 frf:∀b∈X.fs,X.H₀ b=none
 cab2:∀x c,X.cp x=true→X.env.cells.lookup x=some c→X.s₀.heap.objs.size≤c
 hz:∀b,X.s₀.heap.objs.size≤b→X.H₀ b=none
structure Inv(X:Cx)(pins:List (Addr×Obj))(σ:List (Option V))(H:Hp)(s:ae):Prop where
 ok:X.Ok
 os:s.os=X.s₀.os
 bare:dP s.gens
 base:Un X.fs X.ex X.H₀ H X.s₀.heap s.heap
 loc:∃m,s.heap.Ns X.env.locals m∧∀(i:Nat) (x:Str) (v:V),X.N[i]? =some x→σ[i]? =some (some v)→Vis X.env.scope x→∃u,RelV v u∧Look X.env s.heap m x u
 cell:∀x c,X.env.cells.lookup x=some c→∃v,s.heap.IsCell c v
 free:H X.env.locals=none
 freeC:∀x c,X.env.cells.lookup x=some c→H c=none∨(X.fn x=false∧∃o,H c=some (.cel o)∧(o=none→∀(i:Nat) v,X.N[i]? =some x→(X.env.kindOf x=some .cell∨X.env.kindOf x=some .free)→σ[i]?≠some (some v)))
 pin:∀p∈X.pn++pins,s.heap.get? p.1=some p.2∧H p.1=none∧p.1≠X.env.locals∧p.1∉X.fs∧∀v,p.2.data≠.cell v
 hok:HOk X.prog X.w H s.heap
 len:σ.length=X.N.length
section
variable {X:Cx} {pins:List (Addr×Obj)} {σ:List (Option V)} {H H':Hp} {s:ae} {h':Heap}
theorem Cx.Ok.nofr(ok:X.Ok){b:Addr}{o:Obj}(e:X.base.get? b=some o):b∉X.fs:=fun hb=>by
 have:=(ok.funs.mem hb).1;rw[e]at this;cases this
theorem Inv.bs(I:Inv X pins σ H s):∀b o,X.base.get? b=some o→s.heap.get? b=some o∧H b=none:=fun b o e=>
 ⟨I.base.keep b o (I.ok.bs b o e).1 (I.ok.bs b o e).2 (I.ok.nofr e) (I.ok.noex b o e),I.base.free b o (I.ok.bs b o e).1 (I.ok.bs b o e).2 (I.ok.noex b o e)⟩
theorem Inv.bk(I:Inv X pins σ H s):∀b o,X.base.get? b=some o→s.heap.get? b=some o:=fun b o e=>(I.bs b o e).1
theorem Inv.mod(I:Inv X pins σ H s):Mod X.K X.mg X.base:=I.ok.mod
theorem Inv.kIn(I:Inv X pins σ H s):X.K.In s.heap:=I.ok.mod.kin.keeps I.bk
theorem Inv.lt(I:Inv X pins σ H s):X.env.locals<s.heap.objs.size:=let⟨_,hn,_⟩:=I.loc;hn.lt
theorem Inv.sz(I:Inv X pins σ H s):X.s₀.heap.objs.size≤s.heap.objs.size:=aO I.ok.above (fK I.lt)
theorem Inv.nofs(I:Inv X pins σ H s){a:Addr}(h:s.heap.objs.size≤a):a∉X.fs:=fun hb=>by
 obtain⟨_,o,ho,_⟩:=I.ok.funs.mem hb;exact absurd (az (aG ho) (aO I.sz h)) (cA _)
theorem Inv.cne(I:Inv X pins σ H s):∀x c,X.env.cells.lookup x=some c→c≠X.env.locals:=fun x c e z=>by
 obtain⟨v,o,ho,hd⟩:=I.cell x c e;obtain⟨m,⟨o',es,ep,ho',hd',_⟩,_⟩:=I.loc;rw[z,ho']at ho;cases ho;rw[hd']at hd;cases hd
theorem Inv.funs(I:Inv X pins σ H s):s.heap.FunFrames X.base X.outer:=by
 have all:∀(l:List Env),(∀b∈frs l,b∈X.fs)→X.s₀.heap.FunFrames X.base l→s.heap.FunFrames X.base l:=by
  intro l
  induction l with
  |nil=>intro _ _;trivial
  |cons env r ih=>
   intro hs hl;obtain⟨hk,⟨L,o,hf,hn,ho,hd⟩,hr⟩:=hl;have hL:L∈X.fs:=hs L (by unfold frs;rw[dS,hf];exact aL);obtain⟨sl,e⟩:=I.base.slot L o ho (I.ok.frf L hL) hL fun z=>I.ok.exfs L z hL;exact⟨hk,⟨L,_,hf,hn,e,hd⟩,ih (fun b hb=>hs b (by unfold frs;rw[dS,hf];exact ak _ hb)) hr⟩
 exact all X.outer (fun _ hb=>hb) I.ok.funs
theorem Inv.stack(I:Inv X pins σ H s):s.heap.FunFrames X.base X.stack:=by
 rcases I.ok.stk with e|⟨e,hf⟩
 ·rw[e];exact I.funs
 ·rw[e];obtain⟨m,hn,_⟩:=I.loc;refine .cons (by rw[I.ok.kind];decide) hf hn ?_ I.funs;exact eY (aO I.ok.bsz I.ok.above)
theorem Inv.stkSub(I:Inv X pins σ H s):∀b∈frs X.stack,b∈X.env.locals::X.fs:=fun b hb=>by
 rcases I.ok.stk with e|⟨e,hf⟩
 ·rw[e]at hb;exact ak _ hb
 ·rw[e]at hb;unfold frs at hb;rw[dS,hf]at hb;exact hb
theorem Inv.stkFree(I:Inv X pins σ H s):∀b∈frs X.stack,H b=none:=fun b hb=>by
 rcases ax.mp (I.stkSub b hb)with e|hb
 ·rw[e];exact I.free
 ·obtain⟨_,o,ho,_⟩:=I.ok.funs.mem hb;exact I.base.free b o ho (I.ok.frf b hb) fun z=>I.ok.exfs b z hb
theorem Inv.step{g':Array GenState}{t':Nat}{d':Drawn}{ch:List Addr}(I:Inv X pins σ H s)
  (hch:∀b∈ch,(b∈X.ex∨X.s₀.heap.objs.size≤b)∧b≠X.env.locals∧(∀x c,X.env.cells.lookup x=some c→c≠b)∧∀p∈X.pn++pins,p.1≠b)
  (keep:∀b o,b≠X.env.locals→b∉X.fs→b∉ch→s.heap.get? b=some o→H b=none→h'.get? b=some o)
  (slot:∀b o,b≠X.env.locals→b∈X.fs→b∉ch→s.heap.get? b=some o→H b=none→∃sl,h'.get? b=some {o with slots:=sl}) (free:∀b o,b∉ch→s.heap.get? b=some o→H b=none→H' b=none)
  (there:∀b o,b∉ch→s.heap.get? b=some o→∃o',h'.get? b=some o')
  (fix:∀b u,H b=some u→Fix u→H' b=some u)
  (ns:∀m,s.heap.Ns X.env.locals m→h'.Ns X.env.locals m) (hok:HOk X.prog X.w H' h') (hg:dP g'):
  Inv X pins σ H' {s with heap:=h',gens:=g',drawn:=d',toks:=t'}:=by
 have neL:∀b o,X.s₀.heap.get? b=some o→b≠X.env.locals:=fun b o e=>bc (az (aG e) I.ok.above);have neC:∀b o,X.s₀.heap.get? b=some o→b∉X.ex→b∉ch:=fun b o e hx hb=>by
  rcases(hch b hb).1 with z|z
  ·exact hx z
  ·exact absurd (az (aG e) z) (cA _)
 have cellK:∀x c,X.env.cells.lookup x=some c→H c=none→∀v,s.heap.IsCell c v→h'.IsCell c v:=fun x c e hn v ⟨o,ho,hd⟩=>by
  have nch:c∉ch:=fun z=>(hch c z).2.2.1 x c e rfl
  by_cases hc:c∈X.fs
  ·obtain⟨sl,q⟩:=slot c o (I.cne x c e) hc nch ho hn;exact⟨_,q,hd⟩
  ·exact⟨o,keep c o (I.cne x c e) hc nch ho hn,hd⟩
 refine⟨I.ok,I.os,hg,⟨fun b o e n hb hx=>?_,fun b o e n hb hx=>?_,fun b o e n hx=>?_,fun b o e hx=>?_,fun b u e f=>fix b u (I.base.fix b u e f) f⟩,?_,fun x c e=>?_,?_,fun x c e=>?_,fun p hp=>?_,hok,I.len⟩
 ·exact keep b o (neL b o e) hb (neC b o e hx) (I.base.keep b o e n hb hx) (I.base.free b o e n hx)
 ·obtain⟨sl,e1⟩:=I.base.slot b o e n hb hx;obtain⟨sl',e2⟩:=slot b _ (neL b o e) hb (neC b o e hx) e1 (I.base.free b o e n hx);exact⟨sl',e2⟩
 ·obtain⟨o',e1⟩:=I.base.there b o e hx;exact free b o' (neC b o e hx) e1 (I.base.free b o e n hx)
 ·obtain⟨o',e1⟩:=I.base.there b o e hx;exact there b o' (neC b o e hx) e1
 ·obtain⟨m,hn,hl⟩:=I.loc;refine⟨m,ns m hn,fun i x v e1 e2 e3=>?_⟩;obtain⟨u,r,l⟩:=hl i x v e1 e2 e3;rcases l with l|⟨k,c,e,z⟩
  ·exact⟨u,r,.inl l⟩
  ·rcases I.freeC x c e with hn'|⟨_,o,ho,hno⟩
   ·exact⟨u,r,.inr ⟨k,c,e,cellK x c e hn' _ z⟩⟩
   ·cases o with
    |none=>exact absurd e2 (hno rfl i v e1 k)
    |some v'=>
     obtain⟨y,hy,hr⟩:=I.hok c _ ho;obtain⟨y',hy',hr'⟩:=hok c _ (fix c _ ho trivial);obtain⟨y2,rfl,r2⟩:=hr v' rfl;obtain⟨y3,rfl,r3⟩:=hr' v' rfl;have:v=v':=RelV.fn r (by
      obtain⟨o1,q1,q2⟩:=z;obtain⟨o2,q3,q4⟩:=hy;rw[q1]at q3;cases q3;rw[q2]at q4;cases q4;exact r2)
     subst this;exact⟨y3,r3,.inr ⟨k,c,e,hy'⟩⟩
 ·rcases I.freeC x c e with hn'|⟨_,o,ho,_⟩
  ·obtain⟨v,z⟩:=I.cell x c e;exact⟨v,cellK x c e hn' v z⟩
  ·obtain⟨y',hy',_⟩:=hok c _ (fix c _ ho trivial);exact⟨y',hy'⟩
 ·obtain⟨m,⟨o,_,_,ho,_⟩,_⟩:=I.loc;exact free _ o (fun z=>(hch _ z).2.1 rfl) ho I.free
 ·rcases I.freeC x c e with hn'|⟨hf,o,ho,hno⟩
  ·obtain⟨v,o,ho,hd⟩:=I.cell x c e;exact .inl (free c o (fun z=>(hch c z).2.2.1 x c e rfl) ho hn')
  ·exact .inr ⟨hf,o,fix c _ ho trivial,hno⟩
 ·obtain⟨e,n,ne,nf,d⟩:=I.pin p hp;have nch:p.1∉ch:=fun z=>(hch p.1 z).2.2.2 p hp rfl;exact⟨keep p.1 p.2 ne nf nch e n,free p.1 p.2 nch e n,ne,nf,d⟩
theorem Inv.un{t':Nat}(I:Inv X pins σ H s)(u:Un X.fs [] H H' s.heap h')(hok:HOk X.prog X.w H' h'):Inv X pins σ H' {s with heap:=h',toks:=t'}:=by
 obtain⟨m,⟨o,es,ep,ho,r⟩,_⟩:=id I.loc;obtain⟨sl,hL⟩:=u.any ho I.free (by simp);exact I.step (g':=s.gens) (d':=s.drawn) (ch:=[]) (fun _ z=>nomatch z) (fun b o _ hb _ e n=>u.keep b o e n hb (by simp)) (fun b o _ hb _ e n=>u.slot b o e n hb (by simp)) (fun b o _ e n=>u.free b o e n (by simp)) (fun b o _ e=>u.there b o e (by simp)) u.fix (fun m' hm=>by
  obtain⟨o',es',ep',ho',r'⟩:=hm;rw[ho]at ho';cases ho';exact⟨_,es',ep',hL,r'⟩) hok I.bare
theorem Inv.call{g':Array GenState}{t':Nat}{d':Drawn}{ch:List Addr}(I:Inv X pins σ H s)(u:Un (frs X.stack) ch H H' s.heap h')(hok:HOk X.prog X.w H' h')(hg:dP g')
  (hch:∀b∈ch,(b∈X.ex∨X.s₀.heap.objs.size≤b)∧b≠X.env.locals∧(∀x c,X.env.cells.lookup x=some c→c≠b)∧∀p∈X.pn++pins,p.1≠b):
  Inv X pins σ H' {s with heap:=h',gens:=g',drawn:=d',toks:=t'}:=by
 obtain⟨m,⟨o,es,ep,ho,r⟩,_⟩:=id I.loc;obtain⟨sl,hL⟩:=u.any ho I.free fun z=>(hch _ z).2.1 rfl;exact I.step (ch:=ch) hch (fun b o hL hb hc e n=>u.keep b o e n (fun z=>(ax.mp (I.stkSub b z)).elim hL hb) hc) (fun b o _ _ hc e n=>u.any e n hc) (fun b o hc e n=>u.free b o e n hc) (fun b o hc e=>u.there b o e hc) u.fix (fun m' hm=>by
  obtain⟨o',es',ep',ho',r'⟩:=hm;rw[ho]at ho';cases ho';exact⟨_,es',ep',hL,r'⟩) hok hg
theorem Inv.turned{t':Nat}{it:Addr}(I:Inv X pins σ H s)(k:∀b o,b≠it→s.heap.get? b=some o→h'.get? b=some o)(hn:H it=none)(hL:it≠X.env.locals)
  (h1:it∈X.ex∨X.s₀.heap.objs.size≤it) (h2:∀x c,X.env.cells.lookup x=some c→c≠it) (h3:∀p∈X.pn++pins,p.1≠it):Inv X pins σ H {s with heap:=h',toks:=t'}:=by
 have nit:∀b u,H b=some u→b≠it:=fun b u e z=>by rw[z,hn]at e;cases e
 refine I.step (g':=s.gens) (d':=s.drawn) (ch:=[it]) (fun b hb=>?_) (fun b o _ _ hc e _=>k b o (fun z=>hc (by simp[z])) e) (fun b o _ _ hc e _=>⟨o.slots,k b o (fun z=>hc (by simp[z])) e⟩) (fun _ _ _ _ n=>n)
  (fun b o hc e=>⟨o,k b o (fun z=>hc (by simp[z])) e⟩) (fun _ _ e _=>e) (fun m hm=>?_) (fun b u e=>?_) I.bare
 ·have e:b=it:=by simpa using hb
  subst e;exact⟨h1,hL,h2,h3⟩
 ·obtain⟨o,es,ep,ho,r⟩:=hm;exact⟨o,es,ep,k _ o (bz hL) ho,r⟩
 ·refine(I.hok b u e).stay (fun c v hc q=>k c v ?_ q) (fun _ q=>q) fun _ _ q _=>q;rcases hc with z|z
  ·rw[z];exact nit b u e
  ·exact nit c _ z
theorem Inv.tok(I:Inv X pins σ H s)(t:Nat):Inv X pins σ H {s with toks:=t}:=I.un (h':=s.heap) (t':=t) Un.refl I.hok
theorem Inv.kept{t':Nat}(I:Inv X pins σ H s)(k:∀b u,s.heap.get? b=some u→h'.get? b=some u):Inv X pins σ H {s with heap:=h',toks:=t'}:=I.un (Un.kept k) (I.hok.kept k)
theorem Inv.laid{a:Addr}{o:HO}{t':Nat}(I:Inv X pins σ H s)(k:∀b u,s.heap.get? b=some u→h'.get? b=some u)(hp:s.heap.objs.size≤a)(new:xT X.prog X.w (upd H a o) h' a o):
  Inv X pins σ (upd H a o) {s with heap:=h',toks:=t'}:=I.un (Un.laid k hp (I.hok.fresh hp)) (I.hok.laid k hp new)
theorem Inv.write{x e:Addr}{o:HO}{t':Nat}(I:Inv X pins σ H s)(mu:Mut (H x))(he:e=x∨H e=some (.own x))(k:∀b u,b≠e→s.heap.get? b=some u→h'.get? b=some u)(heo:∃u,h'.get? e=some u)
  (new:xT X.prog X.w (upd H x o) h' x o):Inv X pins σ (upd H x o) {s with heap:=h',toks:=t'}:=I.un (Un.write mu he k heo) (I.hok.write mu he k heo new)
theorem Inv.weak{σ':List (Option V)}(I:Inv X pins σ H s)(hl:σ'.length=σ.length)(w:∀(i:Nat) v,σ'[i]? =some (some v)→σ[i]? =some (some v)):Inv X pins σ' H s:=
 ⟨I.ok,I.os,I.bare,I.base,let⟨m,hn,hl'⟩:=I.loc;⟨m,hn,fun i x v e1 e2 e3=>hl' i x v e1 (w i v e2) e3⟩,I.cell,I.free,fun x c e=>(I.freeC x c e).imp id fun⟨hf,o,ho,hno⟩=>⟨hf,o,ho,fun z i v e1 k e2=>hno z i v e1 k (w i v e2)⟩,I.pin,I.hok,hl.trans I.len⟩
theorem Inv.pins_of{pins':List (Addr×Obj)}(I:Inv X pins σ H s)(h:∀p∈pins',s.heap.get? p.1=some p.2∧H p.1=none∧p.1≠X.env.locals∧p.1∉X.fs∧∀v,p.2.data≠.cell v):Inv X pins' σ H s:=
 ⟨I.ok,I.os,I.bare,I.base,I.loc,I.cell,I.free,I.freeC,fun p hp=>(aN.mp hp).elim (fun z=>I.pin p (aU _ z)) (h p),I.hok,I.len⟩
theorem xaV{N:List Str}(hN:N.Nodup){i j:Nat}{x:Str}(a:N[i]? =some x)(b:N[j]? =some x):i=j:=by
 obtain⟨h1,e1⟩:=bx.mp a;obtain⟨h2,e2⟩:=bx.mp b;exact(List.getElem_inj hN).mp (e1.trans e2.symm)
theorem xck{M:Model}{A:aW}{E:Value→ae→Prop}{i:Nat}{x:Str}{v:V}{u:Value}{Q:Unit→ae→Prop}(I:Inv X pins σ H s)(hN:X.N.Nodup)(hi:X.N[i]? =some x)(hx:Loc X.env.scope x)(r:RelV v u)
  (h:∀s',Inv X pins (σ.set i (some v)) H s'→(∃a,cI a s.heap s'.heap∧(a=X.env.locals∨X.env.cells.lookup x=some a))→Q () s') (hf:X.fn x=true∨X.env.scope.names.lookup x=some .local:=by first|exact .inl rfl|exact .inr rfl|assumption):wpAny M A (storeName X.env x u) Q E s:=by
 obtain⟨m,hn,hl⟩:=id I.loc;have hcls:(X.env.scope.kind== .class||(X.env.scope.kind== .module&&X.env.locals != X.env.globals))=false:=by rw[I.ok.kind];rfl
 have hiσ:i<σ.length:=by rw[I.len];exact(bx.mp hi).1
 have cne:=I.cne;have tracked:∀{a:Addr} {h':Heap},(∃o,s.heap.get? a=some o∧H a=none)→cI a s.heap h'→HOk X.prog X.w H h':=fun{a h'} ha hs b ob e=>by
  obtain⟨_,_,hfree⟩:=ha;refine(I.hok b ob e).stay (fun c w' hc q=>(hs.2 c ?_).trans q) (fun _ q=>q) fun _ _ q _=>q;rintro rfl;rcases hc with rfl|hc
  ·rw[hfree]at e;cases e
  ·rw[hfree]at hc;cases hc
 rcases hx with hk|hk
 ·refine wpAny_storeName_local hk hn (fun h' hn' hs=>?_) hcls;obtain⟨oL,_,_,hoL,_⟩:=id hn;refine h _ ⟨I.ok,I.os,I.bare,⟨fun b o e n hb hx=>?_,fun b o e n hb hx=>?_,I.base.free,fun b o e hx=>?_,I.base.fix⟩,⟨_,hn',fun j y v' e1 e2 e3=>?_⟩,fun y c e=>?_,I.free,fun y c e=>?_,fun p hp=>?_,tracked ⟨oL,hoL,I.free⟩ hs,by simpa using I.len⟩ ⟨_,hs,.inl rfl⟩
  ·exact(hs.2 b (bc (az (aG e) I.ok.above))).trans (I.base.keep b o e n hb hx)
  ·obtain⟨sl,e1⟩:=I.base.slot b o e n hb hx;exact⟨sl,(hs.2 b (bc (az (aG e) I.ok.above))).trans e1⟩
  ·obtain⟨o',e1⟩:=I.base.there b o e hx;exact⟨o',(hs.2 b (bc (az (aG e) I.ok.above))).trans e1⟩
  ·by_cases hj:j=i
   ·subst hj;rw[hi]at e1;cases e1;rw[dy hiσ]at e2;cases e2;exact⟨u,r,.inl ⟨hk,by simp⟩⟩
   ·rw[cu (bz hj)]at e2;obtain⟨u',r',q⟩:=hl j y v' e1 e2 e3;refine⟨u',r',?_⟩;rcases q with⟨k,e⟩|⟨k,c,e,z⟩
    ·refine .inl ⟨k,?_⟩;have:y≠x:=fun e=>hj (xaV hN e1 (e▸hi));simp[this,e]
    ·exact .inr ⟨k,c,e,z.sameBut hs (cne y c e)⟩
  ·obtain⟨w',z⟩:=I.cell y c e;exact⟨w',z.sameBut hs (cne y c e)⟩
  ·refine(I.freeC y c e).imp id fun⟨hf',o',ho',hno⟩=>⟨hf',o',ho',fun z j v' e1 k e2=>?_⟩
   by_cases hj:j=i
   ·subst hj;rw[hi]at e1;cases e1;have hk':X.env.kindOf x=some .local:=hk;rw[hk']at k;rcases k with k|k<;> cases k
   ·rw[cu (bz hj)]at e2;exact hno z j v' e1 k e2
  ·obtain⟨e,n,ne,nf,d⟩:=I.pin p hp;exact⟨(hs.2 p.1 ne).trans e,n,ne,nf,d⟩
 ·have hfn:X.fn x=true:=by
   rcases hf with z|z
   ·exact z
   ·rw[z]at hk;cases hk
  obtain⟨c,hc⟩:=I.ok.has x (.inl hk);have hHc:H c=none:=by
   rcases I.freeC x c hc with z|⟨z,_⟩
   ·exact z
   ·rw[hfn]at z;cases z
  obtain⟨w',z⟩:=I.cell x c hc;refine wpAny_storeName_cell I.ok.kind hk hc z (fun h' hc' hs=>?_);obtain⟨oc,hoc,hocd⟩:=id z;refine h {s with heap:=h'} ⟨I.ok,I.os,I.bare,⟨fun b o e n hb hx=>?_,fun b o e n hb hx=>?_,I.base.free,fun b o e hx=>?_,I.base.fix⟩,⟨m,hn.sameBut hs (bz (cne x c hc)),fun j y v' e1 e2 e3=>?_⟩,fun y c' e=>?_,I.free,fun y c' e=>?_,fun p hp=>?_,tracked ⟨oc,hoc,hHc⟩ hs,by simpa using I.len⟩ ⟨c,hs,.inr hc⟩
  ·exact(hs.2 b (bc (az (aG e) (I.ok.cab x c hfn hc)))).trans (I.base.keep b o e n hb hx)
  ·obtain⟨sl,e1⟩:=I.base.slot b o e n hb hx;exact⟨sl,(hs.2 b (bc (az (aG e) (I.ok.cab x c hfn hc)))).trans e1⟩
  ·obtain⟨o',e1⟩:=I.base.there b o e hx;exact⟨o',(hs.2 b (bc (az (aG e) (I.ok.cab x c hfn hc)))).trans e1⟩
  ·by_cases hj:j=i
   ·subst hj;rw[hi]at e1;cases e1;rw[dy hiσ]at e2;cases e2;exact⟨u,r,.inr ⟨.inl hk,c,hc,hc'⟩⟩
   ·rw[cu (bz hj)]at e2;obtain⟨u',r',q⟩:=hl j y v' e1 e2 e3;refine⟨u',r',?_⟩;rcases q with q|⟨k,c',e,z'⟩
    ·exact .inl q
    ·refine .inr ⟨k,c',e,z'.sameBut hs ?_⟩;rintro rfl;exact hj (xaV hN e1 (I.ok.inj _ _ _ e hc▸hi))
  ·by_cases hcc:c'=c
   ·subst hcc;exact⟨_,hc'⟩
   ·obtain⟨w2,z2⟩:=I.cell y c' e;exact⟨w2,z2.sameBut hs hcc⟩
  ·refine(I.freeC y c' e).imp id fun⟨hf',o',ho',hno⟩=>⟨hf',o',ho',fun z j v' e1 k e2=>?_⟩
   by_cases hj:j=i
   ·subst hj;rw[hi]at e1;cases e1;rw[hfn]at hf';cases hf'
   ·rw[cu (bz hj)]at e2;exact hno z j v' e1 k e2
  ·obtain⟨e,n,ne,nf,d⟩:=I.pin p hp;refine⟨(hs.2 p.1 ?_).trans e,n,ne,nf,d⟩;intro q;rw[q,hoc]at e;have q':oc=p.2:=aE e;exact d w' (by rw[←q'];exact hocd)
theorem uI{M:Model}{A:aW}{E:Value→ae→Prop}{i:Nat}{x:Str}{v:V}{u:Value}{Q:Unit→ae→Prop}(I:Inv X pins σ H s)(hN:X.N.Nodup)(hi:X.N[i]? =some x)(hx:Loc X.env.scope x)(r:RelV v u)
  (h:∀s',Inv X pins (σ.set i (some v)) H s'→Q () s') (hf:X.fn x=true∨X.env.scope.names.lookup x=some .local:=by first|exact .inl rfl|exact .inr rfl|assumption):wpAny M A (storeName X.env x u) Q E s:=
 xck I hN hi hx r (fun s' I' _=>h s' I') hf
theorem Inv.call'{s':ae}{ch:List Addr}(I:Inv X pins σ H s)(ho:s'.os=s.os)(u:Un (frs X.stack) ch H H' s.heap s'.heap)(hok:HOk X.prog X.w H' s'.heap)(hg:dP s'.gens)
  (hch:∀b∈ch,(b∈X.ex∨X.s₀.heap.objs.size≤b)∧b≠X.env.locals∧(∀x c,X.env.cells.lookup x=some c→c≠b)∧∀p∈X.pn++pins,p.1≠b):Inv X pins σ H' s':=by
 obtain⟨h',g',d',t',o'⟩:=s';have e:o'=s.os:=ho;subst e;exact I.call (g':=g') (t':=t') (d':=d') u hok hg hch
end
abbrev XK:=Value→Option Addr→Hp→Prop
abbrev St:=List (Option V)
abbrev VK:=V→Hp→Prop
abbrev TE:=St→Hp→VK→Prop
abbrev TT:=St→Hp→(Bool→Hp→Prop)→Prop
abbrev TA:=St→Hp→(List V→Hp→Prop)→Prop
structure Ends where
 nx:St→Hp→Prop
 rt:VK
 bk:St→Hp→Prop:=fun _ _=>False
 ct:St→Hp→Prop:=fun _ _=>False
abbrev TS:=Ends→St→Hp→Prop
def EP(X:Cx)(pins:List (Addr×Obj))(σ:St)(Q:VK)(u:Value)(s':ae):Prop:=∃v H',Inv X pins σ H' s'∧RelV v u∧Q v H'
def TP(X:Cx)(pins:List (Addr×Obj))(σ:St)(Q:Bool→Hp→Prop)(b:Bool)(s':ae):Prop:=∃H',Inv X pins σ H' s'∧Q b H'
def AP(X:Cx)(pins:List (Addr×Obj))(σ:St)(Q:List V→Hp→Prop)(us:List Value)(s':ae):Prop:=∃vs H',Inv X pins σ H' s'∧Vals vs us∧Q vs H'
def SP(X:Cx)(pins:List (Addr×Obj))(D:Ends)(f:Flow)(s':ae):Prop:=
 match f with
 | .next=>∃σ' H',Inv X pins σ' H' s'∧D.nx σ' H'
 | .brk=>∃σ' H',Inv X pins σ' H' s'∧D.bk σ' H'
 | .cont=>∃σ' H',Inv X pins σ' H' s'∧D.ct σ' H'
 | .ret u=>∃v σ' H',Inv X pins σ' H' s'∧RelV v u∧D.rt v H'
def PE(X:Cx)(e:Expr)(t:TE):Prop:=
 ∀(pins:List (Addr×Obj)) (s:ae) (σ:St) (H:Hp) (Q:VK),Inv X pins σ H s→t σ H Q→wpAny (model X.prog X.w) X.A (eval e X.env) (EP X pins σ Q) X.xe s
def PT(X:Cx)(e:Expr)(t:TT):Prop:=
 ∀(pins:List (Addr×Obj)) (s:ae) (σ:St) (H:Hp) (Q:Bool→Hp→Prop),Inv X pins σ H s→t σ H Q→wpAny (model X.prog X.w) X.A (isTrue e X.env (eval e X.env)) (TP X pins σ Q) X.xe s
def PW(X:Cx)(e:Expr)(t:TT):Prop:=
 ∀(whole:Sem Value) (pins:List (Addr×Obj)) (s:ae) (σ:St) (H:Hp) (Q:Bool→Hp→Prop),Inv X pins σ H s→t σ H Q→wpAny (model X.prog X.w) X.A (isTrue e X.env whole) (TP X pins σ Q) X.xe s
theorem PW.pt{X:Cx}{e:Expr}{t:TT}(h:PW X e t):PT X e t:=h _
def PA(X:Cx)(es:List Expr)(t:TA):Prop:=
 ∀(pos:Pos) (pins:List (Addr×Obj)) (s:ae) (σ:St) (H:Hp) (Q:List V→Hp→Prop),Inv X pins σ H s→t σ H Q→wpAny (model X.prog X.w) X.A (spliced (cg pos (aT es X.env))) (AP X pins σ Q) X.xe s
def PS(X:Cx)(st:Stmt)(t:TS):Prop:=
 ∀(pins:List (Addr×Obj)) (s:ae) (σ:St) (H:Hp) (D:Ends),Inv X pins σ H s→t D σ H→wpAny (model X.prog X.w) X.A (exec st X.env) (SP X pins D) X.xe s
def PSs(X:Cx)(st:List Stmt)(t:TS):Prop:=
 ∀(pins:List (Addr×Obj)) (s:ae) (σ:St) (H:Hp) (D:Ends),Inv X pins σ H s→t D σ H→wpAny (model X.prog X.w) X.A (execs st X.env) (SP X pins D) X.xe s
theorem thn{α:Type}{t:Sem α}{Q Q':α→ae→Prop}{M:Model}{A:aW}{E:Value→ae→Prop}{s:ae}(h:wpAny M A t Q E s)(hQ:∀a s,Q a s→Q' a s):wpAny M A t Q' E s:=aP h hQ fun _ _ x=>x
end L2
namespace L2
open PySem PySem.Spec PyProof.Rows
section
variable {X:Cx}
def xje(i:Nat):TE:=fun σ H Q=>∃v,σ[i]? =some (some v)∧Q v H
def tC(v:V):TE:=fun _ H Q=>Q v H
theorem xjf{i:Nat}{x:Str}{pos:Pos}(hN:X.N[i]? =some x)(hv:Vis X.env.scope x)(hd:(x==("__debug__":Str))=false:=by decide)(hcd:(x==("__classdict__":Str))=false:=by decide):PE X (.Name x pos) (xje i):=by
 intro pins s σ H Q I h;obtain⟨v,e,h⟩:=h;obtain⟨m,hn,hl⟩:=I.loc;obtain⟨u,r,l⟩:=hl i x v hN e hv;have fin:EP X pins σ Q u s:=⟨v,H,I,r,h⟩;rcases l with⟨hk,hm⟩|⟨hk,c,hc,hcell⟩
 ·exact wpAny_Name (wpAny_loadName_local I.ok.kind hk hn hm fin) hd
 ·rcases hk with hk|hk
  ·exact wpAny_Name (wpAny_loadName_cell I.ok.kind hk hc hcell fin) hd
  ·exact wpAny_Name (wpAny_loadName_free I.ok.kind hk hc hcell fin hcd) hd
theorem xf{i j pos}:PE X (.Constant (.int i) j pos) (tC (.int i)):=fun _ _ _ H _ I h=>wpAny_Constant_int ⟨.int i,H,I.tok _,⟨_,rfl⟩,h⟩
theorem vi{b j pos}:PE X (.Constant (.bool b) j pos) (tC (.bl b)):=fun _ _ _ H _ I h=>Constant_bool ⟨.bl b,H,I,rfl,h⟩
theorem zI{j pos}:PE X (.Constant .none j pos) (tC .non):=fun _ _ _ H _ I h=>gw ⟨.non,H,I,rfl,h⟩
theorem xm{x j pos}:PE X (.Constant (.str x) j pos) (tC (.str x)):=fun _ _ _ H _ I h=>gJ ⟨.str x,H,I.tok _,⟨_,rfl⟩,h⟩
def Gl(X:Cx)(x:Str):Prop:=X.env.kindOf x=some .globalImplicit
theorem yp{E:Value→ae→Prop}{pins:List (Addr×Obj)}{s:ae}{σ:St}{H:Hp}{x:Str}{u:Value}{pos:Pos}{Q:Value→ae→Prop}(I:Inv X pins σ H s)(hg:Gl X x)(hm:X.mg x=some u)(h:Q u s)
  (hd:(x==("__debug__":Str))=false:=by decide):wpAny (model X.prog X.w) X.A (eval (.Name x pos) X.env) Q E s:=
 fz I.ok.kind hg (Calls.loadGlobal_global (by rw[I.ok.glob];exact I.mod.glob.keeps I.bk) hm h) hd
theorem jH{E:Value→ae→Prop}{pins:List (Addr×Obj)}{s:ae}{σ:St}{H:Hp}{x:Str}{u:Value}{pos:Pos}{Q:Value→ae→Prop}(I:Inv X pins σ H s)(hg:Gl X x)(hm:X.mg x=none)(hv:bJ x=some u)(h:Q u s)
  (hn:x≠"__name__":=by decide) (hd:(x==("__debug__":Str))=false:=by decide):wpAny (model X.prog X.w) X.A (eval (.Name x pos) X.env) Q E s:=by
 obtain⟨mb,h1,h2⟩:=I.mod.blt;exact fz I.ok.kind hg (Calls.loadGlobal_builtin (by rw[I.ok.glob];exact I.mod.glob.keeps I.bk) hm (by rw[I.ok.blt];exact h1.keeps I.bk) ((h2 x hn).trans hv) h) hd
theorem uE{x:Str}{v:V}{u:Value}{pos:Pos}(hg:Gl X x)(hm:X.mg x=some u)(r:RelV v u)(hd:(x==("__debug__":Str))=false:=by decide):PE X (.Name x pos) (tC v):=
 fun _ _ _ H _ I h=>yp I hg hm ⟨v,H,I,r,h⟩ hd
theorem zU{x:Str}{v:V}{u:Value}{pos:Pos}(hg:Gl X x)(hm:X.mg x=none)(hv:bJ x=some u)(r:RelV v u)(hn:x≠"__name__":=by decide)(hd:(x==("__debug__":Str))=false:=by decide):PE X (.Name x pos) (tC v):=
 fun _ _ _ H _ I h=>jH I hg hm hv ⟨v,H,I,r,h⟩ hn hd
variable {a b:Expr} {ta tb:TE} {pos:Pos}
def PC(X:Cx)(op:CmpOp)(a b:Expr)(t:TE):Prop:=
 ∀(pins:List (Addr×Obj)) (s:ae) (σ:St) (H:Hp) (Q:VK),Inv X pins σ H s→t σ H Q→
  wpAny (model X.prog X.w) X.A (eval a X.env) (fun v s₁=>wpAny (model X.prog X.w) X.A (eval b X.env) (fun u s₂=>wpAny (model X.prog X.w) X.A (bG op v u) (EP X pins σ Q) X.xe s₂) X.xe s₁) X.xe s
theorem xg8(b:Expr){op:CmpOp}(h:op≠.In)(h2:op≠.NotIn):cC op b=false:=by
 have e1:(op==CmpOp.In)=false:=by cases op<;> first|rfl|exact absurd rfl h
 have e2:(op==CmpOp.NotIn)=false:=by cases op<;> first|rfl|exact absurd rfl h2
 cases b<;> simp[cC,e1,e2]
def xkv(ta:TE):TE:=fun σ H Q=>ta σ H fun x H1=>Q (.bl (decide (x= .non))) H1
theorem RelV.none_iff{x:V}{v:Value}(r:RelV x v):(v==bg)=decide (x= .non):=by
 cases x with
 |non=>cases r;rfl
 |bl _=>cases r;rfl
 |int _=>obtain⟨t,rfl⟩:=r;rfl
 |str _=>obtain⟨t,rfl⟩:=r;rfl
 |byt _=>obtain⟨t,rfl⟩:=r;rfl
 |flt _=>obtain⟨t,rfl⟩:=r;rfl
 |ref _=>cases r;rfl
 |ty _=>cases r;rfl
theorem xjg{j pos'}(ha:PE X a ta):PC X .Is a (.Constant .none j pos') (xkv ta):=by
 intro pins s σ H Q I h;refine thn (ha pins s σ H _ I h) fun v s1 ⟨x,H1,I1,r1,q1⟩=>?_;exact gw (is_none_gen ⟨.bl _,H1,I1,by rw[r1.none_iff];rfl,q1⟩)
def tB(t:TE):TT:=fun σ H Q=>t σ H fun x H1=>∃c,x= .bl c∧Q c H1
theorem xjh{op:CmpOp}{t:TE}(h:PC X op a b t)(h1:cC op b=false:=by first|exact xg8 _ (by decide) (by decide)|rfl):PT X (.Compare a [op] [b] pos) (tB t):=by
 intro pins s σ H Q I hw;refine eV (thn (h pins s σ H _ I hw) fun v s1 h1=>thn h1 fun u s2 h2=>thn h2 fun c s3 ⟨x,H1,I1,r1,q1⟩=>?_) h1;obtain⟨d,rfl,q⟩:=q1;cases r1;exact b9 ⟨H1,I1,q⟩
variable {tA tB':TT} {rest:List Expr}
def xkw(t:TT):TT:=fun σ H Q=>t σ H fun c H1=>Q (!c) H1
theorem uF(ha:PT X a tA):PW X (.BoolOp .And [a] pos) tA:=by
 intro wh pins s σ H Q I h;refine isTrue_and (thn (ha pins s σ H Q I h) fun c s1 e=>?_);cases c with
 |true=>exact isTrue_and_nil e
 |false=>exact e
theorem ud(ha:PT X a tA):PW X (.BoolOp .Or [a] pos) tA:=by
 intro wh pins s σ H Q I h;refine isTrue_or (thn (ha pins s σ H Q I h) fun c s1 e=>?_);cases c with
 |false=>exact isTrue_or_nil e
 |true=>exact e
theorem uJ(ha:PT X a tA):PT X (.UnaryOp .Not a pos) (xkw tA):=by
 intro pins s σ H Q I h;exact isTrue_not (ha pins s σ H (fun c H1=>Q (!c) H1) I h)
theorem zJ{op}{t:TE}(h:PE X a t):PE X (.BoolOp op [a] pos) t:=fun pins s σ H Q I hw=>BoolOp_one (h pins s σ H Q I hw)
end
end L2
namespace L2
open PySem PySem.Spec PyProof.Rows
def SqL(K:ah)(H:Hp)(a:Addr)(xs:List V):Prop:=
 Rd H a (.lst xs)∨
  ∃(o:Obj) (its:Array Value) (n:Nat),K.lookup a=some o∧o.cls= .type "list"∧o.dict=none∧o.data= .seq its n∧its.size≤ay∧Vals xs its.toList
def SqT(K:ah)(H:Hp)(a:Addr)(xs:List V):Prop:=
 Rd H a (.tup xs)∨
  ∃(o:Obj) (its:Array Value) (n:Nat),K.lookup a=some o∧o.cls= .type "tuple"∧o.data= .seq its n∧its.size≤ay∧Vals xs its.toList
def xkx:Value→Option V
 | .none=>some .non
 | .bool b=>some (.bl b)
 | .int i _=>some (.int i)
 | .str x _=>some (.str x)
 | .bytes b _=>some (.byt b)
 | .float b _=>some (.flt b)
 | .ref a=>some (.ref a)
 | .type n=>some (.ty n)
 |_=>none
theorem RelV.abs{x:V}{u:Value}(r:RelV x u):xkx u=some x:=by
 cases x with
 |non=>cases r;rfl
 |bl _=>cases r;rfl
 |int _=>obtain⟨t,rfl⟩:=r;rfl
 |str _=>obtain⟨t,rfl⟩:=r;rfl
 |byt _=>obtain⟨t,rfl⟩:=r;rfl
 |flt _=>obtain⟨t,rfl⟩:=r;rfl
 |ref _=>cases r;rfl
 |ty _=>cases r;rfl
theorem RelV.inj{x y:V}{u:Value}(r:RelV x u)(q:RelV y u):x=y:=aE (r.abs.symm.trans q.abs)
theorem Vals.inj:∀{xs ys:List V} {us:List Value},Vals xs us→Vals ys us→xs=ys
 |_,_,_,.nil,.nil=>rfl
 |_,_,_,.cons r t,.cons r' t'=>by rw[r.inj r',Vals.inj t t']
section
variable {X:Cx} {pins:List (Addr×Obj)} {σ:St} {H:Hp} {s:ae} {a:Addr} {xs ys:List V}
theorem SqL.of{K:ah}(h:H a=some (.lst xs)):SqL K H a xs:=.inl (.inl h)
theorem SqT.of{K:ah}(h:H a=some (.tup xs)):SqT K H a xs:=.inl (.inl h)
theorem Inv.list(I:Inv X pins σ H s)(h:SqL X.K H a xs):∃its:List Value,Vals xs its∧PlainL s.heap a its.toArray∧xs.length≤ay:=by
 rcases h with h|⟨o,its,n,hk,hc,hd,hs,hz,r⟩
 ·obtain⟨z,its,n,r,e⟩:=h.ok I.hok;exact⟨its,r,⟨_,n,e,rfl,rfl,rfl⟩,z⟩
 ·refine⟨its.toList,r,⟨o,n,I.kIn a o hk,hc,hd,by simpa using hs⟩,?_⟩;have e:=r.length;simp only[c9]at e;lia
theorem Inv.tuple(I:Inv X pins σ H s)(h:SqT X.K H a xs):∃its:List Value,Vals xs its∧IsTup s.heap a its.toArray∧xs.length≤ay:=by
 rcases h with h|⟨o,its,n,hk,hc,hs,hz,r⟩
 ·obtain⟨z,its,r,p⟩:=h.ok I.hok;exact⟨its,r,p,z⟩
 ·refine⟨its.toList,r,⟨o,I.kIn a o hk,hc,n,by simpa using hs⟩,?_⟩;have e:=r.length;simp only[c9]at e;lia
theorem Inv.list_inj(I:Inv X pins σ H s)(h:SqL X.K H a xs)(h':SqL X.K H a ys):xs=ys:=by
 obtain⟨its,r,⟨o,n,e,_,_,d⟩,_⟩:=I.list h;obtain⟨its',r',⟨o',n',e',_,_,d'⟩,_⟩:=I.list h';rw[e]at e';cases e';rw[d]at d';injection d' with d1 _;have:its=its':=by simpa using congrArg Array.toList d1
 subst this;exact r.inj r'
theorem Inv.tuple_inj(I:Inv X pins σ H s)(h:SqT X.K H a xs)(h':SqT X.K H a ys):xs=ys:=by
 obtain⟨its,r,⟨o,e,_,n,d⟩,_⟩:=I.tuple h;obtain⟨its',r',⟨o',e',_,n',d'⟩,_⟩:=I.tuple h';rw[e]at e';cases e';rw[d]at d';injection d' with d1 _;have:its=its':=by simpa using congrArg Array.toList d1
 subst this;exact r.inj r'
end
abbrev Cx.wish(X:Cx)(E:Value→ae→Prop):Cx:={X with xe:=E}
abbrev Cx.nox(X:Cx):Cx:=X.wish fun _ _=>False
theorem Cx.Ok.wish{X:Cx}(ok:X.Ok)(E:Value→ae→Prop):(X.wish E).Ok:=
 ⟨ok.mod,ok.kind,ok.glob,ok.blt,ok.above,ok.inj,ok.has,ok.cab,ok.hd,ok.frames,ok.stk,ok.exf,ok.bs,ok.bsz,ok.noex,ok.exfs,ok.funs,ok.frf,ok.cab2,ok.hz⟩
theorem Cx.Ok.unwish{X:Cx}{E:Value→ae→Prop}(ok:(X.wish E).Ok):X.Ok:=
 ⟨ok.mod,ok.kind,ok.glob,ok.blt,ok.above,ok.inj,ok.has,ok.cab,ok.hd,ok.frames,ok.stk,ok.exf,ok.bs,ok.bsz,ok.noex,ok.exfs,ok.funs,ok.frf,ok.cab2,ok.hz⟩
section
variable {X:Cx} {pins:List (Addr×Obj)} {σ:St} {H:Hp} {s:ae} {E:Value→ae→Prop}
theorem Inv.wish(I:Inv X pins σ H s)(E:Value→ae→Prop):Inv (X.wish E) pins σ H s:=⟨I.ok.wish E,I.os,I.bare,I.base,I.loc,I.cell,I.free,I.freeC,I.pin,I.hok,I.len⟩
theorem Inv.unwish(I:Inv (X.wish E) pins σ H s):Inv X pins σ H s:=⟨I.ok.unwish,I.os,I.bare,I.base,I.loc,I.cell,I.free,I.freeC,I.pin,I.hok,I.len⟩
theorem SP.unwish{D:Ends}{f:Flow}{s':ae}(h:SP (X.wish E) pins D f s'):SP X pins D f s':=by
 cases f with
 |next=>obtain⟨σ',H',I,q⟩:=h;exact⟨σ',H',I.unwish,q⟩
 |brk=>obtain⟨σ',H',I,q⟩:=h;exact⟨σ',H',I.unwish,q⟩
 |cont=>obtain⟨σ',H',I,q⟩:=h;exact⟨σ',H',I.unwish,q⟩
 |ret u=>obtain⟨v,σ',H',I,r,q⟩:=h;exact⟨v,σ',H',I.unwish,r,q⟩
theorem PSs.nox{st:List Stmt}{t:TS}(h:PSs X.nox st t):PSs X st t:=fun pins s σ H D I hw=>
 aP (h pins s σ H D (I.wish _) hw) (fun _ _ q=>q.unwish) fun _ _ z=>bu z
end
section
variable {X:Cx} {st:Stmt} {rest:List Stmt} {t u:TS} {e:Expr} {te:TE} {pos:Pos}
def xj3:TS:=fun D σ H=>D.nx σ H
def xky(t u:TS):TS:=fun D σ H=>t {D with nx:=u D} σ H
theorem xB:PSs X [] xj3:=fun _ _ σ H _ I h=>dX ⟨σ,H,I,h⟩
theorem xh(h1:PS X st t)(h2:PSs X rest u):PSs X (st::rest) (xky t u):=by
 intro pins s σ H D I h;refine fL (thn (h1 pins s σ H {D with nx:=u D} I h) fun f s1 q=>?_);cases f with
 |next=>
  obtain⟨σ',H',I',q⟩:=q;exact h2 pins s1 σ' H' D I' q
 |ret v=>exact q
 |brk=>exact q
 |cont=>exact q
theorem xi(h1:PS X st t):PSs X [st] t:=by
 intro pins s σ H D I h;refine fL (thn (h1 pins s σ H D I h) fun f s1 q=>?_);cases f with
 |next=>exact dX q
 |ret v=>exact q
 |brk=>exact q
 |cont=>exact q
theorem Inv.quiet{pins:List (Addr×Obj)}{σ:St}{H:Hp}{s:ae}(I:Inv X pins σ H s):interactive X.env=false:=by simp[interactive,I.ok.kind]
def xj4(te:TE):TS:=fun D σ H=>te σ H fun _ H1=>D.nx σ H1
theorem yC(he:PE X e te)(hs:fV e none pos.line X.env=pure false:=by rfl):PS X (.Expr e pos) (xj4 te):=by
 intro pins s σ H D I h;exact wpAny_Expr_any (thn (he pins s σ H _ I h) fun v s1 ⟨x,H1,I1,r1,q1⟩=>⟨σ,H1,I1,q1⟩) I.quiet hs
def xkz(te:TE):TS:=fun D σ H=>te σ H D.rt
theorem xo(he:PE X e te):PS X (.Return (some e) pos) (xkz te):=by
 intro pins s σ H D I h;exact wpAny_Return_some (thn (he pins s σ H _ I h) fun v s1 ⟨x,H1,I1,r1,q1⟩=>⟨x,σ,H1,I1,r1,q1⟩)
end
abbrev TG:=V→St→Hp→(St→Hp→Prop)→Prop
abbrev TGs:=List V→St→Hp→(St→Hp→Prop)→Prop
def PG(X:Cx)(target:Expr)(t:TG):Prop:=
 ∀(pins:List (Addr×Obj)) (s:ae) (σ:St) (H:Hp) (v:V) (u:Value) (Q:St→Hp→Prop),Inv X pins σ H s→RelV v u→t v σ H Q→
  wpAny (model X.prog X.w) X.A (eZ target X.env u) (fun _ s'=>∃σ' H',Inv X pins σ' H' s'∧Q σ' H') X.xe s
def PGs(X:Cx)(ts:List Expr)(t:TGs):Prop:=
 ∀(pins:List (Addr×Obj)) (s:ae) (σ:St) (H:Hp) (vs:List V) (us:List Value) (Q:St→Hp→Prop),Inv X pins σ H s→Vals vs us→t vs σ H Q→
  wpAny (model X.prog X.w) X.A (assignInOrder ((e7 ts X.env).map (·.2)) us) (fun _ s'=>∃σ' H',Inv X pins σ' H' s'∧Q σ' H') X.xe s
abbrev xg9:=V→V→V→Hp→(Hp→Prop)→Prop
def xji(X:Cx)(t:xg9):Prop:=
 ∀(pins:List (Addr×Obj)) (s:ae) (σ:St) (H:Hp) (o i v:V) (ov iv u:Value) (Q:Hp→Prop),Inv X pins σ H s→RelV o ov→RelV i iv→RelV v u→t o i v H Q→
  wpAny (model X.prog X.w) X.A (setItem ov iv u) (fun _ s'=>∃H',Inv X pins σ H' s'∧Q H') X.xe s
section
variable {X:Cx} {pos:Pos}
def xbp(i:Nat):TG:=fun v σ H Q=>Q (σ.set i (some v)) H
theorem yD{i:Nat}{x:Str}(hN:X.N.Nodup)(hi:X.N[i]? =some x)(hx:Loc X.env.scope x)(hf:X.fn x=true∨X.env.scope.names.lookup x=some .local:=by first|exact .inl rfl|exact .inr rfl|assumption):PG X (.Name x pos) (xbp i):=by
 intro pins s σ H v u Q I r h;exact eK (uI I hN hi hx r (fun s' I'=>⟨_,H,I',h⟩) hf)
def xkA:TGs:=fun vs σ H Q=>vs=[]∧Q σ H
def xj5(t:TG)(u:TGs):TGs:=fun vs σ H Q=>∃v r,vs=v::r∧t v σ H fun σ' H'=>u r σ' H' Q
theorem xif:PGs X [] xkA:=by
 intro pins s σ H vs us Q I r h;obtain⟨e,h⟩:=h;subst e;cases r;exact assignInOrder_nil ⟨σ,H,I,h⟩
theorem xaW{e:Expr}{es:List Expr}{t:TG}{u:TGs}(h1:PG X e t)(h2:PGs X es u)
  (hs:(e7 (e::es) X.env).map (·.2)=eZ e X.env::(e7 es X.env).map (·.2):=by rfl):PGs X (e::es) (xj5 t u):=by
 intro pins s σ H vs us Q I r h;obtain⟨v,vr,e1,h⟩:=h;subst e1;cases r with
 |cons r rr=>
  rw[hs];refine assignInOrder_cons (thn (h1 pins s σ H _ _ _ I r h) fun _ s1 ⟨σ1,H1,I1,q1⟩=>?_);exact h2 pins s1 σ1 H1 _ _ Q I1 rr q1
def xkB(K:ah)(n:Nat)(t:TGs):TG:=fun v σ H Q=>∃a xs,v= .ref a∧SqT K H a xs∧xs.length=n∧t xs σ H Q
theorem xjj{es:List Expr}{k:Nat}{t:TGs}{n:Nat}(hc:X.calm=true)(h:PGs X es t)
  (hn:(e7 es X.env).length=n:=by rfl) (hst:(e7 es X.env).findIdx? (·.1)=none:=by rfl):PG X (.Tuple es k pos) (xkB X.K n t):=by
 intro pins s σ H v u Q I r hw;obtain⟨a,xs,e1,hq,hl,hw⟩:=hw;subst e1;cases r;obtain⟨its,rv,ht,hz⟩:=I.tuple hq;refine assign_Tuple_tuple (I.ok.hd hc) ht (by simp[hn,←hl,rv.length]) hst fun h' hx=>?_;have I1:Inv X pins σ H {s with heap:=h'}:=I.kept (t':=s.toks) fun b o e=>hx b o (bc (aG e)) e;exact h pins _ σ H xs _ Q I1 (by simpa using rv) hw
def xkC(to ti:TE)(t:xg9):TG:=fun v σ H Q=>to σ H fun o H1=>ti σ H1 fun i H2=>t o i v H2 fun H3=>Q σ H3
theorem jI{o i:Expr}{to ti:TE}{t:xg9}(ho:PE X o to)(hi:PE X i ti)(hs:xji X t)
  (ha:∀v,eZ (.Subscript o i pos) X.env v=(do
   let ov ←f9 [v] (eval o X.env)
   let iv ←f9 [v,ov] (eval i X.env)
   standAt pos
   f9 [v,ov,iv] (setItem ov iv v)
   release [v,ov,iv] []):=by intro _;rfl):PG X (.Subscript o i pos) (xkC to ti t):=by
 intro pins s σ H v u Q I r h;rw[ha];refine af (bC (thn (ho pins s σ H _ I h) fun ov s1 ⟨x,H1,I1,r1,q1⟩=>?_));refine af (bC (thn (hi pins s1 σ H1 _ I1 q1) fun iv s2 ⟨y,H2,I2,r2,q2⟩=>?_));refine af (cD (af (bC (thn (hs pins s2 σ H2 x y v ov iv u _ I2 r1 r2 r q2) fun _ s3 ⟨H3,I3,q3⟩=>?_))));exact wpAny_release ⟨σ,H3,I3,q3⟩
def xaX(te:TE)(g:TG):TS:=fun D σ H=>te σ H fun x H1=>g x σ H1 D.nx
theorem vC{tg e:Expr}{te:TE}{g:TG}(he:PE X e te)(hg:PG X tg g)(hs:swapsWithSole [tg] e pos.line X.env=pure false:=by rfl)(hw:swappedStores [tg] e X.env=pure none:=by rfl)
  (h1:(e7 [tg] X.env).map (·.2)=[eZ tg X.env]:=by rfl):PS X (.Assign [tg] e pos) (xaX te g):=by
 intro pins s σ H D I h;refine wpAny_Assign_stores (thn (he pins s σ H _ I h) fun v s1 ⟨x,H1,I1,r1,q1⟩=>?_) hs hw;rw[h1];exact thn (hg pins s1 σ H1 x v _ I1 r1 q1) fun _ s2 q=>q
theorem xu{i:Nat}{x:Str}{e:Expr}{te:TE}{pos':Pos}(hN:X.N.Nodup)(hi:X.N[i]? =some x)(hx:Loc X.env.scope x)(he:PE X e te)(hs:fV e (some (.Name x pos')) pos.line X.env=pure false:=by rfl)(hf:X.fn x=true∨X.env.scope.names.lookup x=some .local:=by first|exact .inl rfl|exact .inr rfl|assumption):
  PS X (.Assign [.Name x pos'] e pos) (xaX te (xbp i)):=by
 intro pins s σ H D I h;refine wpAny_Assign_Name (thn (he pins s σ H _ I h) fun v s1 ⟨y,H1,I1,r1,q1⟩=>?_) hs;exact uI I1 hN hi hx r1 (fun s2 I2=>⟨_,H1,I2,q1⟩) hf
end
section
variable {X:Cx} {pos:Pos}
end
structure It where
 go:Nat→Hp→Prop
 yld:Nat→Hp→V→Hp→Prop
 stop:Nat→Hp→Prop
def zV(X:Cx)(pins:List (Addr×Obj))(H:Hp)(b:Addr):Prop:=
 H b=none∧b≠X.env.locals∧b∉X.fs∧(b∈X.ex∨X.s₀.heap.objs.size≤b)∧(∀x c,X.env.cells.lookup x=some c→c≠b)∧∀p∈X.pn++pins,p.1≠b
theorem Inv.fpOk{X:Cx}{pins:List (Addr×Obj)}{σ:St}{H H':Hp}{s:ae}{b:Addr}(I:Inv X pins σ H s)(hb:s.heap.objs.size≤b)(hn:H' b=none):zV X pins H' b:=by
 refine⟨hn,fM (az I.lt hb),I.nofs hb,.inr (aO I.sz hb),fun x c e z=>?_,fun p hp z=>?_⟩
 ·obtain⟨v,q⟩:=I.cell x c e;exact absurd (az q.lt (by rw[z];exact hb)) (cA _)
 ·exact absurd (az (aG (I.pin p hp).1) (by rw[z];exact hb)) (cA _)
structure Turn(P:aF)(w:World)(K:ah)(tg:Expr)(J:It)(fp:List Addr)(it:Addr)(tn:Nat→Heap→Prop):Prop where
 mem:it∈fp
 obj:∀i h,tn i h→∀b∈fp,∃o,h.get? b=some o∧∀v,o.data≠.cell v
 keep:∀i h h',tn i h→(∀b∈fp,∀o,h.get? b=some o→h'.get? b=some o)→tn i h'
 item:∀(X:Cx),X.prog=P→X.w=w→X.K=K→X.calm=true→∀(i:Nat) (pins:List (Addr×Obj)) (s:ae) (σ:St) (H:Hp) (E:Value→ae→Prop),Inv X pins σ H s→(∀b∈fp,zV X pins H b)→tn i s.heap→J.go i H→
  wpAny (model P w) X.A (pyNext (.ref it)) (fun r s1=>∃u,r=some u∧
   wpAny (model P w) X.A (dY tg (.ref it) u) (fun _ s2=>∃x H',Inv X pins σ H' s2∧RelV x u∧J.yld i H x H'∧tn (i+1) s2.heap∧∀b∈fp,H' b=none) E s1) E s
 done:∀(X:Cx),X.prog=P→X.w=w→X.K=K→X.calm=true→∀(i:Nat) (pins:List (Addr×Obj)) (s:ae) (σ:St) (H:Hp) (E:Value→ae→Prop),Inv X pins σ H s→(∀b∈fp,zV X pins H b)→tn i s.heap→J.stop i H→
  wpAny (model P w) X.A (pyNext (.ref it)) (fun r s1=>r=none∧Inv X pins σ H s1) E s
 self:∀(A:aW) (i:Nat) (s:ae) (Q:Value→ae→Prop) (E:Value→ae→Prop),tn i s.heap→Q (.ref it) s→wpAny (model P w) A (pyIter (.ref it)) Q E s
abbrev TI:=St→Hp→(It→Hp→Prop)→Prop
def PIE(X:Cx)(pins:List (Addr×Obj))(σ:St)(tg:Expr)(R:It→Hp→Prop)(itv:Value)(s2:ae):Prop:=
 ∃(it:Addr) (fp:List Addr) (tn:Nat→Heap→Prop) (J:It) (H':Hp),itv= .ref it∧Inv X pins σ H' s2∧Turn X.prog X.w X.K tg J fp it tn∧tn 0 s2.heap∧(∀b∈fp,zV X pins H' b)∧R J H'
def PI(X:Cx)(tg iter:Expr)(wi:TI):Prop:=
 ∀(pins:List (Addr×Obj)) (s:ae) (σ:St) (H:Hp) (R:It→Hp→Prop),Inv X pins σ H s→wi σ H R→
  wpAny (model X.prog X.w) X.A (eval iter X.env) (fun v s1=>wpAny (model X.prog X.w) X.A (pyIter v) (PIE X pins σ tg R) X.xe s1) X.xe s
theorem xbq{M:Model}{A:aW}{E:Value→ae→Prop}{s:ae}{tg:Expr}{it:Addr}{u:Value}{o:Obj}{n:String}{vs:Array Value}{Q:Unit→ae→Prop}(ho:s.heap.get? it=some o)(hc:o.cls= .type n)(hd:o.data= .fields vs)
  (hn:["enumerate","zip","dict_itemiterator","dict_reverseitemiterator","odict_iterator","itertools.zip_longest","itertools.pairwise"].contains n=false) (hQ:Q () s):wpAny M A (dY tg (.ref it) u) Q E s:=by
 unfold dY;cases tg<;> first
  |exact aq hQ
  |(cases u<;> first
    |exact aq hQ
    |(refine af (wpAny_load ho ?_)
      rw[hc,hd];show wpAny M A (if (["enumerate","zip","dict_itemiterator","dict_reverseitemiterator","odict_iterator","itertools.zip_longest","itertools.pairwise"].contains n&&vs[0]? ==some (bU _))=true then _ else _) Q E s;rw[if_neg (by intro h;rw[hn,cX]at h;cases h)];exact aq hQ))
def Itl(K:ah)(a:Addr):It:=
 ⟨fun i H=>∃xs x,SqL K H a xs∧xs[i]? =some x,fun i H x H'=>H'=H∧∀xs,SqL K H a xs→xs[i]? =some x,fun i H=>∃xs,SqL K H a xs∧xs.length≤i⟩
def Itt(K:ah)(a:Addr):It:=
 ⟨fun i H=>∃xs x,SqT K H a xs∧xs[i]? =some x,fun i H x H'=>H'=H∧∀xs,SqT K H a xs→xs[i]? =some x,fun i H=>∃xs,SqT K H a xs∧xs.length≤i⟩
theorem xfY{P:aF}{w:World}{K:ah}{tg:Expr}(a it:Addr):Turn P w K tg (Itl K a) [it] it (fun i h=>h.IsListIter it a i) where
 mem:=by simp
 obj:=fun i h st b hb=>by
  have e:b=it:=by simpa using hb
  subst e;obtain⟨o,e,c,d⟩:=st;exact⟨o,e,fun v z=>by rw[d]at z;cases z⟩
 keep:=fun i h h' st k=>st.at fun o e=>k it (by simp) o e
 item:=by
  intro X hP hw hK hc i pins s σ H E I hf st hg;subst hP hw hK;obtain⟨xs,x,hq,hx⟩:=hg;obtain⟨its,rv,p,hz⟩:=I.list hq;obtain⟨u,hu,ru⟩:=rv.get hx;obtain⟨f0,f1,f2,f3,f4,f5⟩:=hf it (by simp);refine wpAny_pyNext_list_item st p.isList (x:=u) (by simpa using hu) fun h' st' sb=>?_;have I1:Inv X pins σ H {s with heap:=h'}:=I.turned (t':=s.toks) (fun b o hb e=>(sb.2 b hb).trans e) f0 f1 f3 f4 f5;obtain⟨o,e,c,d⟩:=id st';exact⟨u,rfl,xbq (s:={s with heap:=h'}) e c d (by decide) ⟨x,H,I1,ru,⟨rfl,fun ys hy=>by rw[I.list_inj hy hq];exact hx⟩,st',fun b hb=>(hf b hb).1⟩⟩
 done:=by
  intro X hP hw hK hc i pins s σ H E I hf st hg;subst hP hw hK;obtain⟨xs,hq,hx⟩:=hg;obtain⟨its,rv,p,hz⟩:=I.list hq;obtain⟨f0,f1,f2,f3,f4,f5⟩:=hf it (by simp);have hl:=rv.length;exact wpAny_pyNext_list_end (I.ok.hd hc) st p.isList (by simp;lia) fun h' eb=>⟨rfl,I.turned (t':=s.toks) (fun b o hb e=>eb b o hb e) f0 f1 f3 f4 f5⟩
 self:=fun _ _ _ _ _ st h=>wpAny_pyIter_listiter st h
theorem xe6{P:aF}{w:World}{K:ah}{tg:Expr}(a it:Addr):Turn P w K tg (Itt K a) [it] it (fun i h=>h.IsTupleIter it a i) where
 mem:=by simp
 obj:=fun i h st b hb=>by
  have e:b=it:=by simpa using hb
  subst e;obtain⟨o,e,c,d⟩:=st;exact⟨o,e,fun v z=>by rw[d]at z;cases z⟩
 keep:=fun i h h' st k=>st.at fun o e=>k it (by simp) o e
 item:=by
  intro X hP hw hK hc i pins s σ H E I hf st hg;subst hP hw hK;obtain⟨xs,x,hq,hx⟩:=hg;obtain⟨its,rv,p,hz⟩:=I.tuple hq;obtain⟨u,hu,ru⟩:=rv.get hx;obtain⟨f0,f1,f2,f3,f4,f5⟩:=hf it (by simp);refine wpAny_pyNext_tuple_item st (show s.heap.IsTuple a its.toArray from p) (x:=u) (by simpa using hu) fun h' st' sb=>?_;have I1:Inv X pins σ H {s with heap:=h'}:=I.turned (t':=s.toks) (fun b o hb e=>(sb.2 b hb).trans e) f0 f1 f3 f4 f5;obtain⟨o,e,c,d⟩:=id st';exact⟨u,rfl,xbq (s:={s with heap:=h'}) e c d (by decide) ⟨x,H,I1,ru,⟨rfl,fun ys hy=>by rw[I.tuple_inj hy hq];exact hx⟩,st',fun b hb=>(hf b hb).1⟩⟩
 done:=by
  intro X hP hw hK hc i pins s σ H E I hf st hg;subst hP hw hK;obtain⟨xs,hq,hx⟩:=hg;obtain⟨its,rv,p,hz⟩:=I.tuple hq;obtain⟨f0,f1,f2,f3,f4,f5⟩:=hf it (by simp);have hl:=rv.length;exact wpAny_pyNext_tuple_end (I.ok.hd hc) st (show s.heap.IsTuple a its.toArray from p) (by simp;lia) fun h' eb=>⟨rfl,I.turned (t':=s.toks) (fun b o hb e=>eb b o hb e) f0 f1 f3 f4 f5⟩
 self:=fun _ _ _ _ _ st h=>wpAny_pyIter_tupleiter st h
end L2
namespace L2
open PySem PySem.Spec PyProof.Rows
section
variable {X:Cx} {tg:Expr}
def xj6(K:ah)(tl:TE):TI:=fun σ H R=>tl σ H fun x H1=>∃a,x= .ref a∧(∃xs,SqL K H1 a xs)∧R (Itl K a) H1
def xjk(K:ah)(tl:TE):TI:=fun σ H R=>tl σ H fun x H1=>∃a,x= .ref a∧(∃xs,SqT K H1 a xs)∧R (Itt K a) H1
theorem yE{l:Expr}{tl:TE}(hl:PE X l tl):PI X tg l (xj6 X.K tl):=by
 intro pins s σ H R I h;refine thn (hl pins s σ H _ I h) fun v s1 ⟨x,H1,I1,r1,q1⟩=>?_;obtain⟨a,e,⟨xs,hq⟩,q⟩:=q1;subst e;cases r1;obtain⟨its,rv,p,hz⟩:=I1.list hq;refine wpAny_pyIter_list p.isList ?_;refine⟨s1.heap.objs.size,[s1.heap.objs.size],_,_,H1,rfl,I1.kept (t':=s1.toks) fun b o e=>au _ e,xfY a _,⟨_,ba _ rfl,rfl,rfl⟩,fun b hb=>?_,q⟩;have e:b=s1.heap.objs.size:=by simpa using hb
 subst e;exact I1.fpOk (aD _) (I1.hok.fresh (aD _))
theorem xbr{l:Expr}{tl:TE}(hl:PE X l tl):PI X tg l (xjk X.K tl):=by
 intro pins s σ H R I h;refine thn (hl pins s σ H _ I h) fun v s1 ⟨x,H1,I1,r1,q1⟩=>?_;obtain⟨a,e,⟨xs,hq⟩,q⟩:=q1;subst e;cases r1;obtain⟨its,rv,p,hz⟩:=I1.tuple hq;refine wpAny_pyIter_tuple (show s1.heap.IsTuple a its.toArray from p) ?_;refine⟨s1.heap.objs.size,[s1.heap.objs.size],_,_,H1,rfl,I1.kept (t':=s1.toks) fun b o e=>au _ e,xe6 a _,⟨_,ba _ rfl,rfl,rfl⟩,fun b hb=>?_,q⟩;have e:b=s1.heap.objs.size:=by simpa using hb
 subst e;exact I1.fpOk (aD _) (I1.hok.fresh (aD _))
def xha(wi:TI)(g:TG)(tb:TS):TS:=fun D σ H=>wi σ H fun J H1=>∃W:Nat→Nat→St→Hp→Prop,(∃m,W 0 m σ H1)∧∀i m σ H,W i m σ H→
 (J.stop i H∧D.nx σ H)∨(J.go i H∧∃N:St→Hp→Prop,(∀σ' H',N σ' H'→∃m',m'<m∧W (i+1) m' σ' H')∧∀x H',J.yld i H x H'→g x σ H' fun σ2 H2=>tb {D with nx:=N,ct:=N,bk:=D.nx} σ2 H2)
def yu(fp:List Addr)(h:Heap):List (Addr×Obj):=fp.filterMap fun b=>(h.get? b).map fun o=>(b,o)
theorem yJ{fp:List Addr}{h:Heap}{b:Addr}{o:Obj}(hb:b∈fp)(e:h.get? b=some o):(b,o)∈yu fp h:=gK.mpr ⟨b,hb,by rw[e];rfl⟩
theorem xfZ{fp:List Addr}{h:Heap}{p:Addr×Obj}(hp:p∈yu fp h):p.1∈fp∧h.get? p.1=some p.2:=by
 obtain⟨b,hb,e⟩:=gK.mp hp;cases q:h.get? b with
 |none=>rw[q]at e;cases e
 |some o=>
  rw[q]at e;have e':(b,o)=p:=aE e;subst e';exact⟨hb,q⟩
theorem Inv.pinned{pins:List (Addr×Obj)}{σ:St}{H:Hp}{s:ae}{fp:List Addr}(I:Inv X pins σ H s)(hf:∀b∈fp,zV X pins H b)(ho:∀b∈fp,∃o,s.heap.get? b=some o∧∀v,o.data≠.cell v):Inv X (pins++yu fp s.heap) σ H s:=
 I.pins_of fun p hp=>(aN.mp hp).elim (fun z=>I.pin p (av _ z)) fun z=>by
  obtain⟨hb,e⟩:=xfZ z;obtain⟨f0,f1,f2,_⟩:=hf p.1 hb;obtain⟨o,e',d⟩:=ho p.1 hb;rw[e]at e';cases e';exact⟨e,f0,f1,f2,d⟩
theorem Inv.unpinned{pins pl:List (Addr×Obj)}{σ:St}{H:Hp}{s:ae}(I:Inv X (pins++pl) σ H s):Inv X pins σ H s:=I.pins_of fun p hp=>I.pin p (av _ (aU _ hp))
theorem xjl{iter:Expr}{body:List Stmt}{wi:TI}{g:TG}{tb:TS}{pos:Pos}(hp:PassesOwn (model X.prog X.w) X.A X.env X.xe)(hc:X.calm=true)(hi:PI X tg iter wi)(hg:PG X tg g)(hb:PSs X body tb)
  (hs:∀x,cQ iter X.env x=pure x:=by intro _;rfl):PS X (.For tg iter body [] pos) (xha wi g tb):=by
 intro pins s σ H D I h;refine wpAny_For (thn (hi pins s σ H _ I h) fun v s1 h1=>thn h1 fun itv s2 h2=>?_) hs;obtain⟨it,fp,tn,J,H2,e,I2,T,st2,f2,W,⟨m0,w0⟩,turn⟩:=h2;subst e
 -- what stays true of the iterator's objects through the loop
 have stat:∀{H':Hp},(∀b∈fp,H' b=none)→∀b∈fp,zV X pins H' b:=fun hn b hb=>⟨hn b hb,(f2 b hb).2⟩;refine codeAny_forLoop_any (fun n s'=>∃i σ' H',Inv X pins σ' H' s'∧tn i s'.heap∧(∀b∈fp,H' b=none)∧W i n σ' H') ?_ m0 ⟨0,σ,H2,I2,st2,fun b hb=>(f2 b hb).1,w0⟩;rintro n s3 ⟨i,σ3,H3,I3,st3,fr3,w3⟩;rcases turn i n σ3 H3 w3 with⟨stop,qn⟩|⟨go,N,hN,step⟩
 ·refine dZ hp (thn (T.done X rfl rfl rfl hc i pins s3 σ3 H3 X.xe I3 (stat fr3) st3 stop) fun r s4 ⟨hr,I4⟩=>?_);subst hr;exact dX ⟨σ3,H3,I4,qn⟩
 ·refine dZ hp (thn (T.item X rfl rfl rfl hc i pins s3 σ3 H3 X.xe I3 (stat fr3) st3 go) fun r s4 ⟨u,hr,h4⟩=>?_);subst hr;refine dZ hp (thn h4 fun _ s5 ⟨x,H5,I5,r5,y5,st5,fr5⟩=>?_);have I5':=I5.pinned (stat fr5) (T.obj _ _ st5);refine dZ hp (thn (hg _ s5 σ3 H5 x u _ I5' r5 (step x H5 y5)) fun _ s6 ⟨σ6,H6,I6,q6⟩=>?_);refine dZ hp (thn (hb _ s6 σ6 H6 _ I6 q6) fun f s7 q7=>?_);have again:∀{σ7:St} {H7:Hp},Inv X (pins++yu fp s5.heap) σ7 H7 s7→N σ7 H7→∃m,m<n∧∃i σ' H',Inv X pins σ' H' s7∧tn i s7.heap∧(∀b∈fp,H' b=none)∧W i m σ' H':=fun{σ7 H7} I7 n7=>by
   obtain⟨m',hm,w7⟩:=hN σ7 H7 n7;refine⟨m',hm,i+1,σ7,H7,I7.unpinned,T.keep _ _ _ st5 fun b hb o e=>(I7.pin (b,o) (av _ (av _ (yJ hb e)))).1,fun b hb=>?_,w7⟩;obtain⟨o,e,d⟩:=T.obj _ _ st5 b hb;exact(I7.pin (b,o) (av _ (av _ (yJ hb e)))).2.1
  cases f with
  |next=>obtain⟨σ7,H7,I7,n7⟩:=q7;exact again I7 n7
  |cont=>obtain⟨σ7,H7,I7,n7⟩:=q7;exact again I7 n7
  |brk=>obtain⟨σ7,H7,I7,q7⟩:=q7;exact⟨σ7,H7,I7.unpinned,q7⟩
  |ret v=>obtain⟨x7,σ7,H7,I7,r7,q7⟩:=q7;exact⟨x7,σ7,H7,I7.unpinned,r7,q7⟩
end
theorem xhb{K:ah}{a:Addr}{xs:List V}{g:TG}{tb:TS}{D:Ends}{σ:St}{H:Hp}(Pv:Nat→St→Hp→Prop)(h0:Pv 0 σ H)(hl:∀i σ H,i≤xs.length→Pv i σ H→SqL K H a xs)
  (hs:∀i x σ H,xs[i]? =some x→Pv i σ H→g x σ H fun σ2 H2=>tb {D with nx:=Pv (i+1),ct:=Pv (i+1),bk:=D.nx} σ2 H2) (hd:∀σ H,Pv xs.length σ H→D.nx σ H):
  ∃W:Nat→Nat→St→Hp→Prop,(∃m,W 0 m σ H)∧∀i m σ H,W i m σ H→
   ((Itl K a).stop i H∧D.nx σ H)∨((Itl K a).go i H∧∃N:St→Hp→Prop,(∀σ' H',N σ' H'→∃m',m'<m∧W (i+1) m' σ' H')∧∀x H',(Itl K a).yld i H x H'→g x σ H' fun σ2 H2=>tb {D with nx:=N,ct:=N,bk:=D.nx} σ2 H2):=by
 refine⟨fun i m σ H=>m=xs.length - i∧i≤xs.length∧Pv i σ H,⟨xs.length,by simp,bV _,h0⟩,?_⟩;rintro i m σ H ⟨rfl,hi,p⟩;have q:=hl i σ H hi p
 by_cases hlt:i<xs.length
 ·refine .inr ⟨⟨xs,xs[i],q,by simp[hlt]⟩,Pv (i+1),fun σ' H' p'=>⟨xs.length - (i+1),by lia,rfl,hlt,p'⟩,fun x H' y=>?_⟩;obtain⟨e,y⟩:=y;subst e;exact hs i x σ _ (y xs q) p
 ·have e:i=xs.length:=by lia
  subst e;exact .inl ⟨⟨xs,q,aD _⟩,hd σ H p⟩
theorem xig{K:ah}{a:Addr}{xs:List V}{g:TG}{tb:TS}{D:Ends}{σ:St}{H:Hp}(Pv:Nat→St→Hp→Prop)(h0:Pv 0 σ H)(hl:∀i σ H,i≤xs.length→Pv i σ H→SqT K H a xs)
  (hs:∀i x σ H,xs[i]? =some x→Pv i σ H→g x σ H fun σ2 H2=>tb {D with nx:=Pv (i+1),ct:=Pv (i+1),bk:=D.nx} σ2 H2) (hd:∀σ H,Pv xs.length σ H→D.nx σ H):
  ∃W:Nat→Nat→St→Hp→Prop,(∃m,W 0 m σ H)∧∀i m σ H,W i m σ H→
   ((Itt K a).stop i H∧D.nx σ H)∨((Itt K a).go i H∧∃N:St→Hp→Prop,(∀σ' H',N σ' H'→∃m',m'<m∧W (i+1) m' σ' H')∧∀x H',(Itt K a).yld i H x H'→g x σ H' fun σ2 H2=>tb {D with nx:=N,ct:=N,bk:=D.nx} σ2 H2):=by
 refine⟨fun i m σ H=>m=xs.length - i∧i≤xs.length∧Pv i σ H,⟨xs.length,by simp,bV _,h0⟩,?_⟩;rintro i m σ H ⟨rfl,hi,p⟩;have q:=hl i σ H hi p
 by_cases hlt:i<xs.length
 ·refine .inr ⟨⟨xs,xs[i],q,by simp[hlt]⟩,Pv (i+1),fun σ' H' p'=>⟨xs.length - (i+1),by lia,rfl,hlt,p'⟩,fun x H' y=>?_⟩;obtain⟨e,y⟩:=y;subst e;exact hs i x σ _ (y xs q) p
 ·have e:i=xs.length:=by lia
  subst e;exact .inl ⟨⟨xs,q,aD _⟩,hd σ H p⟩
end L2
namespace L2
open PySem PySem.Spec PyProof.Rows
abbrev R2:=V→V→Hp→VK→Prop
def OpR(X:Cx)(f:Value→Value→Sem Value)(r:R2):Prop:=
 ∀(pins:List (Addr×Obj)) (s:ae) (σ:St) (H:Hp) (x y:V) (v u:Value) (Q:VK),Inv X pins σ H s→RelV x v→RelV y u→r x y H Q→
  wpAny (model X.prog X.w) X.A (f v u) (EP X pins σ Q) X.xe s
def UnR(X:Cx)(f:Value→Sem Value)(r:V→Hp→VK→Prop):Prop:=
 ∀(pins:List (Addr×Obj)) (s:ae) (σ:St) (H:Hp) (x:V) (v:Value) (Q:VK),Inv X pins σ H s→RelV x v→r x H Q→
  wpAny (model X.prog X.w) X.A (f v) (EP X pins σ Q) X.xe s
def yj(X:Cx)(f:Value)(r:List V→Hp→VK→Prop):Prop:=
 ∀(pins:List (Addr×Obj)) (s:ae) (σ:St) (H:Hp) (xs:List V) (us:List Value) (Q:VK),Inv X pins σ H s→Vals xs us→r xs H Q→
  wpAny (model X.prog X.w) X.A (call f us) (EP X pins σ Q) X.xe s
def tOp(r:R2)(ta tb:TE):TE:=fun σ H Q=>ta σ H fun x H1=>tb σ H1 fun y H2=>r x y H2 Q
def tUn(r:V→Hp→VK→Prop)(ta:TE):TE:=fun σ H Q=>ta σ H fun x H1=>r x H1 Q
def rI(C:Int→Int→Prop)(g:Int→Int→V):R2:=fun x y H Q=>∃i j,x= .int i∧y= .int j∧C i j∧Q (g i j) H
def rI0(g:Int→Int→V):R2:=fun x y H Q=>∃i j,x= .int i∧y= .int j∧Q (g i j) H
def rU(g:Int→V):V→Hp→VK→Prop:=fun x H Q=>∃i,x= .int i∧Q (g i) H
section
variable {X:Cx} {a b c:Expr} {ta tb tc:TE} {pos:Pos}
theorem xhc(ha:PE X a ta)(hb:PE X b tb){pins:List (Addr×Obj)}{s:ae}{σ:St}{H:Hp}{R:V→V→Hp→Prop}(I:Inv X pins σ H s)
  (h:ta σ H fun x H1=>tb σ H1 fun y H2=>R x y H2) {Q:Value→ae→Prop} {f:Value→Value→Sem Value}
  (hf:∀v u s2 x y H2,Inv X pins σ H2 s2→RelV x v→RelV y u→R x y H2→wpAny (model X.prog X.w) X.A (f v u) Q X.xe s2):
  wpAny (model X.prog X.w) X.A (eval a X.env) (fun v s₁=>wpAny (model X.prog X.w) X.A (eval b X.env) (fun u s₂=>wpAny (model X.prog X.w) X.A (f v u) Q X.xe s₂) X.xe s₁) X.xe s:=by
 refine thn (ha pins s σ H _ I h) fun v s1 ⟨x,H1,I1,r1,q1⟩=>?_;refine thn (hb pins s1 σ H1 _ I1 q1) fun u s2 ⟨y,H2,I2,r2,q2⟩=>?_;exact hf v u s2 x y H2 I2 r1 r2 q2
theorem xj{op:Operator}{r:R2}(ho:OpR X (cb op) r)(ha:PE X a ta)(hb:PE X b tb):PE X (.BinOp a op b pos) (tOp r ta tb):=by
 intro pins s σ H Q I h;exact wpAny_BinOp (xhc ha hb I h fun v u s2 x y H2 I2 rx ry q=>ho pins s2 σ H2 x y v u Q I2 rx ry q)
theorem xau{op:UnaryOp}{r:V→Hp→VK→Prop}(ho:UnR X (unaryOp op) r)(ha:PE X a ta):PE X (.UnaryOp op a pos) (tUn r ta):=by
 intro pins s σ H Q I h;exact UnaryOp_ (thn (ha pins s σ H _ I h) fun v s1 ⟨x,H1,I1,r1,q1⟩=>ho pins s1 σ H1 x v Q I1 r1 q1)
theorem opI{f:Value→Value→Sem Value}{C:Int→Int→Prop}{g:Int→Int→Int}
  (rule:∀(i j:Int) (t u:Tok) (s:ae) (Q:Value→ae→Prop) (E:Value→ae→Prop),C i j→Q (.int (g i j) s.toks) {s with toks:=s.toks+1}→wpAny (model X.prog X.w) X.A (f (.int i t) (.int j u)) Q E s):
  OpR X f (rI C fun i j=>.int (g i j)):=by
 intro pins s σ H x y v u Q I rx ry h;obtain⟨i,j,rfl,rfl,hc,q⟩:=h;obtain⟨t,rfl⟩:=rx;obtain⟨t',rfl⟩:=ry;exact rule i j t t' s _ _ hc ⟨.int (g i j),H,I.tok _,⟨_,rfl⟩,q⟩
theorem xjm{f:Value→Value→Sem Value}{g:Int→Int→Int}
  (rule:∀(i j:Int) (t u:Tok) (s:ae) (Q:Value→ae→Prop) (E:Value→ae→Prop),Q (.int (g i j) s.toks) {s with toks:=s.toks+1}→wpAny (model X.prog X.w) X.A (f (.int i t) (.int j u)) Q E s):
  OpR X f (rI0 fun i j=>.int (g i j)):=by
 intro pins s σ H x y v u Q I rx ry h;obtain⟨i,j,rfl,rfl,q⟩:=h;obtain⟨t,rfl⟩:=rx;obtain⟨t',rfl⟩:=ry;exact rule i j t t' s _ _ ⟨.int (g i j),H,I.tok _,⟨_,rfl⟩,q⟩
theorem xhd{f:Value→Value→Sem Value}{g:Int→Int→Bool}
  (rule:∀(i j:Int) (t u:Tok) (s:ae) (Q:Value→ae→Prop) (E:Value→ae→Prop),Q (.bool (g i j)) s→wpAny (model X.prog X.w) X.A (f (.int i t) (.int j u)) Q E s):
  OpR X f (rI0 fun i j=>.bl (g i j)):=by
 intro pins s σ H x y v u Q I rx ry h;obtain⟨i,j,rfl,rfl,q⟩:=h;obtain⟨t,rfl⟩:=rx;obtain⟨t',rfl⟩:=ry;exact rule i j t t' s _ _ ⟨.bl (g i j),H,I,rfl,q⟩
def xjn(i j:Int):Prop:=0≤j∧j≤1000000∧i.natAbs<2^64
def xe7(i j:Int):Prop:=(-(2^64)<i∧i<2^64)∨(-(2^64)<j∧j<2^64)
theorem xe7.ok{i j:Int}(h:xe7 i j):IntMulOk i j:=by
 rcases h with⟨h1,h2⟩|⟨h1,h2⟩
 ·exact .of_left (intBits_le_64 h1 h2)
 ·exact .of_right (intBits_le_64 h1 h2)
theorem xjo:OpR X (cb .Add) (rI0 fun i j=>.int (i+j)):=xjm fun _ _ _ _ _ _ _ q=>add_int q
theorem xjp:OpR X (cb .Sub) (rI0 fun i j=>.int (i - j)):=xjm fun _ _ _ _ _ _ _ q=>sub_int q
theorem xjq:OpR X (cb .Mult) (rI xe7 fun i j=>.int (i*j)):=opI fun _ _ _ _ _ _ _ hc q=>mul_int q hc.ok
theorem xjr:OpR X (cb .Mod) (rI (fun _ j=>0<j) fun i j=>.int (i%j)):=opI fun i j _ _ _ _ _ hc q=>by
 have h1:(0:Int)<j:=hc;exact mod_int' (by lia) (by rw[Int.fmod_eq_emod_of_nonneg i (by lia)];exact q)
theorem xjs:OpR X (cb .Pow) (rI xjn fun i j=>.int (i^j.toNat)):=opI fun _ _ _ _ _ _ _ hc q=>pow_int_small hc.1 hc.2.1 hc.2.2 q
theorem unI{f:Value→Sem Value}{g:Int→Int}
  (rule:∀(i:Int) (t:Tok) (s:ae) (Q:Value→ae→Prop) (E:Value→ae→Prop),Q (.int (g i) s.toks) {s with toks:=s.toks+1}→wpAny (model X.prog X.w) X.A (f (.int i t)) Q E s):
  UnR X f (rU fun i=>.int (g i)):=by
 intro pins s σ H x v Q I rx h;obtain⟨i,rfl,q⟩:=h;obtain⟨t,rfl⟩:=rx;exact rule i t s _ _ ⟨.int (g i),H,I.tok _,⟨_,rfl⟩,q⟩
theorem xjt:UnR X (unaryOp .USub) (rU fun i=>.int (-i)):=unI fun _ _ _ _ _ q=>neg_int q
end
def xju:V→V→Bool
 | .non,.non=>true| .non,.int _=>true| .int _,.non=>true| .non,.bl _=>true| .bl _,.non=>true| .non,.str _=>true| .str _,.non=>true
 | .int _,.int _=>true| .bl _,.bl _=>true| .str _,.str _=>true| .byt _,.byt _=>true
 | .int _,.str _=>true| .str _,.int _=>true| .bl _,.str _=>true| .str _,.bl _=>true
 |_,_=>false
def rEq:R2:=fun x y H Q=>xju x y=true∧Q (.bl (decide (x=y))) H
def rNe:R2:=fun x y H Q=>xju x y=true∧Q (.bl (!decide (x=y))) H
theorem xeB{i j:Int}:decide (V.int i=V.int j)=(i==j):=by
 rw[di];simp
theorem xf0{i j:Bool}:decide (V.bl i=V.bl j)=(i==j):=by
 rw[di];simp
theorem xeC{i j:Str}:decide (V.str i=V.str j)=(i==j):=by
 rw[di];simp
theorem xeD{i j:Array UInt8}:decide (V.byt i=V.byt j)=(i.toList==j.toList):=by
 rw[di];cases i;cases j;simp
section
variable {X:Cx} {a b c:Expr} {ta tb tc:TE} {pos:Pos}
theorem xG{pins:List (Addr×Obj)}{σ:St}{H:Hp}{s:ae}{Q:VK}{k k':Bool}(I:Inv X pins σ H s)(q:Q (.bl k) H)(e:k=k'):EP X pins σ Q (.bool k') s:=by
 subst e;exact⟨.bl k,H,I,rfl,q⟩
theorem xh2:OpR X (bG .Eq) rEq:=by
 intro pins s σ H x y v u Q I rx ry h;obtain⟨hs,q⟩:=h;cases x with
 |non=>
  cases rx;cases y with
  |non=>cases ry;exact PySem.EqNone.eq_none_none (xG I q (by simp))
  |bl j=>cases ry;exact PySem.EqNone.eq_none_bool (xG I q (by simp))
  |int j=>obtain⟨t',rfl⟩:=ry;exact PySem.EqNone.eq_none_int (xG I q (by simp))
  |str j=>obtain⟨t',rfl⟩:=ry;exact PySem.EqNone.eq_none_str (xG I q (by simp))
  |_=>exact absurd (show false=true from hs) aM
 |bl i=>
  cases rx;cases y with
  |non=>cases ry;exact PySem.EqNone.eq_bool_none (xG I q (by simp))
  |bl j=>cases ry;exact eq_bool (xG I q xf0)
  |str j=>obtain⟨t',rfl⟩:=ry;exact PySem.EqMixed.eq_bool_str (xG I q (by simp))
  |_=>exact absurd (show false=true from hs) aM
 |int i=>
  obtain⟨t,rfl⟩:=rx;cases y with
  |non=>cases ry;exact PySem.EqNone.eq_int_none (xG I q (by simp))
  |int j=>obtain⟨t',rfl⟩:=ry;exact eq_int (xG I q xeB)
  |str j=>obtain⟨t',rfl⟩:=ry;exact PySem.EqMixed.eq_int_str (xG I q (by simp))
  |_=>exact absurd (show false=true from hs) aM
 |str i=>
  obtain⟨t,rfl⟩:=rx;cases y with
  |non=>cases ry;exact PySem.EqNone.eq_str_none (xG I q (by simp))
  |bl j=>cases ry;exact PySem.EqMixed.eq_str_bool (xG I q (by simp))
  |int j=>obtain⟨t',rfl⟩:=ry;exact PySem.EqMixed.eq_str_int (xG I q (by simp))
  |str j=>obtain⟨t',rfl⟩:=ry;exact eq_str (xG I q xeC)
  |_=>exact absurd (show false=true from hs) aM
 |byt i=>
  obtain⟨t,rfl⟩:=rx;cases y with
  |byt j=>obtain⟨t',rfl⟩:=ry;exact W.eq_bytes (xG I q xeD)
  |_=>exact absurd (show false=true from hs) aM
 |_=>cases y<;> exact absurd (show false=true from hs) aM
theorem xe8:OpR X (bG .NotEq) rNe:=by
 intro pins s σ H x y v u Q I rx ry h;obtain⟨hs,q⟩:=h;cases x with
 |non=>
  cases rx;cases y with
  |non=>cases ry;exact PySem.EqNone.ne_none_none (xG I q (by simp))
  |bl j=>cases ry;exact PySem.EqNone.ne_none_bool (xG I q (by simp))
  |int j=>obtain⟨t',rfl⟩:=ry;exact PySem.EqNone.ne_none_int (xG I q (by simp))
  |str j=>obtain⟨t',rfl⟩:=ry;exact PySem.EqNone.ne_none_str (xG I q (by simp))
  |_=>exact absurd (show false=true from hs) aM
 |bl i=>
  cases rx;cases y with
  |non=>cases ry;exact PySem.EqNone.ne_bool_none (xG I q (by simp))
  |bl j=>cases ry;exact ne_bool (xG I q (congrArg not xf0))
  |str j=>obtain⟨t',rfl⟩:=ry;exact PySem.EqMixed.ne_bool_str (xG I q (by simp))
  |_=>exact absurd (show false=true from hs) aM
 |int i=>
  obtain⟨t,rfl⟩:=rx;cases y with
  |non=>cases ry;exact PySem.EqNone.ne_int_none (xG I q (by simp))
  |int j=>obtain⟨t',rfl⟩:=ry;exact ne_int (xG I q (congrArg not xeB))
  |str j=>obtain⟨t',rfl⟩:=ry;exact PySem.EqMixed.ne_int_str (xG I q (by simp))
  |_=>exact absurd (show false=true from hs) aM
 |str i=>
  obtain⟨t,rfl⟩:=rx;cases y with
  |non=>cases ry;exact PySem.EqNone.ne_str_none (xG I q (by simp))
  |bl j=>cases ry;exact PySem.EqMixed.ne_str_bool (xG I q (by simp))
  |int j=>obtain⟨t',rfl⟩:=ry;exact PySem.EqMixed.ne_str_int (xG I q (by simp))
  |str j=>obtain⟨t',rfl⟩:=ry;exact ne_str (xG I q (congrArg not xeC))
  |_=>exact absurd (show false=true from hs) aM
 |byt i=>
  obtain⟨t,rfl⟩:=rx;cases y with
  |byt j=>obtain⟨t',rfl⟩:=ry;exact W.ne_bytes (xG I q (congrArg not xeD))
  |_=>exact absurd (show false=true from hs) aM
 |_=>cases y<;> exact absurd (show false=true from hs) aM
theorem xj7:OpR X (bG .Lt) (rI0 fun i j=>.bl (decide (i<j))):=xhd fun _ _ _ _ _ _ _ q=>lt_int q
theorem xj8:OpR X (bG .Gt) (rI0 fun i j=>.bl (decide (j<i))):=xhd fun _ _ _ _ _ _ _ q=>gt_int q
theorem xj9:OpR X (bG .GtE) (rI0 fun i j=>.bl (decide (j≤i))):=xhd fun _ _ _ _ _ _ _ q=>ge_int q
theorem xf1:OpR X (bG .In) (fun x y H Q=>∃i j,x= .str i∧y= .str j∧Q (.bl (!(b7 j i 0 j.length 1).isEmpty)) H):=by
 intro pins s σ H x y v u Q I rx ry h;obtain⟨i,j,rfl,rfl,q⟩:=h;obtain⟨t,rfl⟩:=rx;obtain⟨t',rfl⟩:=ry;exact in_str (xG I q rfl)
theorem xf2(b:Expr){op:CmpOp}(h:op≠.In:=by decide)(h2:op≠.NotIn:=by decide):cC op b=false:=by
 have e1:(op==CmpOp.In)=false:=by cases op<;> first|rfl|exact absurd rfl h
 have e2:(op==CmpOp.NotIn)=false:=by cases op<;> first|rfl|exact absurd rfl h2
 cases b<;> simp[cC,e1,e2]
theorem xih{op:CmpOp}{r:R2}(ho:OpR X (bG op) r)(ha:PE X a ta)(hb:PE X b tb)(hm:cC op b=false):PE X (.Compare a [op] [b] pos) (tOp r ta tb):=by
 intro pins s σ H Q I h;exact wpAny_Compare1 (xhc ha hb I h fun v u s2 x y H2 I2 rx ry q=>ho pins s2 σ H2 x y v u Q I2 rx ry q) hm
theorem jJ:(ay:Nat)<2^63:=by rw[ag];decide
theorem yK:OpR X (cb .Add) (fun x y H Q=>∃i j,x= .str i∧y= .str j∧i.length+j.length≤ay∧Q (.str (i++j)) H):=by
 intro pins s σ H x y v u Q I rx ry h;obtain⟨i,j,rfl,rfl,hz,q⟩:=h;obtain⟨t,rfl⟩:=rx;obtain⟨t',rfl⟩:=ry;exact add_str (fun t' tk=>⟨.str (i++j),H,I.tok _,⟨_,rfl⟩,q⟩) hz
theorem vals1{x:V}{us:List Value}(r:Vals [x] us):∃u,us=[u]∧RelV x u:=by
 cases r with
 |cons r1 r2=>cases r2;exact⟨_,rfl,r1⟩
theorem vals2{x y:V}{us:List Value}(r:Vals [x,y] us):∃u w',us=[u,w']∧RelV x u∧RelV y w':=by
 cases r with
 |cons r1 r2=>
  cases r2 with
  |cons r3 r4=>cases r4;exact⟨_,_,rfl,r1,r3⟩
theorem xhe:yj X (.builtin "abs") (fun xs H Q=>∃i,xs=[.int i]∧Q (.int (if i<0 then -i else i)) H):=by
 intro pins s σ H xs us Q I r h;obtain⟨i,rfl,q⟩:=h;obtain⟨u,rfl,t,rfl⟩:=vals1 r;exact call_abs_int fun u tk=>⟨.int (if i<0 then -i else i),H,I.tok _,⟨_,rfl⟩,q⟩
theorem xf3(hc:X.calm=true):yj X (.builtin "min") (fun xs H Q=>∃i j,xs=[.int i,.int j]∧Q (.int (if j<i then j else i)) H):=by
 intro pins s σ H xs us Q I r h;obtain⟨i,j,rfl,q⟩:=h;obtain⟨u,w',rfl,⟨t,rfl⟩,⟨t',rfl⟩⟩:=vals2 r;refine min_two_ints (I.ok.hd hc) fun h' tk k=>⟨_,H,I.kept k,?_,q⟩
 by_cases hj:j<i
 ·rw[if_pos hj,if_pos hj];exact⟨_,rfl⟩
 ·rw[if_neg hj,if_neg hj];exact⟨_,rfl⟩
theorem xf4:yj X (.type "int") (fun xs H Q=>(∃i,xs=[.int i]∧Q (.int i) H)∨∃k,xs=[.bl k]∧Q (.int (if k then 1 else 0)) H):=by
 intro pins s σ H xs us Q I r h;rcases h with⟨i,rfl,q⟩|⟨k,rfl,q⟩
 ·obtain⟨u,rfl,t,rfl⟩:=vals1 r;exact call_int_int ⟨.int i,H,I,⟨_,rfl⟩,q⟩
 ·obtain⟨u,rfl,r1⟩:=vals1 r;cases r1;exact call_int_bool ⟨.int (if k then 1 else 0),H,I.tok _,⟨_,rfl⟩,q⟩
end
end L2
namespace L2
open PySem PySem.Spec PyProof.Rows
structure xaY(h:Heap)(x dx C:Addr)(mA:Str→Option Value):Prop where
 obj:h.get? x=some (d9 C dx)
 ns:h.Ns1 dx mA
 ne:dx≠x
theorem xf5{h:Heap}{dx:Addr}{mA:Str→Option Value}(n:h.Ns1 dx mA):∃od,h.get? dx=some od∧∀name,W.lookIn name od=some (mA name):=by
 obtain⟨o,es,ep,ho,hd,hk,_,hm⟩:=n;refine⟨o,ho,fun name=>?_⟩;have e:=hm name;unfold nsFind findBy at e;rw[←Array.find?_toList]at e;unfold W.lookIn;rw[hd];dsimp only
 split
 ·rename_i y q;rw[q]at e;exact congrArg some e
 ·rename_i q;rw[q]at e;have a:es.toList.any (·.refKey)=false:=by
   rw[List.any_eq_false];intro y hy;obtain⟨z,t,hkey⟩:=hk y (Array.mem_toList_iff.mp hy);simp[DictEntry.refKey,hkey]
  have a':¬es.toList.any (·.refKey)=true:=by rw[a];exact aM
  rw[if_neg a'];exact congrArg some e
theorem xaY.look{h:Heap}{x dx C:Addr}{mA:Str→Option Value}(I:xaY h x dx C mA):∃od,W.InstAt h x (d9 C dx) C (some od)∧∀name,W.lookIn name od=some (mA name):=
 let⟨od,ho,hl⟩:=xf5 I.ns
 ⟨od,⟨I.obj,rfl,rfl,ho⟩,hl⟩
section
variable {prog:aF} {w:World} {A:aW} {E:Value→ae→Prop} {s:ae} {K:ah} {x dx C f:Addr} {mA:Str→Option Value} {name:Str} {v:Value}
theorem get_map{expr:Bool}{Q:Value→ae→Prop}(X:K.In s.heap)(I:xaY s.heap x dx C mA)(hg:gp K C name=true)(hh:W.hasDictIn K C=true)
  (ha:cj K (.ref C) name=some none) (hv:mA name=some v) (hv':W.handedIn v=true) (h:Q v {s with toks:=s.toks+1}):
  wpAny (model prog w) A (getAttr (.ref x) name expr) Q E s:=by
 obtain⟨od,J,hl⟩:=I.look;exact W.get_value X J (gx hg).1 (W.findObj_own hh ha rfl (by rw[hl,hv])) hv' h
theorem xhf{pl:Sem Bool}{Q:Value×List Value→ae→Prop}(X:K.In s.heap)(I:xaY s.heap x dx C mA)(hg:gp K C name=true)
  (hf:cj K (.ref C) name=some (some (.ref f))) (ht:W.isFn K (.ref f)=true) (hv:mA name=none) (h:Q (.ref f,[.ref x]) s):
  wpAny (model prog w) A (getMethod (.ref x) name pl) Q E s:=by
 obtain⟨od,J,hl⟩:=I.look;exact W.method_fn X J (gx hg).1 (gx hg).2 hf (beq_iff_eq.mp ht) (by show(W.lookIn name od).map (·.isSome)=some false;rw[hl,hv];rfl) h
theorem xii{ns:List Str}{Q:Unit→ae→Prop}(X:K.In s.heap)(I:xaY s.heap x dx C mA)
  (hs:cj K (.ref C) "__setattr__"=some (some (.builtin "object.__setattr__"))) (hp:W.plainOver K C=true) (ht:W.takerIn K C name=some none) (hh:W.hasDictIn K C=true)
  (hw:PySem.Within mA ns) (hsz:ns.length≤ay)
  (h:∀h',xaY h' x dx C (fun y=>if y=name then some v else mA y)→cI dx s.heap h'→Q () {s with heap:=h',toks:=s.toks+2}):
  wpAny (model prog w) A (setAttr (.ref x) name v) Q E s:=by
 obtain⟨od,J,hl⟩:=I.look;refine W.set_plain X J hs (W.osa_open (s:={s with toks:=s.toks+1}) (r:=none) X J hp ht fun b=>?_);obtain⟨cd,hc,hd'⟩:=W.any_some hh;have hx:s.heap.get? x=some ⟨.ref C,some dx,.plain,#[]⟩:=I.obj;refine af (aq (af (af (gc hx (af (W.Looks.here (s:={s with toks:=s.toks+1}) (W.looks_clsIn X hc) ?_))))));rw[hd'];refine aq (a:=some dx) (af (aq (af ?_)));refine wpAny_nsSet1 (s:={s with toks:=s.toks+1}) I.ns fun h' hn2 hs2=>?_;obtain⟨oD,esD,epD,hoD,hdD,hcD⟩:=hn2.count (PySem.Within.cons name v hw);refine af (wpAny_lookBehind hoD (by rw[hdD];exact pastItsLine_dict (aO hcD (by rw[ao];lia))) ?_);exact aq (h _ ⟨(hs2.2 _ (bz I.ne)).trans I.obj,hn2,I.ne⟩ hs2)
theorem xhg{R:fN→ae→Prop}{vs:List Value}{kw:List (Str×Value)}(X:K.In s.heap)(hm:W.makesIn K C=true)
  (hi:cj K (.ref C) "__init__"=some (some (.ref f))) (hf:W.typeIn K (.ref f)=some (.type "function"))
  (h:df (model prog w) (A.under (.builtin "type.__call__" ⟨.ref C::vs,kw⟩)) (.call (.ref f) ⟨.ref (s.heap.objs.size+1)::vs,kw⟩) (W.InitBack (s.heap.objs.size+1) R)
   {s with heap:=(s.heap.push cV).push (d9 C s.heap.objs.size)}):
  df (model prog w) A (.call (.ref C) ⟨vs,kw⟩) R s:=by
 obtain⟨hh,g,d,t,os⟩:=s;exact W.make_core (W.makes_of X hm) (W.looks_findIn X hi) (fun self=>W.bind_fn X self hf) (.inl rfl) h
end
def yX(f:Str)(v:V):List (Str×V)→List (Str×V)
 |[]=>[(f,v)]
 |(g,x)::r=>if g=f then(g,v)::r else(g,x)::yX f v r
theorem xaH(f g:Str)(v:V):∀fs:List (Str×V),(yX f v fs).lookup g=if g=f then some v else fs.lookup g
 |[]=>by
  show dQ g [(f,v)]=_
  by_cases h:g=f
  ·have hb:(g==f)=true:=beq_iff_eq.mpr h;simp only[dQ,hb,if_pos h]
  ·have hb:(g==f)=false:=beq_eq_false_iff_ne.mpr h;simp only[dQ,hb,if_neg h]
 |(k,x)::r=>by
  have ih:=xaH f g v r;rw[show yX f v ((k,x)::r)=(if k=f then(k,v)::r else(k,x)::yX f v r)from rfl]
  by_cases hk:k=f
  ·rw[if_pos hk]
   by_cases h:g=k
   ·have hb:(g==k)=true:=beq_iff_eq.mpr h;simp only[dQ,hb,if_pos (h.trans hk)]
   ·have hb:(g==k)=false:=beq_eq_false_iff_ne.mpr h;simp only[dQ,hb,if_neg (fun e:g=f=>h (e.trans hk.symm))]
  ·rw[if_neg hk]
   by_cases h:g=k
   ·have hb:(g==k)=true:=beq_iff_eq.mpr h;simp only[dQ,hb,if_neg (fun e:g=f=>hk (h.symm.trans e))]
   ·have hb:(g==k)=false:=beq_eq_false_iff_ne.mpr h;simp only[dQ,hb];exact ih
theorem jK(f:Str)(v:V):∀fs:List (Str×V),f∈(yX f v fs).map (·.1)∧∀g,g∈fs.map (·.1)→g∈(yX f v fs).map (·.1)
 |[]=>⟨by simp[yX],fun g h=>by simp at h⟩
 |(k,x)::r=>by
  obtain⟨i1,i2⟩:=jK f v r;rw[show yX f v ((k,x)::r)=(if k=f then(k,v)::r else(k,x)::yX f v r)from rfl]
  by_cases hk:k=f
  ·rw[if_pos hk];subst hk;exact⟨by simp,fun g h=>by simpa using h⟩
  ·rw[if_neg hk];refine⟨?_,fun g h=>?_⟩
   ·rw[aH];exact ak _ i1
   ·rw[aH]at h⊢;rcases ax.mp h with e|e
    ·exact ax.mpr (.inl e)
    ·exact ak _ (i2 g e)
theorem vq(f:Str)(v:V):∀fs:List (Str×V),(yX f v fs).length≤fs.length+1
 |[]=>by simp[yX]
 |(k,x)::r=>by
  have ih:=vq f v r;rw[show yX f v ((k,x)::r)=(if k=f then(k,v)::r else(k,x)::yX f v r)from rfl]
  by_cases hk:k=f
  ·rw[if_pos hk,ao,ao];lia
  ·rw[if_neg hk,ao,ao];lia
theorem zm.some_of{v:V}{o:Option Value}(r:zm (some v) o):∃u,o=some u∧RelV v u:=by
 cases o with
 |none=>exact(show False from r).elim
 |some u=>exact⟨u,rfl,r⟩
theorem zm.none_of{o:Option Value}(r:zm none o):o=none:=by
 cases o with
 |none=>rfl
 |some u=>exact(show False from r).elim
theorem xf6{v:V}{u:Value}(r:RelV v u):W.handedIn u=true:=by
 cases v with
 |non=>cases (show u=bg from r);rfl
 |bl b=>cases (show u=cF b from r);rfl
 |int i=>obtain⟨t,e⟩:=(show∃t,u=fq i t from r);cases e;rfl
 |str x=>obtain⟨t,e⟩:=(show∃t,u=d8 x t from r);cases e;rfl
 |byt b=>obtain⟨t,e⟩:=(show∃t,u=Value.bytes b t from r);cases e;rfl
 |flt b=>obtain⟨t,e⟩:=(show∃t,u=gW b t from r);cases e;rfl
 |ref a=>cases (show u=aS a from r);rfl
 |ty n=>cases (show u=gm n from r);rfl
section
variable {P:aF} {w:World} {H H':Hp} {h h':Heap} {a C dx:Addr} {fs fs':List (Str×V)}
theorem xav(hok:HOk P w H h)(e:H a=some (.ins C dx fs)):∃mA,xaY h a dx C mA∧(∀f,zm (fs.lookup f) (mA f))∧PySem.Within mA (fs.map (·.1))∧fs.length≤1000∧H dx=some (.own a):=by
 obtain⟨d,z,ne,ob,mA,n,r,q⟩:=(show xT P w H h a (.ins C dx fs)from hok a _ e);exact⟨mA,⟨ob,n,ne⟩,r,q,z,d⟩
end
structure Cls(K:ah)(C:Addr):Prop where
 pg:gp K C bW=true
 hd:W.hasDictIn K C=true
 po:W.plainOver K C=true
 sa:cj K (.ref C) "__setattr__"=some (some (.builtin "object.__setattr__"))
theorem Cls.get{K:ah}{C:Addr}(c:Cls K C)(f:Str):gp K C f=true:=c.pg
def xU(K:ah)(C:Addr)(f:Str):Prop:=cj K (.ref C) f=some none
theorem xU.taker{K:ah}{C:Addr}{f:Str}(n:xU K C f):W.takerIn K C f=some none:=by
 unfold W.takerIn;rw[show cj K (.ref C) f=some none from n];rfl
structure Meth(K:ah)(C:Addr)(m:Str)(f:Addr):Prop where
 at_:cj K (.ref C) m=some (some (.ref f))
 fn:W.isFn K (.ref f)=true
 kp:dH K (.ref f)=true
section
variable {X:Cx} {pins:List (Addr×Obj)} {σ:St} {H:Hp} {s:ae} {a C dx:Addr} {fs:List (Str×V)} {f:Str} {v:V} {A:aW} {E:Value→ae→Prop}
theorem xe9{b:Bool}{Q:Value→ae→Prop}(I:Inv X pins σ H s)(e:H a=some (.ins C dx fs))(c:Cls X.K C)(n:xU X.K C f)(l:fs.lookup f=some v)
  (h:∀u s',Inv X pins σ H s'→RelV v u→Q u s'):wpAny (model X.prog X.w) A (getAttr (.ref a) f b) Q E s:=by
 obtain⟨mA,O,r,_,_,_⟩:=xav I.hok e;obtain⟨u,hu,ru⟩:=zm.some_of (v:=v) (o:=mA f) (by rw[←l];exact r f);exact get_map I.kIn O (c.get f) c.hd n hu (xf6 ru) (h u _ (I.tok _) ru)
theorem xfa{m:Str}{g:Addr}{pl:Sem Bool}{Q:Value×List Value→ae→Prop}(I:Inv X pins σ H s)(e:H a=some (.ins C dx fs))(c:Cls X.K C)(k:Meth X.K C m g)(l:fs.lookup m=none)
  (h:Q (.ref g,[.ref a]) s):wpAny (model X.prog X.w) A (getMethod (.ref a) m pl) Q E s:=by
 obtain⟨mA,O,r,_,_,_⟩:=xav I.hok e;have hn:mA m=none:=zm.none_of (by rw[←l];exact r m);exact xhf I.kIn O (c.get m) k.at_ k.fn hn h
theorem xfb{y:V}{u:Value}{Q:Unit→ae→Prop}(I:Inv X pins σ H s)(e:H a=some (.ins C dx fs))(c:Cls X.K C)(n:xU X.K C f)(hl:fs.length<1000)(ry:RelV y u)
  (h:∀s',Inv X pins σ (upd H a (.ins C dx (yX f y fs))) s'→Q () s'):wpAny (model X.prog X.w) A (setAttr (.ref a) f u) Q E s:=by
 obtain⟨mA,O,r,wi,_,ho⟩:=xav I.hok e;have hz:(fs.map (·.1)).length≤ay:=by rw[aa,ag];lia
 refine xii I.kIn O c.sa c.po n.taker c.hd wi hz fun h' O' sb=>h _ ?_;have hd:∃o,h'.get? dx=some o:=let⟨o,_,_,e',_⟩:=O'.ns;⟨o,e'⟩
 refine I.write (x:=a) (e:=dx) (by rw[e];exact cG) (.inr ho) (fun b q hb z=>(sb.2 b hb).trans z) hd ?_;refine⟨by rw[xH O.ne];exact ho,?_,O.ne,O'.obj,_,O'.ns,fun g=>?_,fun g hg=>?_⟩
 ·have:=vq f y fs;lia
 ·show zm ((yX f y fs).lookup g) (if g=f then some u else mA g);rw[xaH]
  by_cases q:g=f
  ·rw[if_pos q,if_pos q];exact ry
  ·rw[if_neg q,if_neg q];exact r g
 ·by_cases q:g=f
  ·rw[q];exact(jK f y fs).1
  ·refine(jK f y fs).2 g (wi g fun z=>hg ?_);show(if g=f then some u else mA g)=none;rw[if_neg q];exact z
theorem Inv.made(I:Inv X pins σ H s):Inv X pins σ (upd (upd H s.heap.objs.size (.own (s.heap.objs.size+1))) (s.heap.objs.size+1) (.ins C s.heap.objs.size []))
  {s with heap:=(s.heap.push cV).push (d9 C s.heap.objs.size)}:=by
 have e1:(s.heap.push cV).get? s.heap.objs.size=some cV:=ba s.heap rfl;have e2:((s.heap.push cV).push (d9 C s.heap.objs.size)).get? (s.heap.objs.size+1)=some (d9 C s.heap.objs.size):=by
  have:=ba (s.heap.push cV) (o:=d9 C s.heap.objs.size) rfl
  rwa [fm]at this
 have e3:(s.heap.push cV).Ns s.heap.objs.size (fun _=>none):=⟨cV,#[],_,e1,rfl,(fun e he=>absurd he (by simp)),fun _=>rfl⟩;have I1:=I.laid (a:=s.heap.objs.size) (o:=.own (s.heap.objs.size+1)) (h':=s.heap.push cV) (t':=s.toks) (fun b u q=>au _ q) (aD _) ⟨_,e1⟩;refine I1.laid (a:=s.heap.objs.size+1) (o:=.ins C s.heap.objs.size []) (t':=s.toks) (fun b u q=>au _ q) (Nat.le_of_eq (fm _ _)) ?_;have ne:s.heap.objs.size≠s.heap.objs.size+1:=bc (Nat.lt_succ_self _);refine⟨by rw[xH ne,xn],bV _,ne,e2,fun _=>none,(Heap.Ns1.of_empty e3).at fun o q=>au _ q,fun _=>cG,fun y hy=>absurd rfl hy⟩
theorem xij{prog:aF}{w:World}{env:Env}{e:Expr}{f:Str}{pos:Pos}{s:ae}{Q:Value→ae→Prop}(hb:eR e f env (eval e env)=eval e env)
  (h:wpAny (model prog w) A (eval e env) (fun o s₁=>wpAny (model prog w) A (getAttr o f true) Q E s₁) E s):wpAny (model prog w) A (eval (.Attribute e f pos) env) Q E s:=
 Attribute_any_ h (by rw[arm_eval_Attribute,hb])
end
def xkD(K:ah)(ta:TE)(f:Str):TE:=fun σ H Q=>ta σ H fun x H1=>∃a C dx fs v,x= .ref a∧H1 a=some (.ins C dx fs)∧Cls K C∧xU K C f∧fs.lookup f=some v∧Q v H1
def xkE(K:ah)(ta tv:TE)(f:Str):TS:=fun D σ H=>tv σ H fun y H1=>ta σ H1 fun x H2=>∃a C dx fs,x= .ref a∧H2 a=some (.ins C dx fs)∧Cls K C∧xU K C f∧fs.length<1000∧
 D.nx σ (upd H2 a (.ins C dx (yX f y fs)))
section
variable {X:Cx} {o e value:Expr} {f:Str} {pos pos' tpos:Pos} {ta tv:TE}
theorem vD(he:PE X e ta)(hb:eR e f X.env (eval e X.env)=eval e X.env):PE X (.Attribute e f pos) (xkD X.K ta f):=by
 intro pins s σ H Q I h;refine xij hb (thn (he pins s σ H _ I h) fun u s1 ⟨x,H1,I1,rx,a,C,dx,fs,v,ex,ea,c,n,l,q⟩=>?_);subst ex;obtain rfl:u=aS a:=rx;exact xe9 I1 ea c n l fun u' s2 I2 ru=>⟨v,H1,I2,ru,q⟩
theorem vE(ha:PE X o ta)(hv:PE X value tv)(hs:fV value (some (.Attribute o f pos')) pos.line X.env=pure false):PS X (.Assign [.Attribute o f pos'] value pos) (xkE X.K ta tv f):=by
 intro pins s σ H D I h;refine plainObj_wpAny_Assign_Attribute (thn (hv pins s σ H _ I h) fun u s1 ⟨y,H1,I1,ry,q⟩=>thn (ha pins s1 σ H1 _ I1 q) fun ov s2 ⟨x,H2,I2,rx,a,C,dx,fs,ex,ea,c,n,l,q2⟩=>?_) hs;subst ex;obtain rfl:ov=aS a:=rx;exact xfb I2 ea c n l ry fun s3 I3=>⟨σ,_,I3,q2⟩
end
section
variable {X:Cx} {pins:List (Addr×Obj)} {σ:St} {H:Hp} {s:ae} {A:aW} {E:Value→ae→Prop} {Q:Value→ae→Prop} {c:Value} {b:Bool}
inductive xN(K:ah)(H:Hp):V→Value→Prop where
 |non:xN K H .non (.type "NoneType")
 |bl (x:Bool):xN K H (.bl x) (.type "bool")
 |int (i:Int):xN K H (.int i) (.type "int")
 |str (x:Str):xN K H (.str x) (.type "str")
 |flt (x:UInt64):xN K H (.flt x) (.type "float")
 |lst {a:Addr} {xs:List V} (e:H a=some (.lst xs)):xN K H (.ref a) (.type "list")
 |frz {a:Addr} {o:Obj} {xs:List V} (e:H a=some (.frz o (.lst xs))):xN K H (.ref a) (.type "list")
 |tup {a:Addr} {xs:List V} (e:H a=some (.tup xs)):xN K H (.ref a) (.type "tuple")
 |dK {a:Addr} {kvs:List (Key×V)} (e:H a=some (.dK kvs)):xN K H (.ref a) (.type "dict")
 |dT {a:Addr} {kvs:List (List Key×V)} (e:H a=some (.dT kvs)):xN K H (.ref a) (.type "dict")
 |ins {a C dx:Addr} {fs:List (Str×V)} (e:H a=some (.ins C dx fs)) (cl:Cls K C) (ha:cj K (.ref C) "__class__"=some (some (.builtin "object.__class__")))
   (hn:W.specialIn K (.builtin "object.__class__") "__get__"=some (some (.builtin "getset_descriptor.__get__"))) (htk:W.takesIn K (.builtin "object.__class__")=some true)
   (hm:W.mroIn K C (.type "object")=some true):xN K H (.ref a) (.ref C)
theorem xf7{x:V}{u t:Value}(I:Inv X pins σ H s)(rx:RelV x u)(ty:xN X.K H x t)(e:bK X.K t c=some b)(h:∀tk,Q (.bool b) {s with toks:=tk}):
  wpAny (model X.prog X.w) A (call (.builtin "isinstance") [u,c]) Q E s:=by
 cases ty with
 |non=>cases (show u=bg from rx);exact cW W.kitx_none I.kIn cG e (fun z=>nomatch z) h
 |bl y=>cases (show u=cF y from rx);exact cW W.kitx_bool I.kIn cG e (fun z=>nomatch z) h
 |int i=>obtain⟨t,q⟩:=(show∃t,u=fq i t from rx);cases q;exact cW W.kitx_int I.kIn cG e (fun z=>nomatch z) h
 |str y=>obtain⟨t,q⟩:=(show∃t,u=d8 y t from rx);cases q;exact cW W.kitx_str I.kIn cG e (fun z=>nomatch z) h
 |flt y=>obtain⟨t,q⟩:=(show∃t,u=gW y t from rx);cases q;exact cW W.kitx_float I.kIn cG e (fun z=>nomatch z) h
 | @lst a xs ea=>
  cases (show u=aS a from rx);obtain⟨_,_,n,_,h1⟩:=(show xT X.prog X.w H s.heap a (.lst xs)from I.hok a _ ea);exact cW W.kitx_list I.kIn ⟨_,h1,rfl⟩ e (fun z=>nomatch z) h
 | @frz a ob xs ea=>
  cases (show u=aS a from rx);obtain⟨_,_,_,n,_,h1⟩:=(show xT X.prog X.w H s.heap a (.frz ob (.lst xs))from I.hok a _ ea);exact cW W.kitx_list I.kIn ⟨_,h1,rfl⟩ e (fun z=>nomatch z) h
 | @tup a xs ea=>
  cases (show u=aS a from rx);obtain⟨_,_,_,p⟩:=(show xT X.prog X.w H s.heap a (.tup xs)from I.hok a _ ea);obtain⟨o,h1,h2,_⟩:=p;exact cW W.kitx_tuple I.kIn ⟨o,h1,h2⟩ e (fun z=>nomatch z) h
 | @dK a kvs ea=>
  cases (show u=aS a from rx);obtain⟨_,_,vs,_,p⟩:=(show xT X.prog X.w H s.heap a (.dK kvs)from I.hok a _ ea);obtain⟨o,es,ep,h1,h2,_⟩:=p;exact cW W.kitx_dict I.kIn ⟨o,h1,h2.1⟩ e (fun z=>nomatch z) h
 | @dT a kvs ea=>
  cases (show u=aS a from rx);obtain⟨_,_,xs,_,o,es,ep,h1,h2,_⟩:=(show xT X.prog X.w H s.heap a (.dT kvs)from I.hok a _ ea);exact cW W.kitx_dict I.kIn ⟨o,h1,h2.1⟩ e (fun z=>nomatch z) h
 | @ins a C dx fs ea cl ha hn htk hm=>
  cases (show u=aS a from rx);obtain⟨mA,O,_⟩:=xav I.hok ea;obtain⟨od,J,_⟩:=O.look;exact cW (W.kitx_own (cl.get _) cl.hd ha hn htk hm) I.kIn J e (fun z=>nomatch z) h
end
end L2
namespace L2
open PySem PySem.Spec PyProof.Rows
structure xZ(k:Nat)(A:aW):Prop where
 hd:A.handled=none
 dp:A.depth+3*k+5<recursionLimit
 un:A.units+16*k+200<cLine
theorem xZ.mono{j k:Nat}{A:aW}(r:xZ k A)(h:j≤k):xZ j A:=⟨r.hd,by have:=r.dp;lia,by have:=r.un;lia⟩
theorem xZ.deeper{k:Nat}{A:aW}(r:xZ (k+1) A)(env:Env):xZ k (A.deeper env):=
 ⟨r.hd,by have:=r.dp;show A.depth+1+3*k+5<_;lia,by have:=r.un;show A.units+3+16*k+200<_;lia⟩
theorem xfc{A:aW}{C:Addr}{us:List Value}{kw:List (Str×Value)}:(A.under (.builtin "type.__call__" ⟨.ref C::us,kw⟩)).depth=A.depth+1:=by
 first|rfl|simp[gL,Code.weight,Code.isCreation,Code.isGuard,Code.isCaller,Code.frames,gM,guardIds]
theorem xfd{A:aW}{C:Addr}{us:List Value}{kw:List (Str×Value)}:(A.under (.builtin "type.__call__" ⟨.ref C::us,kw⟩)).units=A.units+1:=by
 first|rfl|simp[gL,Code.cUnits,Code.frames,gM]
theorem xZ.make{k:Nat}{A:aW}(r:xZ (k+1) A)(C:Addr)(us:List Value)(kw:List (Str×Value)):xZ k (A.under (.builtin "type.__call__" ⟨.ref C::us,kw⟩)):=
 ⟨r.hd,by have:=r.dp;rw[xfc];lia,by have:=r.un;rw[xfd];lia⟩
theorem xZ.depth{k:Nat}{A:aW}(r:xZ k A):A.depth<recursionLimit:=by have:=r.dp;lia
theorem xZ.units{k:Nat}{A:aW}(r:xZ k A):A.units+64<cLine:=by have:=r.un;lia
def xfe:TA:=fun _ H Q=>Q [] H
def xff(ta:TE)(tr:TA):TA:=fun σ H Q=>ta σ H fun x H1=>tr σ H1 fun xs H2=>Q (x::xs) H2
section
variable {X:Cx} {e:Expr} {es:List Expr} {te:TE} {t:TA} {pos:Pos}
theorem xc:PA X [] xfe:=fun _ _ _ _ H Q I h=>Calls.spliced_nil ⟨[],H,I,.nil,h⟩
theorem xa(ha:PE X e te)(hr:PA X es t)(hs:aT (e::es) X.env=(false,eval e X.env)::aT es X.env:=by rfl):PA X (e::es) (xff te t):=by
 intro pos pins s σ H Q I h;rw[hs];show wpAny _ _ (spliced ((false,eval e X.env)::cg pos (aT es X.env))) _ _ s;refine Calls.spliced_cons (thn (ha pins s σ H _ I h) fun u s1 ⟨x,H1,I1,r1,q1⟩=>?_);exact thn (hr pos pins s1 σ H1 _ I1 q1) fun us s2 ⟨xs,H2,I2,r2,q2⟩=>⟨x::xs,H2,I2,.cons r1 r2,q2⟩
def xkF(t:TA):TE:=fun σ H Q=>t σ H fun xs H1=>xs.length≤ay∧∀p,H1 p=none→Q (.ref p) (upd H1 p (.tup xs))
def xkG(t:TA):TE:=fun σ H Q=>t σ H fun xs H1=>xs.length≤ay∧∀p,H1 p=none→Q (.ref p) (upd H1 p (.lst xs))
theorem yd{x1}(h:PA X es t):PE X (.Tuple es x1 pos) (xkF t):=by
 intro pins s σ H Q I hq;refine wpAny_Tuple_spliced (thn (h pos pins s σ H _ I hq) fun us s1 ⟨xs,H1,I1,r,z,q⟩=>⟨by rw[←r.length];exact z,?_⟩);have hf:H1 s1.heap.objs.size=none:=I1.hok.fresh (aD _);refine⟨.ref s1.heap.objs.size,upd H1 s1.heap.objs.size (.tup xs),I1.laid (t':=s1.toks) (fun b u e=>au _ e) (aD _) ?_,rfl,q _ hf⟩;exact⟨z,us,r,⟨_,ba _ rfl,rfl,_,rfl⟩⟩
theorem xD(h:PA X es t):PE X (.List es pos) (xkG t):=by
 intro pins s σ H Q I hq;refine wpAny_List_spliced (thn (h pos pins s σ H _ I hq) fun us s1 ⟨xs,H1,I1,r,z,q⟩=>⟨by rw[←r.length];exact z,?_⟩);have hf:H1 s1.heap.objs.size=none:=I1.hok.fresh (aD _);refine⟨.ref s1.heap.objs.size,upd H1 s1.heap.objs.size (.lst xs),I1.laid (t':=s1.toks) (fun b u e=>au _ e) (aD _) ?_,rfl,q _ hf⟩;exact⟨z,us,0,r,ba _ rfl⟩
end
abbrev Sp:=List V→Hp→VK→XK→Prop
abbrev CXT:=List Env→Hp→ae→XK→Value→ae→Prop
structure xaZ(P:aF)(w:World)(K:ah)(mg:Str→Option Value)(base:Heap)(A:aW)(outer:List Env)(s:ae)(H:Hp):Prop where
 frames:A.frames=some outer
 mod:Mod K mg base
 bs:∀b o,base.get? b=some o→s.heap.get? b=some o∧H b=none
 bsz:base.objs.size≤s.heap.objs.size
 funs:s.heap.FunFrames base outer
 frf:∀b∈frs outer,H b=none
 hok:HOk P w H s.heap
 bare:dP s.gens
def CE(outer:List Env)(P:aF)(w:World)(H:Hp)(s:ae)(Q:VK)(u:Value)(s':ae):Prop:=
 ∃v H',s'.os=s.os∧dP s'.gens∧Un (frs outer) [] H H' s.heap s'.heap∧HOk P w H' s'.heap∧RelV v u∧Q v H'
def CR(CX:CXT)(outer:List Env)(P:aF)(w:World)(H:Hp)(s:ae)(Q:VK)(E:XK)(r:fN)(s':ae):Prop:=
 match r with
 | .ok (.ret u)=>CE outer P w H s Q u s'
 | .ok _=>False
 | .error e=>CX outer H s E e s'
structure xA(P:aF)(w:World)(K:ah)(mg:Str→Option Value)(base:Heap)(CX:CXT)(k:Nat)(f:Addr)(fd:aK)(ps:List Str)(sp:Sp):Prop where
 len:∀vs H Q E,sp vs H Q E→vs.length=ps.length
 run:∀(A:aW) (outer:List Env) (s:ae) (H:Hp) (args:Args) (us:List Value) (vs:List V) (Q:VK) (E:XK),xZ k A→xaZ P w K mg base A outer s H→gd s fd args (ps.zip us)→Vals vs us→sp vs H Q E→
  df (model P w) A (.call (.ref f) args) (CR CX outer P w H s Q E) s
theorem xaZ.make{P:aF}{w:World}{K:ah}{mg:Str→Option Value}{base:Heap}{A:aW}{outer:List Env}{s:ae}{H:Hp}(e:xaZ P w K mg base A outer s H)(C:Addr)(us:List Value)(kw:List (Str×Value)):
  xaZ P w K mg base (A.under (.builtin "type.__call__" ⟨.ref C::us,kw⟩)) outer s H:=⟨by first|exact e.frames|(simpa [gL,Code.envs,gM,pushEnvs]using e.frames),e.mod,e.bs,e.bsz,e.funs,e.frf,e.hok,e.bare⟩
section
variable {X:Cx} {pins:List (Addr×Obj)} {σ:St} {H:Hp} {s s':ae}
theorem Inv.env0(I:Inv X pins σ H s):xaZ X.prog X.w X.K X.mg X.base X.A X.stack s H:=
 ⟨I.ok.frames,I.ok.mod,I.bs,aO I.ok.bsz I.sz,I.stack,I.stkFree,I.hok,I.bare⟩
theorem Inv.after{Q:VK}{u:Value}(I:Inv X pins σ H s)(h:CE X.stack X.prog X.w H s Q u s'):EP X pins σ Q u s':=by
 obtain⟨v,H',os,bare,un,hok,r,q⟩:=h;obtain⟨hh,g,d,t,os'⟩:=s';obtain rfl:os'=s.os:=os;exact⟨v,H',I.call (h':=hh) (g':=g) (d':=d) (t':=t) (ch:=[]) un hok bare (fun b z=>absurd z (by simp)),r,q⟩
end
def xc1(sp:Sp)(dvs:List V)(E:XK)(t:TA):TE:=fun σ H Q=>t σ H fun vs H1=>sp (vs++dvs) H1 Q E
def xfg(C:Addr)(m:Str)(sp:Sp)(dvs:List V)(E:XK)(ta:TE)(t:TA):TE:=fun σ H Q=>ta σ H fun x H1=>∃a dx fs,x= .ref a∧H1 a=some (.ins C dx fs)∧fs.lookup m=none∧
 t σ H1 fun vs H2=>sp (x::(vs++dvs)) H2 Q E
def xka(C:Addr)(sp:Sp)(dvs:List V)(E:XK)(t:TA):TE:=fun σ H Q=>t σ H fun vs H1=>∀x dx,H1 x=none→H1 dx=none→dx≠x→
 sp (.ref x::(vs++dvs)) (upd (upd H1 dx (.own x)) x (.ins C dx [])) (fun v H2=>v= .non∧Q (.ref x) H2) E
def Binds(K:ah)(fd:aK)(ps:List Str)(ds:List Value):Prop:=
 ∀(s:ae) (us:List Value),K.In s.heap→(us++ds).length=ps.length→gd s fd ⟨us,[]⟩ (ps.zip (us++ds))
theorem Binds.all{K:ah}{fd:aK}{ps:List Str}(h:∀us:List Value,us.length=ps.length→fO fd ⟨us,[]⟩=pure (ps.zip us)):Binds K fd ps []:=fun s us _ hl=>by
 rw[List.append_nil]at hl⊢;exact .of_eq (h us hl)
def Passes(CX:CXT)(X:Cx)(E:XK):Prop:=∀(pins:List (Addr×Obj)) (σ:St) (H:Hp) (s:ae) (e:Value) (s':ae),Inv X pins σ H s→CX X.stack H s E e s'→X.xe e s'
section
variable {X:Cx} {CX:CXT} {k:Nat} {f C:Addr} {fd:aK} {ps:List Str} {sp:Sp} {dvs:List V} {ds:List Value} {E:XK} {x m:Str} {p pos apos:Pos} {e o:Expr} {es:List Expr} {ta:TE} {t:TA}
theorem xda{pins:List (Addr×Obj)}{σ:St}{H:Hp}{s:ae}{Q:VK}{us:List Value}{vs:List V}(F:xA X.prog X.w X.K X.mg X.base CX k f fd ps sp)(hr:xZ k X.A)(hb:Binds X.K fd ps ds)(hd:Vals dvs ds)(hx:Passes CX X E)
  (I:Inv X pins σ H s) (r:Vals vs us) (h:sp (vs++dvs) H Q E):wpAny (model X.prog X.w) X.A (call (.ref f) us) (EP X pins σ Q) X.xe s:=by
 have r2:Vals (vs++dvs) (us++ds):=r.append hd;have hl:(us++ds).length=ps.length:=by rw[←r2.length];exact F.len _ _ _ _ h
 refine eF (cZ (F.run X.A X.stack s H ⟨us,[]⟩ (us++ds) (vs++dvs) Q E hr I.env0 (hb s us I.kIn hl) r2 h) fun r s' hq=>?_);cases r with
 |error e=>exact hx pins σ H s e s' I hq
 |ok fl=>
  cases fl with
  |ret u=>exact I.after hq
  |next=>exact bu hq
  |brk=>exact bu hq
  |cont=>exact bu hq
theorem xp(F:xA X.prog X.w X.K X.mg X.base CX k f fd ps sp)(hr:xZ k X.A)(hg:Gl X x)(hm:X.mg x=some (.ref f))(hk:dH X.K (.ref f)=true)(hb:Binds X.K fd ps ds)(hd:Vals dvs ds)(hx:Passes CX X E)
  (ha:PA X (e::es) t) (hdb:(x==("__debug__":Str))=false:=by decide) (he:aT (e::es) X.env=(false,eval e X.env)::aT es X.env:=by rfl) (hpl:(cg pos (aT es X.env)).any (·.1)=false:=by rfl):
  PE X (.Call (.Name x p) (e::es) [] pos) (xc1 sp dvs E t):=by
 intro pins s σ H Q I h;refine ck (yp I hg hm ?_ hdb);refine ed (h₀:=X.base) I.ok.mod.kin hk (thn (ha pos pins s σ H _ I h) fun us s1 ⟨vs,H1,I1,r,q⟩=>⟨I1.kIn,?_⟩) he hpl;exact xda F hr hb hd hx I1 r q
theorem vS{pl:Sem Bool}(he:PE X o ta)(c:Cls X.K C)(hm:Meth X.K C m f)(F:xA X.prog X.w X.K X.mg X.base CX k f fd ps sp)(hr:xZ k X.A)(hb:Binds X.K fd ps ds)(hd:Vals dvs ds)(hx:Passes CX X E)
  (ht:eval (.Call (.Attribute o m apos) [] [] pos) X.env=(do
   let ov ←eval o X.env
   standAt apos.atName
   let(f,first) ←f9 [ov] (getMethod ov m pl)
   callWith pos f first (cg pos (aT [] X.env)) (backToKw pos (fY [] X.env))):=by rfl):
  PE X (.Call (.Attribute o m apos) [] [] pos) (xfg C m sp dvs E ta xfe):=by
 intro pins s σ H Q I h;refine W.methodCall_KW (pl:=pl) (thn (he pins s σ H _ I h) fun u s1 ⟨x,H1,I1,rx,a,dx,fs,ex,ea,l,q⟩=>?_) ht;subst ex;obtain rfl:u=aS a:=rx;refine xfa I1 ea c hm l ?_;exact W.callWith_K0 (first:=[.ref a]) I1.kIn hm.kp (xda (us:=[.ref a]) (vs:=[.ref a]) F hr hb hd hx I1 (.cons rfl .nil) q)
structure Mk(K:ah)(C f:Addr):Prop where
 makes:W.makesIn K C=true
 init:cj K (.ref C) "__init__"=some (some (.ref f))
 fn:W.isFn K (.ref f)=true
 kp:dH K (.ref C)=true
theorem xhh{pins:List (Addr×Obj)}{σ:St}{H:Hp}{s:ae}{Q:VK}{us:List Value}{vs:List V}(M:Mk X.K C f)(F:xA X.prog X.w X.K X.mg X.base CX k f fd ps sp)(hr:xZ (k+1) X.A)(hb:Binds X.K fd ps ds)(hd:Vals dvs ds)
  (hx:Passes CX X E) (I:Inv X pins σ H s) (r:Vals vs us)
  (h:∀x dx,H x=none→H dx=none→dx≠x→sp (.ref x::(vs++dvs)) (upd (upd H dx (.own x)) x (.ins C dx [])) (fun v H2=>v= .non∧Q (.ref x) H2) E):
  wpAny (model X.prog X.w) X.A (call (.ref C) us) (EP X pins σ Q) X.xe s:=by
 have hq:=h (s.heap.objs.size+1) s.heap.objs.size (I.hok.fresh (Nat.le_succ _)) (I.hok.fresh (aD _)) (bc (Nat.lt_succ_self _));have I2:=Inv.made (C:=C) I;have r2:Vals (V.ref (s.heap.objs.size+1)::(vs++dvs)) (aS (s.heap.objs.size+1)::(us++ds)):=.cons rfl (r.append hd);have hl:(aS (s.heap.objs.size+1)::us++ds).length=ps.length:=by
  have e:=r2.length;rw[F.len _ _ _ _ hq]at e;exact e.symm
 refine eF (xhg (f:=f) I.kIn M.makes M.init (beq_iff_eq.mp M.fn) (cZ (F.run _ X.stack _ _ ⟨aS (s.heap.objs.size+1)::us,[]⟩ (aS (s.heap.objs.size+1)::(us++ds)) _ _ E (hr.make C us [])
  (I2.env0.make C us []) (hb _ (aS (s.heap.objs.size+1)::us) I2.kIn hl) r2 hq) fun r s' hq'=>?_))
 cases r with
 |error e=>exact hx pins σ _ _ e s' I2 hq'
 |ok fl=>
  cases fl with
  |ret u=>
   obtain⟨v,H',I3,rv,ev,q3⟩:=I2.after hq';subst ev;exact⟨rv,⟨V.ref (s.heap.objs.size+1),H',I3,rfl,q3⟩⟩
  |next=>exact bu hq'
  |brk=>exact bu hq'
  |cont=>exact bu hq'
theorem xeE(M:Mk X.K C f)(F:xA X.prog X.w X.K X.mg X.base CX k f fd ps sp)(hr:xZ (k+1) X.A)(hg:Gl X x)(hm:X.mg x=some (.ref C))(hb:Binds X.K fd ps ds)(hd:Vals dvs ds)(hx:Passes CX X E)
  (ha:PA X (e::es) t) (hdb:(x==("__debug__":Str))=false:=by decide) (he:aT (e::es) X.env=(false,eval e X.env)::aT es X.env:=by rfl) (hpl:(cg pos (aT es X.env)).any (·.1)=false:=by rfl):
  PE X (.Call (.Name x p) (e::es) [] pos) (xka C sp dvs E t):=by
 intro pins s σ H Q I h;refine ck (yp I hg hm ?_ hdb);refine ed (h₀:=X.base) I.ok.mod.kin M.kp (thn (ha pos pins s σ H _ I h) fun us s1 ⟨vs,H1,I1,r,q⟩=>⟨I1.kIn,?_⟩) he hpl;exact xhh M F hr hb hd hx I1 r q
end
section
variable {X:Cx} {CX:CXT} {k:Nat} {f C:Addr} {fd:aK} {ps ks:List Str} {sp:Sp} {E:XK} {x m:Str} {p pos apos kpos:Pos} {e o:Expr} {es:List Expr} {kws:List Keyword} {te ta:TE} {t tk:TA} {nm:Option Str}
variable {g:List Value→List Value→List Value} {gV:List V→List V→List V}
end
structure xr(N P:List Str)(sc:Scope):Prop where
 kind:sc.kind= .function
 co:sc.isCoroutine=false
 gen:sc.isGenerator=false
 nd:N.Nodup
 pre:N.take P.length=P
 par:∀x∈P,sc.names.lookup x=some .local∨sc.names.lookup x=some .cell
 nofree:∀y∈sc.names,y.2≠.free
theorem xcl{kindOf:Str→Option cM}{x:Str}:∀{binds:List (Str×Value)} {m:Str→Option Value},(∀v,(x,v)∉binds)→bindL kindOf binds m x=m x
 |[],_,_=>rfl
 |(n,v)::r,m,h=>by
  unfold bindL;rw[xcl fun w hw=>h w (ak _ hw)]
  split
  ·have:x≠n:=by rintro rfl;exact h v aL
   simp[this]
  ·rfl
theorem xcm{kindOf:Str→Option cM}{x:Str}:∀{binds:List (Str×Value)} {m:Str→Option Value},(∀v,(x,v)∉binds)→bindC kindOf binds m x=m x
 |[],_,_=>rfl
 |(n,v)::r,m,h=>by
  unfold bindC;rw[xcm fun w hw=>h w (ak _ hw)]
  split
  ·rfl
  ·have:x≠n:=by rintro rfl;exact h v aL
   simp[this]
theorem xcn{kindOf:Str→Option cM}{x:Str}{v:Value}:∀{P:List Str} {vs:List Value} {i:Nat} {m:Str→Option Value},P.Nodup→P[i]? =some x→vs[i]? =some v→kindOf x=some .local→
  bindL kindOf (P.zip vs) m x=some v
 |[],_,_,_,_,h,_,_=>by simp at h
 |_::_,[],_,_,_,_,h,_=>by simp at h
 |p::P,w::vs,0,m,nd,h1,h2,hk=>by
  simp at h1 h2;subst h1;subst h2;show bindL kindOf ((p,w)::P.zip vs) m p=_;unfold bindL;rw[xcl fun v hv=>(fb.mp nd).1 (fW hv).1,if_pos hk];simp
 |p::P,w::vs,i+1,m,nd,h1,h2,hk=>by
  show bindL kindOf ((p,w)::P.zip vs) m x=_;unfold bindL;exact xcn (i:=i) (fb.mp nd).2 (by simpa using h1) (by simpa using h2) hk
theorem xco{kindOf:Str→Option cM}{x:Str}{v:Value}:∀{P:List Str} {vs:List Value} {i:Nat} {m:Str→Option Value},P.Nodup→P[i]? =some x→vs[i]? =some v→kindOf x≠some .local→
  bindC kindOf (P.zip vs) m x=some v
 |[],_,_,_,_,h,_,_=>by simp at h
 |_::_,[],_,_,_,_,h,_=>by simp at h
 |p::P,w::vs,0,m,nd,h1,h2,hk=>by
  simp at h1 h2;subst h1;subst h2;show bindC kindOf ((p,w)::P.zip vs) m p=_;unfold bindC;rw[xcm fun v hv=>(fb.mp nd).1 (fW hv).1,if_neg hk];simp
 |p::P,w::vs,i+1,m,nd,h1,h2,hk=>by
  show bindC kindOf ((p,w)::P.zip vs) m x=_;unfold bindC;exact xco (i:=i) (fb.mp nd).2 (by simpa using h1) (by simpa using h2) hk
def start(N:List Str)(vs:List V):St:=vs.map some++dB (N.length - vs.length) none
def uK(CX:CXT)(P:aF)(w:World)(K:ah)(mg:Str→Option Value)(base:Heap)(N:List Str)(qual:Str)(scope:Scope)(f:Addr)(cd:Value)(A:aW)(outer:List Env)(s:ae)(H:Hp)(E:XK):Cx where
 prog:=P
 w:=w
 K:=K
 mg:=mg
 base:=base
 A:=A.deeper (eO qual scope s.heap.objs.size f cd)
 N:=N
 s₀:=s
 H₀:=H
 env:=eO qual scope s.heap.objs.size f cd
 outer:=outer
 stack:=eO qual scope s.heap.objs.size f cd::outer
 ex:=[]
 calm:=true
 cp:=fun _=>true
 fn:=fun _=>true
 pn:=[]
 xe:=fun e s'=>wpAny (model P w) (A.deeper (eO qual scope s.heap.objs.size f cd)) (leaving (eO qual scope s.heap.objs.size f cd) e) (fun _ s''=>CX outer H s E e s'') (fun e' s''=>CX outer H s E e' s'') s'
theorem xdb{sc:Scope}{n:Nat}{x:Str}(h:sc.names.lookup x=some .cell):∃c,(cellsFrom n sc.names []).lookup x=some c:=by
 have q:=W.cellsFrom_some sc.names n [] (.inl h);exact fP.mp q
theorem xf8{CX:CXT}{P:aF}{w:World}{K:ah}{mg:Str→Option Value}{base:Heap}{N ps:List Str}{qual:Str}{scope:Scope}{f:Addr}{cd:Value}{A:aW}{outer:List Env}{s s1:ae}{H:Hp}{E:XK}{us:List Value}{vs:List V}
  (S:xr N ps scope) (hd:A.handled=none) (e0:xaZ P w K mg base A outer s H) (hl:vs.length=ps.length) (r:Vals vs us)
  (x:InCallC s s.heap.objs.size (bindL (eO qual scope s.heap.objs.size f cd).kindOf (ps.zip us) fun _=>none) (cellsFrom (s.heap.objs.size+1) scope.names []) (bindC (eO qual scope s.heap.objs.size f cd).kindOf (ps.zip us) fun _=>none) s1):
  Inv (uK CX P w K mg base N qual scope f cd A outer s H E) [] (start N vs) H s1:=by
 have hpl:ps.length≤N.length:=by have:=congrArg bZ S.pre;rw[aI]at this;lia
 obtain⟨h1,tk,rfl,hk⟩:=x.done;have noA:∀b:Addr,b∉(uK CX P w K mg base N qual scope f cd A outer s H E).ex:=fun b z=>absurd (show b∈([]:List Addr)from z) (by simp);refine⟨⟨e0.mod,S.kind,rfl,rfl,aD _,fun y z c h1 h2=>?_,fun y hy=>?_,fun y c _ h=>?_,fun _=>hd,Around.frames_deeper e0.frames,.inr ⟨rfl,rfl⟩,fun b z=>absurd z (noA b),e0.bs,e0.bsz,fun b _ _=>noA b,fun b z=>absurd z (noA b),e0.funs,e0.frf,fun y c _ h=>fK (x.above y c (PySem.mem_of_lookup h)),fun b hb=>e0.hok.fresh hb⟩,
  rfl,e0.bare,Un.kept hk,⟨_,x.toInCall.ns,fun i y v h1 h2 h3=>?_⟩,fun y c h=>⟨_,x.cell y c h⟩,e0.hok.fresh (aD _),fun y c h=>.inl ?_,fun p hp=>absurd (show p∈([]:List (Addr×Obj))from hp) (by simp),e0.hok.kept hk,?_⟩
 ·exact name_of_addr x.apart (PySem.mem_of_lookup h1) (PySem.mem_of_lookup h2)
 ·have hy:scope.names.lookup y=some .cell∨scope.names.lookup y=some .free:=hy;rcases hy with hy|hy
  ·exact xdb hy
  ·exact absurd rfl (S.nofree _ (PySem.mem_of_lookup hy))
 ·exact fK (x.above y c (PySem.mem_of_lookup h))
 ·have hi:i<vs.length:=by
   unfold start at h2
   by_cases hi:i<vs.length
   ·exact hi
   ·rw[dN (by simpa using hi)]at h2;rw[List.getElem?_replicate]at h2
    split at h2<;> cases h2
  have ha:vs[i]? =some v:=by
   unfold start at h2;rw[fG (by simpa using hi),aJ]at h2;cases e:vs[i]? with
   |none=>rw[e]at h2;cases h2
   |some a=>rw[e]at h2;cases h2;rfl
  obtain⟨u,hu,rv⟩:=r.get ha;have hp:ps[i]? =some y:=by
   rw[←S.pre,List.getElem?_take_of_lt (by lia)];exact h1
  have ndP:ps.Nodup:=by rw[←S.pre];exact S.nd.sublist (List.take_sublist _ _)
  refine⟨u,rv,?_⟩;rcases S.par y (aQ hp)with k|k
  ·exact .inl ⟨k,xcn ndP hp hu k⟩
  ·obtain⟨c,e⟩:=xdb (n:=s.heap.objs.size+1) k;refine .inr ⟨.inl k,c,e,?_⟩;have q:=x.cell y c e;rw[xco ndP hp hu (by show scope.names.lookup y≠_;rw[k];decide)]at q;exact q
 ·exact e0.hok.fresh (fK (x.above y c (PySem.mem_of_lookup h)))
 ·unfold start;show _=N.length;rw[aj,aa,List.length_replicate];lia
theorem xfh{CX:CXT}{P:aF}{w:World}{K:ah}{mg:Str→Option Value}{base:Heap}{k:Nat}{f:Addr}{name qual:Str}{params:fX}{body:List Stmt}{scope:Scope}{dV kV doc pm cdv ct oc:Value}{an od:Option Addr}
  {osl:Array (Option Value)} {N ps:List Str} {sp:Sp} (lk:K.lookup f=some ⟨oc,od,.func (eP name qual params body scope dV kV doc pm an cdv ct),osl⟩) (hcd:W.codeIn K cdv qual=true) (S:xr N ps scope)
  (len:∀vs H Q E,sp vs H Q E→vs.length=ps.length)
  (hbody:∀(A:aW) (outer:List Env) (s:ae) (H:Hp) (vs:List V) (Q:VK) (E:XK),xZ k (A.deeper (eO qual scope s.heap.objs.size f cdv))→sp vs H Q E→
   ∃t,PSs (uK CX P w K mg base N qual scope f cdv A outer s H E) body t∧t {nx:=fun _ H'=>Q .non H',rt:=Q} (start N vs) H):
  xA P w K mg base CX (k+1) f (eP name qual params body scope dV kV doc pm an cdv ct) ps sp:=by
 refine⟨len,fun A outer s H args us vs Q E hr e0 hb r hsp=>?_⟩;have hl:=len _ _ _ _ hsp;have KX:K.In s.heap:=e0.mod.kin.keeps fun b o e=>(e0.bs b o e).1;have lim:s.heap.NoLimit:=e0.mod.nolimit.keeps fun b o e=>(e0.bs b o e).1;have hkind:∀y∈ps.zip us,scope.names.lookup y.1=some .local∨(scope.names.lookup y.1=some .cell∧((cellsFrom (s.heap.objs.size+1) scope.names []).lookup y.1).isSome=true):=fun⟨n,v⟩ hy=>by
  rcases S.par n (fW hy).1 with q|q
  ·exact .inl q
  ·exact .inr ⟨q,W.cellsFrom_some _ _ _ (.inl q)⟩
 refine codeAny_call_function hr.depth (KX _ _ lk) rfl S.co S.gen rfl (W.codeRec_of KX hcd) (hb _ _ _ _ ?_);refine wpAny_newFunctionEnv_cells S.kind hkind fun env he s1 x=>?_;subst he;refine⟨lim.keeps x.toInCall.keep,codeAny_func ?_⟩;obtain⟨t,ht,hq⟩:=hbody A outer s H vs Q E (hr.deeper _) hsp;have I:Inv (uK CX P w K mg base N qual scope f cdv A outer s H E) [] (start N vs) H s1:=xf8 S hr.hd e0 hl r x;refine aP (ht [] s1 (start N vs) H _ I hq) (fun fl s' hs=>?_) fun e s' hs=>hs;have fin:∀{σ':St} {H':Hp} {v:V} {u:Value},Inv (uK CX P w K mg base N qual scope f cdv A outer s H E) [] σ' H' s'→RelV v u→Q v H'→CE outer P w H s Q u s':=
  fun{σ' H' v u} J rv q=>⟨v,H',J.os,J.bare,J.base,J.hok,rv,q⟩
 cases fl with
 |ret u=>
  obtain⟨v,σ',H',J,rv,q⟩:=hs;exact fin J rv q
 |next=>
  obtain⟨σ',H',J,q⟩:=hs;exact fin (v:=V.non) (u:=bg) J rfl q
 |brk=>
  obtain⟨_,_,_,q⟩:=hs;exact bu q
 |cont=>
  obtain⟨_,_,_,q⟩:=hs;exact bu q
end L2
namespace L2
open PySem PySem.Spec PyProof.Rows
section
variable {X:Cx} {x:Str} {p pos:Pos} {e:Expr} {es:List Expr} {t:TA} {id T:String} {r:List V→Hp→VK→Prop}
def tCB(r:List V→Hp→VK→Prop)(t:TA):TE:=fun σ H Q=>t σ H fun vs H1=>r vs H1 Q
theorem xt(hc:yj X (.builtin id) r)(hg:Gl X x)(hm:X.mg x=none)(hv:bJ x=some (.builtin id))(ha:PA X (e::es) t)(hn:x≠"__name__":=by decide)(hdb:(x==("__debug__":Str))=false:=by decide)
  (he:aT (e::es) X.env=(false,eval e X.env)::aT es X.env:=by rfl) (hpl:(cg pos (aT es X.env)).any (·.1)=false:=by rfl):PE X (.Call (.Name x p) (e::es) [] pos) (tCB r t):=by
 intro pins s σ H Q I h;refine ck (jH I hg hm hv ?_ hn hdb);exact PyProof.Rows.callWith_builtin1 (thn (ha pos pins s σ H _ I h) fun us s1 ⟨vs,H1,I1,r1,q1⟩=>hc pins s1 σ H1 vs us Q I1 r1 q1) he hpl
theorem xC(hc:yj X (.type T) r)(hg:Gl X x)(hm:X.mg x=none)(hv:bJ x=some (.type T))(ha:PA X (e::es) t)(hn:x≠"__name__":=by decide)(hdb:(x==("__debug__":Str))=false:=by decide)
  (he:aT (e::es) X.env=(false,eval e X.env)::aT es X.env:=by rfl) (hpl:(cg pos (aT es X.env)).any (·.1)=false:=by rfl):PE X (.Call (.Name x p) (e::es) [] pos) (tCB r t):=by
 intro pins s σ H Q I h;refine ck (jH I hg hm hv ?_ hn hdb);exact dF (thn (ha pos pins s σ H _ I h) fun us s1 ⟨vs,H1,I1,r1,q1⟩=>hc pins s1 σ H1 vs us Q I1 r1 q1) he hpl
end
end L2
namespace HT
open PySem PyProof.Rows
section
open PySem.SeqAt
open PySem.AutoSeq1 (wpAny_loadPart')
open PySem.MeetsSeq PySem.MeetsSeq2 PySem.MeetsSeq3
end
section
variable {prog:aF} {w:World} {A:aW} {E:Value→ae→Prop} {s:ae}
theorem xik{t b:Addr}{vs ws:List Value}{Q:Value→ae→Prop}(ht:IsTup s.heap t vs.toArray)(hb:IsTup s.heap b ws.toArray)(hv:vs≠[])
  (h1:ws=[]→Q (.ref t) s) (h2:ws≠[]→Q (.ref s.heap.objs.size) {s with heap:=s.heap.push {cls:=.type "tuple",data:=.seq (vs++ws).toArray}})
  (hsz:vs.length+ws.length≤ay):wpAny (model prog w) A (cb .Add (.ref t) (.ref b)) Q E s:=by
 obtain⟨⟨cls,dd,data,sl⟩,ho,hc,n,hd⟩:=id ht;obtain⟨⟨cls2,dd2,data2,sl2⟩,ho2,hc2,n2,hd2⟩:=id hb;simp only at hc hd hc2 hd2;subst hc hd hc2 hd2;have e:vs.toArray++ws.toArray=(vs++ws).toArray:=by simp
 by_cases hw:ws=[]
 ·exact concat_meets ⟨_,ho,rfl⟩ ⟨_,ho2,rfl⟩ noFill_tuple_add seq_tuple_add PySem.F.slot_tuple_add PySem.F.entry_tuple_add (PySem.F.args_tuple_add_2 _ _)
   (tuple_addW1 t b vs.toArray ws.toArray n n2 dd dd2 sl sl2 (by simpa using hv) (by simp[hw])) ⟨ho,ho2,h1 hw⟩
 ·refine concat_meets ⟨_,ho,rfl⟩ ⟨_,ho2,rfl⟩ noFill_tuple_add seq_tuple_add PySem.F.slot_tuple_add PySem.F.entry_tuple_add (PySem.F.args_tuple_add_2 _ _)
   (tuple_addW2 t b vs.toArray ws.toArray n n2 dd dd2 sl sl2 (by simpa using hv) (by simpa using hw) (by rw[aC,aC];exact hsz)) ⟨ho,ho2,?_⟩
  rw[e];exact h2 hw
def sIx(n d:Nat):Option Int→Nat
 |none=>d
 |some v=>if v<0 then(v+(n:Int)).toNat else min v.toNat n
theorem vT(n d:Nat):sIx n d none=d:=rfl
theorem xf9(n d:Nat)(hd:d≤n)(o:Option Int):sIx n d o≤n:=by
 cases o with
 |none=>exact hd
 |some v=>
  show(if v<0 then(v+(n:Int)).toNat else min v.toNat n)≤n
  by_cases hv:v<0
  ·rw[if_pos hv];lia
  ·rw[if_neg hv];exact Nat.min_le_right _ _
theorem xeF(v:Int)(n d:Nat):(if v<0 then max (v+(n:Int)) 0 else min v (n:Int))=((sIx n d (some v):Nat):Int):=by
 show(if v<0 then max (v+(n:Int)) 0 else min v (n:Int))=(((if v<0 then(v+(n:Int)).toNat else min v.toNat n):Nat):Int)
 by_cases hv:v<0
 ·simp only[if_pos hv];lia
 ·simp only[if_neg hv];lia
theorem xfi(lo hi:Option Int)(n:Nat):d4 lo hi 1 (n:Int)=(((sIx n 0 lo:Nat):Int),((sIx n n hi:Nat):Int)):=by
 have h1:¬((1:Int)<0):=by lia
 unfold d4;simp only[h1,if_false];refine Prod.ext ?_ ?_
 ·cases lo with
  |none=>rfl
  |some v=>exact xeF v n 0
 ·cases hi with
  |none=>rfl
  |some v=>exact xeF v n n
theorem xfj(i j:Nat):cT (i:Int) (j:Int) 1=j - i:=by
 unfold cT;have h1:(1:Int) > 0:=by lia
 simp only[h1,if_true,Int.ediv_one]
 split<;> lia
theorem xbs{v:Value}{o:Option Int}{Q:Option Int→ae→Prop}(p:fc v o)(h:Q o s):wpAny (model prog w) A (Builtin.Slice.slicePartIndex v) Q E s:=by
 cases p with
 |none=>exact slicePart_none h
 |int i t=>exact slicePart_int h
theorem uL{sl:Addr}{vl vu:Value}{lo hi:Option Int}{n:Nat}{Q:Int×Int×Nat→ae→Prop}(hs:s.heap.IsSliceOf sl vl vu .none)(pl:fc vl lo)(pu:fc vu hi)
  (h:Q (((sIx n 0 lo:Nat):Int),1,sIx n n hi - sIx n 0 lo) s):wpAny (model prog w) A (fA (.ref sl) (pure (n:Int))) Q E s:=by
 obtain⟨os,hos,hcs,hds⟩:=id hs;unfold fA Builtin.Slice.sliceFields;refine af (af (bH hos hds (x:=vl) rfl (af (bH hos hds (x:=vu) rfl (af (bH hos hds (x:=.none) rfl (aq ?_)))))));refine af (slicePart_none ?_);show wpAny _ _ (if ((1:Int)==0)=true then _ else _) _ _ s;rw[if_neg (by decide)];refine af (xbs pl (af (xbs pu (af (aq ?_)))));show wpAny _ _ (match d4 lo hi 1 (n:Int)with|(lo,hi)=>pure (lo,(1:Int),cT lo hi 1)) _ _ s;rw[xfi lo hi n];show wpAny _ _ (pure (((sIx n 0 lo:Nat):Int),(1:Int),cT ((sIx n 0 lo:Nat):Int) ((sIx n n hi:Nat):Int) 1)) _ _ s;rw[xfj];exact aq h
theorem xhi(xs:Array Value)(i k:Nat):((gn k).filterMap fun(m:Nat)=>xs[((i:Int)+(m:Int)*1).toNat]?).toArray=((xs.toList.drop i).take k).toArray:=by
 have e:(fun(m:Nat)=>xs[((i:Int)+(m:Int)*1).toNat]?)=fun m=>xs[i+m]? :=by
  funext m
  have:((i:Int)+(m:Int)*1).toNat=i+m:=by lia
  rw[this]
 rw[e];have:=pick_run xs i k;rw[List.filterMap_map]at this;have e2:((fun x=>xs[x]?)∘fun x=>i+x)=fun m=>xs[i+m]? :=rfl;rw[e2]at this;rw[this]
theorem xaD{t sl:Addr}{items:Array Value}{vl vu:Value}{lo hi:Option Int}{Q:Value→ae→Prop}(ht:IsTup s.heap t items)(hs:s.heap.IsSliceOf sl vl vu .none)(pl:fc vl lo)(pu:fc vu hi)
  (hw:¬(sIx items.size 0 lo=0∧sIx items.size items.size hi=items.size))
  (h:Q (.ref s.heap.objs.size) {s with heap:=s.heap.push {cls:=.type "tuple",data:=.seq ((items.toList.drop (sIx items.size 0 lo)).take (sIx items.size items.size hi - sIx items.size 0 lo)).toArray}})
  (hsz:items.size≤ay):wpAny (model prog w) A (eH (.ref t) (.ref sl)) Q E s:=by
 have htake:sizeOk (.seq ((items.toList.drop (sIx items.size 0 lo)).take (sIx items.size items.size hi - sIx items.size 0 lo)).toArray):=by
  show((items.toList.drop (sIx items.size 0 lo)).take (sIx items.size items.size hi - sIx items.size 0 lo)).toArray.size≤ay;rw[aC,aI,aV,c9];lia
 have hj:sIx items.size items.size hi≤items.size:=xf9 _ _ (aD _) hi;obtain⟨os,hos,hcs,hds⟩:=id hs;have hTs:s.TypeIs (.ref sl) "slice":=⟨os,hos,hcs⟩;unfold eH
 try with_reducible refine bC ?_
 first|refine af (aq ?_)|skip
 refine af (wpAny_sequenceKey ht.typeIs (by decide) ?_);refine af (fT (name:=ai "__getitem__") ht.typeIs bL
  (wpAny_call_entry bL ht.typeIs entry_tuple_getitem ?_ (args_tuple_getitem _ _)))
 show wpAny _ _ (fB (.ref t) >>= _) _ _ s;refine af (tupleItemsOf_ ht ?_);refine af (wpAny_typeOf hTs ?_);rw[if_pos (by decide)];refine af (uL hs pl pu ?_);have hno:¬((((sIx items.size 0 lo:Nat):Int)==0&&(1:Int)==1&&(sIx items.size items.size hi - sIx items.size 0 lo)==items.size)=true):=by
  intro q;rw[bN,bN]at q;have q1:((sIx items.size 0 lo:Nat):Int)=0:=eq_of_beq q.1.1;have q2:sIx items.size items.size hi - sIx items.size 0 lo=items.size:=eq_of_beq q.2;exact hw ⟨by lia,by lia⟩
 show wpAny _ _ (if (((sIx items.size 0 lo:Nat):Int)==0&&(1:Int)==1&&(sIx items.size items.size hi - sIx items.size 0 lo)==items.size)=true then _ else _) _ _ s;rw[if_neg hno,xhi]
 first
  |exact af (m:=c7 _) (cc (aq ⟨_,rfl,aq h⟩) htake)
  |exact af (m:=c7 _) (cc (af (aq (aq ⟨_,rfl,aq h⟩))) htake)
  |exact af (af (m:=c7 _) (cc (aq (aq ⟨_,rfl,aq h⟩)) htake))
  |exact af (af (m:=c7 _) (cc (aq ⟨_,rfl,aq h⟩) htake))
end
end HT
namespace L2
open PySem PySem.Spec PyProof.Rows
abbrev TO:=St→Hp→(Option Int→Hp→Prop)→Prop
def PO(X:Cx)(e:Option Expr)(t:TO):Prop:=
 ∀(pins:List (Addr×Obj)) (s:ae) (σ:St) (H:Hp) (Q:Option Int→Hp→Prop),Inv X pins σ H s→t σ H Q→
  wpAny (model X.prog X.w) X.A (evalPart e X.env) (fun u s'=>∃o H',Inv X pins σ H' s'∧fc u o∧Q o H') X.xe s
def xil:TO:=fun _ H Q=>Q none H
def xkb(t:TE):TO:=fun σ H Q=>t σ H fun x H1=>∃i,x= .int i∧Q (some i) H1
section
variable {X:Cx} {e:Expr} {te:TE} {lo hi:Option Expr} {tl th:TO} {pos p2:Pos}
theorem xO:PO X none xil:=by
 intro pins s σ H Q I h;rw[evalPart_none];exact aq ⟨none,H,I,.none,h⟩
theorem xM(h:PE X e te):PO X (some e) (xkb te):=by
 intro pins s σ H Q I hw;rw[evalPart_some];refine thn (h pins s σ H _ I hw) fun u s1 ⟨x,H1,I1,r1,q1⟩=>?_;obtain⟨i,rfl,q⟩:=q1;obtain⟨t,rfl⟩:=r1;exact⟨some i,H1,I1,.int i t,q⟩
def SlR(X:Cx)(r:V→Option Int→Option Int→Hp→VK→Prop):Prop:=
 ∀(pins:List (Addr×Obj)) (s:ae) (σ:St) (H:Hp) (x:V) (v vl vu:Value) (lo hi:Option Int) (sl:Addr) (Q:VK),Inv X pins σ H s→RelV x v→s.heap.IsSliceOf sl vl vu .none→fc vl lo→fc vu hi→r x lo hi H Q→
  ∃T id,typeLookup (.type T) "__getitem__"=pure (some (.builtin id))∧s.TypeIs v T∧wpAny (model X.prog X.w) X.A (eH v (.ref sl)) (EP X pins σ Q) X.xe s
def tSl(r:V→Option Int→Option Int→Hp→VK→Prop)(te:TE)(tl th:TO):TE:=fun σ H Q=>te σ H fun x H1=>tl σ H1 fun l H2=>th σ H2 fun u H3=>r x l u H3 Q
theorem xF{r:V→Option Int→Option Int→Hp→VK→Prop}(hr:SlR X r)(he:PE X e te)(hl:PO X lo tl)(hu:PO X hi th):PE X (.Subscript e (.Slice lo hi none p2) pos) (tSl r te tl th):=by
 intro pins s σ H Q I h;refine Subscript_ (thn (he pins s σ H _ I h) fun v s1 ⟨x,H1,I1,r1,q1⟩=>?_);refine wpAny_Slice (thn (hl pins s1 σ H1 _ I1 q1) fun vl s2 ⟨l,H2,I2,pl,q2⟩=>thn (hu pins s2 σ H2 _ I2 q2) fun vu s3 ⟨u,H3,I3,pu,q3⟩=>?_);rw[evalPart_none];refine aq ?_;have I4:Inv X pins σ H3 {s3 with heap:=s3.heap.push {cls:=.type "slice",data:=.fields #[vl,vu,.none]}}:=I3.kept (t':=s3.toks) fun b ob q=>au _ q;obtain⟨T,id,hT,ht,hg⟩:=hr pins {s3 with heap:=s3.heap.push {cls:=.type "slice",data:=.fields #[vl,vu,.none]}} σ H3 x v vl vu l u s3.heap.objs.size Q I4 r1 (Heap.IsSliceOf.new ..) pl pu q3;show wpAny (model X.prog X.w) X.A (gy e (.Slice lo hi none p2) v (.ref s3.heap.objs.size)) (EP X pins σ Q) X.xe {s3 with heap:=s3.heap.push {cls:=.type "slice",data:=.fields #[vl,vu,.none]}};exact tail_any (ops:=[.ref s3.heap.objs.size,v]) ht hT hg (by with_unfolding_all rfl)
def yx(xs:List V)(lo hi:Option Int):List V:=(xs.drop (HT.sIx xs.length 0 lo)).take (HT.sIx xs.length xs.length hi - HT.sIx xs.length 0 lo)
theorem xaI(xs:List V)(lo hi:Option Int):(yx xs lo hi).length≤xs.length:=by
 unfold yx;rw[aI,aV];lia
def xkH(K:ah):V→Option Int→Option Int→Hp→VK→Prop:=fun x lo hi H Q=>∃a xs,x= .ref a∧SqT K H a xs∧
 ¬(HT.sIx xs.length 0 lo=0∧HT.sIx xs.length xs.length hi=xs.length)∧∀p,H p=none→Q (.ref p) (upd H p (.tup (yx xs lo hi)))
theorem xdc:SlR X (xkH X.K):=by
 intro pins s σ H x v vl vu lo hi sl Q I rx hs pl pu h;obtain⟨a,xs,rfl,hx,hw,q⟩:=h;cases rx;obtain⟨its,r,ht,hz⟩:=I.tuple hx;have hlen:its.toArray.size=xs.length:=by rw[aC];exact r.length.symm
 refine⟨"tuple",_,bL.lookup,ht.typeIs,?_⟩;refine HT.xaD ht hs pl pu (by rw[hlen];exact hw) ?_ (by rw[hlen];exact hz);rw[hlen];refine⟨.ref s.heap.objs.size,_,I.laid (t':=s.toks) (o:=.tup (yx xs lo hi)) (fun b ob q=>au _ q) (aD _) ?_,rfl,q _ (I.hok.fresh (aD _))⟩;exact⟨aO (xaI xs lo hi) hz,_,(r.drop (HT.sIx xs.length 0 lo)).take (HT.sIx xs.length xs.length hi - HT.sIx xs.length 0 lo),IsTup.new _ _⟩
def xkc(K:ah):R2:=fun x y H Q=>∃a b xs ys,x= .ref a∧y= .ref b∧SqT K H a xs∧SqT K H b ys∧xs≠[]∧xs.length+ys.length≤ay∧
 (ys=[]→Q (.ref a) H)∧(ys≠[]→∀p,H p=none→Q (.ref p) (upd H p (.tup (xs++ys))))
theorem Vals.nil_iff{xs:List V}{us:List Value}(r:Vals xs us):us=[]↔xs=[]:=by
 cases r with
 |nil=>simp
 |cons _ _=>simp
theorem vF:OpR X (cb .Add) (xkc X.K):=by
 intro pins s σ H x y v u Q I rx ry h;obtain⟨a,b,xs,ys,rfl,rfl,ha,hb,hx,hz,q1,q2⟩:=h;cases rx;cases ry;obtain⟨its,r1,p1,_⟩:=I.tuple ha;obtain⟨its2,r2,p2,_⟩:=I.tuple hb;refine HT.xik p1 p2 (fun z=>hx (r1.nil_iff.mp z)) (fun z=>⟨.ref a,H,I,rfl,q1 (r2.nil_iff.mp z)⟩) (fun z=>?_) (by rw[←r1.length,←r2.length];exact hz);refine⟨.ref s.heap.objs.size,_,I.laid (t':=s.toks) (o:=.tup (xs++ys)) (fun b ob q=>au _ q) (aD _) ?_,rfl,q2 (fun w=>z (r2.nil_iff.mpr w)) _ (I.hok.fresh (aD _))⟩;exact⟨by rw[aj];exact hz,_,r1.append r2,IsTup.new _ _⟩
end
end L2
namespace L2
open PySem PySem.Spec PyProof.Rows
def ixN(n:Nat)(i:Int):Option Nat:=if 0≤i then(if i<n then some i.toNat else none)else if -(n:Int)≤i then some (i+n).toNat else none
def atI{α:Type}(xs:List α)(i:Int):Option α:=(ixN xs.length i).bind fun j=>xs[j]?
theorem xeG{n:Nat}{i:Int}{j:Nat}(h:ixN n i=some j):seqIndex? i n=some j∧j<n∧-(n:Int)≤i∧i<n:=by
 unfold ixN at h
 by_cases h0:0≤i
 ·rw[if_pos h0]at h
  by_cases h1:i<n
  ·rw[if_pos h1]at h;have e:i.toNat=j:=aE h;exact⟨by rw[seqIndex_of h0 h1,e],by lia,by lia,h1⟩
  ·rw[if_neg h1]at h;cases h
 ·rw[if_neg h0]at h
  by_cases h1: -(n:Int)≤i
  ·rw[if_pos h1]at h;have e:(i+n).toNat=j:=aE h;exact⟨by rw[seqIndex_neg (by lia) h1,e],by lia,h1,by lia⟩
  ·rw[if_neg h1]at h;cases h
theorem xeH{α:Type}{xs:List α}{i:Int}{v:α}(h:atI xs i=some v):∃j,seqIndex? i xs.length=some j∧xs[j]? =some v∧j<xs.length∧-(xs.length:Int)≤i∧i<xs.length:=by
 unfold atI at h;cases e:ixN xs.length i with
 |none=>rw[e]at h;cases h
 |some j=>
  rw[e]at h;obtain⟨h1,h2,h3,h4⟩:=xeG e;exact⟨j,h1,h,h2,h3,h4⟩
theorem xV{α:Type}{xs:List α}{j:Nat}{v:α}(h:xs[j]? =some v):atI xs (j:Int)=some v:=by
 have hj:j<xs.length:=(bx.mp h).1;have e:ixN xs.length (j:Int)=some j:=by
  unfold ixN;rw[if_pos (by lia),if_pos (by lia)];simp
 unfold atI;rw[e];exact h
theorem xhj{α:Type}(xs:List α)(v:α):atI (xs++[v]) (-1)=some v:=by
 have hl:(xs++[v]).length=xs.length+1:=by simp
 have e:ixN (xs++[v]).length (-1)=some xs.length:=by
  unfold ixN;rw[hl,if_neg (by decide),if_pos (by lia)]
  congr 1
  lia
 unfold atI;rw[e];show(xs++[v])[xs.length]? =some v;simp
def xim(b:Expr):Prop:=∀o i,fZ b false o i=operate [o,i] (eH o i)
def IxR(X:Cx)(r:R2):Prop:=
 ∀(value slice:Expr) (pins:List (Addr×Obj)) (s:ae) (σ:St) (H:Hp) (x y:V) (v u:Value) (Q:VK),Inv X pins σ H s→RelV x v→RelV y u→r x y H Q→
  fZ slice false v u=operate [v,u] (eH v u)→wpAny (model X.prog X.w) X.A (gy value slice v u) (EP X pins σ Q) X.xe s
def MtR(X:Cx)(id:String)(r:V→List V→Hp→VK→Prop):Prop:=
 ∀(pins:List (Addr×Obj)) (s:ae) (σ:St) (H:Hp) (x:V) (xs:List V) (v:Value) (us:List Value) (Q:VK),Inv X pins σ H s→RelV x v→Vals xs us→r x xs H Q→
  wpAny (model X.prog X.w) X.A (call (.builtin id) (v::us)) (EP X pins σ Q) X.xe s
section
variable {X:Cx} {a b:Expr} {ta tb:TE} {pos:Pos}
theorem xq{r:R2}(hr:IxR X r)(ha:PE X a ta)(hb:PE X b tb)(hs:xim b):PE X (.Subscript a b pos) (tOp r ta tb):=by
 intro pins s σ H Q I h;exact Subscript_ (xhc ha hb I h fun v u s2 x y H2 I2 rx ry q=>hr a b pins s2 σ H2 x y v u Q I2 rx ry q (hs _ _))
def xjv(K:ah):R2:=fun x y H Q=>∃p xs i v,x= .ref p∧y= .int i∧SqL K H p xs∧atI xs i=some v∧Q v H
def xjw(K:ah):R2:=fun x y H Q=>∃p xs i v,x= .ref p∧y= .int i∧SqT K H p xs∧atI xs i=some v∧Q v H
theorem xx:IxR X (xjv X.K):=by
 intro value slice pins s σ H x y v u Q I rx ry h hs;obtain⟨p,xs,i,z,rfl,rfl,hq,he,q⟩:=h;cases rx;obtain⟨t,rfl⟩:=ry;obtain⟨its,r,pl,hz⟩:=I.list hq;obtain⟨j,h1,h2,h3,h4,h5⟩:=xeH he;obtain⟨w,ew,rw'⟩:=r.get h2;have hl:=r.length;have hn:=jJ;have fin:EP X pins σ Q w s:=⟨z,H,I,rw',q⟩
 by_cases h0:0≤i
 ·have hj:i.toNat=j:=by
   rw[seqIndex_of h0 h5]at h1;exact aE h1
  exact item_listR pl.isList h0 (by lia) (by rw[hj];simpa using ew) fin hs
 ·have hj:(i+(its.toArray.size:Int)).toNat=j:=by
   rw[seqIndex_neg (by lia) h4]at h1;rw[aC,←hl];exact aE h1
  exact subscriptTail_builtinR (x:=w) pl.isList.typeIs slot_list_getitem.lookup
   (wpAny_getItem_list_neg (Q:=fun r s'=>r=w∧EP X pins σ Q r s') pl.isList (by lia) (by rw[aC]<;> lia) (by lia) (by rw[hj];simpa using ew) ⟨rfl,fin⟩) hs
theorem xR:IxR X (xjw X.K):=by
 intro value slice pins s σ H x y v u Q I rx ry h hs;obtain⟨p,xs,i,z,rfl,rfl,hq,he,q⟩:=h;cases rx;obtain⟨t,rfl⟩:=ry;obtain⟨its,r,pl,hz⟩:=I.tuple hq;obtain⟨j,h1,h2,h3,h4,h5⟩:=xeH he;obtain⟨w,ew,rw'⟩:=r.get h2;have hl:=r.length;have hn:=jJ;have fin:EP X pins σ Q w s:=⟨z,H,I,rw',q⟩;exact subscriptTail_builtinR (x:=w) pl.typeIs slot_tuple_getitem.lookup
  (getItem_tuple (j:=j) (Q:=fun r s'=>r=w∧EP X pins σ Q r s') pl (by lia) (by lia) (by rw[aC,←hl];exact h1) (by simpa using ew) ⟨rfl,fin⟩) hs
theorem xfk(its:List Value)(n j:Nat)(u:Value):fe (·.setIfInBounds j u) {cls:=.type "list",data:=.seq its.toArray n}={cls:=.type "list",data:=.seq (its.set j u).toArray n}:=by
 simp[fe]
theorem Inv.lst{pins:List (Addr×Obj)}{σ:St}{H:Hp}{s:ae}{p:Addr}{xs:List V}(I:Inv X pins σ H s)(h:H p=some (.lst xs)):
  ∃(its:List Value) (n:Nat),Vals xs its∧s.heap.get? p=some {cls:=.type "list",data:=.seq its.toArray n}∧xs.length≤ay:=by
 obtain⟨z,its,n,r,e⟩:=I.hok p _ h;exact⟨its,n,r,e,z⟩
theorem Inv.lstUpd{pins:List (Addr×Obj)}{σ:St}{H:Hp}{s:ae}{p:Addr}{xs ys:List V}{its its':List Value}{n n':Nat}{f:Obj→Obj}(I:Inv X pins σ H s)(h:H p=some (.lst xs))
  (ho:s.heap.get? p=some {cls:=.type "list",data:=.seq its.toArray n}) (hf:f {cls:=.type "list",data:=.seq its.toArray n}={cls:=.type "list",data:=.seq its'.toArray n'}) (r:Vals ys its') (hz:ys.length≤ay) (t:Nat):
  Inv X pins σ (upd H p (.lst ys)) {s with heap:=s.heap.update p f,toks:=t}:=by
 have e:(s.heap.update p f).get? p=some {cls:=.type "list",data:=.seq its'.toArray n'}:=by
  rw[bO f ho (by rw[hf]<;> rfl),hf]
 refine I.write (x:=p) (e:=p) (by rw[h];trivial) (.inl rfl) (fun b u hb q=>(bh _ _ (bz hb)).trans q) ⟨_,e⟩ ?_;exact⟨hz,its',n',r,e⟩
def xkd:V→V→V→Hp→(Hp→Prop)→Prop:=fun o i v H Q=>∃p xs k j,o= .ref p∧i= .int k∧H p=some (.lst xs)∧ixN xs.length k=some j∧Q (upd H p (.lst (xs.set j v)))
theorem set_list:xji X xkd:=by
 intro pins s σ H o i v ov iv u Q I ro ri rv h;obtain⟨p,xs,k,j,rfl,rfl,hp,hj,q⟩:=h;cases ro;obtain⟨t,rfl⟩:=ri;obtain⟨its,n,r,ho,hz⟩:=I.lst hp;obtain⟨h1,h2,h3,h4⟩:=xeG hj;have hl:=r.length;have hn:=jJ;have I':Inv X pins σ (upd H p (.lst (xs.set j v))) {s with heap:=s.heap.update p (fe (·.setIfInBounds j u))}:=
  I.lstUpd hp ho (xfk its n j u) (r.set rv j) (by rw[cK];exact hz) s.toks
 by_cases h0:0≤k
 ·have hk:k.toNat=j:=by
   rw[seqIndex_of h0 h4]at h1;exact aE h1
  exact W.ki_setAt ho h0 (by lia) (by rw[aC,←hl];exact h4) (by rw[hk];exact⟨_,I',q⟩)
 ·have hk:(k+(its.toArray.size:Int)).toNat=j:=by
   rw[seqIndex_neg (by lia) h3]at h1;rw[aC,←hl];exact aE h1
  exact W.ki_setBack ho (by lia) (by rw[aC,←hl];exact h3) (by lia) (by rw[hk];exact⟨_,I',q⟩)
theorem jL(lo hi:Option Int)(n:Nat):(dR lo hi none n).1=((HT.sIx n 0 lo:Nat):Int)∧(dR lo hi none n).2.1=((HT.sIx n n hi:Nat):Int)∧(dR lo hi none n).2.2=1:=by
 refine⟨?_,?_,rfl⟩
 ·cases lo with
  |none=>simp[dR,HT.sIx]
  |some i=>
   simp only[dR,HT.sIx,gX,show(1:Int) > 0 by decide,if_true]
   by_cases h:i<0
   ·simp only[h,if_true]<;> lia
   ·simp only[h,if_false]<;> lia
 ·cases hi with
  |none=>simp[dR,HT.sIx]
  |some i=>
   simp only[dR,HT.sIx,gX,show(1:Int) > 0 by decide,if_true]
   by_cases h:i<0
   ·simp only[h,if_true]<;> lia
   ·simp only[h,if_false]<;> lia
theorem xcM(its:List Value)(lo hi:Option Int):slicePick its.toArray lo hi none=((its.drop (HT.sIx its.length 0 lo)).take (HT.sIx its.length its.length hi - HT.sIx its.length 0 lo)).toArray:=by
 obtain⟨h1,h2,h3⟩:=jL lo hi its.toArray.size;unfold slicePick;rw[h1,h2,h3];simp only[sliceRange_one,pick_run,aC]<;> rfl
def xjx(K:ah):V→Option Int→Option Int→Hp→VK→Prop:=fun x lo hi H Q=>∃a xs,x= .ref a∧SqL K H a xs∧∀p,H p=none→Q (.ref p) (upd H p (.lst (yx xs lo hi)))
theorem xX:SlR X (xjx X.K):=by
 intro pins s σ H x v vl vu lo hi sl Q I rx hs pl pu h;obtain⟨a,xs,rfl,hx,q⟩:=h;cases rx;obtain⟨its,r,ht,hz⟩:=I.list hx;have hlen:=r.length;refine⟨"list",_,slot_list_getitem.lookup,ht.isList.typeIs,?_⟩;refine wpAny_getItem_list_slice ht.isList hs pl pu .none (by simp) ?_ (by rw[aC]<;> lia);rw[xcM,←hlen];refine⟨.ref s.heap.objs.size,_,I.laid (t':=s.toks) (o:=.lst (yx xs lo hi)) (fun b ob q=>au _ q) (aD _) ?_,rfl,q _ (I.hok.fresh (aD _))⟩;exact⟨aO (xaI xs lo hi) hz,_,0,(r.drop (HT.sIx xs.length 0 lo)).take (HT.sIx xs.length xs.length hi - HT.sIx xs.length 0 lo),ba _ rfl⟩
def zK:V→Bool
 | .non=>true
 | .bl _=>true
 | .int _=>true
 | .str _=>true
 |_=>false
def eqV:V→V→Bool
 | .non,.non=>true
 | .bl a,.bl b=>a==b
 | .bl a,.int b=>(if a then 1 else 0)==b
 | .int a,.bl b=>a==(if b then 1 else 0)
 | .int a,.int b=>a==b
 | .str a,.str b=>a==b
 |_,_=>false
theorem xjy{A:aW}{s:ae}{y x:V}{u v:Value}(ry:RelV y u)(rx:RelV x v)(fy:zK y=true)(fx:zK x=true):SeqAt.EqAt A s u v (eqV y x):=by
 cases y with
 |non=>
  cases ry;cases x with
  |non=>cases rx;exact SeqAt.EqAt.same _
  |bl b=>cases rx;exact SeqAt.EqAt.none_bool b
  |int b=>obtain⟨t,rfl⟩:=rx;exact SeqAt.EqAt.none_int b t
  |str b=>obtain⟨t,rfl⟩:=rx;exact SeqAt.EqAt.none_str b t
  |_=>exact absurd (show false=true from fx) aM
 |bl a=>
  cases ry;cases x with
  |non=>cases rx;exact SeqAt.EqAt.bool_none a
  |bl b=>cases rx;exact SeqAt.EqAt.bool_bool a b
  |int b=>obtain⟨t,rfl⟩:=rx;exact SeqAt.EqAt.bool_int a b t
  |str b=>obtain⟨t,rfl⟩:=rx;exact SeqAt.EqAt.bool_str a b t
  |_=>exact absurd (show false=true from fx) aM
 |int a=>
  obtain⟨t',rfl⟩:=ry;cases x with
  |non=>cases rx;exact SeqAt.EqAt.int_none a t'
  |bl b=>cases rx;exact SeqAt.EqAt.int_bool a t' b
  |int b=>obtain⟨t,rfl⟩:=rx;exact SeqAt.EqAt.int_int a t' b t
  |str b=>obtain⟨t,rfl⟩:=rx;exact gH a t' b t
  |_=>exact absurd (show false=true from fx) aM
 |str a=>
  obtain⟨t',rfl⟩:=ry;cases x with
  |non=>cases rx;exact SeqAt.EqAt.str_none a t'
  |bl b=>cases rx;exact SeqAt.EqAt.str_bool a t' b
  |int b=>obtain⟨t,rfl⟩:=rx;exact gI a t' b t
  |str b=>obtain⟨t,rfl⟩:=rx;exact SeqAt.EqAt.str_str a t' b t
  |_=>exact absurd (show false=true from fx) aM
 |_=>exact absurd (show false=true from fy) aM
def eqU(x:V)(u:Value):Bool:=match u with
 | .none=>eqV .non x
 | .bool b=>eqV (.bl b) x
 | .int i _=>eqV (.int i) x
 | .str z _=>eqV (.str z) x
 |_=>false
theorem xga{x y:V}{u:Value}(r:RelV y u)(f:zK y=true):eqU x u=eqV y x:=by
 cases y with
 |non=>cases r;rfl
 |bl b=>cases r;rfl
 |int i=>obtain⟨t,rfl⟩:=r;rfl
 |str z=>obtain⟨t,rfl⟩:=r;rfl
 |_=>exact absurd (show false=true from f) aM
theorem xb4{x:V}:∀{xs:List V} {us:List Value},Vals xs us→xs.all zK=true→us.any (eqU x)=xs.any fun y=>eqV y x
 |_,_,.nil,_=>rfl
 |y::xs,u::us,.cons r t,f=>by
  rw[gz,bN]at f;rw[eU,eU,xga r f.1,xb4 t f.2]
theorem xa0{A:aW}{s:ae}{x:V}{v:Value}(rx:RelV x v)(fx:zK x=true):∀{xs:List V} {us:List Value},Vals xs us→xs.all zK=true→∀u∈us,SeqAt.EqAt A s u v (eqU x u)
 |_,_,.nil,_=>fun u hu=>by cases hu
 |y::xs,u::us,.cons r t,f=>fun u' hu=>by
  rw[gz,bN]at f;rcases ax.mp hu with rfl|hu
  ·rw[xga r f.1];exact xjy r rx f.1 fx
  ·exact xa0 rx fx t f.2 u' hu
def inV(x:V)(xs:List V):Bool:=xs.any fun y=>eqV y x
def rIn(K:ah)(neg:Bool):R2:=fun x y H Q=>∃p xs,y= .ref p∧(SqL K H p xs∨SqT K H p xs)∧zK x=true∧xs.all zK=true∧Q (.bl (if neg then !inV x xs else inV x xs)) H
theorem xcp:OpR X (bG .In) (rIn X.K false):=by
 intro pins s σ H x y v u Q I rx ry h;obtain⟨p,xs,rfl,hq,fx,fs,q⟩:=h;cases ry;rcases hq with hq|hq
 ·obtain⟨its,r,pl,hz⟩:=I.list hq;refine SeqAt.in_listAt (eqU x) pl.isList (fun w hw=>xa0 rx fx r fs w (by simpa using hw)) ⟨.bl _,H,I,rfl,?_⟩;rw[show its.toArray.any (eqU x)=its.any (eqU x)by simp,xb4 r fs];exact q
 ·obtain⟨its,r,pl,hz⟩:=I.tuple hq;refine SeqAt.in_tupleAt (eqU x) pl (fun w hw=>xa0 rx fx r fs w (by simpa using hw)) ⟨.bl _,H,I,rfl,?_⟩;rw[show its.toArray.any (eqU x)=its.any (eqU x)by simp,xb4 r fs];exact q
theorem xE:yj X (.builtin "len") (fun xs H Q=>∃p ys,xs=[.ref p]∧(SqL X.K H p ys∨SqT X.K H p ys)∧Q (.int ys.length) H):=by
 intro pins s σ H xs us Q I r h;obtain⟨p,ys,rfl,hq,q⟩:=h;obtain⟨u,rfl,rx⟩:=vals1 r;cases rx;have hn:=jJ;rcases hq with hq|hq
 ·obtain⟨its,r',pl,hz⟩:=I.list hq;have hlen:=r'.length;exact Calls.call_len_list pl.isList (by simp only[aC]<;> lia) ⟨.int ys.length,H,I.tok _,⟨s.toks+1,by rw[aC,hlen]⟩,q⟩
 ·obtain⟨its,r',pl,hz⟩:=I.tuple hq;have hlen:=r'.length;exact len_tuple pl (by simp only[aC]<;> lia) ⟨.int ys.length,H,I.tok _,⟨s.toks+1,by rw[aC,hlen]⟩,q⟩
theorem uM:yj X (.builtin "len") (fun xs H Q=>∃z,xs=[.str z]∧z.length≤ay∧Q (.int z.length) H):=by
 intro pins s σ H xs us Q I r h;obtain⟨z,rfl,hz,q⟩:=h;obtain⟨u,rfl,t,rfl⟩:=vals1 r;have hn:=jJ;exact len_str (by lia) ⟨.int z.length,H,I.tok _,⟨_,rfl⟩,q⟩
theorem jM:yj X (.type "list") (fun xs H Q=>∃p ys,xs=[.ref p]∧(SqL X.K H p ys∨SqT X.K H p ys)∧∀l,H l=none→Q (.ref l) (upd H l (.lst ys))):=by
 intro pins s σ H xs us Q I r h;obtain⟨p,ys,rfl,hq,q⟩:=h;obtain⟨u,rfl,rx⟩:=vals1 r;cases rx;have fin:∀(its:List Value),Vals ys its→ys.length≤ay→∀(h':Heap) (c':Nat),(∀b o',s.heap.get? b=some o'→h'.get? b=some o')→
   h'.get? s.heap.objs.size=some {cls:=.type "list",dict:=none,data:=.seq its.toArray c',slots:=#[]}→EP X pins σ Q (.ref s.heap.objs.size) {s with heap:=h'}:=fun its r' hz h' c' kp e=>
  ⟨.ref s.heap.objs.size,_,I.laid (t':=s.toks) kp (aD _) (show xT X.prog X.w _ h' _ (.lst ys)from⟨hz,its,c',r',e⟩),rfl,q _ (I.hok.fresh (aD _))⟩
 rcases hq with hq|hq
 ·obtain⟨its,r',pl,hz⟩:=I.list hq;have hlen:=r'.length;obtain⟨o,ho,hc,n,hd⟩:=pl.isList;exact call_list_seq p (.inl rfl) ho hc hd (fun h' c' kp e=>fin its r' hz h' c' kp e) (by simp only[aC]<;> lia)
 ·obtain⟨its,r',pl,hz⟩:=I.tuple hq;have hlen:=r'.length;obtain⟨o,ho,hc,n,hd⟩:=pl;exact call_list_seq p (.inr rfl) ho hc hd (fun h' c' kp e=>fin its r' hz h' c' kp e) (by simp only[aC]<;> lia)
theorem yq:yj X (.type "tuple") (fun xs H Q=>∃p ys,xs=[.ref p]∧((SqL X.K H p ys∧∀l,H l=none→Q (.ref l) (upd H l (.tup ys)))∨(SqT X.K H p ys∧Q (.ref p) H))):=by
 intro pins s σ H xs us Q I r h;obtain⟨p,ys,rfl,h⟩:=h;obtain⟨u,rfl,rx⟩:=vals1 r;cases rx;rcases h with⟨hq,q⟩|⟨hq,q⟩
 ·obtain⟨its,r',pl,hz⟩:=I.list hq;have hlen:=r'.length;refine call_tuple_list pl.isList (fun h' kp=>?_) (by simp only[aC]<;> lia);have I1:Inv X pins σ H {s with heap:=h'}:=I.kept (t':=s.toks) kp;have I2:Inv X pins σ (upd H h'.objs.size (.tup ys)) {s with heap:=h'.push {cls:=.type "tuple",data:=.seq its.toArray}}:=
   I1.laid (t':=s.toks) (fun b o e=>au _ e) (aD _) (show xT X.prog X.w _ _ _ (.tup ys)from⟨hz,its,r',IsTup.new _ _⟩)
  exact⟨.ref h'.objs.size,_,I2,rfl,q _ (I1.hok.fresh (aD _))⟩
 ·obtain⟨its,r',pl,hz⟩:=I.tuple hq;exact call_tuple_same pl ⟨.ref p,H,I,rfl,q⟩
def tyV(K:ah)(T:String)(x:V)(H:Hp):Prop:=match x with
 | .str _=>T="str"
 | .int _=>T="int"
 | .ref p=>(T="list"∧∃xs,SqL K H p xs)∨(T="tuple"∧∃o,K.lookup p=some o∧o.cls= .type "tuple"∧o.dict=none)∨
   (T="dict"∧((∃kvs,H p=some (.dK kvs))∨∃kvs,H p=some (.dT kvs)))∨(T="set"∧∃S n,H p=some (.set S n))
 |_=>False
theorem xgb{pins:List (Addr×Obj)}{σ:St}{H:Hp}{s:ae}{T:String}{x:V}{v:Value}(I:Inv X pins σ H s)(r:RelV x v)(ty:tyV X.K T x H):
  s.TypeIs v T∧∀a,v= .ref a→∃ob,s.heap.get? a=some ob∧ob.dict=none:=by
 cases x with
 |str z=>
  obtain⟨t,rfl⟩:=r;cases (show T="str" from ty);exact⟨dI s z t,fun _ e=>nomatch e⟩
 |int i=>
  obtain⟨t,rfl⟩:=r;cases (show T="int" from ty);exact⟨typeIs_int s i t,fun _ e=>nomatch e⟩
 |ref p=>
  cases r;rcases ty with⟨rfl,xs,hq⟩|⟨rfl,o,hk,hc,hd⟩|⟨rfl,hk⟩|⟨rfl,S,n,hk⟩
  ·obtain⟨its,_,pl,_⟩:=I.list hq;refine⟨pl.isList.typeIs,fun a e=>?_⟩;cases e;obtain⟨o,n,e,c,hd,_⟩:=pl;exact⟨o,e,hd⟩
  ·refine⟨⟨o,I.kIn p o hk,hc⟩,fun a e=>?_⟩;cases e;exact⟨o,I.kIn _ o hk,hd⟩
  ·have z:∃o,s.heap.get? p=some o∧o.ExactDict:=by
    rcases hk with⟨kvs,hk⟩|⟨kvs,hk⟩
    ·obtain⟨_,_,_,_,o,_,_,e,ex,_⟩:=I.hok p _ hk;exact⟨o,e,ex⟩
    ·obtain⟨_,_,_,_,o,_,_,e,ex,_⟩:=I.hok p _ hk;exact⟨o,e,ex⟩
   obtain⟨o,e,ex⟩:=z;refine⟨⟨o,e,ex.1⟩,fun a e2=>?_⟩;cases e2;exact⟨o,e,ex.2.1⟩
  ·obtain⟨o,_,_,_,e,ex,_⟩:=I.hok p _ hk;refine⟨⟨o,e,ex.1⟩,fun a e2=>?_⟩;cases e2;exact⟨o,e,ex.2.1⟩
 |_=>exact bu ty
def xkI(K:ah)(T:String)(r:V→List V→Hp→VK→Prop)(to:TE):TE:=fun σ H Q=>to σ H fun x H1=>tyV K T x H1∧r x [] H1 Q
def tBM(K:ah)(T:String)(r:V→List V→Hp→VK→Prop)(to:TE)(t:TA):TE:=fun σ H Q=>to σ H fun x H1=>tyV K T x H1∧t σ H1 fun xs H2=>r x xs H2 Q
variable {o e:Expr} {es:List Expr} {to:TE} {t:TA} {name:Str} {apos cpos:Pos} {T id:String} {r:V→List V→Hp→VK→Prop}
theorem xjz(pa:PlainAttrs T)(slot:Slot T name id)(hty:typeOf (.builtin id)=pure (.type "method_descriptor"))(hm:MtR X id r)(ho:PE X o to)
  (hbase:eR o name X.env (eval o X.env)=eval o X.env:=by rfl) (hline:(apos.endLine==cpos.line)=true:=by rfl):PE X (.Call (.Attribute o name apos) [] [] cpos) (xkI X.K T r to):=by
 intro pins s σ H Q I h;refine wpAny_Call_method0_late hbase hline (thn (ho pins s σ H _ I h) fun v s1 ⟨x,H1,I1,r1,ty,q1⟩=>?_);obtain⟨h1,h2⟩:=xgb I1 r1 ty;exact⟨T,id,pa,slot,hty,h1,h2,f6 rfl (PySem.evalArgs_none (hm pins s1 σ H1 x [] v [] Q I1 r1 .nil q1))⟩
theorem yb(pa:PlainAttrs T)(slot:Slot T name id)(hty:typeOf (.builtin id)=pure (.type "method_descriptor"))(hm:MtR X id r)(ho:PE X o to)(ha:PA X (e::es) t)
  (hbase:eR o name X.env (eval o X.env)=eval o X.env:=by rfl)
  (hfew:((cg cpos (aT (e::es) X.env)).all (fun x=> !x.1)&&(backToKw cpos (fY [] X.env)).all (fun x=>x.1.isSome)
   &&decide ((e::es).length+([]:List Keyword).length+(if ([]:List Keyword).isEmpty then 0 else 1)<30))=true:=by rfl)
  (hline:(apos.endLine==cpos.line)=true:=by rfl) (hs:aT (e::es) X.env=(false,eval e X.env)::aT es X.env:=by rfl) (hplain:(cg cpos (aT es X.env)).any (·.1)=false:=by rfl):
  PE X (.Call (.Attribute o name apos) (e::es) [] cpos) (tBM X.K T r to t):=by
 intro pins s σ H Q I h;refine wpAny_Call_method_late hbase hfew hline rfl (thn (ho pins s σ H _ I h) fun v s1 ⟨x,H1,I1,r1,ty,q1⟩=>?_);obtain⟨h1,h2⟩:=xgb I1 r1 ty;refine⟨T,id,pa,slot,hty,h1,h2,?_⟩;have hA:=ha cpos pins s1 σ H1 _ I1 q1;rw[hs]at hA⊢;refine f6 (by show(false||(cg cpos (aT es X.env)).any (·.1))=false;rw[hplain]<;> rfl) (Calls.evalArgs_plain ?_);exact thn hA fun us s2 ⟨vs,H2,I2,r2,q2⟩=>hm pins s2 σ H2 x vs v us Q I2 r1 r2 q2
end
end L2
namespace L2
open PySem PySem.Spec PyProof.Rows
def MtM(X:Cx)(id:String)(r:V→List V→Hp→VK→Prop):Prop:=
 ∀(pins:List (Addr×Obj)) (s:ae) (σ:St) (H:Hp) (x:V) (xs:List V) (v:Value) (us:List Value) (Q:VK),Inv X pins σ H s→RelV x v→Vals xs us→r x xs H Q→
  wpAny (model X.prog X.w) X.A (call (.builtin id) (v::us)) (EP X pins σ Q) X.xe s
theorem Vals.one:∀{x:V} {us:List Value},Vals [x] us→∃u,us=[u]∧RelV x u
 |_,_,.cons r .nil=>⟨_,rfl,r⟩
theorem Vals.two:∀{x y:V} {us:List Value},Vals [x,y] us→∃u v,us=[u,v]∧RelV x u∧RelV y v
 |_,_,_,.cons r (.cons q .nil)=>⟨_,_,rfl,r,q⟩
theorem Vals.zero:∀{us:List Value},Vals [] us→us=[]
 |_,.nil=>rfl
section
variable {X:Cx} {pins:List (Addr×Obj)} {σ:St} {H:Hp} {s:ae} {l b:Addr} {xs ys zs:List V}
theorem Inv.lset{its its':List Value}{n:Nat}{f:Array Value→Array Value}{t':Nat}(I:Inv X pins σ H s)(hH:H l=some (.lst xs))
  (e:s.heap.get? l=some {cls:=.type "list",data:=.seq its.toArray n}) (hf:f its.toArray=its'.toArray) (hv:Vals ys its') (hz:ys.length≤ay):
  Inv X pins σ (upd H l (.lst ys)) {s with heap:=s.heap.update l (fe f),toks:=t'}:=by
 have q:=PySem.IsL.update e f;rw[hf]at q;refine I.write (x:=l) (e:=l) (by rw[hH];exact trivial) (.inl rfl) (fun b' u hb hu=>(bh s.heap (fe f) (bz hb)).trans hu) ⟨_,q⟩ ?_;exact⟨hz,its',_,hv,q⟩
theorem Inv.lnew{its:List Value}{t':Nat}(I:Inv X pins σ H s)(hv:Vals ys its)(hz:ys.length≤ay):
  Inv X pins σ (upd H s.heap.objs.size (.lst ys)) {s with heap:=s.heap.push {cls:=.type "list",data:=.seq its.toArray},toks:=t'}:=
 I.laid (fun _ _ q=>au _ q) (aD _) ⟨hz,its,0,hv,ba _ rfl⟩
theorem Inv.fresh(I:Inv X pins σ H s):H s.heap.objs.size=none:=I.hok.fresh (aD _)
theorem Inv.lstM(I:Inv X pins σ H s)(hH:H l=some (.lst xs)):xs.length≤ay∧∃(its:List Value) (n:Nat),Vals xs its∧xs.length=its.length∧s.heap.get? l=some {cls:=.type "list",data:=.seq its.toArray n}:=by
 obtain⟨z,its,n,r,e⟩:=I.hok l _ hH;exact⟨z,its,n,r,r.length,e⟩
theorem xdd{n:Nat}(h:n≤ay):cw n=false:=by
 unfold cw;exact decide_eq_false (by lia)
end
section
variable {X:Cx}
def xin:V→List V→Hp→VK→Prop:=fun x vs H Q=>∃l xs y,x= .ref l∧vs=[y]∧H l=some (.lst xs)∧xs.length<ay∧Q .non (upd H l (.lst (xs++[y])))
theorem yH:MtM X "list.append" xin:=by
 intro pins s σ H x vs v us Q I rx rv h;obtain⟨l,xs,y,rfl,rfl,hH,hz,q⟩:=h;cases rx;obtain⟨u,rfl,ru⟩:=rv.one;obtain⟨z,its,n,r,hl,e⟩:=I.lstM hH;refine dj F.slot_list_append ⟨_,e,rfl⟩ F.entry_list_append (F.args_list_append_2 _ _) (PySem.list_append l its.toArray n u (by rw[aC];lia)) ⟨e,?_⟩;refine⟨.non,_,I.lset (its':=its++[u]) hH e (by simp) (r.append (.cons ru .nil)) ?_,rfl,q⟩;rw[aj,bD];lia
def xio:V→List V→Hp→VK→Prop:=fun x vs H Q=>∃l b xs zs,x= .ref l∧vs=[.ref b]∧H l=some (.lst xs)∧H b=some (.lst zs)∧xs.length+zs.length≤ay∧Q .non (upd H l (.lst (xs++zs)))
theorem xgc:MtM X "list.extend" xio:=by
 intro pins s σ H x vs v us Q I rx rv h;obtain⟨l,b,xs,zs,rfl,rfl,hH,hB,hz,q⟩:=h;cases rx;obtain⟨u,rfl,ru⟩:=rv.one;cases ru;obtain⟨z,its,n,r,hl,e⟩:=I.lstM hH;obtain⟨z2,its2,n2,r2,hl2,e2⟩:=I.lstM hB;have hsz:its.toArray.size+its2.toArray.size≤ay:=by rw[aC,aC];lia
 have hlong:¬(!its.toArray.isEmpty&&cw (its.toArray.size+its2.toArray.size))=true:=by
  rw[xdd hsz,gf];exact aM
 refine dj F.slot_list_extend ⟨_,e,rfl⟩ F.entry_list_extend (F.args_list_extend_2 _ _)
  (AutoSeq1.list_extend_list_list_0 l its.toArray n b its2.toArray n2 hlong (by rw[aC];lia) (by lia)) ⟨e,e2,?_⟩
 refine⟨.non,_,I.lset (its':=its++its2) hH e (by simp) (r.append r2) ?_,rfl,q⟩;rw[aj];lia
def xkJ:R2:=fun x y H Q=>∃l b xs zs,x= .ref l∧y= .ref b∧H l=some (.lst xs)∧H b=some (.lst zs)∧xs.length+zs.length≤ay∧∀p,H p=none→Q (.ref p) (upd H p (.lst (xs++zs)))
theorem xW:OpR X (cb .Add) xkJ:=by
 intro pins s σ H x y v u Q I rx ry h;obtain⟨l,b,xs,zs,rfl,rfl,hH,hB,hz,q⟩:=h;cases rx;cases ry;obtain⟨z,its,n,r,hl,e⟩:=I.lstM hH;obtain⟨z2,its2,n2,r2,hl2,e2⟩:=I.lstM hB;refine PySem.P.add_list e e2 ?_ (by rw[aC,aC];lia);have ea:its.toArray++its2.toArray=(its++its2).toArray:=by simp
 rw[ea];exact⟨.ref _,_,I.lnew (t':=s.toks) (r.append r2) (by rw[aj];lia),rfl,q _ I.fresh⟩
end
section
variable {prog:aF} {w:World} {A:aW} {E:Value→ae→Prop} {s:ae}
set_option maxRecDepth 100000 in
end
section
variable {X:Cx}
end
end L2
namespace L2
open PySem PySem.Spec PyProof.Rows
section
variable {κ:Type} [DecidableEq κ]
def yT(kvs:List (κ×V))(k:κ):Option V:=(kvs.find? fun kv=>decide (kv.1=k)).map (·.2)
def putK(kvs:List (κ×V))(k:κ)(v:V):List (κ×V):=
 if (kvs.any fun kv=>decide (kv.1=k))=true then kvs.map (fun kv=>if kv.1=k then(kv.1,v)else kv)else kvs++[(k,v)]
theorem xkK{k:κ}:yT ([]:List (κ×V)) k=none:=rfl
theorem xde{p:κ×V}{r:List (κ×V)}{k:κ}(e:p.1=k):yT (p::r) k=some p.2:=by simp[yT,dm,e]
theorem xdf{p:κ×V}{r:List (κ×V)}{k:κ}(e:¬p.1=k):yT (p::r) k=yT r k:=by simp[yT,dm,e]
theorem xec(kvs:List (κ×V))(k:κ)(v:V):(putK kvs k v).length≤kvs.length+1:=by
 unfold putK
 split
 ·rw[aa];lia
 ·rw[aj,ao,cL];lia
theorem zm.isSome_eq{o:Option V}{u:Option Value}(r:zm o u):o.isSome=u.isSome:=by
 cases o with
 |none=>cases u with
  |none=>rfl
  |some _=>exact(show False from r).elim
 |some _=>cases u with
  |none=>exact(show False from r).elim
  |some _=>rfl
theorem KV.val{kvs:List (κ×V)}{vs:List (κ×Value)}(r:KV kvs vs)(k:κ):zm (yT kvs k) (fJ vs k):=by
 unfold KV at r
 induction r with
 |nil=>exact cG
 | @cons p q ps qs h t ih=>
  obtain⟨h1,h2⟩:=h
  by_cases e:p.1=k
  ·have e':q.1=k:=h1.symm.trans e;have b:fJ (q::qs) k=some q.2:=by simp[fJ,dm,e']
   rw[xde e,b];exact h2
  ·have e':¬q.1=k:=fun z=>e (h1.trans z);have b:fJ (q::qs) k=fJ qs k:=by simp[fJ,dm,e']
   rw[xdf e,b];exact ih
theorem KV.any{kvs:List (κ×V)}{vs:List (κ×Value)}(r:KV kvs vs)(k:κ):(kvs.any fun kv=>decide (kv.1=k))=vs.any fun kv=>decide (kv.1=k):=by
 unfold KV at r
 induction r with
 |nil=>rfl
 |cons h t ih=>rw[eU,eU,ih,h.1]
theorem KV.repl{kvs:List (κ×V)}{vs:List (κ×Value)}(r:KV kvs vs)(k:κ){y:V}{u:Value}(ry:RelV y u):
  KV (kvs.map fun kv=>if kv.1=k then(kv.1,y)else kv) (vs.map fun kv=>if kv.1=k then(kv.1,u)else kv):=by
 unfold KV at r⊢
 induction r with
 |nil=>exact .nil
 | @cons p q ps qs h t ih=>
  rw[aH,aH];refine .cons ?_ ih;obtain⟨h1,h2⟩:=h
  by_cases e:p.1=k
  ·rw[if_pos e,if_pos (h1.symm.trans e)];exact⟨h1,ry⟩
  ·rw[if_neg e,if_neg (fun z=>e (h1.trans z))];exact⟨h1,h2⟩
theorem KV.put{kvs:List (κ×V)}{vs:List (κ×Value)}(r:KV kvs vs)(k:κ){y:V}{u:Value}(ry:RelV y u):KV (putK kvs k y) (stored vs k u):=by
 unfold putK stored;rw[r.any k]
 by_cases e:(vs.any fun kv=>decide (kv.1=k))=true
 ·rw[if_pos e,if_pos e];exact r.repl k ry
 ·rw[if_neg e,if_neg e];exact Paired.snoc r ⟨rfl,ry⟩
end
theorem xc2{P:aF}{w:World}{k:Key}{u:Value}(r:RelV (kV k) u):(yi P w).is k u=true:=by
 cases k with
 |inl i=>obtain⟨t,e⟩:=(show∃t,u=fq i t from r);subst e;exact xea P w i t
 |inr x=>obtain⟨t,e⟩:=(show∃t,u=d8 x t from r);subst e;exact xeb P w x t
theorem xcq{P:aF}{w:World}:∀{ks:List Key} {us:List Value},Vals (ks.map kV) us→ItemsAre (yi P w) ks us
 |[],_,r=>by rw[cJ]at r;cases r;exact .nil
 |k::ks,_,r=>by
  rw[aH]at r;cases r with
  |cons h t=>exact .cons (xc2 h) (xcq t)
abbrev KT(H:Hp):List (List Key×V)→List (List Key×Addr×Value)→Prop:=Paired fun p q=>p.1=q.1∧H q.2.1=some (.tup (p.1.map kV))∧RelV p.2 q.2.2
theorem KT.val{H:Hp}{kvs:List (List Key×V)}{xs:List (List Key×Addr×Value)}(r:KT H kvs xs)(k:List Key):zm (yT kvs k) ((atKey xs k).map (·.2)):=by
 induction r with
 |nil=>exact cG
 | @cons p q ps qs h t ih=>
  obtain⟨h1,_,h2⟩:=h
  by_cases e:p.1=k
  ·have e':q.1=k:=h1.symm.trans e;have b:atKey (q::qs) k=some q.2:=by simp[atKey,dm,e']
   rw[xde e,b];exact h2
  ·have e':¬q.1=k:=fun z=>e (h1.trans z);have b:atKey (q::qs) k=atKey qs k:=by simp[atKey,dm,e']
   rw[xdf e,b];exact ih
section
variable {P:aF} {w:World} {H:Hp} {h:Heap} {a:Addr}
theorem xh3{u:HO}(ok:HOk P w H h)(e:Rd H a u):xT P w H h a u:=e.ok ok
theorem xc3{kvs:List (Key×V)}(ok:HOk P w H h)(e:Rd H a (.dK kvs)):kvs.length≤ay∧(a==dG)=false∧∃vs,KV kvs vs∧h.DictOf (yi P w) a vs:=
 show xT P w H h a (.dK kvs)from xh3 ok e
theorem xke{kvs:List (Key×V)}(ok:HOk P w H h)(e:H a=some (.dK kvs)):kvs.length≤ay∧(a==dG)=false∧∃vs,KV kvs vs∧h.DictOf (yi P w) a vs:=xc3 ok (.inl e)
theorem xdg{ks:List Key}(ok:HOk P w H h)(e:H a=some (.tup (ks.map kV))):(tupleKind (yi P w)).is h ks a:=by
 obtain⟨_,its,r,o,h1,h2,n,h3⟩:=(show xT P w H h a (.tup (ks.map kV))from ok a _ e);exact⟨o,its.toArray,n,h1,h2,h3,by simpa using xcq r⟩
theorem xfl{kvs:List (List Key×V)}(ok:HOk P w H h)(e:Rd H a (.dT kvs)):kvs.length≤ay∧(a==dG)=false∧
  ∃xs,KT H kvs xs∧h.DictOfH (tupleKind (yi P w)) a xs:=by
 obtain⟨z,y,xs,r,o,es,ep,h1,h2,h3,h4,h5⟩:=(show xT P w H h a (.dT kvs)from xh3 ok e);refine⟨z,y,xs,r,o,es,ep,h1,h2,h3,h4,fun x hx=>?_,h5⟩;have all:∀{l:List (List Key×V)} {m:List (List Key×Addr×Value)},KT H l m→∀x∈m,(tupleKind (yi P w)).is h x.1 x.2.1:=by
  intro l m q
  induction q with
  |nil=>intro x hx;exact nomatch hx
  | @cons p q ps qs hq t ih=>
   intro x hx;rcases ax.mp hx with e|hx
   ·subst e;exact xdg ok (by rw[←hq.1];exact hq.2.1)
   ·exact ih x hx
 exact all r x hx
end
def uN(H:Hp)(a:Addr)(y:V)(r:Option V):Prop:=
 (∃kvs k,Rd H a (.dK kvs)∧y=kV k∧r=yT kvs k)∨∃kvs k b,Rd H a (.dT kvs)∧y= .ref b∧H b=some (.tup (k.map kV))∧r=yT kvs k
theorem uN.k{H:Hp}{a:Addr}{kvs:List (Key×V)}{k:Key}(e:H a=some (.dK kvs)):uN H a (kV k) (yT kvs k):=.inl ⟨kvs,k,.inl e,rfl,rfl⟩
section
variable {X:Cx} {pins:List (Addr×Obj)} {σ:St} {H:Hp} {s:ae} {a:Addr} {y v:V} {u r:Value} {o:Option V} {A:aW} {E:Value→ae→Prop}
theorem Inv.big(I:Inv X pins σ H s):dG<s.heap.objs.size:=by
 have h:bM<s.heap.objs.size:=(I.mod.glob.keeps I.bk).lt;exact Nat.lt_trans (by decide) h
theorem xgd{Q:Value→ae→Prop}(hu:A.units+1<cLine)(I:Inv X pins σ H s)(g:uN H a y (some v))(ry:RelV y u)(h:∀w' s',Inv X pins σ H s'→RelV v w'→Q w' s'):
  wpAny (model X.prog X.w) A (eH (.ref a) u) Q E s:=by
 rcases g with⟨kvs,k,e,ey,l⟩|⟨kvs,k,b,e,ey,eb,l⟩
 ·subst ey;obtain⟨z,hd,vs,rel,dd⟩:=xc3 I.hok e;obtain⟨w',hw,rw'⟩:=zm.some_of (v:=v) (o:=fJ vs k) (by rw[l];exact rel.val k);exact wpAny_getItem_of (xc2 ry) dd.mapOf hw (h w' _ (I.tok _) rw')
 ·subst ey;cases (show u=aS b from ry);obtain⟨z,hd,xs,rel,dd⟩:=xfl I.hok e;obtain⟨w',hw,rw'⟩:=zm.some_of (v:=v) (o:=(atKey xs k).map (·.2)) (by rw[l];exact rel.val k);obtain⟨p,hp,hp2⟩:=aX.mp hw;refine wpAny_getItem_heap (tupleKind_room_in1 hu) (xdg I.hok eb) dd hp ?_;rw[hp2];exact h w' _ (I.tok _) rw'
theorem xip{Q:Value→ae→Prop}(hu:A.units+1<cLine)(I:Inv X pins σ H s)(g:uN H a y o)(ry:RelV y u)(h:∀s',Inv X pins σ H s'→Q (.bool (!o.isSome)) s'):
  wpAny (model X.prog X.w) A (bG .NotIn u (.ref a)) Q E s:=by
 rcases g with⟨kvs,k,e,ey,l⟩|⟨kvs,k,b,e,ey,eb,l⟩
 ·subst ey;obtain⟨z,hd,vs,rel,dd⟩:=xc3 I.hok e;refine wpAny_notIn_of (xc2 ry) hd dd.mapOf ?_;rw[←(rel.val k).isSome_eq,←l];exact h _ (I.tok _)
 ·subst ey;cases (show u=aS b from ry);obtain⟨z,hd,xs,rel,dd⟩:=xfl I.hok e;refine wpAny_notIn_heap (tupleKind_room_in1 hu) (xdg I.hok eb) hd dd ?_;have q:=(rel.val k).isSome_eq;rw[Option.isSome_map]at q;rw[←q,←l];exact h _ (I.tok _)
theorem xiq{h':Heap}{t':Nat}{ob:HO}(I:Inv X pins σ H s)(mu:Mut (H a))(hs:cI a s.heap h')(he:∃q,h'.get? a=some q)(new:xT X.prog X.w (upd H a ob) h' a ob):
  Inv X pins σ (upd H a ob) {s with heap:=h',toks:=t'}:=
 I.write (x:=a) (e:=a) mu (.inl rfl) (fun b q hb z=>(hs.2 b hb).trans z) he new
theorem xjA{P:aF}{w:World}{H':Hp}{h':Heap}{kvs:List (Key×V)}{vs:List (Key×Value)}(z:kvs.length≤ay)(hd:(a==dG)=false)(rel:KV kvs vs)(dd:h'.DictOf (yi P w) a vs):
  xT P w H' h' a (.dK kvs):=⟨z,hd,vs,rel,dd⟩
end
section
variable {X:Cx} {pins:List (Addr×Obj)} {σ:St} {H:Hp} {s:ae} {a:Addr} {kvs:List (Key×V)} {k:Key} {u:Value} {A:aW} {E:Value→ae→Prop}
end
def xhk(i:Expr):Prop:=∀ov iv,fZ i false ov iv=operate [ov,iv] (eH ov iv)
theorem xeI{prog:aF}{w:World}{A:aW}{E:Value→ae→Prop}{s:ae}{env:Env}{value slice:Expr}{pos:Pos}{T id:String}{Q:Value→ae→Prop}
  (hl:typeLookup (.type T) "__getitem__"=pure (some (.builtin id))) (hs:xhk slice)
  (h:wpAny (model prog w) A (eval value env) (fun o s₁=>wpAny (model prog w) A (eval slice env) (fun i s₂=>s₂.TypeIs o T∧wpAny (model prog w) A (eH o i) Q E s₂) E s₁) E s):
  wpAny (model prog w) A (eval (.Subscript value slice pos) env) Q E s:=by
 refine Subscript_ (aP h (fun o s₁ h₁=>aP h₁ (fun i s₂ h₂=>?_) fun _ _ x=>x) fun _ _ x=>x);obtain⟨hT,h₂⟩:=h₂;unfold gy;refine af ?_;rw[getitemInPython_of_ne hT.not_modules];refine af (wpAny_specialOf hT hl ?_);have fin:wpAny (model prog w) A (fZ slice false o i) (fun r s₃=>wpAny (model prog w) A (letTemporaryGo value o r >>= fun _=>pure r) Q E s₃) E s₂:=by
  rw[hs o i];exact wpAny_operating (aP h₂ (fun r s₃ h₃=>af (wpAny_letTemporaryGo (aq h₃))) fun _ _ x=>x)
 first
  |exact aq (af fin)
  |exact af (aq (af fin))
  |exact af fin
theorem xed{X:Cx}{pins:List (Addr×Obj)}{σ:St}{H:Hp}{s:ae}{a:Addr}{y:V}{o:Option V}(I:Inv X pins σ H s)(g:uN H a y o):s.TypeIs (.ref a) "dict":=by
 rcases g with⟨kvs,k,e,_,_⟩|⟨kvs,k,b,e,_,_,_⟩
 ·obtain⟨_,_,vs,_,dd⟩:=xc3 I.hok e;exact dd.typeIs
 ·obtain⟨_,_,xs,_,dd⟩:=xfl I.hok e;exact dd.typeIs
def xkf(td ty:TE):TE:=fun σ H Q=>td σ H fun x H1=>ty σ H1 fun y H2=>∃a v,x= .ref a∧uN H2 a y (some v)∧Q v H2
def xir(ty td:TE):TE:=fun σ H Q=>ty σ H fun y H1=>td σ H1 fun x H2=>∃a o,x= .ref a∧uN H2 a y o∧Q (.bl (!o.isSome)) H2
section
variable {X:Cx} {o i e value:Expr} {pos pos' tpos:Pos} {td ty tv:TE}
theorem xis(hu:X.A.units+1<cLine)(ho:PE X o td)(hi:PE X i ty)(hs:xhk i):PE X (.Subscript o i pos) (xkf td ty):=by
 intro pins s σ H Q I h;refine xeI PySem.F.slot_dict_getitem.lookup hs (thn (ho pins s σ H _ I h) fun u s1 ⟨x,H1,I1,rx,q1⟩=>thn (hi pins s1 σ H1 _ I1 q1) fun iv s2 ⟨y,H2,I2,ry,a,v,ex,g,q2⟩=>?_);subst ex;obtain rfl:u=aS a:=rx;exact⟨xed I2 g,xgd hu I2 g ry fun w' s3 I3 rw'=>⟨v,H2,I3,rw',q2⟩⟩
theorem xge(hu:X.A.units+1<cLine)(hi:PE X i ty)(ho:PE X o td):PC X .NotIn i o (xir ty td):=by
 intro pins s σ H Q I h;refine thn (hi pins s σ H _ I h) fun iv s1 ⟨y,H1,I1,ry,q1⟩=>thn (ho pins s1 σ H1 _ I1 q1) fun u s2 ⟨x,H2,I2,rx,a,ov,ex,g,q2⟩=>?_;subst ex;obtain rfl:u=aS a:=rx;exact xip hu I2 g ry fun s3 I3=>⟨.bl (!ov.isSome),H2,I3,rfl,q2⟩
end
theorem xhl{P:aF}{w:World}{H:Hp}(h:Heap)(hb:dG<h.objs.size):xT P w H (h.push {cls:=.type "dict",data:=.dict #[]}) h.objs.size (.dK []):=
 ⟨bV _,beq_eq_false_iff_ne.mpr (bz (bc hb)),[],.nil,Heap.DictOf.new h⟩
section
variable {X:Cx} {pos:Pos}
end
def xdh:List (TE×TE)→St→Hp→(List (V×V)→Hp→Prop)→Prop
 |[],_,H,Q=>Q [] H
 |(tk,tv)::r,σ,H,Q=>tk σ H fun x H1=>tv σ H1 fun y H2=>xdh r σ H2 fun ps H3=>Q ((x,y)::ps) H3
abbrev VV:List (V×V)→List (Value×Value)→Prop:=Paired fun p q=>RelV p.1 q.1∧RelV p.2 q.2
def PPs(X:Cx)(pos:Pos)(keys:List (Option Expr))(values:List Expr)(trs:List (TE×TE)):Prop:=
 ∀(pins:List (Addr×Obj)) (s:ae) (σ:St) (H:Hp) (Q:List (V×V)→Hp→Prop),Inv X pins σ H s→xdh trs σ H Q→
  wpAny (model X.prog X.w) X.A (evalPairs (pairTrees keys values X.env pos)) (fun vs s'=>∃ps H',Inv X pins σ H' s'∧VV ps vs∧Q ps H') X.xe s
theorem xit{X:Cx}{pos:Pos}:PPs X pos [] [] []:=fun pins s σ H Q I h=>pairTrees_nil_walk ⟨[],H,I,.nil,h⟩
theorem xa1{X:Cx}{pos:Pos}{k v:Expr}{ks:List (Option Expr)}{vs:List Expr}{tk tv:TE}{trs:List (TE×TE)}(hk:PE X k tk)(hv:PE X v tv)(hr:PPs X pos ks vs trs):
  PPs X pos (some k::ks) (v::vs) ((tk,tv)::trs):=fun pins s σ H Q I h=>
 pairTrees_cons_walk (thn (hk pins s σ H _ I h) fun u s1 ⟨x,H1,I1,rx,q1⟩=>thn (hv pins s1 σ H1 _ I1 q1) fun w2 s2 ⟨y,H2,I2,ry,q2⟩=>
  thn (hr pins s2 σ H2 _ I2 q2) fun ws s3 ⟨ps,H3,I3,rel,q3⟩=>⟨(x,y)::ps,H3,I3,.cons ⟨rx,ry⟩ rel,q3⟩)
def vG(kvs more:List (Key×V)):List (Key×V):=more.foldl (fun acc kv=>putK acc kv.1 kv.2) kvs
theorem KV.merge:∀{more:List (Key×V)} {rs:List (Key×Value)} {kvs:List (Key×V)} {vs:List (Key×Value)},KV more rs→KV kvs vs→KV (vG kvs more) (merged vs rs):=by
 intro more rs kvs vs r;unfold KV at r
 induction r generalizing kvs vs with
 |nil=>intro q;exact q
 | @cons p q ps qs h t ih=>
  intro r0;have e:KV (putK kvs p.1 p.2) (stored vs q.1 q.2):=by
   have:=r0.put p.1 h.2;rw[←h.1];exact this
  exact ih e
theorem jy:∀(more kvs:List (Key×V)),(vG kvs more).length≤kvs.length+more.length
 |[],kvs=>by show kvs.length≤kvs.length+0;lia
 |p::r,kvs=>by
  have h1:=jy r (putK kvs p.1 p.2);have h2:=xec kvs p.1 p.2;show(vG (putK kvs p.1 p.2) r).length≤_;rw[ao];lia
theorem xbt{P:aF}{w:World}:∀{kvs:List (Key×V)} {ws:List (Value×Value)},VV (kvs.map fun kv=>(kV kv.1,kv.2)) ws→∃rs,Carries (yi P w) ws rs∧KV kvs rs
 |[],_,r=>by rw[cJ]at r;cases r;exact⟨[],cG,.nil⟩
 |p::kvs,_,r=>by
  rw[aH]at r;cases r with
  | @cons a b as bs h t=>
   obtain⟨rs,c,q⟩:=xbt (P:=P) (w:=w) t;obtain⟨b1,b2⟩:=b;exact⟨(p.1,b2)::rs,⟨xc2 h.1,rfl,c⟩,.cons ⟨rfl,h.2⟩ q⟩
def xkg(trs:List (TE×TE)):TE:=fun σ H Q=>∀p,H p=none→xdh trs σ (upd H p (.dK [])) fun ps H2=>H2 p=some (.dK [])∧∃kvs:List (Key×V),ps=kvs.map (fun kv=>(kV kv.1,kv.2))∧kvs.length≤15∧Q (.ref p) (upd H2 p (.dK (vG [] kvs)))
theorem xiu{X:Cx}{pos:Pos}{keys:List (Option Expr)}{values:List Expr}{trs:List (TE×TE)}(h:PPs X pos keys values trs)(hall:keys.all (·.isSome)=true)(hl:keys.length=values.length)(h0:keys≠[])
  (h15:keys.length≤15):PE X (.Dict keys values pos) (xkg trs):=by
 intro pins s σ H Q I q;have hn:=I.hok.fresh (aD s.heap.objs.size);have I1:=I.laid (a:=s.heap.objs.size) (o:=.dK []) (h':=s.heap.push {cls:=.type "dict",data:=.dict #[]}) (t':=s.toks) (fun _ _ q=>au _ q) (aD _) (xhl s.heap I.big);refine wpAny_Dict_walk (knd:=yi X.prog X.w) hall hl h0 h15 (thn (h pins _ σ _ _ I1 (q _ hn)) fun ws s2 ⟨ps,H2,I2,rel,e,kvs,ep,lk,q2⟩=>?_);subst ep;obtain⟨rs,c,rk⟩:=xbt (P:=X.prog) (w:=X.w) rel;obtain⟨z,hd,vs0,r0,dd⟩:=xke I2.hok e;cases r0;refine⟨rs,c,dd,fun h' dd' hs=>⟨.ref s.heap.objs.size,_,?_,rfl,q2⟩⟩;have hz:(vG [] kvs).length≤ay:=by
  have h1:=jy kvs [];rw[cL]at h1;rw[ag];lia
 have he:∃q,h'.get? s.heap.objs.size=some q:=let⟨q,_,_,hq,_⟩:=dd';⟨q,hq⟩
 exact xiq I2 (by rw[e];exact cG) hs he (xjA hz hd (rk.merge .nil) dd')
section
variable {X:Cx} {pins:List (Addr×Obj)} {σ:St} {H:Hp} {s:ae} {a:Addr} {y d:V} {u r:Value} {o:Option V} {A:aW} {E:Value→ae→Prop}
end
section
variable {X:Cx} {o e f:Expr} {apos cpos:Pos} {td ty tx:TE}
end
section
variable {X:Cx} {pins:List (Addr×Obj)} {σ:St} {H:Hp} {s:ae} {a:Addr} {kvs:List (Key×V)} {A:aW} {E:Value→ae→Prop}
end
section
variable {X:Cx} {pins:List (Addr×Obj)} {σ:St} {H:Hp} {s:ae} {a:Addr} {y:V} {u:Value} {A:aW} {E:Value→ae→Prop}
end
end L2
namespace Att
open PySem PySem.W PySem.Calls PyProof.Rows
theorem xbu{P:Params}{h:Heap}:∀(ns:List Int) (vs:List Value),WellAll P h vs (ns.map WData.int)→IntsAre vs ns:=by
 intro ns
 induction ns with
 |nil=>
  intro vs w;rw[cJ]at w;cases w;exact .nil
 |cons n ns ih=>
  intro vs w;rw[aH]at w;cases w with
  |cons a b=>
   cases a;exact .cons _ _ (ih _ b)
theorem xgf{l:OpenLaw}{n:Nat}(hn:l.most=some n){P:Params}{h:Heap}{args:List WData}{vals:List Value}
  (hpre:l.row.toRowW.claim.pre args=true) (hwl:WellAll P h vals args):
  ∃a vs ns,vals=[aS a]∧args=[WData.list (ns.map WData.int)]∧h.get? a=some {cls:=.type "list",data:=.seq vs.toArray}∧IntsAre vs ns∧ns.length≤n:=by
 have hsh:WShape.hasAll [] args [.list .int]=true:=(pre_splitW hpre).1;have hc:l.pre.holds [] {args:=args}=true:=(pre_splitW hpre).2;obtain⟨d,r,rfl,h1,h2⟩:=hasAllW_cons hsh;obtain rfl:=hasAllW_nil h2;obtain⟨xs,rfl,h3⟩:=hasW_list h1;obtain⟨ns,rfl⟩:=items_int h3;have hlen:ns.length≤n:=by
  unfold OpenLaw.pre at hc;have h4:(WTm.not (.lt (.lit (.int (n:Int))) (.len (.arg 0)))).holds [] {args:=[.list (ns.map .int)]}=true:=by
   have h4:=(holds_andW hc).1;rw[hn]at h4;exact h4
  have h5:=condW_of h4 (w_not (w_lt w_lit (w_len_list (w_arg rfl))));rw[aa]at h5;refine Nat.le_of_not_lt fun q=>?_;have q':(n:Int)<((ns.length:Nat):Int):=by omega
  first
   |(rw[decide_eq_true q']at h5;exact absurd h5 (by decide))
   |(simp at h5;omega)
 cases hwl with
 |cons w1 w2=>
  cases w2;cases w1 with
  |list ho hall=>exact⟨_,_,ns,rfl,rfl,ho,xbu ns _ hall,hlen⟩
theorem xgg(l:OpenLaw)(args:List WData):l.row.toRowW.claim.post args (.bool true) args=true:=
 postW_of (r:=l.row.toRowW) (X:=(true==true))
  (show WShape.has [] (.bool true) .bool=true by first|rfl|decide|simp[WShape.has,WShape.arms,WShape.armsAll])
  (show(WTm.eq .res (.lit (.bool true))).value [] {args:=args,res:=some (.bool true),after:=args}=some (.bool (true==true))from w_eq_bool (w_res rfl) w_lit) rfl
theorem xee{l:OpenLaw}{n:Nat}{q:aF}{loose:List Str}{XP:(Str→Option Value)→Heap→Prop}{YP:World→Heap→Prop}{d:DefRec}
  (hn:l.most=some n) (hdf:d.params.defaults=[])
  (call:∀(w:World) (s₀ s₁:ae) (mg mb:Str→Option Value) (fa:Addr) (o:Obj) (pm cd doc:Value) (a:Addr) (vs:List Value) (ns:List Int),
   Ground q loose [] XP w s₀ mg mb s₁.heap→YP w s₁.heap→
   s₁.heap.get? fa=some o→o.data= .func (docDef d.name d.params d.body d.scope pm cd doc)→s₁.heap.CodeRec cd d.name→mg d.name=some (.ref fa)→
   s₁.heap.get? a=some {cls:=.type "list",data:=.seq vs.toArray}→IntsAre vs ns→ns.length≤n→s₁.gens=#[]→
   df (model l.prog w) fo (.call (.ref fa) ⟨[.ref a],[]⟩) (fun r s'=>r= .ok (.ret (.bool true))∧OldK s₁.heap s'.heap∧s'.os=s₁.os∧dP s'.gens) s₁):
  WalkO q loose XP YP l.row.toRowW d [] (fun f vs=>PySem.call f vs):=by
 intro w s₀ s₁ mg mb G Y fa o pm cd doc dV kV ho hd hcd hD hmg hg args vals as hpre hlay hrd hwl hlo;obtain rfl:dV= .none:=Dflts.none hD hdf;obtain rfl:kV= .none:=Dflts.noKw hD;obtain⟨a,vs,ns,rfl,rfl,hobj,hints,hlen⟩:=xgf hn hpre hwl;refine enter_call (cZ (call w s₀ s₁ mg mb fa o pm cd doc a vs ns G Y ho (fd_plain hd) hcd hmg hobj hints hlen hg) fun r s' hq=>?_);obtain⟨rfl,h2,h3,h4⟩:=hq;exact⟨.inl ⟨.bool true,.bool true,[],rfl,fun _=>rfl,.bool true,xgg l _,fun _=>⟨List.Pairwise.nil,fun _ hm=>(nomatch hm)⟩⟩,h2,h3,h4⟩
section
variable {prog:aF} {w:World} {A:aW} {E:Value→ae→Prop} {s:ae} {K:Frag}
end
end Att
namespace L2
open PySem PySem.Spec PyProof.Rows
theorem xcr:∀{vs:List Value} {ns:List Int},IntsAre vs ns→Vals (ns.map V.int) vs
 |_,_,.nil=>.nil
 |_,_,.cons n t h=>.cons ⟨t,rfl⟩ (xcr h)
def xfm(H:Hp):Prop:=∀b,H b=none∨∃o xs,H b=some (.frz o (.lst xs))
theorem xhm{P:aF}{w:World}{K:ah}{mg mb:Str→Option Value}{CX:CXT}{k:Nat}{fa a:Addr}{fd:aK}{x:Str}{sp:Sp}{s₁:ae}{vs:List Value}{ns:List Int}
  (KX:K.In s₁.heap) (hns:s₁.heap.Ns bM mg) (hb:s₁.heap.Ns eE mb) (hbb:∀x:Str,x≠"__name__"→mb x=bJ x) (hlim:s₁.heap.NoLimit) (hbm:∃b o,mg "__builtins__"=some (.ref b)∧b≠eE∧s₁.heap.get? b=some o∧o.cls= .type "module"∧o.dict=some eE∧o.data= .plain) (hg:s₁.gens=#[])
  (ha:s₁.heap.get? a=some {cls:=.type "list",data:=.seq vs.toArray}) (hi:IntsAre vs ns) (hl:ns.length≤ay) (hr:xZ k fo)
  (F:∀base:Heap,K.In base→base.Ns bM mg→xA P w K mg base CX k fa fd [x] sp) (hbind:∀(s:ae) (u:Value),gd s fd ⟨[u],[]⟩ [(x,u)])
  (hsp:∀H:Hp,xfm H→SqL K H a (ns.map V.int)→sp [.ref a] H (fun v _=>v= .bl true) fun _ _ _=>False)
  (hCX:∀H e s',CX [] H s₁ (fun _ _ _=>False) e s'→False):
  df (model P w) fo (.call (.ref fa) ⟨[.ref a],[]⟩) (fun r s'=>r= .ok (.ret (.bool true))∧OldK s₁.heap s'.heap∧s'.os=s₁.os∧dP s'.gens) s₁:=by
 have rv:=xcr hi;have lenV:=hi.length
 -- from an abstract heap in which nothing but the script may be tracked
 have core:∀H:Hp,xfm H→SqL K H a (ns.map V.int)→HOk P w H s₁.heap→(∀b,H b≠none→b=a)→(H a≠none→K.lookup a=none)→
   df (model P w) fo (.call (.ref fa) ⟨[.ref a],[]⟩) (fun r s'=>r= .ok (.ret (.bool true))∧OldK s₁.heap s'.heap∧s'.os=s₁.os∧dP s'.gens) s₁:=by
  intro H hO hS hok hA hK;have base_of:∀{b:Addr} {o:Obj},s₁.heap.get? b=some o→H b=none→(vR s₁.heap H).get? b=some o:=fun e n=>xg7 e n;have noA:∀{b:Addr} {o:Obj} {es:Array DictEntry} {ep:Nat},s₁.heap.get? b=some o→o.data= .dict es ep→H b=none:=fun{b o es ep} e d=>by
   cases q:H b with
   |none=>rfl
   |some u=>
    have e':b=a:=hA b (by rw[q];simp);subst e';rw[ha]at e;cases e;have d':Data.seq vs.toArray _=Data.dict es ep:=d;cases d'
  have nsK:∀{b:Addr} {m:Str→Option Value},s₁.heap.Ns b m→(vR s₁.heap H).Ns b m:=fun{b m} ⟨o,es,ep,e,d,r⟩=>⟨o,es,ep,base_of e (noA e d),d,r⟩;have hKb:K.In (vR s₁.heap H):=fun b o e=>base_of (KX b o e) (by
   cases q:H b with
   |none=>rfl
   |some u=>
    have e':b=a:=hA b (by rw[q];simp);subst e';rw[hK (by rw[q];simp)]at e;cases e)
  have hM:Mod K mg (vR s₁.heap H):=⟨hKb,nsK hns,⟨mb,nsK hb,hbb⟩,let⟨mc,h1,h2⟩:=hlim;⟨mc,nsK h1,h2⟩,let⟨b,o,a1,a2,a3,a4⟩:=hbm;⟨b,o,a1,a2,base_of a3 (by
   cases q:H b with
   |none=>rfl
   |some u=>
    have e':b=a:=hA b (by rw[q];simp);subst e';rw[ha]at a3;cases a3;exact absurd a4.1 (by simp)),a4⟩⟩
  have e0:xaZ P w K mg (vR s₁.heap H) fo [] s₁ H:=⟨rfl,hM,fun b o e=>xie e,Nat.le_of_eq (xfX _ _),trivial,fun b hb=>absurd (show b∈([]:List Addr)from hb) (by simp),hok,.of_eq hg⟩;refine cZ ((F _ hKb (nsK hns)).run fo [] s₁ H ⟨[.ref a],[]⟩ [.ref a] [.ref a] _ _ hr e0 (hbind s₁ (.ref a)) (.cons rfl .nil) (hsp H hO hS)) fun r s' h=>?_;cases r with
  |error e=>exact(hCX H e s' h).elim
  |ok fl=>
   cases fl with
   |next=>exact bu h
   |brk=>exact bu h
   |cont=>exact bu h
   |ret u=>
    obtain⟨v,H',os,bare,un,hok',r',q⟩:=h;have q':v= .bl true:=q;subst q';obtain rfl:u=cF true:=r';refine⟨rfl,OldK.of_keep fun b o e=>?_,os,bare⟩;cases q:H b with
    |none=>exact un.keep b o e q (by intro z;exact absurd (show b∈([]:List Addr)from z) (by simp)) (by simp)
    |some u=>
     rcases hO b with z|⟨ob,xs,z⟩
     ·rw[q]at z;cases z
     ·have z2:=un.fix b _ z trivial;obtain⟨e1,_⟩:=hok b _ z;obtain⟨e2,_⟩:=hok' b _ z2;rw[e]at e1;cases e1;exact e2
 cases hk:K.lookup a with
 |some o=>
  -- the script is one of the module's own objects
  have e:=KX a o hk;rw[ha]at e;cases e;refine core (fun _=>none) (fun _=>.inl rfl) (.inr ⟨_,vs.toArray,_,hk,rfl,rfl,rfl,by rw[aC,lenV];exact hl,by simpa using rv⟩) (fun b u z=>by have z':(none:Option HO)=some u:=z;cases z') (fun b z=>absurd rfl z) fun z=>absurd rfl z
 |none=>
  refine core (fun b=>if b=a then some (.frz {cls:=.type "list",data:=.seq vs.toArray} (.lst (ns.map V.int)))else none) (fun b=>?_) (.inl (.inr ⟨{cls:=.type "list",data:=.seq vs.toArray},if_pos rfl⟩)) (fun b u z=>?_) (fun b z=>?_) fun _=>hk
  ·by_cases hb:b=a
   ·exact .inr ⟨_,_,if_pos hb⟩
   ·exact .inl (if_neg hb)
  ·by_cases hb:b=a
   ·have z':=(if_pos hb).symm.trans z;cases z';subst hb;exact⟨ha,by rw[aa];exact hl,vs,_,rv,ha⟩
   ·have z':=(if_neg hb).symm.trans z;cases z'
  ·by_cases hb:b=a
   ·exact hb
   ·exact absurd (if_neg hb) z
end L2
namespace L2
open PySem PySem.Spec PyProof.Rows
theorem xiv{l:W.OpenLaw}{n k:Nat}{q:aF}{loose:List Str}{XP:(Str→Option Value)→Heap→Prop}{YP:World→Heap→Prop}{d:DefRec}{K:Params→ah}{CX:World→CXT}{sp:World→Sp}{x:Str}
  (hn:l.most=some n) (hn2:n≤ay) (hdf:d.params.defaults=[]) (hr:xZ k fo)
  (hY:∀(w:World) (h:Heap),YP w h→(K w.params).In h)
  (F:∀(w:World) (mg:Str→Option Value) (fa:Addr) (h:Heap),(K w.params).In h→h.Ns bM mg→mg d.name=some (.ref fa)→
   ∃fd:aK,(∀(s:ae) (u:Value),gd s fd ⟨[u],[]⟩ [(x,u)])∧
    ∀base:Heap,(K w.params).In base→base.Ns bM mg→xA l.prog w (K w.params) mg base (CX w) k fa fd [x] (sp w))
  (hsp:∀(w:World) (H:Hp) (a:Addr) (ns:List Int),ns.length≤n→xfm H→SqL (K w.params) H a (ns.map V.int)→sp w [.ref a] H (fun v _=>v= .bl true) fun _ _ _=>False)
  (hCX:∀(w:World) (H:Hp) (s:ae) (e:Value) (s':ae),CX w [] H s (fun _ _ _=>False) e s'→False):
  W.WalkO q loose XP YP l.row.toRowW d [] (fun f vs=>PySem.call f vs):=by
 refine Att.xee hn hdf fun w s₀ s₁ mg mb fa o pm cd doc a vs ns G Y ho hd hcd hmg hobj hints hlen hg=>?_;have KX:=hY w _ Y;obtain⟨fd,hb,hF⟩:=F w mg fa _ KX G.T.g hmg;exact xhm KX G.T.g G.T.b G.T.builtins G.T.nolimit G.T.bmain hg hobj hints (aO hlen hn2) hr hF hb (fun H hO hS=>hsp w H a ns hlen hO hS) fun H e s'=>hCX w H s₁ e s'
theorem xhn{l:W.OpenLaw}{n k:Nat}{q:aF}{loose:List Str}{XP:(Str→Option Value)→Heap→Prop}{YP:World→Heap→Prop}{d:DefRec}{K:Params→ah}{CX:CXT}{sp:ah→Sp}{x:Str}
  (hn:l.most=some n) (hn2:n≤ay) (hdf:d.params.defaults=[]) (hr:xZ k fo)
  (hY:∀(w:World) (h:Heap),YP w h→(K w.params).In h)
  (F:∀(w:World) (mg:Str→Option Value) (fa:Addr) (h:Heap),(K w.params).In h→h.Ns bM mg→mg d.name=some (.ref fa)→
   ∃fd:aK,(∀(s:ae) (u:Value),gd s fd ⟨[u],[]⟩ [(x,u)])∧
    ∀base:Heap,(K w.params).In base→base.Ns bM mg→xA l.prog w (K w.params) mg base CX k fa fd [x] (sp (K w.params)))
  (hsp:∀(K:ah) (H:Hp) (a:Addr) (ns:List Int),ns.length≤n→xfm H→SqL K H a (ns.map V.int)→sp K [.ref a] H (fun v _=>v= .bl true) fun _ _ _=>False)
  (hCX:∀(H:Hp) (s:ae) (e:Value) (s':ae),CX [] H s (fun _ _ _=>False) e s'→False):
  W.WalkO q loose XP YP l.row.toRowW d [] (fun f vs=>PySem.call f vs):=
 xiv (K:=K) (CX:=fun _=>CX) (sp:=fun w=>sp (K w.params)) hn hn2 hdf hr hY F (fun w H a ns h1 h2 h3=>hsp (K w.params) H a ns h1 h2 h3) fun _ H s e s'=>hCX H s e s'
end L2
namespace L2
open PySem PySem.Spec PyProof.Rows
def inClass(s:Stmt)(j:Nat):Stmt:=match s with
 | .ClassDef _ _ _ body _ _ _ _ _ _ _=>body.getD j (.Pass ⟨0,0,0,0⟩)
 |_=>.Pass ⟨0,0,0,0⟩
def zi(s:Stmt):fX:=match s with
 | .FunctionDef _ a _ _ _ _ _ _ _ _=>a
 |_=>{posonlyargs:=[],args:=[],vararg:=none,kwonlyargs:=[],kw_defaults:=[],kwarg:=none,defaults:=[]}
def yr(s:Stmt):List Stmt:=match s with
 | .FunctionDef _ _ b _ _ _ _ _ _ _=>b
 |_=>[]
def xl(s:Stmt):Scope:=match s with
 | .FunctionDef _ _ _ _ _ _ sc _ _ _=>sc
 |_=>{kind:=.function,names:=[],isGenerator:=false,isCoroutine:=false}
abbrev CX0:CXT:=fun _ _ _ _ _ _=>False
abbrev E0:XK:=fun _ _ _=>False
theorem xy{X:Cx}:Passes CX0 X E0:=fun _ _ _ _ _ _ _ h=>h.elim
structure Fun(K:ah)(x qual:Str)(st:Stmt)(f:Addr)(fd:aK):Prop where
 ex:∃(oc:Value) (od:Option Addr) (kV doc pm:Value) (an:Option Addr) (cdv ct:Value) (osl:Array (Option Value)),
  fd=eP x qual (zi st) (yr st) (xl st) .none kV doc pm an cdv ct∧K.lookup f=some ⟨oc,od,.func fd,osl⟩∧W.codeIn K cdv qual=true
 kp:dH K (.ref f)=true
section
variable {P:aF} {w:World} {K:ah} {mg:Str→Option Value} {base:Heap}
theorem Fun.ok{x qual:Str}{st:Stmt}{f:Addr}{fd:aK}{N ps:List Str}{k:Nat}{sp:Sp}(F:Fun K x qual st f fd)(S:xr N ps (xl st))(len:∀vs H Q E,sp vs H Q E→vs.length=ps.length)
  (hbody:∀(cdv:Value) (A:aW) (outer:List Env) (s:ae) (H:Hp) (vs:List V) (Q:VK) (E:XK),xZ k (A.deeper (eO qual (xl st) s.heap.objs.size f cdv))→sp vs H Q E→
   ∃t,PSs (uK CX0 P w K mg base N qual (xl st) f cdv A outer s H E).nox (yr st) t∧t {nx:=fun _ H'=>Q .non H',rt:=Q} (start N vs) H):xA P w K mg base CX0 (k+1) f fd ps sp:=by
 obtain⟨oc,od,kV,doc,pm,an,cdv,ct,osl,rfl,lk,hcd⟩:=F.ex;refine xfh lk hcd S len fun A outer s H vs Q E hr hsp=>?_;obtain⟨t,h,q⟩:=hbody cdv A outer s H vs Q E hr hsp;exact⟨t,h.nox,q⟩
theorem Fun.binds{x qual:Str}{st:Stmt}{f:Addr}{fd:aK}{ps:List Str}(F:Fun K x qual st f fd)
  (h:∀(kV doc pm:Value) (an:Option Addr) (cdv ct:Value) (us:List Value),us.length=ps.length→fO (eP x qual (zi st) (yr st) (xl st) .none kV doc pm an cdv ct) ⟨us,[]⟩=pure (ps.zip us)):Binds K fd ps []:=by
 obtain⟨oc,od,kV,doc,pm,an,cdv,ct,osl,rfl,lk,hcd⟩:=F.ex;exact .all (h kV doc pm an cdv ct)
theorem xgh{x qual:Str}{st:Stmt}{f:Addr}{oc:Value}{od an:Option Addr}{osl:Array (Option Value)}{kV doc pm cdv ct:Value}(l:K.lookup f=some ⟨oc,od,.func (eP x qual (zi st) (yr st) (xl st) .none kV doc pm an cdv ct),osl⟩)
  (c:W.codeIn K cdv qual=true) (k:dH K (.ref f)=true):Fun K x qual st f (eP x qual (zi st) (yr st) (xl st) .none kV doc pm an cdv ct):=⟨⟨oc,od,kV,doc,pm,an,cdv,ct,osl,rfl,l,c⟩,k⟩
end
theorem xh4{A:aW}{k:Nat}(hr:xZ k A):A.units+1<cLine:=ft (Nat.add_le_add_left (by decide:1≤64) _) hr.units
section
variable {X:Cx}
end
def xb(H H':Hp):Prop:=∀b o,H b=some o→H' b=some o
theorem xb.refl(H:Hp):xb H H:=fun _ _ h=>h
theorem xb.trans{H H1 H2:Hp}(a:xb H H1)(b:xb H1 H2):xb H H2:=fun c o h=>b c o (a c o h)
theorem xb.free{H H':Hp}(e:xb H H'){l:Addr}(h:H' l=Option.none):H l=Option.none:=by
 cases q:H l with
 |none=>rfl
 |some o=>
  rw[e l o q]at h;cases h
theorem xb.seq{K:ah}{H H':Hp}{a:Addr}{xs:List V}(e:xb H H')(h:SqL K H a xs):SqL K H' a xs:=by
 rcases h with(h|⟨o,h⟩)|h
 ·exact .inl (.inl (e _ _ h))
 ·exact .inl (.inr ⟨o,e _ _ h⟩)
 ·exact .inr h
section
variable {X:Cx}
end
section
variable {κ:Type} [DecidableEq κ]
end
end L2
set_option maxHeartbeats 4000000
namespace L2
open PySem PySem.Spec PyProof.Rows
section
variable {X:Cx}
theorem PE.imp{e:Expr}{t t':TE}(h:PE X e t)(i:∀σ H Q,t' σ H Q→t σ H Q):PE X e t':=
 fun pins s σ H Q I q=>h pins s σ H Q I (i σ H Q q)
theorem PT.imp{e:Expr}{t t':TT}(h:PT X e t)(i:∀σ H Q,t' σ H Q→t σ H Q):PT X e t':=
 fun pins s σ H Q I q=>h pins s σ H Q I (i σ H Q q)
theorem OpR.imp{f:Value→Value→Sem Value}{r r':R2}(h:OpR X f r)(i:∀x y H Q,r' x y H Q→r x y H Q):OpR X f r':=
 fun pins s σ H x y v u Q I rx ry q=>h pins s σ H x y v u Q I rx ry (i x y H Q q)
theorem UnR.imp{f:Value→Sem Value}{r r':V→Hp→VK→Prop}(h:UnR X f r)(i:∀x H Q,r' x H Q→r x H Q):UnR X f r':=
 fun pins s σ H x v Q I rx q=>h pins s σ H x v Q I rx (i x H Q q)
theorem yj.imp{f:Value}{r r':List V→Hp→VK→Prop}(h:yj X f r)(i:∀xs H Q,r' xs H Q→r xs H Q):yj X f r':=
 fun pins s σ H xs us Q I rv q=>h pins s σ H xs us Q I rv (i xs H Q q)
theorem xgi{e:Expr}{t u:TE}(h:PE X e t)(k:PE X e u):PE X e (fun σ H Q=>t σ H Q∨u σ H Q):=
 fun pins s σ H Q I q=>q.elim (fun z=>h pins s σ H Q I z) (fun z=>k pins s σ H Q I z)
def xdi(i:Nat):TE:=fun σ H Q=>match σ[i]? with
 |some (some v)=>Q v H
 |_=>False
theorem xho{i:Nat}{σ:St}{H:Hp}{Q:VK}(q:xdi i σ H Q):xje i σ H Q:=by
 unfold xdi at q
 split at q
 ·rename_i v e;exact⟨v,e,q⟩
 ·exact q.elim
theorem cv(i:Nat){x:Str}{pos:Pos}(hN:X.N[i]? =some x:=by rfl)(hv:Vis X.env.scope x:=by first|exact aR rfl|exact Or.inr (aR rfl)|exact Or.inr (Or.inr rfl))(hd:(x==("__debug__":Str))=false:=by decide)
  (hcd:(x==("__classdict__":Str))=false:=by decide):PE X (.Name x pos) (xdi i):=(xjf hN hv hd hcd).imp fun _ _ _ q=>xho q
def kI(C:Int→Int→Prop)(g:Int→Int→V):R2:=fun x y H Q=>match x with
 | .int i=>(match y with
  | .int j=>C i j∧Q (g i j) H
  |_=>False)
 |_=>False
def kI0(g:Int→Int→V):R2:=fun x y H Q=>match x with
 | .int i=>(match y with
  | .int j=>Q (g i j) H
  |_=>False)
 |_=>False
theorem xbv{C:Int→Int→Prop}{g:Int→Int→V}{x y:V}{H:Hp}{Q:VK}(q:kI C g x y H Q):rI C g x y H Q:=by
 cases x with
 |int i=>
  cases y with
  |int j=>exact⟨i,j,rfl,rfl,q.1,q.2⟩
  |_=>exact bu q
 |_=>exact bu q
theorem zW{g:Int→Int→V}{x y:V}{H:Hp}{Q:VK}(q:kI0 g x y H Q):rI0 g x y H Q:=by
 cases x with
 |int i=>
  cases y with
  |int j=>exact⟨i,j,rfl,rfl,q⟩
  |_=>exact bu q
 |_=>exact bu q
theorem yk:OpR X (cb .Add) (kI0 fun i j=>.int (i+j)):=xjo.imp fun _ _ _ _=>zW
theorem xc4:OpR X (cb .Sub) (kI0 fun i j=>.int (i - j)):=xjp.imp fun _ _ _ _=>zW
theorem vj:OpR X (cb .Mult) (kI xe7 fun i j=>.int (i*j)):=xjq.imp fun _ _ _ _=>xbv
def xh5(_i j:Int):Prop:=0<j∧j.natAbs.log2<9000
theorem yg:OpR X (cb .FloorDiv) (kI xh5 fun i j=>.int (i / j)):=
 (opI (C:=xh5) (g:=fun i j=>i / j) fun i j _ _ _ _ _ hc q=>by
  have h0:0<j:=hc.1;rw[←Int.fdiv_eq_ediv_of_nonneg i (Int.le_of_lt h0)]at q;exact floordiv_int (Int.ne_of_gt h0) q (.inl (PyProof.noPylong_of_log2 hc.2))).imp fun _ _ _ _=>xbv
theorem xQ:OpR X (cb .Mod) (kI (fun _ j=>0<j) fun i j=>.int (i%j)):=xjr.imp fun _ _ _ _=>xbv
theorem xbw:OpR X (cb .Pow) (kI xjn fun i j=>.int (i^j.toNat)):=xjs.imp fun _ _ _ _=>xbv
theorem xa2:OpR X (bG .Lt) (kI0 fun i j=>.bl (decide (i<j))):=xj7.imp fun _ _ _ _=>zW
theorem jN:OpR X (bG .Gt) (kI0 fun i j=>.bl (decide (j<i))):=xj8.imp fun _ _ _ _=>zW
theorem xjB:OpR X (bG .GtE) (kI0 fun i j=>.bl (decide (j≤i))):=xj9.imp fun _ _ _ _=>zW
theorem xbx{a b:V}{p:Prop}[Decidable p](h:a=b↔p):decide (a=b)=decide p:=by
 by_cases e:p
 ·rw[decide_eq_true e,decide_eq_true (h.mpr e)]
 ·rw[decide_eq_false e,decide_eq_false (fun q=>e (h.mp q))]
theorem zv:OpR X (bG .Eq) (kI0 fun i j=>.bl (decide (i=j))):=xh2.imp fun x y H Q q=>by
 obtain⟨i,j,rfl,rfl,q⟩:=zW q;exact⟨rfl,by rw[xbx (p:=i=j) ⟨fun e=>V.int.inj e,fun e=>by rw[e]⟩];exact q⟩
theorem xby:OpR X (bG .NotEq) (kI0 fun i j=>.bl (!decide (i=j))):=xe8.imp fun x y H Q q=>by
 obtain⟨i,j,rfl,rfl,q⟩:=zW q;exact⟨rfl,by rw[xbx (p:=i=j) ⟨fun e=>V.int.inj e,fun e=>by rw[e]⟩];exact q⟩
def kS0(g:Str→Str→V):R2:=fun x y H Q=>match x with
 | .str i=>(match y with
  | .str j=>Q (g i j) H
  |_=>False)
 |_=>False
theorem xeJ{g:Str→Str→V}{x y:V}{H:Hp}{Q:VK}(q:kS0 g x y H Q):∃i j,x= .str i∧y= .str j∧Q (g i j) H:=by
 cases x with
 |str i=>
  cases y with
  |str j=>exact⟨i,j,rfl,rfl,q⟩
  |_=>exact bu q
 |_=>exact bu q
theorem zL:OpR X (bG .Eq) (kS0 fun i j=>.bl (decide (i=j))):=xh2.imp fun x y H Q q=>by
 obtain⟨i,j,rfl,rfl,q⟩:=xeJ q;exact⟨rfl,by rw[xbx (p:=i=j) ⟨fun e=>V.str.inj e,fun e=>by rw[e]⟩];exact q⟩
theorem xfn:OpR X (bG .NotEq) (kS0 fun i j=>.bl (!decide (i=j))):=xe8.imp fun x y H Q q=>by
 obtain⟨i,j,rfl,rfl,q⟩:=xeJ q;exact⟨rfl,by rw[xbx (p:=i=j) ⟨fun e=>V.str.inj e,fun e=>by rw[e]⟩];exact q⟩
def kU(g:Int→V):V→Hp→VK→Prop:=fun x H Q=>match x with
 | .int i=>Q (g i) H
 |_=>False
theorem xaw:UnR X (unaryOp .USub) (kU fun i=>.int (-i)):=xjt.imp fun x H Q q=>by
 cases x with
 |int i=>exact⟨i,rfl,q⟩
 |_=>exact bu q
def xbz(Q:Bool→Hp→Prop):VK:=fun x H1=>match x with
 | .bl k=>Q k H1
 |_=>False
theorem zX{Q:Bool→Hp→Prop}{x:V}{H1:Hp}(q:xbz Q x H1):∃k,x= .bl k∧Q k H1:=by
 cases x with
 |bl k=>exact⟨k,rfl,q⟩
 |_=>exact bu q
def cB(t:TE):TT:=fun σ H Q=>t σ H (xbz Q)
variable {a b c:Expr} {ta tb tc:TE} {tA tB':TT} {pos:Pos} {rest:List Expr}
theorem xv{op:CmpOp}{r:R2}(ho:OpR X (bG op) r)(ha:PE X a ta)(hb:PE X b tb)(hm:cC op b=false:=by exact xf2 _):PT X (.Compare a [op] [b] pos) (cB (tOp r ta tb)):=by
 intro pins s σ H Q I h;refine eV (thn (ha pins s σ H _ I h) fun v s1 ⟨x,H1,I1,r1,q1⟩=>thn (hb pins s1 σ H1 _ I1 q1) fun u s2 ⟨y,H2,I2,r2,q2⟩=>
  thn (ho pins s2 σ H2 x y v u _ I2 r1 r2 q2) fun c s3 ⟨z,H3,I3,r3,q3⟩=>?_) hm
 obtain⟨k,rfl,q⟩:=zX q3;cases r3;exact b9 ⟨H3,I3,q⟩
theorem zq{op:CmpOp}{r:R2}(ho:OpR X (bG op) r)(ha:PE X a ta)(hb:PE X b tb)(hm:cC op b=false:=by exact xf2 _):PE X (.Compare a [op] [b] pos) (tOp r ta tb):=xih ho ha hb hm
theorem yY{e:Expr}{t:TE}(h:PE X e t)(he:∀whole,isTrue e X.env whole=(do let v ←whole;standAt e.pos;f9 [v] (truthy v)):=by intro _;rfl):PT X e (cB t):=by
 intro pins s σ H Q I hw;refine isTrue_plain (thn (h pins s σ H _ I hw) fun v s1 ⟨x,H1,I1,r1,q1⟩=>?_) (he _);obtain⟨d,rfl,q⟩:=zX q1;cases r1;exact b9 ⟨H1,I1,q⟩
def xkL(t u:TT):TT:=fun σ H Q=>t σ H fun c H1=>(c=true→u σ H1 Q)∧(c=false→Q false H1)
def cOr(t u:TT):TT:=fun σ H Q=>t σ H fun c H1=>(c=true→Q true H1)∧(c=false→u σ H1 Q)
theorem vH(ha:PT X a tA)(hb:PW X (.BoolOp .And (b::rest) pos) tB'):PW X (.BoolOp .And (a::b::rest) pos) (xkL tA tB'):=by
 intro wh pins s σ H Q I h;refine isTrue_and (thn (ha pins s σ H _ I h) fun c s1 ⟨H1,I1,q1⟩=>?_);cases c with
 |true=>exact hb wh pins s1 σ H1 Q I1 (q1.1 rfl)
 |false=>exact⟨H1,I1,q1.2 rfl⟩
theorem yU(ha:PT X a tA)(hb:PW X (.BoolOp .Or (b::rest) pos) tB'):PW X (.BoolOp .Or (a::b::rest) pos) (cOr tA tB'):=by
 intro wh pins s σ H Q I h;refine isTrue_or (thn (ha pins s σ H _ I h) fun c s1 ⟨H1,I1,q1⟩=>?_);cases c with
 |true=>exact⟨H1,I1,q1.1 rfl⟩
 |false=>exact hb wh pins s1 σ H1 Q I1 (q1.2 rfl)
def xkh(ta tb:TE):TE:=fun σ H Q=>ta σ H (xbz fun c H1=>(c=true→tb σ H1 Q)∧(c=false→Q (.bl false) H1))
def xkM(ta tb:TE):TE:=fun σ H Q=>ta σ H (xbz fun c H1=>(c=true→Q (.bl true) H1)∧(c=false→tb σ H1 Q))
def xki(ta:TE):TE:=fun σ H Q=>ta σ H (xbz fun c H1=>Q (.bl (!c)) H1)
theorem yZ(ha:PE X a ta)(hb:PE X (.BoolOp .And (b::rest) pos) tb):PE X (.BoolOp .And (a::b::rest) pos) (xkh ta tb):=by
 intro pins s σ H Q I h;refine BoolOp_and (thn (ha pins s σ H _ I h) fun v s1 ⟨x,H1,I1,r1,q1⟩=>?_);obtain⟨c,rfl,q1⟩:=zX q1;cases r1;refine b9 ?_;cases c with
 |true=>exact hb pins s1 σ H1 Q I1 (q1.1 rfl)
 |false=>exact⟨.bl false,H1,I1,rfl,q1.2 rfl⟩
theorem xh6(ha:PE X a ta)(hb:PE X (.BoolOp .Or (b::rest) pos) tb):PE X (.BoolOp .Or (a::b::rest) pos) (xkM ta tb):=by
 intro pins s σ H Q I h;refine BoolOp_or (thn (ha pins s σ H _ I h) fun v s1 ⟨x,H1,I1,r1,q1⟩=>?_);obtain⟨c,rfl,q1⟩:=zX q1;cases r1;refine b9 ?_;cases c with
 |false=>exact hb pins s1 σ H1 Q I1 (q1.2 rfl)
 |true=>exact⟨.bl true,H1,I1,rfl,q1.1 rfl⟩
theorem xgj(ha:PE X a ta):PE X (.UnaryOp .Not a pos) (xki ta):=by
 intro pins s σ H Q I h;refine UnaryOp_ (thn (ha pins s σ H _ I h) fun v s1 ⟨x,H1,I1,r1,q1⟩=>?_);obtain⟨c,rfl,q1⟩:=zX q1;cases r1;exact not_of (b9 ⟨.bl (!c),H1,I1,rfl,q1⟩)
def cIf(t:TT)(ta tb:TE):TE:=fun σ H Q=>t σ H fun c H1=>(c=true→ta σ H1 Q)∧(c=false→tb σ H1 Q)
theorem xh7{c:Expr}(hc:PT X c tA)(ha:PE X a ta)(hb:PE X b tb):PE X (.IfExp c a b pos) (cIf tA ta tb):=by
 intro pins s σ H Q I h;refine wpAny_IfExp (thn (hc pins s σ H _ I h) fun d s1 ⟨H1,I1,q1⟩=>?_);cases d with
 |true=>exact ha pins s1 σ H1 Q I1 (q1.1 rfl)
 |false=>exact hb pins s1 σ H1 Q I1 (q1.2 rfl)
def xkN(c:TT)(t u:TS):TS:=fun D σ H=>c σ H fun b H1=>(b=true→t D σ H1)∧(b=false→u D σ H1)
theorem xI{c:Expr}{p q:List Stmt}{tc:TT}{t u:TS}(hc:PT X c tc)(ha:PSs X p t)(hb:PSs X q u):PS X (.If c p q pos) (xkN tc t u):=by
 intro pins s σ H D I h;refine wpAny_If (thn (hc pins s σ H _ I h) fun d s1 ⟨H1,I1,q1⟩=>?_);cases d with
 |true=>exact ha pins s1 σ H1 D I1 (q1.1 rfl)
 |false=>exact hb pins s1 σ H1 D I1 (q1.2 rfl)
@[irreducible] def xkV(c:TT)(tb:TS)(D:Ends)(σ:St)(H:Hp):Prop:=∃W:Nat→St→Hp→Prop,(∃m,W m σ H)∧∀m σ H,W m σ H→
 c σ H fun b H1=>(b=true→∃N:St→Hp→Prop,(∀σ' H',N σ' H'→∃m',m'<m∧W m' σ' H')∧tb {D with nx:=N,ct:=N,bk:=D.nx} σ H1)∧(b=false→D.nx σ H1)
@[irreducible] def vk(J:It)(g:TG)(tb:TS)(D:Ends)(σ:St)(H1:Hp):Prop:=∃W:Nat→Nat→St→Hp→Prop,(∃m,W 0 m σ H1)∧∀i m σ H,W i m σ H→
 (J.stop i H∧D.nx σ H)∨(J.go i H∧∃N:St→Hp→Prop,(∀σ' H',N σ' H'→∃m',m'<m∧W (i+1) m' σ' H')∧∀x H',J.yld i H x H'→g x σ H' fun σ2 H2=>tb {D with nx:=N,ct:=N,bk:=D.nx} σ2 H2)
def xhp(wi:TI)(g:TG)(tb:TS):TS:=fun D σ H=>wi σ H fun J H1=>vk J g tb D σ H1
theorem xiw(wi:TI)(g:TG)(tb:TS):xhp wi g tb=xha wi g tb:=by
 funext D σ H
 unfold xhp xha
 congr 1
 funext J H1
 unfold vk;rfl
theorem ue{tg iter:Expr}{body:List Stmt}{wi:TI}{g:TG}{tb:TS}{pos:Pos}(hp:PassesOwn (model X.prog X.w) X.A X.env X.xe)(hc:X.calm=true)(hi:PI X tg iter wi)(hg:PG X tg g)(hb:PSs X body tb)
  (hs:∀x,cQ iter X.env x=pure x:=by intro _;rfl):PS X (.For tg iter body [] pos) (xhp wi g tb):=by
 rw[xiw];exact xjl hp hc hi hg hb hs
def xkO(t:TS):TS:=fun D σ H=>∃M:L2.St→Hp→Prop,t {D with nx:=M} σ H∧∀σ' H',M σ' H'→D.nx σ' H'
theorem xdj{st:Stmt}{t:TS}(h:PS X st t):PS X st (xkO t):=by
 intro pins s σ H D I q;obtain⟨M,q1,q2⟩:=q;refine thn (h pins s σ H _ I q1) fun f s' z=>?_;cases f with
 |next=>obtain⟨σ',H',I',m⟩:=z;exact⟨σ',H',I',q2 σ' H' m⟩
 |brk=>exact z
 |cont=>exact z
 |ret v=>exact z
def xjC(i:Nat):TG:=fun v σ H Q=>∀y,y=v→Q (σ.set i (some y)) H
theorem xix(te:TE)(i:Nat):xaX te (xjC i)=xaX te (xbp i):=by
 funext D σ H
 unfold xaX
 congr 1
 funext x H1
 exact propext ⟨fun q=>q x rfl,fun q y e=>by rw[e];exact q⟩
theorem yF{i:Nat}{x:Str}{e:Expr}{te:TE}{pos':Pos}(hN:X.N.Nodup)(hi:X.N[i]? =some x)(hx:Loc X.env.scope x)(he:PE X e te)(hs:fV e (some (.Name x pos')) pos.line X.env=pure false:=by rfl)
  (hf:X.fn x=true∨X.env.scope.names.lookup x=some .local:=by first|exact .inl rfl|exact .inr rfl|assumption):PS X (.Assign [.Name x pos'] e pos) (xaX te (xjC i)):=by
 rw[xix];exact xu hN hi hx he hs hf
theorem zY{e:Int}{G:V→Prop}(h:∀i,i=e→G (.int i)):∀y,y=V.int e→G y:=fun y q=>by rw[q];exact h e rfl
theorem uG{v:V}{G:V→Prop}(h:G v):∀y,y=v→G y:=fun y q=>by rw[q];exact h
end
end L2
namespace L2
open PySem PySem.Spec PyProof.Rows
def yy(cells:List (Str×Addr)):List (Str×cM)→List (Str×Addr)→List (Str×Addr)
 |[],cs=>cs
 |(n,k)::r,cs=>yy cells r (if k== .free then(n,(cells.lookup n).getD 0)::cs else cs)
theorem vU{scope:Scope}{env:Env}(h:∀y∈scope.names,y.2= .free→∃c,env.cells.lookup y.1=some c):closureFor scope env=pure (yy env.cells scope.names []):=by
 have all:∀(l:List (Str×cM)) (cs:List (Str×Addr)),(∀y∈l,y.2= .free→∃c,env.cells.lookup y.1=some c)→
   (forIn l cs fun x r=>match x with
    |(name,kind)=>if (kind==cN)=true then do let a ←cellOf env name;pure (dn ((name,a)::r))else pure (dn r):Sem (List (Str×Addr)))=pure (yy env.cells l cs):=by
  intro l
  induction l with
  |nil=>intro cs _;rfl
  |cons y r ih=>
   intro cs hl;obtain⟨n,k⟩:=y;rw[List.forIn_cons]
   by_cases hk:k= .free
   ·subst hk;obtain⟨c,hc⟩:=hl (n,.free) aL rfl;have e:cellOf env n=pure c:=by unfold cellOf;rw[hc]
    simp only[beq_self_eq_true,if_true,e,pure_bind];rw[ih _ fun z hz=>hl z (ak _ hz)];simp[yy,hc]
   ·have hb:(k==cN)=false:=by simpa using hk
    simp only[hb,ee,if_false,pure_bind];rw[ih _ fun z hz=>hl z (ak _ hz)];simp[yy,hb]
 unfold closureFor;have:=all scope.names [] h;simp only[bind_pure]at this⊢;exact this
theorem xdk{cells:List (Str×Addr)}:∀{l:List (Str×cM)} {cs:List (Str×Addr)} {x:Str} {c:Addr},(∀y∈l,y.2= .free→∃c,cells.lookup y.1=some c)→(yy cells l cs).lookup x=some c→
  cs.lookup x=some c∨cells.lookup x=some c
 |[],cs,x,c,_,h=>.inl h
 |(n,k)::r,cs,x,c,hl,h=>by
  unfold yy at h;rcases xdk (fun z hz=>hl z (ak _ hz)) h with q|q
  ·split at q
   ·rename_i hk;rw[bX]at q
    split at q
    ·rename_i hx;obtain⟨c',hc⟩:=hl (n,k) aL (by simpa using hk);have e:x=n:=by simpa using hx
     subst e;rw[hc]at q
     right
     rw[hc];simpa using q
    ·exact .inl q
   ·exact .inl q
  ·exact .inr q
theorem xa3{cells:List (Str×Addr)}:∀{l:List (Str×cM)} {cs:List (Str×Addr)} {x:Str},(x,cN)∈l∨(∃c,cs.lookup x=some c)→∃c,(yy cells l cs).lookup x=some c
 |[],cs,x,h=>by
  rcases h with h|h
  ·simp at h
  ·exact h
 |(n,k)::r,cs,x,h=>by
  unfold yy;refine xa3 ?_;rcases h with h|⟨c,h⟩
  ·rcases ax.mp h with h|h
   ·cases h
    right
    simp
   ·exact .inl h
  ·right
   split
   ·rw[bX]
    split
    ·exact⟨_,rfl⟩
    ·exact⟨c,h⟩
   ·exact⟨c,h⟩
def Cx.blk(X:Cx)(scope:Scope)(C:Addr)(Nc:List Str)(s₂:ae)(H₂:Hp)(fp:List Addr):Cx:=
 {X with N:=Nc,s₀:=s₂,H₀:=H₂,env:=ef scope (yy X.env.cells scope.names []) C X.env,outer:=X.stack,stack:=X.stack,ex:=fp,fn:=fun _=>false,pn:=[],xe:=fun _ _=>False,cp:=fun _=>false}
def xbA(X:Cx)(scope:Scope):List Nat→List Str→Prop
 |[],[]=>True
 |j::js,y::ys=>(X.N[j]? =some y∧scope.names.lookup y=some .free∧(X.env.kindOf y=some .cell∨X.env.kindOf y=some .free))∧xbA X scope js ys
 |_,_=>False
def zo(σ:St)(cap:List Nat):St:=cap.map fun j=>(σ[j]?).getD none
structure ym(X:Cx)(scope:Scope)(x:Str)(cap:List Nat)(ys:List Str):Prop where
 kind:scope.kind= .function
 nocell:∀y∈scope.names,y.2≠.cell
 locs:∀y∈scope.names,y.2= .local→scope.names.lookup y.1=some .local
 lx:scope.names.lookup x=some .local
 fr:∀y∈scope.names,y.2= .free→X.env.kindOf y.1=some .cell∨X.env.kindOf y.1=some .free
 cap:xbA X scope cap ys
 nd:(x::ys).Nodup
theorem za{X:Cx}{scope:Scope}{x:Str}{cap:List Nat}{ys:List Str}(kind:scope.kind= .function)(h1:(scope.names.all fun y=> !(y.2== .cell))=true)(h2:(scope.names.all fun y=> !(y.2== .local)||scope.names.lookup y.1==some .local)=true)
  (hx:scope.names.lookup x=some .local) (h3:(scope.names.all fun y=> !(y.2== .free)||(X.env.kindOf y.1==some .cell||X.env.kindOf y.1==some .free))=true) (hcap:xbA X scope cap ys) (hnd:(x::ys).Nodup):ym X scope x cap ys:=by
 refine⟨kind,fun y hy e=>?_,fun y hy e=>?_,hx,fun y hy e=>?_,hcap,hnd⟩
 ·have:=bA.mp h1 y hy;rw[e]at this;exact absurd this (by decide)
 ·have:=bA.mp h2 y hy;rw[e]at this;simpa using this
 ·have:=bA.mp h3 y hy;rw[e]at this;simpa using this
theorem jO{X:Cx}{scope:Scope}{σ:St}:∀{cap:List Nat} {ys:List Str} {i:Nat} {y:Str} {v:V},xbA X scope cap ys→ys[i]? =some y→(zo σ cap)[i]? =some (some v)→
  ∃j:Nat,X.N[j]? =some y∧σ[j]? =some (some v)∧scope.names.lookup y=some .free∧(X.env.kindOf y=some .cell∨X.env.kindOf y=some .free)
 |[],[],i,y,v,_,h,_=>by simp at h
 |j::js,z::zs,0,y,v,⟨⟨h1,h2,h3⟩,_⟩,e1,e2=>by
  simp at e1;subst e1;refine⟨j,h1,?_,h2,h3⟩;simp only[zo,aH,List.getElem?_cons_zero,gT]at e2;cases q:σ[j]? with
  |none=>rw[q]at e2;cases e2
  |some w=>rw[q]at e2;simp at e2;rw[e2]
 |j::js,z::zs,i+1,y,v,⟨_,h⟩,e1,e2=>jO (i:=i) h (by simpa using e1) (by simpa [zo]using e2)
 |[],_::_,_,_,_,h,_,_=>h.elim
 |_::_,[],_,_,_,h,_,_=>h.elim
theorem xcs{X:Cx}{scope:Scope}:∀{cap:List Nat} {ys:List Str},xbA X scope cap ys→cap.length=ys.length
 |[],[],_=>rfl
 |_::_,_::_,⟨_,h⟩=>by simp[xcs h]
 |[],_::_,h=>h.elim
 |_::_,[],h=>h.elim
theorem xa4{l:List (Str×cM)}{y:Str}{k:cM}(h:l.lookup y=some k):(y,k)∈l:=PySem.mem_of_lookup h
theorem jP{env:Env}:∀{names:List (Str×cM)} {x:Str},names.lookup x=some .free→
  (names.map fun(n,k)=>if (k==cN&&env.scope.kind== .function&&env.kindOf n==some .cell)then(n,gA)else(n,k)).lookup x=some .cell∨
  (names.map fun(n,k)=>if (k==cN&&env.scope.kind== .function&&env.kindOf n==some .cell)then(n,gA)else(n,k)).lookup x=some .free
 |[],_,h=>by simp at h
 |(n,k)::r,x,h=>by
  have ih:= @jP env r x;rw[aH];rw[bX]at h;cases hx:x==n with
  |true=>
   rw[hx]at h;simp only[gT]at h;subst h;dsimp only
   split
   ·left;rw[bX,hx]
   ·right;rw[bX,hx]
  |false=>
   rw[hx]at h;dsimp only
   split
   ·rw[bX,hx];exact ih h
   ·rw[bX,hx];exact ih h
theorem uz{env:Env}:∀{names:List (Str×cM)} {x:Str} {k:cM},
  (names.map fun(n,k)=>if (k==cN&&env.scope.kind== .function&&env.kindOf n==some .cell)then(n,gA)else(n,k)).lookup x=some k→(k= .cell∨k= .free)→(∀y∈names,y.2≠.cell)→(x,cN)∈names
 |[],_,_,h,_,_=>by simp at h
 |(n,k')::r,x,k,h,hk,hc=>by
  rw[aH]at h;have hc':∀y∈r,y.2≠.cell:=fun y hy=>hc y (ak _ hy);have nk:k'≠.cell:=hc (n,k') aL;dsimp only at h
  split at h
  ·rename_i q;rw[bX]at h
   split at h
   ·rename_i hx;have e:x=n:=by simpa using hx
    have e2:k'= .free:=by
     simp only[bN,beq_iff_eq]at q;exact q.1.1
    rw[e,e2];exact aL
   ·exact ak _ (uz h hk hc')
  ·rw[bX]at h
   split at h
   ·rename_i hx;have e:x=n:=by simpa using hx
    have e3:k'=k:=by simpa using h
    rcases hk with q|q
    ·exact absurd (e3.trans q) nk
    ·rw[e,e3,q];exact aL
   ·exact ak _ (uz h hk hc')
section
variable {X:Cx} {scope:Scope} {x:Str} {cap:List Nat} {ys:List Str}
theorem ym.clos(B:ym X scope x cap ys)(ok:X.Ok):∀y∈scope.names,y.2= .free→∃c,X.env.cells.lookup y.1=some c:=fun y hy e=>ok.has y.1 (B.fr y hy e)
theorem ym.sub(B:ym X scope x cap ys)(ok:X.Ok){z:Str}{c:Addr}(h:(yy X.env.cells scope.names []).lookup z=some c):X.env.cells.lookup z=some c:=by
 rcases xdk (B.clos ok) h with q|q
 ·simp at q
 ·exact q
theorem ym.start{pins:List (Addr×Obj)}{σ:St}{H₂:Hp}{s₂:ae}{fp:List Addr}{h₁:Heap}{tk:Nat}{C D:Addr}(B:ym X scope x cap ys)(I:Inv X pins σ H₂ s₂)
  (hf:∀b∈fp,zV X pins H₂ b) (hD:s₂.heap.objs.size≤D) (hC:s₂.heap.objs.size≤C) (hDC:D≠C) (hk:∀b o,s₂.heap.get? b=some o→h₁.get? b=some o)
  (hns:∃m,h₁.Ns C m) (hl:h₁.get? D=some {cls:=.type "list",data:=.seq ([]:List Value).toArray}) (hfp:∀b∈fp,b<s₂.heap.objs.size):
  Inv (X.blk scope C (x::ys) s₂ H₂ fp) [] (none::zo σ cap) (upd H₂ D (.lst [])) {s₂ with heap:=h₁,toks:=tk}:=by
 have ok:=I.ok;have freshC:H₂ C=none:=I.hok.fresh hC;have freshD:H₂ D=none:=I.hok.fresh hD;have lt:∀b o,s₂.heap.get? b=some o→b<s₂.heap.objs.size:=fun b o e=>aG e;refine⟨⟨ok.mod,B.kind,ok.glob,ok.blt,hC,fun y z c h1 h2=>ok.inj y z c (B.sub ok h1) (B.sub ok h2),fun y hy=>?_,fun y c h=>(aM h).elim,ok.hd,ok.frames,.inl rfl,fun b hb=>⟨?_,fun y c h e=>?_⟩,I.bs,aO ok.bsz I.sz,fun b o e hb=>?_,fun b hb hs=>?_,I.stack,I.stkFree,fun y c h=>(aM h).elim,fun b hb=>I.hok.fresh hb⟩,
  rfl,I.bare,Un.laid hk hD freshD,?_,fun y c h=>?_,?_,fun y c h=>?_,fun p hp=>?_,?_,?_⟩
 ·have hy':(eI scope X.env).names.lookup y=some .cell∨(eI scope X.env).names.lookup y=some .free:=hy;have m:(y,cN)∈scope.names:=by
   rcases hy' with q|q
   ·exact uz q (.inl rfl) B.nocell
   ·exact uz q (.inr rfl) B.nocell
  exact xa3 (.inl m)
 ·exact bc (az (hfp b hb) hC)
 ·exact(hf b hb).2.2.2.2.1 y c (B.sub ok h) e
 ·rcases(hf b hb).2.2.2.1 with q|q
  ·exact ok.noex b o e q
  ·exact absurd (az (aG (ok.bs b o e).1) q) (cA _)
 ·rcases ax.mp (I.stkSub b hs)with q|q
  ·exact(hf b hb).2.1 q
  ·exact(hf b hb).2.2.1 q
 ·obtain⟨m,hm⟩:=hns;refine⟨m,hm,fun i y v e1 e2 e3=>?_⟩;cases i with
  |zero=>simp at e2
  |succ i=>
   obtain⟨j,n1,n2,n3,n4⟩:=jO (i:=i) B.cap (by simpa [Cx.blk]using e1) (by simpa using e2);obtain⟨m0,hn0,hl0⟩:=I.loc;have vis:Vis X.env.scope y:=by
    rcases n4 with q|q
    ·exact .inr (.inl q)
    ·exact .inr (.inr q)
   obtain⟨u,ru,l⟩:=hl0 j y v n1 n2 vis;refine⟨u,ru,.inr ⟨jP n3,?_⟩⟩;rcases l with⟨k,_⟩|⟨_,c,ec,z⟩
   ·rw[k]at n4;rcases n4 with q|q<;> cases q
   ·obtain⟨c',ec'⟩:=xa3 (cells:=X.env.cells) (cs:=[]) (.inl (xa4 n3));have:=B.sub ok ec';rw[ec]at this;cases this;obtain⟨o,ho,hd⟩:=z;exact⟨c,ec',o,hk c o ho,hd⟩
 ·obtain⟨v,o,ho,hd⟩:=I.cell y c (B.sub ok h);exact⟨v,o,hk c o ho,hd⟩
 ·show upd H₂ D _ C=none;rw[xH (bz hDC)];exact freshC
 ·obtain⟨v,o,ho,hd⟩:=I.cell y c (B.sub ok h);rw[xH (bc (az (lt c o ho) hD))];refine(I.freeC y c (B.sub ok h)).imp id fun⟨_,o',ho',hno⟩=>⟨rfl,o',ho',fun z i v e1 k e2=>?_⟩;cases i with
  |zero=>simp at e2
  |succ i=>
   obtain⟨j,n1,n2,n3,n4⟩:=jO (i:=i) B.cap (by simpa [Cx.blk]using e1) (by simpa using e2);exact hno z j v n1 n4 n2
 ·exact absurd (show p∈([]:List (Addr×Obj))from hp) (by simp)
 ·exact I.hok.laid hk hD ⟨bV _,[],0,.nil,hl⟩
 ·simp[Cx.blk,zo,xcs B.cap]
theorem ym.back{pins:List (Addr×Obj)}{σ:St}{H₂ H':Hp}{s₂ s':ae}{fp:List Addr}{C:Addr}{pl:List (Addr×Obj)}{σ':St}(B:ym X scope x cap ys)(I:Inv X pins σ H₂ s₂)
  (hf:∀b∈fp,zV X pins H₂ b) (J:Inv (X.blk scope C (x::ys) s₂ H₂ fp) pl σ' H' s'):Inv X pins σ H' s':=
 I.call' (ch:=fp) J.os J.base J.hok J.bare fun b hb=>by
  obtain⟨f0,f1,f2,f3,f4,f5⟩:=hf b hb;refine⟨?_,f1,f4,f5⟩;rcases f3 with q|q
  ·exact .inl q
  ·exact .inr q
theorem ym.far{pins:List (Addr×Obj)}{σ:St}{H₂ H':Hp}{s₂ s':ae}{fp:List Addr}{C:Addr}{pl:List (Addr×Obj)}{σ':St}(I:Inv X pins σ H₂ s₂)
  (hC:s₂.heap.objs.size≤C) (J:Inv (X.blk scope C (x::ys) s₂ H₂ fp) pl σ' H' s'):
  H' C=none∧C≠X.env.locals∧X.s₀.heap.objs.size≤C∧(∀z c,X.env.cells.lookup z=some c→c≠C)∧∀p∈X.pn++pins,p.1≠C:=by
 refine⟨J.free,fM (az I.lt hC),aO I.sz hC,fun z c e q=>?_,fun p hp q=>?_⟩
 ·obtain⟨v,w⟩:=I.cell z c e;exact absurd (az w.lt (by rw[q];exact hC)) (cA _)
 ·exact absurd (az (aG (I.pin p hp).1) (by rw[q];exact hC)) (cA _)
end
theorem xfo{prog:aF}{w:World}{A:aW}{R:fN→ae→Prop}{s:ae}{elt tg iter:Expr}{ifs:List Expr}{scope:Scope}{pos:Pos}{it acc:Value}{env:Env}(J:Nat→ae→Prop)
  (go:∀n s,J n s→wpAny (model prog w) A (pyNext it) (fun r s1=>match r with
   |none=>R (.ok .next) s1
   |some v=>wpAny (model prog w) A (dY tg it v) (fun _ s2=>wpAny (model prog w) A (eZ tg env v) (fun _ s3=>
     wpAny (model prog w) A (forIn ifs true fun c r=>if r=true then do let ok ←isTrue c env (eval c env);pure (dn ok)else pure (dn r)) (fun ok s4=>
      if ok=true then wpAny (model prog w) A (eval elt env) (fun y s5=>wpAny (model prog w) A (call (.builtin "list.append") [acc,y]) (fun _ s6=>∃m,m<n∧J m s6) (fun _ _=>False) s5) (fun _ _=>False) s4
      else∃m,m<n∧J m s4) (fun _ _=>False) s3) (fun _ _=>False) s2) (fun _ _=>False) s1) (fun _ _=>False) s)
  (n:Nat) (h:J n s):df (model prog w) A (.compLoop (.ListComp elt [⟨tg,iter,ifs,0⟩] scope pos) 0 it acc env) R s:=by
 refine codeAny_loop rfl J (fun n s hJ=>?_) n h;show wpAny _ A ((compTurn (.ListComp elt [⟨tg,iter,ifs,0⟩] scope pos) 0 it acc env).onRaise (fun x=>do eX x env;theTreesLotGoes x)) _ _ s;refine wpAny_noted ?_;rw[compTurn_list];refine af (cD (af (aP (go n s hJ) (fun r s1 h1=>?_) fun _ _ z=>z.elim)));cases r with
 |none=>exact aq h1
 |some v=>
  refine af (aP h1 (fun _ s2 h2=>af (aP h2 (fun _ s3 h3=>af (aP h3 (fun ok s4 h4=>?_) fun _ _ z=>z.elim)) fun _ _ z=>z.elim)) fun _ _ z=>z.elim);cases ok with
  |false=>exact aq ⟨rfl,h4⟩
  |true=>
   exact af (af (aP h4 (fun y s5 h5=>af (aP h5 (fun _ s6 h6=>aq (aq ⟨rfl,h6⟩)) fun _ _ z=>z.elim)) fun _ _ z=>z.elim))
def CTs(Xc:Cx)(ifs:List Expr)(t:TT):Prop:=
 ∀(pins:List (Addr×Obj)) (s:ae) (σ:St) (H:Hp) (Q:Bool→Hp→Prop),Inv Xc pins σ H s→t σ H Q→
  wpAny (model Xc.prog Xc.w) Xc.A (forIn ifs true fun c r=>if r=true then do let ok ←isTrue c Xc.env (eval c Xc.env);pure (dn ok)else pure (dn r)) (TP Xc pins σ Q) Xc.xe s
def jQ:TT:=fun _ H Q=>Q true H
theorem zj{Xc:Cx}:CTs Xc [] jQ:=fun _ _ _ H _ I q=>wpAny_tests_nil ⟨H,I,q⟩
theorem xiy{Xc:Cx}{c:Expr}{t:TT}(h:PT Xc c t):CTs Xc [c] t:=fun pins s σ H Q I q=>wpAny_tests_one (h pins s σ H Q I q)
abbrev CW:=Nat→Nat→List V→Hp→Prop
@[irreducible] def yo(J:It)(caps:St)(tt:TT)(te:TE)(Q:VK)(H2:Hp):Prop:=∀D,H2 D=none→∃W:CW,(∃m,W 0 m [] (upd H2 D (.lst [])))∧
 ∀i m acc H3,W i m acc H3→H3 D=some (.lst acc)∧((J.stop i H3∧Q (.ref D) H3)∨(J.go i H3∧acc.length<ay∧∀v H4,J.yld i H3 v H4→tt (some v::caps) H4 fun b H5=>
  (b=true→te (some v::caps) H5 fun u H6=>H6 D=some (.lst acc)∧∃m',m'<m∧W (i+1) m' (acc++[u]) (upd H6 D (.lst (acc++[u]))))∧(b=false→∃m',m'<m∧W (i+1) m' acc H5)))
def xfp(cap:List Nat)(wi:TI)(tt:TT)(te:TE):TE:=fun σ H Q=>wi σ H fun J H2=>yo J (zo σ cap) tt te Q H2
section
variable {X:Cx} {scope:Scope} {x:Str} {cap:List Nat} {ys:List Str} {elt iter:Expr} {ifs:List Expr} {px pos:Pos} {wi:TI} {tt:TT} {te:TE}
theorem xbB(B:ym X scope x cap ys)(hc:X.calm=true)(he:∀C s H fp,PE (X.blk scope C (x::ys) s H fp) elt te)(ht:∀C s H fp,CTs (X.blk scope C (x::ys) s H fp) ifs tt)
  {pins:List (Addr×Obj)} {σ:St} {s₂:ae} {Q:VK} {RR:Value→Addr→fN→ae→Prop} {itv:Value} {E:Value→ae→Prop}
  (hp:PIE X pins σ (.Name x px) (fun J H2=>yo J (zo σ cap) tt te Q H2) itv s₂)
  (hR:∀(D C:Addr) (H':Hp) (s':ae),Inv X pins σ H' s'→(∃m,s'.heap.Ns C m)→H' C=none→C≠X.env.locals→X.s₀.heap.objs.size≤C→(∀z c,X.env.cells.lookup z=some c→c≠C)→(∀p∈X.pn++pins,p.1≠C)→Q (.ref D) H'→RR (.ref D) C (.ok .next) s'):
  wpAny (model X.prog X.w) X.A (newList []) (fun acc s₃=>wpAny (model X.prog X.w) X.A (gg scope X.env.globals (yy X.env.cells scope.names []) [] X.env.qual none .none (some X.env)) (fun cenv s₄=>
   df (model X.prog X.w) X.A (.compStart (.ListComp elt [⟨.Name x px,iter,ifs,0⟩] scope pos) 0 itv acc {cenv with scope:=eI scope X.env}) (RR acc cenv.locals) s₄) E s₃) E s₂:=by
 obtain⟨it,fp,tn,J,H2,e,I2,T,st2,f2,hw⟩:=hp;subst e;unfold yo at hw;refine cc (wpAny_newFunctionEnv B.nocell (by intro y hy;simp at hy) (fun h₁ hns₁ hsb₁=>?_) B.kind);dsimp only at hns₁ hsb₁⊢;generalize hG:s₂.heap.push {cls:=.type "list",dict:=none,data:=.seq ([]:List Value).toArray}=G at hns₁ hsb₁⊢;have hsz:G.objs.size=s₂.heap.objs.size+1:=by rw[←hG,fm]
 have hCle:s₂.heap.objs.size≤G.objs.size:=by lia
 have hDC:s₂.heap.objs.size≠G.objs.size:=by lia
 have old:∀b o,s₂.heap.get? b=some o→h₁.get? b=some o:=fun b o q=>by
  have lt:=aG q;refine hsb₁.extBut b o (bc (az lt hCle)) (au _ ?_);rw[←hG];exact au _ q
 have accAt:h₁.get? s₂.heap.objs.size=some {cls:=.type "list",data:=.seq ([]:List Value).toArray}:=by
  refine hsb₁.extBut _ _ hDC (au _ ?_);rw[←hG];exact ba _ rfl
 have hfp:∀b∈fp,b<s₂.heap.objs.size:=fun b hb=>by
  obtain⟨o,ho,_⟩:=T.obj _ _ st2 b hb;exact aG ho
 obtain⟨W,⟨m0,w0⟩,turn⟩:=hw s₂.heap.objs.size (I2.hok.fresh (aD _));generalize htk:s₂.toks+([]:List (Str×Value)).length=tk;have I0:=B.start (tk:=tk) (C:=G.objs.size) I2 f2 (aD _) hCle hDC old ⟨_,hns₁⟩ accAt hfp;have st0:tn 0 h₁:=T.keep _ _ _ st2 fun b hb o q=>old b o q
 -- what stays true of the iterator's objects
 have f3:∀{H':Hp},(∀b∈fp,H' b=none)→∀b∈fp,zV (X.blk scope G.objs.size (x::ys) s₂ H2 fp) [] H' b:=fun hn b hb=>by
  obtain⟨f0,f1,f2',f3',f4,f5⟩:=f2 b hb;refine⟨hn b hb,bc (az (hfp b hb) hCle),fun hs=>?_,.inl hb,fun z c q=>f4 z c (B.sub I2.ok q),fun p hp=>absurd (show p∈([]:List (Addr×Obj))from hp) (by simp)⟩;rcases ax.mp (I2.stkSub b hs)with q|q
  ·exact f1 q
  ·exact f2' q
 have n0:∀b∈fp,upd H2 s₂.heap.objs.size (.lst []) b=none:=fun b hb=>by
  rw[xH (bc (hfp b hb))];exact(f2 b hb).1
 have loop:∀sx:ae,sx={s₂ with heap:=h₁,toks:=tk}→
   df (model X.prog X.w) X.A (.compLoop (.ListComp elt [⟨.Name x px,iter,ifs,0⟩] scope pos) 0 (.ref it) (.ref s₂.heap.objs.size) (ef scope (yy X.env.cells scope.names []) G.objs.size X.env)) (RR (.ref s₂.heap.objs.size) G.objs.size) sx:=by
  rintro sx rfl;refine xfo (fun n s'=>∃i acc H',Inv (X.blk scope G.objs.size (x::ys) s₂ H2 fp) [] (none::zo σ cap) H' s'∧tn i s'.heap∧(∀b∈fp,H' b=none)∧W i n acc H') ?_ m0 ⟨0,[],_,I0,st0,n0,w0⟩;rintro n s3 ⟨i,acc,H3,I3,st3,fr3,w3⟩;obtain⟨hD3,alt⟩:=turn i n acc H3 w3;rcases alt with⟨stop,q⟩|⟨go,hlen,step⟩
  ·refine aP (T.done (X.blk scope G.objs.size (x::ys) s₂ H2 fp) rfl rfl rfl hc i [] s3 _ H3 (fun _ _=>False) I3 (f3 fr3) st3 stop) (fun r s4 ⟨hr,I4⟩=>?_) fun _ _ z=>z.elim;subst hr;obtain⟨g1,g2,g3,g4,g5⟩:=ym.far I2 hCle I4;obtain⟨m4,hm4,_⟩:=I4.loc;exact hR _ _ H3 s4 (B.back I2 f2 I4) ⟨m4,hm4⟩ g1 g2 g3 g4 g5 q
  ·refine aP (T.item (X.blk scope G.objs.size (x::ys) s₂ H2 fp) rfl rfl rfl hc i [] s3 _ H3 (fun _ _=>False) I3 (f3 fr3) st3 go) (fun r s4 ⟨u,hr,h4⟩=>?_) fun _ _ z=>z.elim;subst hr;refine aP h4 (fun _ s4 ⟨v,H4,I4,rv,y4,st4,fr4⟩=>?_) fun _ _ z=>z.elim;have I4':=I4.pinned (f3 fr4) (T.obj _ _ st4);refine eK (uI (X:=X.blk scope G.objs.size (x::ys) s₂ H2 fp) (i:=0) I4' B.nd rfl (.inl (cU B.lx)) rv (fun s5 I5=>?_) (.inr (cU B.lx)));have I5':Inv (X.blk scope G.objs.size (x::ys) s₂ H2 fp) ([]++yu fp s4.heap) (some v::zo σ cap) H4 s5:=I5;refine aP (ht _ _ _ _ _ s5 _ H4 _ I5' (step v H4 y4)) (fun ok s6 ⟨H6,I6,q6⟩=>?_) fun _ _ z=>z.elim;have pinned:∀{σ7:St} {H7:Hp} {s7:ae},Inv (X.blk scope G.objs.size (x::ys) s₂ H2 fp) ([]++yu fp s4.heap) σ7 H7 s7→tn (i+1) s7.heap∧∀b∈fp,H7 b=none:=fun{σ7 H7 s7} I7=>by
    refine⟨T.keep _ _ _ st4 fun b hb o e=>(I7.pin (b,o) (av _ (av _ (yJ hb e)))).1,fun b hb=>?_⟩;obtain⟨o,e,d⟩:=T.obj _ _ st4 b hb;exact(I7.pin (b,o) (av _ (av _ (yJ hb e)))).2.1
   have weak:∀{H7:Hp} {s7:ae},Inv (X.blk scope G.objs.size (x::ys) s₂ H2 fp) ([]++yu fp s4.heap) (some v::zo σ cap) H7 s7→Inv (X.blk scope G.objs.size (x::ys) s₂ H2 fp) [] (none::zo σ cap) H7 s7:=fun I7=>
    (I7.unpinned (pins:=[])).weak rfl fun j z e=>by
     cases j with
     |zero=>simp at e
     |succ j=>simpa using e
   cases ok with
   |false=>
    rw[if_neg aM];obtain⟨m',hm',w'⟩:=q6.2 rfl;exact⟨m',hm',i+1,acc,H6,weak I6,(pinned I6).1,(pinned I6).2,w'⟩
   |true=>
    rw[if_pos rfl];refine aP (he _ _ _ _ _ s6 _ H6 _ I6 (q6.1 rfl)) (fun y s7 ⟨z,H7,I7,rz,hD7,m',hm',w'⟩=>?_) fun _ _ z=>z.elim;refine aP (yH (X:=X.blk scope G.objs.size (x::ys) s₂ H2 fp) _ s7 _ H7 (.ref s₂.heap.objs.size) [z] (.ref s₂.heap.objs.size) [y] (fun _ H8=>H8=upd H7 s₂.heap.objs.size (.lst (acc++[z]))) I7 rfl (.cons rz .nil) ⟨_,acc,z,rfl,rfl,hD7,hlen,rfl⟩) (fun _ s8 ⟨_,H8,I8,_,e8⟩=>?_) fun _ _ z=>z.elim;subst e8;exact⟨m',hm',i+1,_,_,weak I8,(pinned I8).1,(pinned I8).2,w'⟩
 exact codeAny_compStart_list (loop _ rfl) (T.self _ 0 _ _ _ st0 (loop _ rfl))
theorem zD(B:ym X scope x cap ys)(hc:X.calm=true)(hi:PI X (.Name x px) iter wi)(he:∀C s H fp,PE (X.blk scope C (x::ys) s H fp) elt te)(ht:∀C s H fp,CTs (X.blk scope C (x::ys) s H fp) ifs tt)
  (hs:∀x,cQ iter X.env x=pure x:=by intro _;rfl):PE X (.ListComp elt [⟨.Name x px,iter,ifs,0⟩] scope pos) (xfp cap wi tt te):=by
 intro pins s σ H Q I h;rw[eval_ListComp];refine fQ (use:=none) rfl hs (vU (B.clos I.ok)) B.kind B.locs ?_;refine thn (hi pins s σ H _ I h) fun v s1 h1=>thn h1 fun itv s2 h2=>?_;refine xbB (Q:=Q) (RR:=fun acc C=>compPost (model X.prog X.w) X.A X.xe none (EP X pins σ Q) acc C) B hc he ht h2 ?_;rintro D C H' s' J ⟨m,hm⟩ g1 g2 g3 g4 g5 q;exact⟨m,hm,fun h' sb=>⟨.ref D,H',J.turned (t':=s'.toks) (fun b o hb e=>(sb.2 b hb).trans e) g1 g2 (.inr g3) g4 g5,rfl,q⟩⟩
theorem xbC{i:Nat}{y:Str}{pos' spos:Pos}(B:ym X scope x cap ys)(hc:X.calm=true)(hN:X.N.Nodup)(hi:X.N[i]? =some y)(hy:X.env.scope.names.lookup y=some .local)(hit:PI X (.Name x px) iter wi)
  (he:∀C s H fp,PE (X.blk scope C (x::ys) s H fp) elt te) (ht:∀C s H fp,CTs (X.blk scope C (x::ys) s H fp) ifs tt)
  (hsw:fV (.ListComp elt [⟨.Name x px,iter,ifs,0⟩] scope pos) (some (.Name y pos')) spos.line X.env=pure true:=by rfl)
  (hs:∀x,cQ iter X.env x=pure x:=by intro _;rfl):
  PS X (.Assign [.Name y pos'] (.ListComp elt [⟨.Name x px,iter,ifs,0⟩] scope pos) spos) (xaX (xfp cap wi tt te) (xbp i)):=by
 intro pins s σ H D I h;rw[exec_Assign_Name_used _ _ _ _ hsw];refine af (cD (af ?_));show wpAny _ X.A (do let _ ←gB (.ListComp elt [⟨.Name x px,iter,ifs,0⟩] scope pos) scope X.env _ (newList []) false (eval iter X.env) (some (eZ (.Name y pos') X.env))) _ _ s;refine af (aP (fQ (use:=some (eZ (.Name y pos') X.env)) (Q:=fun _ s'=>SP X pins D .next s') rfl hs (vU (B.clos I.ok)) B.kind B.locs
  (thn (hit pins s σ H _ I h) fun v s1 h1=>thn h1 fun itv s2 h2=>?_)) (fun _ s' hq=>aq (aq hq)) fun _ _ e=>e)
 refine xbB (Q:=fun v H1=>xbp i v σ H1 D.nx) (RR:=fun acc C=>compPost (model X.prog X.w) X.A X.xe (some (eZ (.Name y pos') X.env)) (fun _ s'=>SP X pins D .next s') acc C) B hc he ht h2 ?_;rintro Da C H' s' J ⟨m,hm⟩ g1 g2 g3 g4 g5 q;show wpAny _ X.A (eZ (.Name y pos') X.env (.ref Da)) _ _ s';refine(eK (xck (v:=.ref Da) J hN hi (.inl hy) rfl (fun s4 J4 ⟨a,sb,ha⟩=>?_) (.inr hy)));have hCa:C≠a:=by
  rcases ha with z|z
  ·rw[z];exact g2
  ·exact fun w=>g4 y a z w.symm
 refine⟨m,hm.sameBut sb hCa,fun h' sb'=>?_⟩;exact⟨_,H',J4.turned (t':=s4.toks) (fun b o hb e=>(sb'.2 b hb).trans e) g1 g2 (.inr g3) g4 g5,q⟩
end
end L2
namespace L2
open PySem PySem.Spec PyProof.Rows
def Its(lo st:Int)(n:Nat):It:=⟨fun i _=>i<n,fun i H x H'=>H'=H∧x= .int (lo+i*st),fun i _=>n≤i⟩
theorem xfq{P:aF}{w:World}{K:ah}{tg:Expr}(it:Addr)(lo st:Int)(n:Nat):Turn P w K tg (Its lo st n) [it] it (fun i h=>IsRangeIter h it (lo+(i:Nat)*st) ((n:Int) - (i:Nat)) st) where
 mem:=by simp
 obj:=fun i h q b hb=>by
  have e:b=it:=by simpa using hb
  subst e;exact⟨_,q,fun v z=>by
   have z':Data.fields _=Data.cell v:=z;cases z'⟩
 keep:=fun i h h' q k=>k it (by simp) _ q
 item:=by
  intro X hP hw hK hc i pins s σ H E I hf q hg;subst hP hw hK;obtain⟨f0,f1,f2,f3,f4,f5⟩:=hf it (by simp);refine(Walks.range (prog:=X.prog) (w:=X.w) (I.ok.hd hc) it lo st n).item i s _ _ hg q fun v h' tk hv q' kk=>?_;obtain⟨t,rfl⟩:=hv;have I1:Inv X pins σ H {s with heap:=h',toks:=tk}:=I.turned (fun b o hb e=>kk b o (by simpa using hb) e) f0 f1 f3 f4 f5;exact⟨_,rfl,xbq (s:={s with heap:=h',toks:=tk}) (n:="range_iterator") q' rfl rfl (by decide) ⟨.int (lo+i*st),H,I1,⟨t,rfl⟩,⟨rfl,rfl⟩,q',fun b hb=>(hf b hb).1⟩⟩
 done:=by
  intro X hP hw hK hc i pins s σ H E I hf q hg;subst hP hw hK;obtain⟨f0,f1,f2,f3,f4,f5⟩:=hf it (by simp);exact wpAny_pyNext_range_end (I.ok.hd hc) q (by have:n≤i:=hg;lia) fun h' eb=>⟨rfl,I.turned (t':=s.toks) (fun b o hb e=>eb b o hb e) f0 f1 f3 f4 f5⟩
 self:=fun _ _ _ _ _ q h=>wpAny_pyIter_rangeiter q h
theorem xgk{P:aF}{w:World}{K:ah}{tg:Expr}(it:Addr)(lo st:Int)(n:Nat):Turn P w K tg (Its lo st n) [it] it (fun i h=>IsLongIter h it (lo+(i:Nat)*st) ((n:Int) - (i:Nat)) st) where
 mem:=by simp
 obj:=fun i h q b hb=>by
  have e:b=it:=by simpa using hb
  subst e;exact⟨_,q,fun v z=>by
   have z':Data.fields _=Data.cell v:=z;cases z'⟩
 keep:=fun i h h' q k=>k it (by simp) _ q
 item:=by
  intro X hP hw hK hc i pins s σ H E I hf q hg;subst hP hw hK;obtain⟨f0,f1,f2,f3,f4,f5⟩:=hf it (by simp);refine(Walks.longrange (prog:=X.prog) (w:=X.w) (I.ok.hd hc) it lo st n).item i s _ _ hg q fun v h' tk hv q' kk=>?_;obtain⟨t,rfl⟩:=hv;have I1:Inv X pins σ H {s with heap:=h',toks:=tk}:=I.turned (fun b o hb e=>kk b o (by simpa using hb) e) f0 f1 f3 f4 f5;exact⟨_,rfl,xbq (s:={s with heap:=h',toks:=tk}) (n:="longrange_iterator") q' rfl rfl (by decide) ⟨.int (lo+i*st),H,I1,⟨t,rfl⟩,⟨rfl,rfl⟩,q',fun b hb=>(hf b hb).1⟩⟩
 done:=by
  intro X hP hw hK hc i pins s σ H E I hf q hg;subst hP hw hK;obtain⟨f0,f1,f2,f3,f4,f5⟩:=hf it (by simp);exact wpAny_pyNext_long_end (I.ok.hd hc) q (by have:n≤i:=hg;lia) fun h' eb=>⟨rfl,I.turned (t':=s.toks) (fun b o hb e=>eb b o hb e) f0 f1 f3 f4 f5⟩
 self:=fun _ _ _ _ _ q h=>wpAny_pyIter_longiter q h
def zM(a b c:Int):Nat:=(b8 a b c).toNat
theorem xdl(a b c:Int):0≤b8 a b c:=by
 unfold b8
 split
 ·split
  ·have:=Int.ediv_nonneg (a:=b - a - 1) (b:=c) (by lia) (by lia);lia
  ·lia
 ·split
  ·have:=Int.ediv_nonneg (a:=a - b - 1) (b:= -c) (by lia) (by lia);lia
  ·lia
theorem xgl(a b c:Int):((zM a b c:Nat):Int)=b8 a b c:=fh (xdl a b c)
theorem xa5(a b:Int):zM a b 1=(b - a).toNat:=by
 unfold zM b8;simp only[show(1:Int) > 0 by decide,if_true]
 split<;> simp<;> lia
section
variable {X:Cx} {tg:Expr}
theorem xgm{pins:List (Addr×Obj)}{σ:St}{H:Hp}{s:ae}{R:It→Hp→Prop}{E:Value→ae→Prop}{a b c:Int}{t u v:Tok}{r:Addr}(I:Inv X pins σ H s)(hr:IsRange s.heap r a b c t u v)
  (q:R (Its a c (zM a b c)) H):wpAny (model X.prog X.w) X.A (pyIter (.ref r)) (PIE X pins σ tg R) E s:=by
 have e2:b8 a b c=((zM a b c:Nat):Int) - ((0:Nat):Int):=by rw[xgl];simp
 have e1:a=a+((0:Nat):Int)*c:=by simp
 have fp:∀b'∈[s.heap.objs.size],zV X pins H b':=fun b' hb=>by
  have e:b'=s.heap.objs.size:=by simpa using hb
  subst e;exact I.fpOk (aD _) (I.hok.fresh (aD _))
 cases hsm:Builtin.Range.small a b c with
 |true=>
  refine wpAny_pyIter_range hr hsm ⟨s.heap.objs.size,[s.heap.objs.size],_,_,H,rfl,I.kept (t':=s.toks) fun b o e=>au _ e,xfq _ a c (zM a b c),?_,fp,q⟩;show IsRangeIter _ _ (a+((0:Nat):Int)*c) (((zM a b c:Nat):Int) - ((0:Nat):Int)) c;rw[←e1,←e2];exact ba _ rfl
 |false=>
  refine wpAny_pyIter_longrange hr hsm ⟨s.heap.objs.size,[s.heap.objs.size],_,_,H,rfl,I.kept (t':=s.toks) fun b o e=>au _ e,xgk _ a c (zM a b c),?_,fp,q⟩;show IsLongIter _ _ (a+((0:Nat):Int)*c) (((zM a b c:Nat):Int) - ((0:Nat):Int)) c;rw[←e1,←e2];exact ba _ rfl
def xfr(k:Int→Hp→Prop):List V→Hp→Prop:=fun vs H=>match vs with
 |[.int j]=>k j H
 |_=>False
def xc5(k:Int→Int→Hp→Prop):List V→Hp→Prop:=fun vs H=>match vs with
 |[.int i,.int j]=>k i j H
 |_=>False
theorem xeK{k:Int→Hp→Prop}{vs:List V}{H:Hp}(h:xfr k vs H):∃j,vs=[.int j]∧k j H:=by
 unfold xfr at h
 split at h
 ·exact⟨_,rfl,h⟩
 ·exact h.elim
theorem xdm{k:Int→Int→Hp→Prop}{vs:List V}{H:Hp}(h:xc5 k vs H):∃i j,vs=[.int i,.int j]∧k i j H:=by
 unfold xc5 at h
 split at h
 ·exact⟨_,_,rfl,h⟩
 ·exact h.elim
theorem xiz{us:List Value}{i:Int}(r:Vals [.int i] us):∃t,us=[.int i t]:=by
 obtain⟨u,rfl,t,rfl⟩:=Vals.one r;exact⟨t,rfl⟩
theorem xiA{us:List Value}{i j:Int}(r:Vals [.int i,.int j] us):∃t t',us=[.int i t,.int j t']:=by
 obtain⟨u,v,rfl,⟨t,rfl⟩,⟨t',rfl⟩⟩:=Vals.two r;exact⟨t,t',rfl⟩
def xkj(ta:TA):TI:=fun σ H R=>ta σ H (xfr fun j H1=>R (Its 0 1 (zM 0 j 1)) H1)
def xkk(ta:TA):TI:=fun σ H R=>ta σ H (xc5 fun i j H1=>R (Its i 1 (zM i j 1)) H1)
theorem xct{a:Expr}{ta:TA}{p pos:Pos}(hg:Gl X "range")(hm:X.mg "range"=none)(ha:PA X [a] ta)(hs:aT [a] X.env=[(false,eval a X.env)]:=by rfl):PI X tg (.Call (.Name "range" p) [a] [] pos) (xkj ta):=by
 intro pins s σ H R I h;refine Call_ (jH I hg hm boot_range (dF (thn (ha pos pins s σ H _ I h) fun us s1 ⟨vs,H1,I1,r1,q1⟩=>?_) hs rfl));obtain⟨j,rfl,q⟩:=xeK q1;obtain⟨t,rfl⟩:=xiz r1;refine call_range_1 (xgm (I1.kept (t':=_) fun b o e=>au _ e) (IsRange.new ..) q)
theorem xgn{a b:Expr}{ta:TA}{p pos:Pos}(hg:Gl X "range")(hm:X.mg "range"=none)(ha:PA X [a,b] ta)(hs:aT [a,b] X.env=[(false,eval a X.env),(false,eval b X.env)]:=by rfl)(hs2:aT [b] X.env=[(false,eval b X.env)]:=by rfl):
  PI X tg (.Call (.Name "range" p) [a,b] [] pos) (xkk ta):=by
 intro pins s σ H R I h;refine Call_ (jH I hg hm boot_range (dF (thn (ha pos pins s σ H _ I h) fun us s1 ⟨vs,H1,I1,r1,q1⟩=>?_) (by rw[hs,hs2]) (by rw[hs2];rfl)));obtain⟨i,j,rfl,q⟩:=xdm q1;obtain⟨t,t',rfl⟩:=xiA r1;exact call_range_2 (xgm (I1.kept (t':=_) fun b o e=>au _ e) (IsRange.new ..) q)
end
end L2
namespace L2
open PySem PySem.Spec PyProof.Rows
mutual
inductive Rp(K:ah)(H:Hp):V→bq→Prop
 |non:Rp K H .non .none
 |bl (b:Bool):Rp K H (.bl b) (.bool b)
 |int (i:Int):Rp K H (.int i) (.int i)
 |str (x:Str):Rp K H (.str x) (.str x)
 |lst {a:Addr} {xs:List V} {ds:List bq}:SqL K H a xs→Rps K H xs ds→Rp K H (.ref a) (.list ds)
 |tup {a:Addr} {xs:List V} {ds:List bq}:SqT K H a xs→Rps K H xs ds→Rp K H (.ref a) (.tuple ds)
inductive Rps(K:ah)(H:Hp):List V→List bq→Prop
 |nil:Rps K H [] []
 |cons {x:V} {d:bq} {xs:List V} {ds:List bq}:Rp K H x d→Rps K H xs ds→Rps K H (x::xs) (d::ds)
end
theorem xb.seqT{K:ah}{H H':Hp}{a:Addr}{xs:List V}(e:xb H H')(h:SqT K H a xs):SqT K H' a xs:=by
 rcases h with(h|⟨o,h⟩)|h
 ·exact .inl (.inl (e _ _ h))
 ·exact .inl (.inr ⟨o,e _ _ h⟩)
 ·exact .inr h
section
variable {X:Cx} {pins:List (Addr×Obj)} {σ:St} {H:Hp} {s:ae}
mutual
theorem Rp.reads(I:Inv X pins σ H s):∀{v:V} {d:bq} {u:Value},Rp X.K H v d→RelV v u→∃as,Reads s.heap u d as
 |_,_,u,.non,r=>by cases (show u=bg from r);exact⟨_,.none⟩
 |_,_,u,.bl b,r=>by cases (show u=cF b from r);exact⟨_,.bool b⟩
 |_,_,u,.int i,r=>by obtain⟨t,e⟩:=(show∃t,u=fq i t from r);subst e;exact⟨_,.int i t⟩
 |_,_,u,.str x,r=>by obtain⟨t,e⟩:=(show∃t,u=d8 x t from r);subst e;exact⟨_,.str x t⟩
 |_,_,u,.lst (a:=a) q rr,r=>by
  cases (show u=aS a from r);obtain⟨its,rv,p,hz⟩:=I.list q;obtain⟨as,ra⟩:=Rps.reads I rr rv;obtain⟨o,ho,hc,n,hd⟩:=p.isList;exact⟨_,.list ho hc hd (by simpa using ra)⟩
 |_,_,u,.tup (a:=a) q rr,r=>by
  cases (show u=aS a from r);obtain⟨its,rv,p,hz⟩:=I.tuple q;obtain⟨as,ra⟩:=Rps.reads I rr rv;obtain⟨o,ho,hc,n,hd⟩:=p;exact⟨_,.tuple ho hc hd (by simpa using ra)⟩
theorem Rps.reads(I:Inv X pins σ H s):∀{v:List V} {d:List bq} {u:List Value},Rps X.K H v d→Vals v u→∃as,ReadsAll s.heap u d as
 |_,_,_,.nil,.nil=>⟨_,.nil⟩
 |_,_,_,.cons q rr,.cons r t=>by
  obtain⟨as,h1⟩:=Rp.reads I q r;obtain⟨bs,h2⟩:=Rps.reads I rr t;exact⟨_,.cons h1 h2⟩
end
end
def xhq(K:ah)(f:Bool→Bool):R2:=fun x y H Q=>∃da db,Rp K H x da∧Rp K H y db∧c8 da=true∧c8 db=true∧Q (.bl (f (cH da db))) H
section
variable {X:Cx}
theorem xbD(hu:X.A.units+64<cLine):OpR X (bG .NotEq) (xhq X.K fun b=> !b):=by
 intro pins s σ H x y v u Q I rx ry q;obtain⟨da,db,hx,hy,sa,sb,q⟩:=q;obtain⟨as,ra⟩:=hx.reads I rx;obtain⟨bs,rb⟩:=hy.reads I ry;exact ne_dataH ra rb sa sb hu ⟨.bl (!PyData.eqv da db),H,I,rfl,q⟩
def xhr:V→Option Value
 | .ty n=>some (.type n)
 | .ref a=>some (.ref a)
 |_=>none
theorem xdn{c:V}{cv v:Value}(h:xhr c=some cv)(r:RelV c v):v=cv:=by
 cases c with
 |ref a=>cases h;exact r
 |ty n=>cases h;exact r
 |_=>cases h
def xjD(K:ah):List V→Hp→VK→Prop:=fun xs H Q=>∃x c t cv b,xs=[x,c]∧xhr c=some cv∧xN K H x t∧bK K t cv=some b∧Q (.bl b) H
theorem zz:yj X (.builtin "isinstance") (xjD X.K):=by
 intro pins s σ H xs us Q I r h;obtain⟨x,c,t,cv,b,rfl,rc,ty,e,q⟩:=h;obtain⟨u,v,rfl,ru,rv⟩:=Vals.two r;have e2:=xdn rc rv;subst e2;exact xf7 I ru ty e fun tk=>⟨.bl b,H,I.tok _,rfl,q⟩
structure xhs(K:ah)(C:Addr)(m:Str)(f:Addr):Prop where
 sp:W.specialIn K (.ref C) "__getattribute__"=some (some (.builtin "type.__getattribute__"))
 rd:W.readsIn K C (.type "type")=true
 fd:W.findCls K (.ref C) (.type "type") m=some (.val (.ref f))
 kp:dH K (.ref f)=true
theorem xeL{x m:Str}{C f:Addr}{fd:aK}{ps:List Str}{sp:Sp}{dvs:List V}{ds:List Value}{E:XK}{CX:CXT}{k:Nat}{p apos pos:Pos}{e:Expr}{es:List Expr}{t:TA}{pl:Sem Bool}
  (hg:Gl X x) (hm:X.mg x=some (.ref C)) (M:xhs X.K C m f) (F:xA X.prog X.w X.K X.mg X.base CX k f fd ps sp) (hr:xZ k X.A) (hb:Binds X.K fd ps ds) (hd:Vals dvs ds) (hx:Passes CX X E) (ha:PA X (e::es) t)
  (hst:aT (e::es) X.env=(false,eval e X.env)::aT es X.env:=by rfl) (hpl:(cg pos (aT es X.env)).any (·.1)=false:=by rfl) (hdb:(x==("__debug__":Str))=false:=by decide)
  (ht:eval (.Call (.Attribute (.Name x p) m apos) (e::es) [] pos) X.env=(do
   let ov ←eval (.Name x p) X.env
   standAt apos.atName
   let(f,first) ←f9 [ov] (getMethod ov m pl)
   callWith pos f first (cg pos (aT (e::es) X.env)) (backToKw pos (fY [] X.env))):=by rfl):
  PE X (.Call (.Attribute (.Name x p) m apos) (e::es) [] pos) (xc1 sp dvs E t):=by
 intro pins s σ H Q I h;refine W.methodCall_KW (pl:=pl) (yp I hg hm ?_ hdb) ht;refine W.method_cls I.kIn M.sp (W.cls_value I.kIn M.rd M.fd rfl ?_);have I1:=I.tok (s.toks+1);refine ed (first:=[]) (h₀:=X.base) I.ok.mod.kin M.kp (thn (ha pos pins _ σ H _ I1 h) fun us s2 ⟨vs,H2,I2,r,q2⟩=>⟨I2.kIn,?_⟩) hst hpl;exact xda F hr hb hd hx I2 r q2
end
end L2
namespace L2
open PySem PySem.Spec PyProof.Rows
theorem yc:bJ "len"=some (.builtin "len"):=by decide+kernel
theorem xjE:bJ "min"=some (.builtin "min"):=by decide+kernel
theorem xgo:bJ "abs"=some (.builtin "abs"):=by decide+kernel
theorem xS:bJ "isinstance"=some (.builtin "isinstance"):=by decide+kernel
theorem xgp:bJ "all"=some (.builtin "all"):=by decide+kernel
theorem xeM:bJ "list"=some (.type "list"):=by decide+kernel
theorem yL:bJ "tuple"=some (.type "tuple"):=by decide+kernel
theorem vI:bJ "int"=some (.type "int"):=by decide+kernel
theorem xiB:bJ "bool"=some (.type "bool"):=by decide+kernel
theorem zr:bJ "str"=some (.type "str"):=by decide+kernel
theorem xiC{f:Str}{v:V}{fs:List (Str×V)}{n:Nat}(h:fs.length<n):(yX f v fs).length<n+1:=ft (vq f v fs) (by lia)
section
variable {X:Cx} {a b c:Expr} {ta tb:TE} {pos:Pos}
theorem xjF(hc:X.calm=true):yj X (.builtin "min") (fun xs H Q=>xc5 (fun i j H1=>Q (.int (min i j)) H1) xs H):=(xf3 hc).imp fun xs H Q q=>by
 obtain⟨i,j,rfl,q⟩:=xdm q;refine⟨i,j,rfl,?_⟩;have e:(if j<i then j else i)=min i j:=by split<;> lia
 rw[e];exact q
theorem xh8:yj X (.builtin "abs") (fun xs H Q=>xfr (fun i H1=>Q (.int (i.natAbs:Int)) H1) xs H):=xhe.imp fun xs H Q q=>by
 obtain⟨i,rfl,q⟩:=xeK q;refine⟨i,rfl,?_⟩;have e:(if i<0 then -i else i)=(i.natAbs:Int):=by split<;> lia
 rw[e];exact q
def isN:V→Bool
 | .non=>true
 |_=>false
theorem xiD(x:V):decide (x= .non)=isN x:=by cases x<;> simp[isN]
def xkl(ta:TE):TT:=fun σ H Q=>ta σ H fun x H1=>Q (isN x) H1
theorem xjG{j pos'}(ha:PE X a ta):PT X (.Compare a [.Is] [.Constant .none j pos'] pos) (xkl ta):=(xjh (xjg ha)).imp fun σ H Q q=>by
 show ta σ H _;have e:(fun x H1=>∃c,V.bl (decide (x=V.non))= .bl c∧Q c H1)=fun x H1=>Q (isN x) H1:=by
  funext x H1;rw[xiD];apply propext;exact⟨fun⟨c,e,q⟩=>by cases e;exact q,fun q=>⟨_,rfl,q⟩⟩
 rw[e];exact q
def kB0(g:Bool→Bool→V):R2:=fun x y H Q=>match x with
 | .bl i=>(match y with
  | .bl j=>Q (g i j) H
  |_=>False)
 |_=>False
theorem xiE{g:Bool→Bool→V}{x y:V}{H:Hp}{Q:VK}(q:kB0 g x y H Q):∃i j,x= .bl i∧y= .bl j∧Q (g i j) H:=by
 cases x with
 |bl i=>
  cases y with
  |bl j=>exact⟨i,j,rfl,rfl,q⟩
  |_=>exact bu q
 |_=>exact bu q
theorem xkm:OpR X (bG .NotEq) (kB0 fun i j=>.bl (!decide (i=j))):=xe8.imp fun x y H Q q=>by
 obtain⟨i,j,rfl,rfl,q⟩:=xiE q;exact⟨rfl,by rw[xbx (p:=i=j) ⟨fun e=>V.bl.inj e,fun e=>by rw[e]⟩];exact q⟩
end
theorem xcu{lo st:Int}{n:Nat}{g:TG}{tb:TS}{D:Ends}{σ:St}{H:Hp}(Pv:Nat→St→Hp→Prop)(h0:Pv 0 σ H)
  (hs:∀(i:Nat) σ H,i<n→Pv i σ H→g (.int (lo+i*st)) σ H fun σ2 H2=>tb {D with nx:=Pv (i+1),ct:=Pv (i+1),bk:=D.nx} σ2 H2) (hd:∀σ H,Pv n σ H→D.nx σ H):vk (Its lo st n) g tb D σ H:=by
 unfold vk;refine⟨fun i m σ H=>m=n - i∧i≤n∧Pv i σ H,⟨n,by simp,bV _,h0⟩,?_⟩;rintro i m σ H ⟨rfl,hi,p⟩
 by_cases hlt:i<n
 ·refine .inr ⟨hlt,Pv (i+1),fun σ' H' p'=>⟨n - (i+1),by lia,rfl,hlt,p'⟩,fun x H' y=>?_⟩;obtain⟨e,y⟩:=y;subst e y;exact hs i σ _ hlt p
 ·have e:i=n:=by lia
  subst e;exact .inl ⟨aD _,hd σ H p⟩
theorem zN{K:ah}{l:Addr}{xs:List V}{g:TG}{tb:TS}{D:Ends}{σ:St}{H:Hp}(Pv:Nat→St→Hp→Prop)(h0:Pv 0 σ H)(hl:∀i σ H,i≤xs.length→Pv i σ H→SqL K H l xs)
  (hs:∀i x σ H,xs[i]? =some x→Pv i σ H→g x σ H fun σ2 H2=>tb {D with nx:=Pv (i+1),ct:=Pv (i+1),bk:=D.nx} σ2 H2) (hd:∀σ H,Pv xs.length σ H→D.nx σ H):vk (Itl K l) g tb D σ H:=by
 unfold vk;exact xhb Pv h0 hl hs hd
theorem xgq{K:ah}{l:Addr}{xs:List V}{g:TG}{tb:TS}{D:Ends}{σ:St}{H:Hp}(Pv:Nat→St→Hp→Prop)(h0:Pv 0 σ H)(hl:∀i σ H,i≤xs.length→Pv i σ H→SqT K H l xs)
  (hs:∀i x σ H,xs[i]? =some x→Pv i σ H→g x σ H fun σ2 H2=>tb {D with nx:=Pv (i+1),ct:=Pv (i+1),bk:=D.nx} σ2 H2) (hd:∀σ H,Pv xs.length σ H→D.nx σ H):vk (Itt K l) g tb D σ H:=by
 unfold vk;exact xig Pv h0 hl hs hd
theorem xb.new{H:Hp}{p:Addr}{o:HO}(h:H p=none):xb H (upd H p o):=fun b u e=>by rw[xH (zH e h)];exact e
theorem xb.put{H H':Hp}{p:Addr}{o:HO}(e:xb H H')(h:H p=none):xb H (upd H' p o):=fun b u q=>by rw[xH (zH q h)];exact e b u q
theorem xb.at{H H':Hp}{p:Addr}{o:HO}(e:xb H H')(h:H p=some o):H' p=some o:=e p o h
end L2
namespace L2
open PySem PySem.Spec PyProof.Rows
theorem xb.of_eq{H H':Hp}{p:Addr}{o:HO}(h:H p=none)(e:upd H p o=H'):xb H H':=by rw[←e];exact xb.new h
theorem xg{H H':Hp}{p:Addr}{o:HO}(e:upd H p o=H'):H' p=some o:=by rw[←e];exact xn
theorem xb.back{H H':Hp}{p:Addr}(e:xb H H')(h:H' p=none):H p=none:=xb.free e h
theorem xb.wr{H0 H H':Hp}{p:Addr}{o:HO}(s:xb H0 H)(f:H0 p=none)(e:upd H p o=H'):xb H0 H':=by rw[←e];exact s.put f
end L2
namespace L2
open PySem PySem.Spec PyProof.Rows
section
variable {CX:CXT} {P:aF} {w:World} {K:ah} {mg:Str→Option Value} {base:Heap} {N ps fns:List Str} {nm qual:Str} {params:fX} {scope:Scope} {f:Addr} {cd:Value} {clos:List (Str×Addr)} {A:aW} {outer:List Env} {s:ae} {H:Hp} {E:XK} {us:List Value} {vs:List V} {fv:List (Str×V)} {k:Nat}
end
section
variable {X:Cx} {CX:CXT} {k:Nat} {nm qual x:Str} {params:fX} {body:FuncBody} {scope:Scope} {ps:List Str} {sp:List (Str×V)→Sp} {p pos:Pos} {e:Expr} {es:List Expr} {t:TA} {E:XK} {i:Nat}
end
section
variable {X:Cx} {c P:Addr} {qs:List (Pos×Str)} {name q:Str} {params:fX} {scope:Scope} {pos:Pos} {fns:List Str}
end
end L2
namespace L2
open PySem PySem.Spec PyProof.Rows
theorem xkn{X:Cx}{a b:Expr}{pos:Pos}{op:CmpOp}{t:TE}(h:PC X op a b t)(h1:cC op b=false):PT X (.Compare a [op] [b] pos) (cB t):=by
 intro pins s σ H Q I hw;refine eV (thn (h pins s σ H _ I hw) fun v s1 h1=>thn h1 fun u s2 h2=>thn h2 fun c s3 ⟨x,H1,I1,r1,q1⟩=>?_) h1;obtain⟨d,rfl,q⟩:=zX q1;cases r1;exact b9 ⟨H1,I1,q⟩
end L2
namespace L2
open PySem PySem.Spec PyProof.Rows
end L2
namespace L2
open PySem PySem.Spec PyProof.Rows
section
variable {X:Cx}
theorem xbE:∀{bs:List Bool} {us:List Value},Vals (bs.map V.bl) us→us=bs.map cF
 |[],[],_=>rfl
 |[],_::_,h=>by cases h
 |_::_,[],h=>by cases h
 |b::bs,u::us,h=>by
  cases h with
  |cons h1 h2=>
   rw[xbE h2];cases h1;rfl
theorem range_all(bs:List Bool)(d:Bool):(gn bs.length).all (fun i=>bs.getD i d)=bs.all id:=by
 rw[di,bA,bA];constructor
 ·intro h x hx;obtain⟨i,hi,rfl⟩:=List.mem_iff_getElem.mp hx;have:=h i (by simpa using hi);simpa [hi]using this
 ·intro h i hi;have hi':i<bs.length:=by simpa using hi
  have:=h bs[i] (bY hi');simpa [hi']using this
def xko(K:ah)(f:List Bool→Bool):List V→Hp→VK→Prop:=fun xs H Q=>∃p bs,xs=[.ref p]∧SqL K H p (bs.map V.bl)∧Q (.bl (f bs)) H
theorem xef{prog:aF}{w:World}{A:aW}(bs:List Bool):TruthOf prog w A (fun i v=>(bs.map cF).toArray[i]? =some v) (fun i=>bs.getD i true):=by
 intro i v s Q E hP hQ;have e:v= .bool (bs.getD i true):=by
  simp only[List.getElem?_toArray,aJ]at hP;cases q:bs[i]? with
  |none=>rw[q]at hP;cases hP
  |some b=>rw[q]at hP;simp at hP;rw[←hP];simp[List.getD,q]
 rw[e];exact b9 hQ
theorem xcv(hc:X.calm=true):yj X (.builtin "all") (xko X.K fun bs=>bs.all id):=by
 intro pins s σ H xs us Q I r h;obtain⟨p,bs,rfl,hq,q⟩:=h;obtain⟨u,rfl,rx⟩:=vals1 r;cases rx;obtain⟨its,r',pl,hz⟩:=I.list hq;have e:=xbE r';subst e;have hL:=pl.isList;have hlt:p<s.heap.objs.size:=by obtain⟨_,e,_⟩:=hL;exact aG e
 refine call_all_walk (wpAny_pyIter_list hL ⟨_,_,_,_,_,_,fun i=>bs.getD i true,rfl,Walks.list (A:=X.A.in1) (I.ok.hd hc) _ p (bc hlt) (bs.map cF).toArray,⟨⟨_,ba _ rfl,rfl,rfl⟩,hL.push _⟩,xef bs,fun h' tk hk=>?_⟩);refine⟨.bl (bs.all id),H,I.kept (t':=tk) (fun b o e=>hk b o (fun hb=>?_) (au _ e)),?_,q⟩
 ·exact absurd (aG e) (by rw[aw.mp hb];exact cA _)
 ·have e:=range_all bs true;simp only[aC,aa];rw[e];rfl
end
end L2
namespace L2
open PySem PySem.Spec PyProof.Rows
theorem zt{α β:Type}{F:α→β→Prop}{a:α}{b:β}(h:F a b):∀{as:List α} {bs:List β},Paired F as bs→Paired F (as++[a]) (bs++[b])
 |_,_,.nil=>.cons h .nil
 |_,_,.cons x xs=>.cons x (zt h xs)
theorem yP{α β:Type}{F:α→β→Prop}:∀{as:List α} {bs:List β} {i:Nat} {a:α},Paired F as bs→as[i]? =some a→∃b,bs[i]? =some b∧F a b
 |_,_,i,b,.nil,h=>by simp at h
 |_,_,0,b,.cons x xs,h=>by simp at h;subst h;exact⟨_,rfl,x⟩
 |_,_,i+1,b,.cons x xs,h=>by obtain⟨a,h1,h2⟩:=yP (i:=i) xs (by simpa using h);exact⟨a,by simpa using h1,h2⟩
def del(H:Hp)(D:Addr):Hp:=fun b=>if b=D then none else H b
theorem zb{H:Hp}{D:Addr}:del H D D=none:=by unfold del;rw[if_pos rfl]
theorem uf{H:Hp}{D b:Addr}(h:b≠D):del H D b=H b:=by unfold del;rw[if_neg h]
theorem zc{H:Hp}{D:Addr}:xb (del H D) H:=fun b u e=>by
 by_cases h:b=D
 ·rw[h,zb]at e;cases e
 ·rw[uf h]at e;exact e
theorem yt{H:Hp}{D:Addr}{o:HO}:del (upd H D o) D=del H D:=by
 funext b
 by_cases h:b=D
 ·rw[h,zb,zb]
 ·rw[uf h,uf h,xH h]
theorem zZ{H:Hp}{D:Addr}(h:H D=none):del H D=H:=by
 funext b
 by_cases e:b=D
 ·rw[e,zb,h]
 ·rw[uf e]
theorem ua{H H':Hp}{D:Addr}(s:xb H H'):xb (del H D) (del H' D):=fun b u e=>by
 by_cases h:b=D
 ·rw[h,zb]at e;cases e
 ·rw[uf h]at e⊢;exact s b u e
theorem xgr{lo st:Int}{n:Nat}{te:TE}{caps:L2.St}{Q:VK}{H2:Hp}(Pv:Nat→List V→Hp→Prop)(hn:n≤ay)(h0:Pv 0 [] H2)
  (hs:∀(i:Nat) acc H3 H3',i<n→xb H2 H3→xb H3 H3'→Pv i acc H3→∀R:VK,(∀u H6',xb H3' H6'→(∀H6,xb H3 H6→(∀p o,(H3' p=none∨∀ys,o≠HO.lst ys)→H6' p=some o→H6 p=some o)→Pv (i+1) (acc++[u]) H6)→R u H6')→te (some (.int (lo+i*st))::caps) H3' R)
  (hd:∀D acc H H',H2 D=none→H D=none→xb H2 H→xb H H'→Pv n acc H→acc.length=n→H' D=some (.lst acc)→Q (.ref D) H'):yo (Its lo st n) caps jQ te Q H2:=by
 unfold yo;intro D hD;refine⟨fun i m acc H3=>m=n - i∧i≤n∧acc.length=i∧H3 D=some (.lst acc)∧xb H2 (del H3 D)∧Pv i acc (del H3 D),⟨n,by simp,bV _,rfl,xn,?_,?_⟩,?_⟩
 ·rw[yt,zZ hD];exact xb.refl _
 ·rw[yt,zZ hD];exact h0
 rintro i m acc H3 ⟨rfl,hi,hacc,hD3,s3,p3⟩;refine⟨hD3,?_⟩
 by_cases hlt:i<n
 ·refine .inr ⟨hlt,by lia,fun v H4 y=>?_⟩;obtain⟨e,y⟩:=y;subst e y;refine⟨fun _=>?_,fun z=>by cases z⟩;refine hs i acc _ _ hlt s3 zc p3 _ fun u H6' s6 k=>⟨s6.at hD3,n - (i+1),by lia,rfl,hlt,by simp[hacc],xn,?_,?_⟩
  ·rw[yt];exact s3.trans (ua s6)
  ·rw[yt];refine k _ (ua s6) fun p o q1 q2=>?_;rw[uf (fun z=>by
    rcases q1 with q1|q1
    ·rw[z,hD3]at q1;cases q1
    ·rw[z,s6.at hD3]at q2;cases q2;exact q1 _ rfl)]
   exact q2
 ·have e:i=n:=by lia
  subst e;exact .inl ⟨aD _,hd D acc _ H3 hD zb s3 zc p3 hacc hD3⟩
theorem zO{K:ah}{l:Addr}{xs:List V}{te:TE}{caps:L2.St}{Q:VK}{H2:Hp}(Pv:Nat→List V→Hp→Prop)(hl:SqL K H2 l xs)(hn:xs.length≤ay)(h0:Pv 0 [] H2)
  (hs:∀(i:Nat) x acc H3 H3',xs[i]? =some x→xb H2 H3→xb H3 H3'→Pv i acc H3→∀R:VK,(∀u H6',xb H3' H6'→(∀H6,xb H3 H6→(∀p o,(H3' p=none∨∀ys,o≠HO.lst ys)→H6' p=some o→H6 p=some o)→Pv (i+1) (acc++[u]) H6)→R u H6')→te (some x::caps) H3' R)
  (hd:∀D acc H H',H2 D=none→H D=none→xb H2 H→xb H H'→Pv xs.length acc H→acc.length=xs.length→H' D=some (.lst acc)→Q (.ref D) H'):yo (Itl K l) caps jQ te Q H2:=by
 unfold yo;intro D hD;refine⟨fun i m acc H3=>m=xs.length - i∧i≤xs.length∧acc.length=i∧H3 D=some (.lst acc)∧xb H2 (del H3 D)∧Pv i acc (del H3 D),⟨xs.length,by simp,bV _,rfl,xn,?_,?_⟩,?_⟩
 ·rw[yt,zZ hD];exact xb.refl _
 ·rw[yt,zZ hD];exact h0
 rintro i m acc H3 ⟨rfl,hi,hacc,hD3,s3,p3⟩;refine⟨hD3,?_⟩;have q:=(s3.trans zc).seq hl
 by_cases hlt:i<xs.length
 ·have hx:xs[i]? =some xs[i]:=aB hlt;refine .inr ⟨⟨xs,xs[i],q,hx⟩,by lia,fun v H4 y=>?_⟩;obtain⟨e,y⟩:=y;have ev:=y xs q;rw[hx]at ev;cases ev;subst e;refine⟨fun _=>?_,fun z=>by cases z⟩;refine hs i _ acc _ _ hx s3 zc p3 _ fun u H6' s6 k=>⟨s6.at hD3,xs.length - (i+1),by lia,rfl,hlt,by simp[hacc],xn,?_,?_⟩
  ·rw[yt];exact s3.trans (ua s6)
  ·rw[yt];refine k _ (ua s6) fun p o q1 q2=>?_;rw[uf (fun z=>by
    rcases q1 with q1|q1
    ·rw[z,hD3]at q1;cases q1
    ·rw[z,s6.at hD3]at q2;cases q2;exact q1 _ rfl)]
   exact q2
 ·have e:i=xs.length:=by lia
  subst e;exact .inl ⟨⟨xs,q,aD _⟩,hd D acc _ H3 hD zb s3 zc p3 hacc hD3⟩
theorem jR{K:ah}{l:Addr}{xs:List V}{te:TE}{caps:L2.St}{Q:VK}{H2:Hp}(Pv:Nat→List V→Hp→Prop)(hl:SqT K H2 l xs)(hn:xs.length≤ay)(h0:Pv 0 [] H2)
  (hs:∀(i:Nat) x acc H3 H3',xs[i]? =some x→xb H2 H3→xb H3 H3'→Pv i acc H3→∀R:VK,(∀u H6',xb H3' H6'→(∀H6,xb H3 H6→(∀p o,(H3' p=none∨∀ys,o≠HO.lst ys)→H6' p=some o→H6 p=some o)→Pv (i+1) (acc++[u]) H6)→R u H6')→te (some x::caps) H3' R)
  (hd:∀D acc H H',H2 D=none→H D=none→xb H2 H→xb H H'→Pv xs.length acc H→acc.length=xs.length→H' D=some (.lst acc)→Q (.ref D) H'):yo (Itt K l) caps jQ te Q H2:=by
 unfold yo;intro D hD;refine⟨fun i m acc H3=>m=xs.length - i∧i≤xs.length∧acc.length=i∧H3 D=some (.lst acc)∧xb H2 (del H3 D)∧Pv i acc (del H3 D),⟨xs.length,by simp,bV _,rfl,xn,?_,?_⟩,?_⟩
 ·rw[yt,zZ hD];exact xb.refl _
 ·rw[yt,zZ hD];exact h0
 rintro i m acc H3 ⟨rfl,hi,hacc,hD3,s3,p3⟩;refine⟨hD3,?_⟩;have q:=(s3.trans zc).seqT hl
 by_cases hlt:i<xs.length
 ·have hx:xs[i]? =some xs[i]:=aB hlt;refine .inr ⟨⟨xs,xs[i],q,hx⟩,by lia,fun v H4 y=>?_⟩;obtain⟨e,y⟩:=y;have ev:=y xs q;rw[hx]at ev;cases ev;subst e;refine⟨fun _=>?_,fun z=>by cases z⟩;refine hs i _ acc _ _ hx s3 zc p3 _ fun u H6' s6 k=>⟨s6.at hD3,xs.length - (i+1),by lia,rfl,hlt,by simp[hacc],xn,?_,?_⟩
  ·rw[yt];exact s3.trans (ua s6)
  ·rw[yt];refine k _ (ua s6) fun p o q1 q2=>?_;rw[uf (fun z=>by
    rcases q1 with q1|q1
    ·rw[z,hD3]at q1;cases q1
    ·rw[z,s6.at hD3]at q2;cases q2;exact q1 _ rfl)]
   exact q2
 ·have e:i=xs.length:=by lia
  subst e;exact .inl ⟨⟨xs,q,aD _⟩,hd D acc _ H3 hD zb s3 zc p3 hacc hD3⟩
theorem xfs{K:ah}{l:Addr}{xs:List V}{tt:TT}{te:TE}{caps:L2.St}{Q:VK}{H2:Hp}(p:V→Bool)(f:V→V)(hl:SqL K H2 l xs)(hn:xs.length<ay)
  (ht:∀(x:V) (H3:Hp),x∈xs→xb H2 H3→∀R:Bool→Hp→Prop,(∀H6,xb H3 H6→R (p x) H6)→tt (some x::caps) H3 R)
  (hs:∀(x:V) (H3:Hp),x∈xs→p x=true→xb H2 H3→∀R:VK,(∀H6,xb H3 H6→R (f x) H6)→te (some x::caps) H3 R)
  (hd:∀D H',H2 D=none→xb H2 H'→H' D=some (.lst ((xs.filter p).map f))→Q (.ref D) H'):yo (Itl K l) caps tt te Q H2:=by
 unfold yo;intro D hD;refine⟨fun i m acc H3=>m=xs.length - i∧i≤xs.length∧acc=((xs.take i).filter p).map f∧H3 D=some (.lst acc)∧xb H2 H3,⟨xs.length,by simp,bV _,rfl,xn,xb.new hD⟩,?_⟩;rintro i m acc H3 ⟨rfl,hi,rfl,hD3,s3⟩;refine⟨hD3,?_⟩;have q:=s3.seq hl
 by_cases hlt:i<xs.length
 ·have hx:xs[i]? =some xs[i]:=aB hlt;have hle:(((xs.take i).filter p).map f).length<ay:=by
   rw[aa];refine ft (List.length_filter_le _ _) ?_;rw[aI];lia
  have et:xs.take (i+1)=xs.take i++[xs[i]]:=by rw[bB,hx];rfl
  refine .inr ⟨⟨xs,xs[i],q,hx⟩,hle,fun v H4 y=>?_⟩;obtain⟨e,y⟩:=y;have ev:=y xs q;rw[hx]at ev;cases ev;subst e;refine ht _ _ (bY hlt) s3 _ fun H5 s5=>⟨fun hp=>?_,fun hp=>?_⟩
  ·refine hs _ _ (bY hlt) hp (s3.trans s5) _ fun H6 s6=>⟨s6.at (s5.at hD3),xs.length - (i+1),by lia,rfl,hlt,?_,xn,(s3.trans (s5.trans s6)).put hD⟩;rw[et,gN,aA];simp[hp]
  ·refine⟨xs.length - (i+1),by lia,rfl,hlt,?_,s5.at hD3,s3.trans s5⟩;rw[et,gN,aA];simp[hp]
 ·have e:i=xs.length:=by lia
  subst e;rw[bj]at hD3⊢;exact .inl ⟨⟨xs,q,aD _⟩,hd D H3 hD s3 hD3⟩
theorem xht{K:ah}{f:Bool→Bool}{x y:V}{H:Hp}{Q:VK}{d:bq}(hx:Rp K H x d)(hy:Rp K H y d)(hd:c8 d=true)(q:Q (.bl (f true)) H):xhq K f x y H Q:=
 ⟨d,d,hx,hy,hd,hd,by rw[PySem.SeqAt.eqv_refl d (SeqAt.canLay_of_shaped hd)];exact q⟩
end L2
namespace L2
open PySem PySem.Spec PyProof.Rows
section
variable {X:Cx} {K:ah}
theorem xhu(e:X.K=K):IxR X (xjv K):=e▸xx
theorem xkW(e:X.K=K):IxR X (xjw K):=e▸xR
theorem xkP(e:X.K=K):SlR X (xjx K):=e▸xX
theorem xkY(e:X.K=K):yj X (.builtin "isinstance") (xjD K):=e▸zz
theorem xkZ(e:X.K=K)(hu:X.A.units+64<cLine):OpR X (bG .NotEq) (xhq K fun b=> !b):=e▸xbD hu
end
end L2
namespace L2
open PySem PySem.Spec PyProof.Rows
end L2
namespace L2
open PySem PySem.Spec PyProof.Rows
theorem vJ{n d:Nat}{i:Int}(h0:0≤i):HT.sIx n d (some i)=min i.toNat n:=by
 show(if i<0 then(i+(n:Int)).toNat else min i.toNat n)=_;rw[if_neg (by lia)]
end L2
namespace L2
open PySem PySem.Spec PyProof.Rows
section
variable {X:Cx}
end
theorem xgs{xs:List Int}{x v:Int}(h0:0≤x)(h:xs[x.toNat]? =some v):atI (xs.map V.int) x=some (.int v):=by
 have:=xV (xs:=xs.map V.int) (j:=x.toNat) (v:=.int v) (by rw[aJ,h];rfl)
 rwa [fh h0]at this
end L2
namespace L2
open PySem PySem.Spec PyProof.Rows
def Nu(X:Cx)(H:Hp)(b:Addr):Prop:=H b=none∧X.s₀.heap.get? b=none∧∀p∈X.pn,p.1≠b
def xkQ(X:Cx)(H:Hp)(h:Heap)(a:Addr)(cls:Value)(dx:Option Addr):Prop:=
 ∃oe vs a0,h.get? a=some oe∧oe.cls=cls∧oe.dict=dx∧oe.data= .fields vs∧vs[0]? =some a0∧vs[1]? =some .none∧Nu X H a
def jS(X:Cx)(fl:Value)(H:Hp)(h:Heap)(a:Addr)(cls:Value)(dx:Option Addr):Prop:=
 ∃oe vs a0 T oT ts,h.get? a=some oe∧oe.cls=cls∧oe.dict=dx∧oe.data= .fields vs∧vs[0]? =some a0∧vs[1]? =some (.ref T)∧T≠a∧h.get? T=some oT∧oT.data= .fields ts∧ts[3]? =some fl∧Nu X H a∧Nu X H T
def Fly(X:Cx)(H:Hp)(h:Heap)(a:Addr)(cls:Value)(dx:Option Addr):Prop:=
 xkQ X H h a cls dx∨jS X .none H h a cls dx∨jS X (bU X.env.locals) H h a cls dx
structure Own(X:Cx):Prop where
 ex:X.ex=[]
 st:X.stack=X.env::X.outer
 fr:X.env.frame=some X.env.locals
abbrev EEs:=St→XK
def XE(X:Cx)(EE:EEs):Value→ae→Prop:=fun e s'=>
 ∃a cls dx σ H,e= .ref a∧Inv X [] σ H s'∧Fly X H s'.heap a cls dx∧EE σ cls dx H
section
variable {X:Cx} {pins:List (Addr×Obj)} {σ:St} {H:Hp} {s:ae}
theorem Inv.nopins(I:Inv X pins σ H s):Inv X [] σ H s:=I.pins_of fun p hp=>nomatch hp
theorem Own.mem(o:Own X){b:Addr}:b∈frs X.stack↔b=X.env.locals∨b∈X.fs:=by
 rw[o.st];unfold frs;rw[dS,o.fr];exact ax
theorem Inv.flown{h':Heap}(o:Own X)(I:Inv X [] σ H s)(ch:Addr→Prop)
  (keep:∀b u,¬ch b→b∉frs X.stack→s.heap.get? b=some u→h'.get? b=some u)
  (slot:∀b u,¬ch b→b∈frs X.stack→s.heap.get? b=some u→∃sl,h'.get? b=some {u with slots:=sl})
  (new:∀b,ch b→Nu X H b∧∀u,s.heap.get? b=some u→∃vs,u.data= .fields vs):Inv X [] σ H {s with heap:=h'}:=by
 have any:∀b u,¬ch b→s.heap.get? b=some u→∃sl,h'.get? b=some {u with slots:=sl}:=fun b u n e=>by
  by_cases hb:b∈frs X.stack
  ·exact slot b u n hb e
  ·exact⟨u.slots,keep b u n hb e⟩
 have old:∀b u,X.s₀.heap.get? b=some u→¬ch b:=fun b u e z=>by
  have:=(new b z).1.2.1;rw[e]at this;cases this
 have neL:∀b u,X.s₀.heap.get? b=some u→b≠X.env.locals:=fun b u e=>bc (az (aG e) I.ok.above);have cel:∀c v,s.heap.IsCell c v→h'.IsCell c v:=fun c v ⟨u,e,d⟩=>by
  obtain⟨sl,q⟩:=any c u (fun z=>by
   obtain⟨vs,w⟩:=(new c z).2 u e;rw[d]at w;cases w) e
  exact⟨_,q,d⟩
 refine⟨I.ok,I.os,I.bare,⟨fun b u e n hb hx=>?_,fun b u e n hb hx=>?_,I.base.free,fun b u e hx=>?_,I.base.fix⟩,?_,fun x c e=>?_,I.free,I.freeC,fun p hp=>?_,fun b u e=>?_,I.len⟩
 ·exact keep b u (old b u e) (fun z=>(o.mem.mp z).elim (neL b u e) hb) (I.base.keep b u e n hb hx)
 ·obtain⟨sl,e1⟩:=I.base.slot b u e n hb hx;obtain⟨sl',e2⟩:=slot b _ (old b u e) (o.mem.mpr (.inr hb)) e1;exact⟨sl',e2⟩
 ·by_cases hb:b∈X.fs
  ·obtain⟨o',e1⟩:=I.base.there b u e hx;obtain⟨sl,e2⟩:=any b _ (old b u e) e1;exact⟨_,e2⟩
  ·obtain⟨o',e1⟩:=I.base.there b u e hx;obtain⟨sl,e2⟩:=any b _ (old b u e) e1;exact⟨_,e2⟩
 ·obtain⟨m,⟨u,es,ep,e,d⟩,l⟩:=I.loc;obtain⟨sl,q⟩:=any _ u (fun z=>by
   obtain⟨vs,w⟩:=(new _ z).2 u e;rw[d.1]at w;cases w) e
  refine⟨m,⟨_,es,ep,q,d⟩,fun i x v e1 e2 e3=>?_⟩;obtain⟨y,r,z⟩:=l i x v e1 e2 e3;exact⟨y,r,z.imp id fun⟨k,c,e,z⟩=>⟨k,c,e,cel c _ z⟩⟩
 ·obtain⟨v,z⟩:=I.cell x c e;exact⟨v,cel c v z⟩
 ·obtain⟨e,n,ne,nf,d⟩:=I.pin p hp;have hp':p∈X.pn:=by simpa using hp
  exact⟨keep p.1 p.2 (fun z=>(new _ z).1.2.2 p hp' rfl) (fun z=>(o.mem.mp z).elim ne nf) e,n,ne,nf,d⟩
 ·refine(I.hok b u e).stay (fun c v hc q=>?_) (fun _ q=>q) fun _ _ q _=>q;have tr:∃u,H c=some u:=by
   rcases hc with rfl|hc
   ·exact⟨u,e⟩
   ·exact⟨_,hc⟩
  obtain⟨u',tr⟩:=tr;refine keep c v (fun z=>?_) (fun z=>?_) q
  ·rw[(new c z).1.1]at tr;cases tr
  ·rw[I.stkFree c z]at tr;cases tr
theorem xbF{M:Model}{A':aW}{E:Value→ae→Prop}{Q:Unit→ae→Prop}{a:Addr}{oe:Obj}{vs:Array Value}{a0 head:Value}{had:Bool}(o:Own X)(hfr:A'.frames=some X.stack)(I:Inv X [] σ H s)
  (he:s.heap.get? a=some oe) (hd:oe.data= .fields vs) (h0:vs[0]? =some a0) (h1:1<vs.size) (hn:Nu X H a)
  (h:∀s',Inv X [] σ H s'→jS X (bU X.env.locals) H s'.heap a oe.cls oe.dict→Q () s'):
  wpAny M A' (do let f ←frameOf X.env;let pl ←entryPlaceOf X.env.locals had;let b ←dU head f .none (bU X.env.locals) .none pl;setField (.ref a) 1 b) Q E s:=by
 have hfs:s.heap.FunFrames X.base (X.env::X.outer):=by have:=I.stack;rwa [o.st]at this
 have hmem:∀b,b∈(X.env::X.outer).filterMap (·.frame)↔b∈frs X.stack:=fun b=>by rw[o.st];rfl
 have hna:a∉frs X.stack:=fun z=>by
  obtain⟨_,u,hu,hnf⟩:=hfs.mem ((hmem a).mpr z);rw[he]at hu;injection hu with hu;subst hu;exact hnf vs hd
 refine af (wpAny_frameOf_fun (by rw[hfr,o.st]) hfs o.fr fun g1 so=>?_);refine af (wpAny_entryPlaceOf fun pl hpl=>?_);unfold dU newFields;refine af (cc ?_ (hpl.sizeOk5 _ _ _ _ _));have g1a:g1.get? a=some oe:=(so.2.1 a fun z=>hna ((hmem a).mp z)).trans he;generalize hT:({cls:=.type "traceback",dict:=none,data:=.fields ([head,.ref X.env.locals,.none,bU X.env.locals,.none]++(if pl.isEmpty then dB 6 bg else pl)).toArray}:Obj)=ot;have g2a:=au (h:=g1) ot g1a;refine cY g2a hd h1 ?_;have neT:g1.objs.size≠a:=fM (aG g1a);have d3:=eo hd (·.setIfInBounds 1 (aS g1.objs.size));have a3:=bO (bf (·.setIfInBounds 1 (aS g1.objs.size))) g2a (dD d3);have t3:((g1.push ot).update a (bf (·.setIfInBounds 1 (aS g1.objs.size)))).get? g1.objs.size=some ot:=(bh _ _ (bz neT)).trans (ba g1 (by rw[←hT];rfl));have kp:∀b u,b≠a→g1.get? b=some u→((g1.push ot).update a (bf (·.setIfInBounds 1 (aS g1.objs.size)))).get? b=some u:=fun b u nb e=>
  (bh _ _ (bz nb)).trans (au _ e)
 have old:∀b u,s.heap.get? b=some u→b≠g1.objs.size:=fun b u e=>bc (by rw[so.1];exact aG e);have nT:Nu X H g1.objs.size:=by
  refine⟨I.hok.fresh (by rw[so.1];exact aD _),?_,fun p hp z=>old p.1 p.2 (I.pin p (by simpa using hp)).1 z⟩;exact eY (by rw[so.1];exact I.sz)
 have J:Inv X [] σ H {s with heap:=(g1.push ot).update a (bf (·.setIfInBounds 1 (aS g1.objs.size)))}:=by
  refine I.flown o (fun b=>b=a) (fun b u n nf e=>kp b u n ((so.2.1 b fun z=>nf ((hmem b).mp z)).trans e)) (fun b u n _ e=>?_) (fun b z=>?_)
  ·obtain⟨sl,e1⟩:=so.2.2 b u e;exact⟨sl,kp b _ n e1⟩
  ·subst z;exact⟨hn,fun u e=>⟨vs,by rw[he]at e;cases e;exact hd⟩⟩
 refine h _ J ?_
 ·refine⟨_,_,a0,g1.objs.size,ot,_,a3,Obj.cls_mapFields _ _,?_,d3,by rw[de (by decide)];exact h0,by simp[h1],neT,t3,by rw[←hT],by simp,hn,nT⟩;obtain⟨c,d,dt,sl⟩:=oe;cases dt<;> rfl
theorem xax{M:Model}{A':aW}{E:Value→ae→Prop}{Q:Unit→ae→Prop}{a:Addr}{cls:Value}{dx:Option Addr}(o:Own X)(hfr:A'.frames=some X.stack)(I:Inv X [] σ H s)(F:Fly X H s.heap a cls dx)
  (h:∀s',Inv X [] σ H s'→jS X (bU X.env.locals) H s'.heap a cls dx→Q () s'):wpAny M A' (eX (.ref a) X.env) Q E s:=by
 unfold eX;simp only[o.fr];rcases F with⟨oe,vs,a0,he,rfl,rfl,hd,h0,h1,hn⟩|⟨oe,vs,a0,T,oT,ts,he,rfl,rfl,hd,h0,h1,nT,hT,hdT,h3,hn,hnT⟩|F
 ·refine af (bH he hd h1 ?_);rw[if_neg (by decide)];exact xbF o hfr I he hd h0 (bE.mp h1).1 hn h
 ·refine af (bH he hd h1 ?_);rw[if_pos (by simp:(aS T != bg)=true)];refine af (bH hT hdT h3 ?_);rw[if_neg (by simp[bU]:¬((bg==bU X.env.locals)=true))];refine af (cY hT hdT (bE.mp h3).1 ?_);have ot:∀b,b≠T→(s.heap.update T (bf (·.setIfInBounds 3 bg))).get? b=s.heap.get? b:=fun b nb=>bh _ _ (bz nb);have I':Inv X [] σ H {s with heap:=s.heap.update T (bf (·.setIfInBounds 3 bg))}:=by
   refine I.flown o (fun b=>b=T) (fun b u n _ e=>(ot b n).trans e) (fun b u n _ e=>⟨u.slots,(ot b n).trans e⟩) (fun b z=>?_);subst z;exact⟨hnT,fun u e=>⟨ts,by rw[hT]at e;cases e;exact hdT⟩⟩
  exact xbF o hfr I' ((ot a (bz nT)).trans he) hd h0 (bE.mp h1).1 hn h
 ·obtain⟨oe,vs,a0,T,oT,ts,he,hc,hx,hd,h0,h1,nT,hT,hdT,h3,hn,hnT⟩:=id F;refine af (bH he hd h1 ?_);rw[if_pos (by simp:(aS T != bg)=true)];refine af (bH hT hdT h3 ?_);rw[if_pos (by simp:(bU X.env.locals==bU X.env.locals)=true)];exact aq (h s I F)
theorem ug{M:Model}{A':aW}{E:Value→ae→Prop}{Q:Unit→ae→Prop}{a:Addr}{cls fl:Value}{dx:Option Addr}{to:Option Addr}(o:Own X)(I:Inv X [] σ H s)(F:jS X fl H s.heap a cls dx)
  (h:∀s',Inv X [] σ H s'→jS X (to.elim .none fun f=>bU f) H s'.heap a cls dx→Q () s'):wpAny M A' (setFlight (.ref a) to) Q E s:=by
 obtain⟨oe,vs,a0,T,oT,ts,he,rfl,rfl,hd,h0,h1,nT,hT,hdT,h3,hn,hnT⟩:=F;unfold setFlight;refine af (bH he hd h1 ?_);rw[if_pos (by simp:(aS T != bg)=true)];have z3:=(bE.mp h3).1;have ot:∀b,b≠T→(s.heap.update T (bf (·.setIfInBounds 3 (to.elim bg fun f=>bU f)))).get? b=s.heap.get? b:=fun b nb=>bh _ _ (bz nb);have d3:=eo hdT (·.setIfInBounds 3 (to.elim bg fun f=>bU f));refine cY hT hdT z3 (h _ (I.flown o (fun b=>b=T) (fun b u n _ e=>(ot b n).trans e) (fun b u n _ e=>⟨u.slots,(ot b n).trans e⟩) fun b z=>?_) ?_)
 ·subst z;exact⟨hnT,fun u e=>⟨ts,by rw[hT]at e;cases e;exact hdT⟩⟩
 ·exact⟨oe,vs,a0,T,_,_,(ot a (bz nT)).trans he,rfl,rfl,hd,h0,h1,nT,bO _ hT (dD d3),d3,by simp[z3],hn,hnT⟩
theorem xft{M:Model}{A':aW}{E:Value→ae→Prop}{Q:Unit→ae→Prop}{a:Addr}{cls:Value}{dx:Option Addr}(o:Own X)(hfr:A'.frames=some X.stack)(I:Inv X [] σ H s)(F:Fly X H s.heap a cls dx)
  (h:∀s',Inv X [] σ H s'→jS X .none H s'.heap a cls dx→Q () s'):wpAny M A' (leaving X.env (.ref a)) Q E s:=by
 unfold leaving;exact af (xax o hfr I F fun s1 I1 F1=>ug (to:=none) o I1 F1 h)
end
def CXE(P:aF)(w:World):CXT:=fun outer H s E e s'=>∃a cls dx H' oe vs a0 T oT ts,e= .ref a∧s'.os=s.os∧dP s'.gens∧Un (frs outer) [] H H' s.heap s'.heap∧HOk P w H' s'.heap∧
 s'.heap.get? a=some oe∧oe.cls=cls∧oe.dict=dx∧oe.data= .fields vs∧vs[0]? =some a0∧vs[1]? =some (.ref T)∧T≠a∧s'.heap.get? T=some oT∧oT.data= .fields ts∧ts[3]? =some .none∧
 H' a=none∧s.heap.get? a=none∧H' T=none∧s.heap.get? T=none∧E cls dx H'
theorem xdo{CX:CXT}{P:aF}{w:World}{K:ah}{mg:Str→Option Value}{base:Heap}{N:List Str}{qual:Str}{sc:Scope}{f:Addr}{cd:Value}{A:aW}{outer:List Env}{s:ae}{H:Hp}{E:XK}:
  Own (uK CX P w K mg base N qual sc f cd A outer s H E):=⟨rfl,rfl,rfl⟩
theorem PSs.wished{X:Cx}{E:Value→ae→Prop}{st:List Stmt}{t:TS}(h:PSs (X.wish E) st t)(hE:∀e s,E e s→X.xe e s):PSs X st t:=fun pins s σ H D I hw=>
 aP (h pins s σ H D (I.wish _) hw) (fun _ _ q=>q.unwish) hE
abbrev cxX(P:aF)(w:World)(K:ah)(mg:Str→Option Value)(base:Heap)(N:List Str)(qual:Str)(sc:Scope)(f:Addr)(cd:Value)(A:aW)(outer:List Env)(s:ae)(H:Hp)(E:XK):Cx:=
 (uK (CXE P w) P w K mg base N qual sc f cd A outer s H E).wish (XE (uK (CXE P w) P w K mg base N qual sc f cd A outer s H E) fun _=>E)
section
variable {P:aF} {w:World} {K:ah} {mg:Str→Option Value} {base:Heap}
theorem Fun.okX{x qual:Str}{st:Stmt}{f:Addr}{fd:aK}{N ps:List Str}{k:Nat}{sp:Sp}(F:Fun K x qual st f fd)(S:xr N ps (xl st))(len:∀vs H Q E,sp vs H Q E→vs.length=ps.length)
  (hbody:∀(cdv:Value) (A:aW) (outer:List Env) (s:ae) (H:Hp) (vs:List V) (Q:VK) (E:XK),xZ k (A.deeper (eO qual (xl st) s.heap.objs.size f cdv))→sp vs H Q E→
   ∃t,PSs (cxX P w K mg base N qual (xl st) f cdv A outer s H E) (yr st) t∧t {nx:=fun _ H'=>Q .non H',rt:=Q} (start N vs) H):xA P w K mg base (CXE P w) (k+1) f fd ps sp:=by
 obtain⟨oc,od,kV,doc,pm,an,cdv,ct,osl,rfl,lk,hcd⟩:=F.ex;refine xfh lk hcd S len fun A outer s H vs Q E hr hsp=>?_;obtain⟨t,h,q⟩:=hbody cdv A outer s H vs Q E hr hsp;refine⟨t,h.wished fun e s' ⟨a,cls,dx,σ,H',he,I,Fl,z⟩=>?_,q⟩;subst he;refine xft xdo I.ok.frames I Fl fun s2 I2 F2=>?_;obtain⟨oe,vs,a0,T,oT,ts,he,hc,hx,hd,h0,h1,nT,hT,hdT,h3,hn,hnT⟩:=F2;exact⟨a,cls,dx,H',oe,vs,a0,T,oT,ts,rfl,I2.os,I2.bare,I2.base,I2.hok,he,hc,hx,hd,h0,h1,nT,hT,hdT,h3,hn.1,hn.2.1,hnT.1,hnT.2.1,z⟩
end
section
variable {X:Cx} {EE:EEs}
theorem xbG{pins:List (Addr×Obj)}{σ:St}{H:Hp}{s s':ae}{e:Value}(o:Own X)(I:Inv (X.wish (XE X EE)) pins σ H s)(h:CXE X.prog X.w X.stack H s (EE σ) e s'):XE X EE e s':=by
 obtain⟨a,cls,dx,H',oe,vs,a0,T,oT,ts,rfl,os,bare,un,hok,he,hc,hx,hd,h0,h1,nT,hT,hdT,h3,n1,n2,n3,n4,q⟩:=h;have I0:Inv X pins σ H s:=I.unwish;have I1:Inv X pins σ H' s':=I0.call' os un hok bare fun b z=>absurd z (by simp);have nu:∀b,H' b=none→s.heap.get? b=none→Nu X H' b:=fun b m1 m2=>by
  refine⟨m1,?_,fun p hp z=>?_⟩
  ·cases q:X.s₀.heap.get? b with
   |none=>rfl
   |some u=>
    obtain⟨u',e⟩:=I0.base.there b u q (by rw[o.ex];simp);rw[m2]at e;cases e
  ·have:=(I0.pin p (aU _ hp)).1;rw[z,m2]at this;cases this
 exact⟨a,cls,dx,σ,H',rfl,I1.nopins,.inr (.inl ⟨oe,vs,a0,T,oT,ts,he,hc,hx,hd,h0,h1,nT,hT,hdT,h3,nu a n1 n2,nu T n3 n4⟩),q⟩
variable {k:Nat} {f C:Addr} {fd:aK} {ps:List Str} {sp:Sp} {dvs:List V} {ds:List Value} {x m:Str} {p pos apos:Pos} {e ob:Expr} {es:List Expr} {ta:TE} {t:TA}
theorem xiF{pins:List (Addr×Obj)}{σ:St}{H:Hp}{s:ae}{Q:VK}{us:List Value}{vs:List V}(o:Own X)(F:xA X.prog X.w X.K X.mg X.base (CXE X.prog X.w) k f fd ps sp)(hr:xZ k X.A)(hb:Binds X.K fd ps ds)(hd:Vals dvs ds)
  (I:Inv (X.wish (XE X EE)) pins σ H s) (r:Vals vs us) (h:sp (vs++dvs) H Q (EE σ)):wpAny (model X.prog X.w) X.A (call (.ref f) us) (EP (X.wish (XE X EE)) pins σ Q) (XE X EE) s:=by
 have r2:Vals (vs++dvs) (us++ds):=r.append hd;have hl:(us++ds).length=ps.length:=r2.length.symm.trans (F.len _ _ _ _ h);refine eF (cZ (F.run X.A X.stack s H ⟨us,[]⟩ (us++ds) (vs++dvs) Q (EE σ) hr I.unwish.env0 (hb s us I.unwish.kIn hl) r2 h) fun z s' hq=>?_)
 match z,hq with
 | .error e,hq=>exact xbG o I hq
 | .ok (.ret u),hq=>exact I.after hq
 | .ok .next,hq=>exact hq.elim
 | .ok .brk,hq=>exact hq.elim
 | .ok .cont,hq=>exact hq.elim
def xdp(sp:Sp)(dvs:List V)(EE:EEs)(t:TA):TE:=fun σ H Q=>t σ H fun vs H1=>sp (vs++dvs) H1 Q (EE σ)
theorem vV(o:Own X)(F:xA X.prog X.w X.K X.mg X.base (CXE X.prog X.w) k f fd ps sp)(hr:xZ k X.A)(hg:Gl X x)(hm:X.mg x=some (.ref f))(hk:dH X.K (.ref f)=true)(hb:Binds X.K fd ps ds)(hd:Vals dvs ds)
  (ha:PA (X.wish (XE X EE)) (e::es) t) (hdb:(x==("__debug__":Str))=false:=by decide) (he:aT (e::es) X.env=(false,eval e X.env)::aT es X.env:=by rfl) (hpl:(cg pos (aT es X.env)).any (·.1)=false:=by rfl):
  PE (X.wish (XE X EE)) (.Call (.Name x p) (e::es) [] pos) (xdp sp dvs EE t):=by
 intro pins s σ H Q I h;refine ck (yp I hg hm ?_ hdb);refine ed (h₀:=X.base) I.ok.mod.kin hk (thn (ha pos pins s σ H _ I h) fun us s1 ⟨vs,H1,I1,r,q⟩=>⟨I1.kIn,xiF o F hr hb hd I1 r q⟩) he hpl
end
end L2
namespace L2
open PySem PySem.Spec PyProof.Rows
def xfu:List Value:=[.type "ValueError",.type "Exception",.type "BaseException",.type "object"]
def jT(K:ah)(C:Addr):Prop:=W.excIn K C xfu "ValueError.__new__"=true
theorem jT.obj{K:ah}{C:Addr}{h:Heap}(q:jT K C)(X:K.In h):∃bm N nm qn bs hdct sn sub ab col dd k0 k1 k2 k3 k5,
  h.get? C=some (excClassObj nm qn C N bs bm hdct sn sub ab col dd k0 k1 k2 k3 k5 "ValueError.__new__")∧h.Ns N (h.nsMap N)∧h.nsMap N "__init__"=none∧OwnTail h xfu bm:=by
 unfold jT W.excIn at q
 split at q
 ·rename_i dd cd sl ho
  split at q
  ·rename_i C' bm k0 k1 k2 k3 n k5 hm hs;simp only[bN,beq_iff_eq,Bool.not_eq_true']at q;obtain⟨⟨⟨⟨⟨rfl,rfl⟩,hdel⟩,ht⟩,hok⟩,hni⟩:=q;obtain⟨nm,bs,mro,ns,qn,hd,sn,sub,ab,col,del⟩:=cd;obtain⟨l⟩:=sl;dsimp only at hm hdel hok hni hs;subst hm hdel hs;exact⟨bm,ns,nm,qn,bs,hd,sn,sub,ab,col,dd,k0,k1,k2,k3,k5,X _ _ ho,.of_isNs (W.isNs_of_in X hok),W.nsMap_none_of_in X hok hni,W.tail_of_in X ht⟩
  ·cases q
 ·cases q
theorem xT.here{P:aF}{w:World}{H:Hp}{h:Heap}{a:Addr}{o:HO}(x:xT P w H h a o):∃u,h.get? a=some u:=by
 cases o with
 |lst xs=>obtain⟨_,_,_,_,e⟩:=x;exact⟨_,e⟩
 |tup xs=>obtain⟨_,_,_,u,e,_⟩:=x;exact⟨_,e⟩
 |dK kvs=>obtain⟨_,_,_,_,o,_,_,e,_⟩:=x;exact⟨_,e⟩
 |dT kvs=>obtain⟨_,_,_,_,o,_,_,e,_⟩:=x;exact⟨_,e⟩
 |set S n=>obtain⟨o,_,_,_,e,_⟩:=x;exact⟨_,e⟩
 |ins C dx fs=>obtain⟨_,_,_,e,_⟩:=x;exact⟨_,e⟩
 |own y=>exact x
 |xd fs=>obtain⟨_,⟨_,_,_,e,_⟩,_⟩:=x;exact⟨_,e⟩
 |rng lo hi=>obtain⟨_,_,_,e⟩:=x;exact⟨_,e⟩
 |frz ob u=>obtain⟨e,_⟩:=x;exact⟨_,e⟩
 |tbl qs=>obtain⟨_,e,_⟩:=x;exact⟨_,e⟩
 |cel v=>obtain⟨_,⟨_,e,_⟩,_⟩:=x;exact⟨_,e⟩
 |met f y=>exact⟨_,x⟩
 |ext φ=>exact x.2.1
section
variable {X:Cx} {EE:EEs}
theorem xfv{pins:List (Addr×Obj)}{σ:St}{H:Hp}{s:ae}(o:Own X)(I:Inv X pins σ H s){b:Addr}(m:s.heap.get? b=none):Nu X H b:=by
 refine⟨?_,?_,fun p hp z=>?_⟩
 ·cases q:H b with
  |none=>rfl
  |some u=>
   obtain⟨v,e⟩:=(I.hok b u q).here;rw[m]at e;cases e
 ·cases q:X.s₀.heap.get? b with
  |none=>rfl
  |some u=>
   obtain⟨u',e⟩:=I.base.there b u q (by rw[o.ex];simp);rw[m]at e;cases e
 ·have:=(I.pin p (aU _ hp)).1;rw[z,m]at this;cases this
def xgt(C:Addr)(EE:EEs)(t:TA):TS:=fun _ σ H=>t σ H fun vs H1=>vs.length≤ay∧EE σ (.ref C) none H1
theorem vW{C:Addr}{x:Str}{np cpos pos:Pos}{e:Expr}{es:List Expr}{t:TA}(o:Own X)(hc:X.calm=true)(q:jT X.K C)(hg:Gl X x)(hm:X.mg x=some (.ref C))(ha:PA (X.wish (XE X EE)) (e::es) t)
  (hdb:(x==("__debug__":Str))=false:=by decide) (he:aT (e::es) X.env=(false,eval e X.env)::aT es X.env:=by rfl) (hpl:(cg cpos (aT (e::es) X.env)).any (·.1)=false:=by rfl):
  PS (X.wish (XE X EE)) (.Raise (some (.Call (.Name x np) (e::es) [] cpos)) none pos) (xgt C EE t):=by
 intro pins s σ H D I h;obtain⟨bm,N,nm,qn,bs,hdct,sn,sub,ab,col,dd,k0,k1,k2,k3,k5,hC,hN,hni,TL⟩:=q.obj I.ok.mod.kin;refine wpAny_Raise_call_subT (C:=C) (N:=N) (bm:=bm) (nm:=nm) (q:=qn) (bs:=bs) (hdct:=hdct) (sn:=sn) (sub:=sub) (ab:=ab) (col:=col) (dd:=dd) (k0:=k0) (k1:=k1) (k2:=k2) (k3:=k3) (k5:=k5) PySem.F.excBase_ValueError (TL.hasType PySem.F.excBase_ValueError.hasBase) (I.ok.hd hc) hpl hni (yp I hg hm ⟨rfl,?_⟩ hdb);have ha':=ha cpos pins s σ H _ I h;rw[he]at ha';show wpAny (model X.prog X.w) X.A (evalArgs (.ref C) true (cg cpos (aT (e::es) X.env)) []) _ _ s;rw[he];refine PySem.evalArgs_kw (keywords:=[]) rfl ?_;refine thn ha' fun us s1 ⟨vs,H1,I1,r,z,y⟩=>?_;refine aq ?_;refine⟨rfl,by rw[←r.length];exact z,I1.bk _ _ hC,hN.keeps I1.bk,TL.keeps I1.bk,fun h' a mk=>?_⟩;obtain⟨t0,ea,_,_⟩:=mk.there;have I2:Inv X pins σ H1 {s1 with heap:=h'}:=I1.unwish.kept (t':=s1.toks) mk.keeps;exact⟨a,.ref C,none,σ,H1,rfl,I2.nopins,.inl ⟨_,_,.ref t0,ea,rfl,rfl,rfl,rfl,rfl,xfv o I1.unwish mk.new⟩,y⟩
abbrev Cx.pnd(X:Cx)(ps:List (Addr×Obj)):Cx:={X with pn:=X.pn++ps}
abbrev Cx.held(X:Cx)(a:Addr)(ps:List (Addr×Obj)):Cx:={X with A:=X.A.mark (some (.ref a)),calm:=false,xe:=fun _ _=>False,pn:=X.pn++ps}
theorem Cx.Ok.pnd{ps:List (Addr×Obj)}(ok:X.Ok):(X.pnd ps).Ok:=
 ⟨ok.mod,ok.kind,ok.glob,ok.blt,ok.above,ok.inj,ok.has,ok.cab,ok.hd,ok.frames,ok.stk,ok.exf,ok.bs,ok.bsz,ok.noex,ok.exfs,ok.funs,ok.frf,ok.cab2,ok.hz⟩
theorem Cx.Ok.held{a:Addr}{ps:List (Addr×Obj)}(ok:X.Ok):(X.held a ps).Ok:=
 ⟨ok.mod,ok.kind,ok.glob,ok.blt,ok.above,ok.inj,ok.has,ok.cab,(fun z=>by cases z),ok.frames,ok.stk,ok.exf,ok.bs,ok.bsz,ok.noex,ok.exfs,ok.funs,ok.frf,ok.cab2,ok.hz⟩
theorem Own.pnd{ps:List (Addr×Obj)}(o:Own X):Own (X.pnd ps):=⟨o.ex,o.st,o.fr⟩
section
variable {pins ps:List (Addr×Obj)} {σ:St} {H:Hp} {s:ae}
theorem Inv.pnd(I:Inv X pins σ H s):Inv (X.pnd pins) [] σ H s:=
 ⟨I.ok.pnd,I.os,I.bare,I.base,I.loc,I.cell,I.free,I.freeC,fun p hp=>I.pin p (by simpa using hp),I.hok,I.len⟩
theorem Inv.unpnd{qs:List (Addr×Obj)}(ok:X.Ok)(I:Inv (X.pnd pins) qs σ H s):Inv X pins σ H s:=
 ⟨ok,I.os,I.bare,I.base,I.loc,I.cell,I.free,I.freeC,fun p hp=>I.pin p (aU _ hp),I.hok,I.len⟩
theorem SP.unpnd{qs:List (Addr×Obj)}(ok:X.Ok){D:Ends}{f:Flow}{s':ae}(h:SP (X.pnd pins) qs D f s'):SP X pins D f s':=by
 cases f with
 |next=>obtain⟨σ',H',I,q⟩:=h;exact⟨σ',H',I.unpnd ok,q⟩
 |brk=>obtain⟨σ',H',I,q⟩:=h;exact⟨σ',H',I.unpnd ok,q⟩
 |cont=>obtain⟨σ',H',I,q⟩:=h;exact⟨σ',H',I.unpnd ok,q⟩
 |ret u=>obtain⟨v,σ',H',I,r,q⟩:=h;exact⟨v,σ',H',I.unpnd ok,r,q⟩
theorem Inv.held{a:Addr}{oe:Obj}(I:Inv (X.pnd pins) [] σ H s)(ok:X.Ok)(he:s.heap.get? a=some oe)(hn:H a=none){vs:Array Value}(hd:oe.data= .fields vs):Inv (X.held a (pins++[(a,oe)])) [] σ H s:=by
 refine⟨ok.held,I.os,I.bare,I.base,I.loc,I.cell,I.free,I.freeC,fun p hp=>?_,I.hok,I.len⟩;have hp':p∈X.pn++pins∨p=(a,oe):=by
  have:p∈(X.pn++(pins++[(a,oe)]))++[]:=hp;rw[List.append_nil,←cR]at this;rcases aN.mp this with z|z
  ·exact .inl z
  ·exact .inr (aw.mp z)
 rcases hp' with hp'|rfl
 ·exact I.pin p (aU _ hp')
 ·refine⟨he,hn,fun z=>?_,fun z=>?_,fun v z=>?_⟩
  ·obtain⟨m,⟨u,es,ep,e,d⟩,_⟩:=I.loc;have z':a=X.env.locals:=z;rw[z']at he;rw[show s.heap.get? X.env.locals=some u from e]at he;cases he;rw[d.1]at hd;cases hd
  ·obtain⟨_,u,hu,hnf⟩:=I.funs.mem z;have hu':s.heap.get? a=some u:=hu;rw[he]at hu';cases hu';exact hnf vs hd
  ·have z':oe.data= .cell v:=z;rw[hd]at z';cases z'
theorem Inv.unheld{a:Addr}{oe:Obj}{qs:List (Addr×Obj)}(ok:X.Ok)(I:Inv (X.held a (pins++[(a,oe)])) qs σ H s):Inv X pins σ H s:=
 ⟨ok,I.os,I.bare,I.base,I.loc,I.cell,I.free,I.freeC,fun p hp=>I.pin p (by
  show p∈(X.pn++(pins++[(a,oe)]))++qs;rcases aN.mp hp with z|z
  ·exact aU _ (aU _ z)
  ·exact aU _ (av _ (aU _ z))),I.hok,I.len⟩
theorem SP.unheld{a:Addr}{oe:Obj}{qs:List (Addr×Obj)}(ok:X.Ok){D:Ends}{f:Flow}{s':ae}(h:SP (X.held a (pins++[(a,oe)])) qs D f s'):SP X pins D f s':=by
 cases f with
 |next=>obtain⟨σ',H',I,q⟩:=h;exact⟨σ',H',I.unheld ok,q⟩
 |brk=>obtain⟨σ',H',I,q⟩:=h;exact⟨σ',H',I.unheld ok,q⟩
 |cont=>obtain⟨σ',H',I,q⟩:=h;exact⟨σ',H',I.unheld ok,q⟩
 |ret u=>obtain⟨v,σ',H',I,r,q⟩:=h;exact⟨v,σ',H',I.unheld ok,r,q⟩
end
structure xdq(K:ah)(C':Addr):Prop where
 base:W.mroIn K C' (.type "BaseException")=some true
theorem xbH{M:Model}{A':aW}{E:Value→ae→Prop}{K:ah}{s:ae}{a C C':Addr}{oe:Obj}{b:Bool}{Q:Bool→ae→Prop}(KX:K.In s.heap)(he:s.heap.get? a=some oe)(hcls:oe.cls= .ref C)
  (hk:dz K (.ref C) (.ref C')=some b) (hb:xdq K C') (hq:Q b s):wpAny M A' (excMatches (.ref a) (.ref C')) Q E s:=by
 obtain⟨l1,l2,l3⟩:=W.kit_cls (M:=M) KX hk;have l4:=W.looks_mroIn (M:=M) KX hb.base;have kk:∀b o,s.heap.get? b=some o→s.heap.get? b=some o:=fun _ _ e=>e;unfold excMatches isInstance;refine af (af (l1 _ _ _ s kk ?_));refine wpAny_of_eq tc_notTuple ?_;simp only[ee,if_false];refine af (aq ?_);simp only[List.forIn_cons,List.forIn_nil];unfold isExcClass;refine af (af (af (af (l2 _ _ _ s kk ?_))));simp only[if_true];refine l4 _ _ _ s kk ?_;simp only[Bool.not_true,ee,if_false];refine aq (aq ?_);have lt:wpAny M A' (typeOf (.ref a)) (fun v s'=>v=oe.cls∧s'=s) E s:=by
  unfold typeOf;exact af (gc he (aq ⟨rfl,rfl⟩))
 refine af (aP lt (fun v s' z=>?_) fun _ _ x=>x);obtain⟨rfl,rfl⟩:=z;rw[hcls];refine af (af (af (l3 _ _ _ s' kk ?_)));cases b with
 |true=>exact aq (aq (aq hq))
 |false=>exact aq (aq (aq hq))
end
theorem xh9{P:aF}{w:World}{X:Cx}:Passes (CXE P w) X E0:=fun _ _ _ _ _ _ _ h=>by
 obtain⟨_,_,_,_,_,_,_,_,_,_,_,_,_,_,_,_,_,_,_,_,_,_,_,_,_,_,_,_,_,z⟩:=h;exact z.elim
end L2
namespace L2
open PySem PySem.Spec PyProof.Rows
section
variable {X:Cx}
def Ends.gone(D:Ends)(i:Nat):Ends:={nx:=fun σ H=>D.nx (σ.set i none) H,rt:=D.rt,bk:=fun σ H=>D.bk (σ.set i none) H,ct:=fun σ H=>D.ct (σ.set i none) H}
def xeN(K:ah)(C':Addr)(i:Nat)(ts:Addr→Value→Option Addr→TS)(D:Ends):EEs:=fun σ cls dx H=>∃C,cls= .ref C∧dz K (.ref C) (.ref C')=some true∧∀a,H a=none→ts a cls dx (D.gone i) (σ.set i (some (.ref a))) H
def xjH(K:ah)(C':Addr)(i:Nat)(tb:EEs→TS)(ts:Addr→Value→Option Addr→TS):TS:=fun D σ H=>tb (xeN K C' i ts D) D σ H
theorem xay{M:Model}{A':aW}{E:Value→ae→Prop}{Q:Unit→ae→Prop}{pins:List (Addr×Obj)}{σ:St}{H:Hp}{s:ae}{i:Nat}{n:Str}{pos:Pos}(I:Inv X pins σ H s)(hN:X.N.Nodup)(hi:X.N[i]? =some n)(hk:X.env.kindOf n=some .local)
  (h:∀s',Inv X pins (σ.set i none) H s'→Q () s'):wpAny M A' (do bindName X.env n .none;unbindBehindTheSuite X.env n pos) Q E s:=by
 obtain⟨m,hn,hl⟩:=id I.loc;refine wpAny_nameGoes_keeps hk hn (by rw[I.ok.kind];rfl) fun h' v hn' hs=>h _ ?_;have neL:∀b u,X.s₀.heap.get? b=some u→b≠X.env.locals:=fun b u e=>bc (az (aG e) I.ok.above);obtain⟨oL,_,_,hoL,_⟩:=id hn;refine⟨I.ok,I.os,I.bare,⟨fun b o e n hb hx=>?_,fun b o e n hb hx=>?_,I.base.free,fun b o e hx=>?_,I.base.fix⟩,⟨_,hn',fun j y v' e1 e2 e3=>?_⟩,fun y c e=>?_,I.free,fun y c e=>?_,fun p hp=>?_,fun b u e=>?_,by simpa using I.len⟩
 ·exact(hs.2 b (neL b o e)).trans (I.base.keep b o e n hb hx)
 ·obtain⟨sl,e1⟩:=I.base.slot b o e n hb hx;exact⟨sl,(hs.2 b (neL b o e)).trans e1⟩
 ·obtain⟨o',e1⟩:=I.base.there b o e hx;exact⟨o',(hs.2 b (neL b o e)).trans e1⟩
 ·have hj:j≠i:=fun z=>by
   rw[z]at e2
   by_cases hi':i<σ.length
   ·rw[dy hi']at e2;cases e2
   ·rw[cm (by simpa using hi')]at e2;cases e2
  rw[cu (bz hj)]at e2;obtain⟨u',r',q⟩:=hl j y v' e1 e2 e3;refine⟨u',r',q.imp (fun⟨k,e⟩=>⟨k,?_⟩) fun⟨k,c,e,z⟩=>⟨k,c,e,z.sameBut hs (I.cne y c e)⟩⟩;have:y≠n:=fun e=>hj (xaV hN e1 (e▸hi));simp[this,e]
 ·obtain⟨w',z⟩:=I.cell y c e;exact⟨w',z.sameBut hs (I.cne y c e)⟩
 ·refine(I.freeC y c e).imp id fun⟨hf',o',ho',hno⟩=>⟨hf',o',ho',fun z j v' e1 k e2=>?_⟩;have hj:j≠i:=fun z=>by
   rw[z]at e2
   by_cases hi':i<σ.length
   ·rw[dy hi']at e2;cases e2
   ·rw[cm (by simpa using hi')]at e2;cases e2
  rw[cu (bz hj)]at e2;exact hno z j v' e1 k e2
 ·obtain⟨e,n,ne,nf,d⟩:=I.pin p hp;exact⟨(hs.2 p.1 ne).trans e,n,ne,nf,d⟩
 ·refine(I.hok b u e).stay (fun c w' hc q=>(hs.2 c ?_).trans q) (fun _ q=>q) fun _ _ q _=>q;rintro rfl;rcases hc with rfl|hc
  ·rw[I.free]at e;cases e
  ·rw[I.free]at hc;cases hc
theorem xhv{C':Addr}{y n:Str}{i:Nat}{np hp pos:Pos}{body suite:List Stmt}{b₀:Stmt}{tb:EEs→TS}{ts:Addr→Value→Option Addr→TS}(o:Own X)(hb:xdq X.K C')(hg:Gl X y)(hm:X.mg y=some (.ref C'))(hN:X.N.Nodup)(hi:X.N[i]? =some n)(hk:X.env.kindOf n=some .local)
  (hbody:∀(EE:EEs) (ps:List (Addr×Obj)),PSs ((X.pnd ps).wish (XE (X.pnd ps) EE)) body (tb EE)) (hsuite:∀(ps:List (Addr×Obj)) (a:Addr) (cls:Value) (dx:Option Addr),(∃oe:Obj,(a,oe)∈ps∧oe.cls=cls∧oe.dict=dx∧∃vs,oe.data= .fields vs)→PSs (X.held a ps) (b₀::suite) (ts a cls dx))
  (hdb:(y==("__debug__":Str))=false:=by decide):PS X (.Try body [.ExceptHandler (some (.Name y np)) (some n) (b₀::suite) hp] [] [] pos) (xjH X.K C' i tb ts):=by
 intro pins s σ H D I h;have ok:=I.ok;refine wpAny_Try_except (aP (hbody (xeN X.K C' i ts D) pins [] s σ H D (I.pnd.wish _) h) (fun f s1 hq=>?_) fun e s1 hx=>?_)
 ·have hq':SP X pins D f s1:=(SP.unwish hq).unpnd ok;cases f with
  |next=>exact dX hq'
  |brk=>exact hq'
  |cont=>exact hq'
  |ret u=>exact hq'
 ·obtain⟨a,cls,dx,σ1,H1,rfl,I1,F1,C,rfl,hkc,q⟩:=hx;refine xax (X:=X.pnd pins) o.pnd ok.frames I1 F1 fun s2 I2 F2=>?_;refine ug (X:=X.pnd pins) (to:=none) o.pnd I2 F2 fun s3 I3 F3=>?_;refine wpAny_handleBy_cons (codeAny_handlers_test ?_) (by intro z;cases z);obtain⟨oe,vs,a0,T,oT,ts',he,hc,hx,hd,h0,h1,nT,hT,hdT,h3,hn,hnT⟩:=id F3;have J3:=Inv.held I3 ok he hn.1 hd;refine yp J3 hg hm ?_ hdb;refine xbH (K:=X.K) I3.kIn he hc hkc hb ?_;refine codeAny_handlers_suite_as ?_;refine ug (X:=X.pnd pins) (to:=none) o.pnd I3 F3 fun s4 I4 F4=>?_;obtain⟨oe',vs',a0',T',oT',ts'',he',hc',hx',hd',h0',h1',nT',hT',hdT',h3',hn',hnT'⟩:=id F4;have J4:=Inv.held I4 ok he' hn'.1 hd';refine uI (X:=X.held a (pins++[(a,oe')])) (v:=.ref a) J4 hN hi (.inl hk) rfl (fun s5 J5=>?_) (.inr hk);refine aP (hsuite (pins++[(a,oe')]) a (.ref C) dx ⟨oe',by simp,hc',hx',_,hd'⟩ [] s5 _ H1 (D.gone i) J5 (q a hn'.1)) (fun f s6 hq=>?_) fun _ _ z=>z.elim;have hq':SP X pins (D.gone i) f s6:=hq.unheld ok;cases f with
  |next=>
   obtain⟨σ',H',J,z⟩:=hq';exact xay J hN hi hk fun s7 J7=>⟨_,_,J7,z⟩
  |brk=>
   obtain⟨σ',H',J,z⟩:=hq';exact xay J hN hi hk fun s7 J7=>⟨_,_,J7,z⟩
  |cont=>
   obtain⟨σ',H',J,z⟩:=hq';exact xay J hN hi hk fun s7 J7=>⟨_,_,J7,z⟩
  |ret u=>
   obtain⟨v,σ',H',J,r,z⟩:=hq';exact xay J hN hi hk fun s7 J7=>⟨_,_,_,J7,r,z⟩
end
end L2
namespace L2
open PySem PySem.Spec PyProof.Rows PySem.W
structure xa6(K:Frag)(D:Addr):Prop where
 ga:findIn K (.ref D) "__getattribute__"=some (some (.builtin "BaseException.__getattribute__"))
 gh:findIn K (.ref D) "__getattr__"=some none
 cl:findIn K (.ref D) "__class__"=some (some (.builtin "object.__class__"))
 gt:specialIn K (.builtin "object.__class__") "__get__"=some (some (.builtin "getset_descriptor.__get__"))
 tk:takesIn K (.builtin "object.__class__")=some true
 ob:mroIn K D (.type "object")=some true
 bs:mroIn K D (.type "BaseException")=some true
 is:(clsIn K D).isSome=true
theorem xdr:builtinKind "BaseException.__getattribute__"=some .slot:=by kernel_rfl
theorem xcN:splitId "BaseException.__getattribute__"=some ("BaseException","__getattribute__"):=by kernel_rfl
section
variable {prog:aF} {w:World} {A:aW} {E:Value→ae→Prop} {s:ae} {K:Frag} {x D:Addr} {ox:Obj} {od:Option Obj}
theorem xgu{a g:Value}{name:Str}(hc:(clsIn K D).isSome=true)(ha:findIn K (.ref D) name=some (some a))(hg:specialIn K a "__get__"=some (some g))(ht:takesIn K a=some true):findObj K D od name=some (.bind g a):=by
 obtain⟨cd,hc⟩:=fP.mp hc;unfold findObj;rw[hc,gY,ha,gY];simp[hg,ht]
theorem xgv{Q:Option Value→ae→Prop}(F:xa6 K D)(X:K.In s.heap)(I:InstAt s.heap x ox D od)(h:Q (some (.ref D)) {s with toks:=s.toks+1}):wpAny (model prog w) A (getAttr? (.ref x) "__class__") Q E s:=by
 obtain⟨hh,g,d,t,os⟩:=s;have l0:=I.type (M:=model prog w);have l1:=looks_findIn (M:=model prog w) X F.ga;have l2:=looks_findIn (M:=model prog w) X F.gh;have l3:=looks_find (M:=model prog w) X I (xgu (od:=od) F.is F.cl F.gt F.tk);unfold getAttr? getAttrBy? getAttrBy;refine af (wpAny_mkText (af (gC (bC (af (l0.at (af (l1.at ?_))))))));dsimp only;rw[if_neg (by rw[show(Value.builtin "BaseException.__getattribute__"==Value.builtin "object.__getattribute__")=false by decide,gf];exact aM)];unfold getAttrByItsOwn hookBefore;rw[if_pos (show onTheHeap (aS D)=true from rfl)];refine af (l2.at (af (gC (bC ?_))));unfold callGetattribute boundAndCalled;rw[if_neg (by simp)];refine af (wpAny_of_eq (PySem.F.excAttr_ValueError.ga.bind (.ref x)) ?_);have li:Looks (model prog w) hh (isInstance (.ref x) (.type "BaseException")) true:=l0.andThen (looks_mroIn X F.bs);dsimp only;refine eF ?_;refine codeAny_call_builtin PySem.F.excAttr_ValueError.ga.plain PySem.F.entry_bexc_ga ?_;have hs:=PySem.F.args_bexc_ga (.ref x) (.str "__class__" t);simp only[cE,d5];refine check_slot (M:=model prog w) (A:=A.in1) (i:="BaseException.__getattribute__") (owner:="BaseException") (n:="__getattribute__") (self:=.ref x) (rest:=[.str "__class__" t]) (kw:=[]) xdr xcN ?_ ?_ ?_
 ·exact li
 ·exact hs
 unfold Builtin.«object.__getattribute__» slotArgs;simp only[List.isEmpty_nil,Bool.not_true,ee,if_false,ao,cL,Nat.zero_add,bne_self_eq_false];refine af (aq ?_);dsimp only;unfold Builtin.ObjectAttr.attrName;simp only;refine af (aq ?_);refine af (l0.at ?_);refine af (l3.at ?_);dsimp only;unfold Builtin.ObjectAttr.bindTo;dsimp only;refine af (bC (eF (class_get (s:=⟨hh,g,d,t+1,os⟩) (ox:=ox) (od:=od) X I F.ob ?_)));refine aq ?_;exact handed_on rfl (aq h)
theorem xhw(F:xa6 K D):KitX K (.ref x) (.ref D) (fun h=>InstAt h x ox D od) where
 ty:=fun _ _ _ I=>I.type
 it:=fun _ _ X _=>by
  have hc:=F.is;unfold clsIn at hc
  split at hc
  ·rename_i c1 d1 cd1 sl1 ho;intro A' Q' E' s' k q;unfold isType loadHead;exact af (gc (k _ _ (X _ _ ho)) (aq q))
  ·cases hc
 ne:=fun h tp dd its n sl X htp=>by
  have hc:=F.is;refine Bool.eq_false_iff.mpr fun q=>?_;have e:D=tp:=Value.ref.inj (beq_iff_eq.mp q);subst e;unfold clsIn at hc
  split at hc
  ·rename_i c1 d1 cd1 sl1 ho;have z:=(X _ _ ho).symm.trans htp;cases z
  ·cases hc
 ca:=fun X I k=>xgv F X I k
end
section
variable {X:Cx}
def xaz(K:Frag)(a:Addr)(cls:Value)(dx:Option Addr):List V→Hp→VK→Prop:=fun xs H Q=>∃D c cv b,cls= .ref D∧(dx=none∨∃d fs,dx=some d∧H d=some (.xd fs))∧xa6 K D∧xs=[.ref a,c]∧xhr c=some cv∧kitOne K cls cv=some b∧Q (.bl b) H
theorem uh{a:Addr}{cls:Value}{dx:Option Addr}{ps:List (Addr×Obj)}(hs:∃oe:Obj,(a,oe)∈ps∧oe.cls=cls∧oe.dict=dx∧∃vs,oe.data= .fields vs)(hp:∀p∈ps,p∈X.pn):yj X (.builtin "isinstance") (xaz X.K a cls dx):=by
 intro pins s σ H xs us Q I r h;obtain⟨oe,hp',rfl,rfl,hv⟩:=hs;have hp:=hp _ hp';obtain⟨D,c,cv,b,hc,hd,F,rfl,rc,e,q⟩:=h;obtain⟨u,v,rfl,ru,rv⟩:=Vals.two r;have e2:=xdn rc rv;subst e2;cases (show u=aS a from ru);rw[hc]at e;have hn:notCls oe=true:=by
  obtain⟨vs,z⟩:=hv;obtain⟨c1,d1,dt,sl⟩:=oe;cases z;rfl
 have J:∃od,InstAt s.heap a oe D od:=by
  rcases hd with hd|⟨d,fs,hd,hx⟩
  ·exact⟨none,(I.pin _ (aU _ hp)).1,hc,hn,by rw[hd];trivial⟩
  ·obtain⟨mA,⟨ob,es,ep,eb,_⟩,_⟩:=I.hok d _ hx;exact⟨some ob,(I.pin _ (aU _ hp)).1,hc,hn,by rw[hd];exact eb⟩
 obtain⟨od,J⟩:=J;exact kia_one (xhw F) I.kIn J e (fun z=>nomatch z) fun tk=>⟨.bl b,H,I.tok _,rfl,q⟩
end
end L2
namespace L2
open PySem PySem.Spec PyProof.Rows
def xc6(sep:Str):List Str→Str
 |[p]=>p
 |ss=>Builtin.Str.glued sep ss
def uO(sep:Str)(ss:List Str):Nat:=Array.foldl (fun x1 x2=>x1+x2.length+sep.length) 0 ss.toArray
theorem xeO:∀{ss:List Str} {us:List Value},Vals (ss.map V.str) us→∃l:List (Str×Tok),us=strValues l∧l.map (fun x=>x.1)=ss
 |[],us,h=>by cases h;exact⟨[],rfl,rfl⟩
 |s::ss,us,h=>by
  cases h with
  |cons a b=>
   obtain⟨t,rfl⟩:=a;obtain⟨l,rfl,rfl⟩:=xeO b;exact⟨(s,t)::l,rfl,rfl⟩
section
variable {X:Cx}
def rJoin(K:ah):V→List V→Hp→VK→Prop:=fun x vs H Q=>∃(sep:Str) (l:Addr) (ss:List Str),x= .str sep∧vs=[.ref l]∧SqL K H l (ss.map V.str)∧uO sep ss≤ay∧(xc6 sep ss).length≤ay∧Q (.str (xc6 sep ss)) H
theorem yQ:MtM X "str.join" (rJoin X.K):=by
 intro pins s σ H x vs v us Q I rx rv h;obtain⟨sep,a,ss,rfl,rfl,hq,hl,hl2,q⟩:=h;obtain⟨t,rfl⟩:=rx;obtain⟨u,rfl,ru⟩:=rv.one;cases ru;obtain⟨its,r',pl,hz⟩:=I.list hq;obtain⟨l,rfl,rfl⟩:=xeO r';have hlong:Builtin.Str.tooLong (Array.foldl (fun x1 x2=>x1+x2.length+sep.length) 0 (List.map (fun x=>x.fst) l).toArray)=false:=decide_eq_false (by unfold uO at hl;lia);refine dj F.slot_str_join (dI s sep t) F.entry_str_join (F.args_str_join_2 _ _) (meets_str_join_list sep t a l hlong) ⟨pl.isList,?_⟩;rcases l with _|⟨p,_|⟨p2,l⟩⟩
 ·exact⟨hl2,.str _,H,I.tok _,⟨_,rfl⟩,q⟩
 ·exact⟨.str _,H,I.tok _,⟨_,rfl⟩,q⟩
 ·exact⟨hl2,.str _,H,I.tok _,⟨_,rfl⟩,q⟩
def xiG:V→List V→Hp→VK→Prop:=fun x vs H Q=>∃(z y:Str),x= .str z∧vs=[.str y]∧Q (.bl (decide (0+y.length≤z.length)&&gU z y 0)) H
theorem jz:MtM X "str.startswith" xiG:=by
 intro pins s σ H x vs v us Q I rx rv h;obtain⟨z,y,rfl,rfl,q⟩:=h;obtain⟨t,rfl⟩:=rx;obtain⟨u,rfl,ru⟩:=rv.one;obtain⟨t2,rfl⟩:=ru;refine dj F.slot_str_startswith (dI s z t) F.entry_str_startswith (F.args_str_startswith_2 _ _) (gives_str_startswith z y t t2).meets ?_;exact⟨.bl _,H,I.tok _,rfl,q⟩
theorem xcw:∀(ss:List Str) (t:Nat),Vals (ss.map V.str) (strsFrom t ss)
 |[],t=>by unfold strsFrom;exact .nil
 |s::ss,t=>by unfold strsFrom;exact .cons ⟨t,rfl⟩ (xcw ss (t+1))
end
end L2
namespace L2
open PySem PySem.Spec PyProof.Rows
section
variable {X:Cx}
def xkp(c:Str)(te:TE):TE:=fun σ H Q=>(bW++c).length≤ay∧te σ H fun x H1=>∃i:Int,x= .int i∧i.natAbs.log2<1920∧(bW++c++ai (toString i)).length≤ay∧Q (.str (bW++c++ai (toString i))) H1
theorem xiH{c:Str}{j:Nat}{p1 p2 pos:Pos}{e:Expr}{te:TE}(he:PE X e te):PE X (.JoinedStr [.Constant (.str c) j p1,.FormattedValue e (-1) none p2] pos) (xkp c te):=by
 intro pins s σ H Q I h;obtain⟨hl,h⟩:=h;refine wpAny_JoinedStr (Joins_cons (gJ ⟨c,_,rfl,hl,Joins_cons ?_⟩));refine wpAny_FormattedValue_plain (thn (he pins _ σ H _ (I.tok _) h) fun v s1 ⟨x,H1,I1,r1,q1⟩=>?_);obtain⟨i,rfl,hi,hl2,q⟩:=q1;obtain⟨t,rfl⟩:=r1;refine wpAny_formatField_int hi ⟨_,_,rfl,hl2,Joins_nil ⟨hl2,?_⟩⟩;exact⟨.str _,H1,(I1.tok _).tok _,⟨_,rfl⟩,q⟩
def xjI:V→Option Str
 | .int i=>some (ai (toString i))
 | .str z=>some z
 |_=>none
theorem yM:yj X (.type "str") (fun xs H Q=>∃(x:V) (z:Str),xs=[x]∧xjI x=some z∧(∀i,x= .int i→i.natAbs.log2<1920)∧Q (.str z) H):=by
 intro pins s σ H xs us Q I r h;obtain⟨x,z,rfl,hz,hb,q⟩:=h;obtain⟨u,rfl,rx⟩:=vals1 r;cases x with
 |int i=>
  obtain⟨t,rfl⟩:=rx;cases hz;exact PySem.P.str_of_int (hb i rfl) ⟨.str _,H,I.tok _,⟨_,rfl⟩,q⟩
 |str y=>
  obtain⟨t,rfl⟩:=rx;cases hz;exact PySem.P.str_of_str ⟨.str _,H,I.tok _,⟨_,rfl⟩,q⟩
 |_=>cases hz
end
end L2
namespace L2
open PySem PySem.Spec PyProof.Rows
def jU(z:Str)(lo hi:Option Int):Str:=⟨((z.cps.toList.drop (HT.sIx z.length 0 lo)).take (HT.sIx z.length z.length hi - HT.sIx z.length 0 lo)).toArray⟩
theorem xjJ(lo hi:Option Int)(n:Nat):Builtin.Str.strSliceIndices lo hi 1 n=sliceRange ((HT.sIx n 0 lo:Nat):Int) ((HT.sIx n n hi:Nat):Int) 1:=by
 obtain⟨h1,h2,h3⟩:=jL lo hi n;rw[←h1,←h2];rfl
section
variable {X:Cx}
def xkR:V→Option Int→Option Int→Hp→VK→Prop:=fun x lo hi H Q=>∃z,x= .str z∧z.length≤ay∧Q (.str (jU z lo hi)) H
theorem xgw:SlR X xkR:=by
 intro pins s σ H x v vl vu lo hi sl Q I rx hs pl pu h;obtain⟨z,rfl,hz,q⟩:=h;obtain⟨t,rfl⟩:=rx;refine⟨"str",_,slot_str_getitem.lookup,dI s z t,?_⟩;obtain⟨l,hl⟩:∃l:Option (Int×Tok),vl=partValue l∧l.map (·.1)=lo:=by
  cases pl with
  |none=>exact⟨none,rfl,rfl⟩
  |int i t=>exact⟨some (i,t),rfl,rfl⟩
 obtain⟨u,hu⟩:∃u:Option (Int×Tok),vu=partValue u∧u.map (·.1)=hi:=by
  cases pu with
  |none=>exact⟨none,rfl,rfl⟩
  |int i t=>exact⟨some (i,t),rfl,rfl⟩
 obtain⟨rfl,rfl⟩:=hl;obtain⟨rfl,rfl⟩:=hu;refine wpAny_getItem_str_slice (st:=none) (l:=l) (u:=u) hs rfl ?_;have hp:slicePicked z l u none=(gn (HT.sIx z.length z.length (u.map (·.1)) - HT.sIx z.length 0 (l.map (·.1)))).map fun x=>HT.sIx z.length 0 (l.map (·.1))+x:=by
  unfold slicePicked;rw[show((none:Option (Int×Tok)).map (fun x=>x.fst)).getD 1=1 from rfl,xjJ,sliceRange_one]
 have he:(List.filterMap (fun x_1=>z.cps[x_1]?) (slicePicked z l u none)).toArray=(jU z (l.map (·.1)) (u.map (·.1))).cps:=by
  rw[hp,pick_run];rfl
 unfold sliceMade
 split
 ·rename_i hc;have hlen:HT.sIx z.length z.length (u.map (·.1)) - HT.sIx z.length 0 (l.map (·.1))=z.length:=by
   have:=hc;rw[hp]at this;simpa using this
  have hcut:jU z (l.map (·.1)) (u.map (·.1))=z:=by
   have hb:HT.sIx z.length z.length (u.map (·.1))≤z.length:=HT.xf9 _ _ (aD _) _;unfold jU;rw[hlen];have hz0:z.cps.toList.length=z.length:=by simp[bR]
   by_cases h0:z.length=0
   ·have:z.cps.toList=[]:=eJ.mp (by lia);rw[this];have:z.cps=#[]:=by rw[←gq (xs:=z.cps),this]
    cases z
    simp_all
   ·have ha:HT.sIx z.length 0 (l.map (·.1))=0:=by lia
    rw[ha,cn,dA (by lia),gq]
  rw[hcut]at q;exact⟨.str _,H,I.tok _,⟨_,rfl⟩,q⟩
 ·rw[he];refine⟨?_,.str _,H,I.tok _,⟨_,rfl⟩,q⟩;have hz0:z.cps.toList.length=z.length:=by simp[bR]
  show(jU z (l.map (·.1)) (u.map (·.1))).cps.size≤ay;unfold jU;rw[aC,aI,aV];lia
end
end L2
namespace L2
open PySem PySem.Spec PyProof.Rows
def xfw(z:Str):It:=⟨fun i _=>i<z.cps.size,fun i H x H'=>H'=H∧∃c,z.cps[i]? =some c∧x= .str ⟨#[c]⟩,fun i _=>i=z.cps.size⟩
theorem xds{P:aF}{w:World}{A:aW}(h:A.handled=none)(it:Addr)(z:Str)(t:Tok):Walks P w A it [it] [it] z.cps.size (SignAt z) (fun i h=>h.IsStrIter it (eQ z) z t i):=by
 unfold eQ
 split
 ·exact Walks.strAscii h it z t
 ·exact Walks.strWide h it z t
theorem xcO(z:Str):["enumerate","zip","dict_itemiterator","dict_reverseitemiterator","odict_iterator","itertools.zip_longest","itertools.pairwise"].contains (eQ z)=false:=by
 unfold eQ
 split<;> decide
theorem xhx{P:aF}{w:World}{K:ah}{tg:Expr}(z:Str)(t:Tok)(it:Addr):Turn P w K tg (xfw z) [it] it (fun i h=>h.IsStrIter it (eQ z) z t i) where
 mem:=by simp
 obj:=fun i h st b hb=>by
  have e:b=it:=by simpa using hb
  subst e;obtain⟨o,e,c,d⟩:=st;exact⟨o,e,fun v z=>by rw[d]at z;cases z⟩
 keep:=fun i h h' st k=>by
  obtain⟨o,e,c,d⟩:=st;exact⟨o,k it (by simp) o e,c,d⟩
 item:=by
  intro X hP hw hK hc i pins s σ H E I hf st hg;subst hP hw hK;obtain⟨f0,f1,f2,f3,f4,f5⟩:=hf it (by simp);refine(xds (I.ok.hd hc) it z t).item i s _ E hg st fun v h' tk hv st' hk=>?_;obtain⟨c,u,hcc,rfl⟩:=hv;have I1:Inv X pins σ H {s with heap:=h',toks:=tk}:=I.turned (t':=tk) (fun b o hb e=>hk b o (by simpa using hb) e) f0 f1 f3 f4 f5;obtain⟨o,e,cl,d⟩:=id st';exact⟨_,rfl,xbq (s:={s with heap:=h',toks:=tk}) e cl d (xcO z) ⟨.str ⟨#[c]⟩,H,I1,⟨_,rfl⟩,⟨rfl,c,hcc,rfl⟩,st',fun b hb=>(hf b hb).1⟩⟩
 done:=by
  intro X hP hw hK hc i pins s σ H E I hf st hg;subst hP hw hK;obtain⟨f0,f1,f2,f3,f4,f5⟩:=hf it (by simp);have hg:i=z.cps.size:=hg;subst hg;exact(xds (I.ok.hd hc) it z t).done s _ E st fun h' tk hk=>⟨rfl,I.turned (t':=tk) (fun b o hb e=>hk b o (by simpa using hb) e) f0 f1 f3 f4 f5⟩
 self:=fun A i s Q E st h=>by
  unfold eQ at st
  split at st
  ·exact wpAny_pyIter_striter_ascii st h
  ·exact wpAny_pyIter_striter_wide st h
section
variable {X:Cx} {tg:Expr}
def xkS(tl:TE):TI:=fun σ H R=>tl σ H fun x H1=>∃z,x= .str z∧R (xfw z) H1
theorem xjK{l:Expr}{tl:TE}(hl:PE X l tl):PI X tg l (xkS tl):=by
 intro pins s σ H R I h;refine thn (hl pins s σ H _ I h) fun v s1 ⟨x,H1,I1,r1,q1⟩=>?_;obtain⟨z,rfl,q⟩:=q1;obtain⟨t,rfl⟩:=r1;refine wpAny_pyIter_strU ?_;refine⟨s1.heap.objs.size,[s1.heap.objs.size],_,_,H1,rfl,I1.kept (t':=s1.toks) fun b o e=>au _ e,xhx z t _,⟨_,ba _ rfl,rfl,rfl⟩,fun b hb=>?_,q⟩;have e:b=s1.heap.objs.size:=by simpa using hb
 subst e;exact I1.fpOk (aD _) (I1.hok.fresh (aD _))
end
theorem xhy{z:Str}{te:TE}{caps:L2.St}{Q:VK}{H2:Hp}(f:Nat→V)(hn:z.cps.size≤ay)
  (hs:∀(c:Nat) (H3:Hp),c∈z.cps.toList→xb H2 H3→∀R:VK,(∀H6,xb H3 H6→R (f c) H6)→te (some (.str ⟨#[c]⟩)::caps) H3 R)
  (hd:∀D H',H2 D=none→xb H2 H'→H' D=some (.lst (z.cps.toList.map f))→Q (.ref D) H'):yo (xfw z) caps jQ te Q H2:=by
 unfold yo;intro D hD;have hz:z.cps.toList.length=z.cps.size:=c9;refine⟨fun i m acc H3=>m=z.cps.size - i∧i≤z.cps.size∧acc=(z.cps.toList.take i).map f∧H3 D=some (.lst acc)∧xb H2 H3,⟨z.cps.size,by simp,bV _,rfl,xn,xb.new hD⟩,?_⟩;rintro i m acc H3 ⟨rfl,hi,rfl,hD3,s3⟩;refine⟨hD3,?_⟩
 by_cases hlt:i<z.cps.size
 ·refine .inr ⟨hlt,by rw[aa,aI];lia,fun v H4 y=>?_⟩;obtain⟨e,c,hc,ev⟩:=y;subst e;subst ev;have hcl:z.cps.toList[i]? =some c:=by rw[Array.getElem?_toList];exact hc
  refine⟨fun _=>?_,fun z=>by cases z⟩;refine hs _ _ (aQ hcl) s3 _ fun H6 s6=>⟨s6.at hD3,z.cps.size - (i+1),by lia,rfl,hlt,?_,xn,(s3.trans s6).put hD⟩;rw[bB,hcl,aA];rfl
 ·have e:i=z.cps.size:=by lia
  subst e;rw[←hz,bj]at hD3;exact .inl ⟨rfl,hd D H3 hD s3 hD3⟩
end L2
namespace L2
open PySem PySem.Spec PyProof.Rows
section
variable {X:Cx}
theorem vm:yj X (.type "int") (fun xs H Q=>∃(z:Str) (n:Int),xs=[.str z]∧PySem.intText? z=some n∧z.length≤640∧Q (.int n) H):=by
 intro pins s σ H xs us Q I r h;obtain⟨z,n,rfl,hn,hl,q⟩:=h;obtain⟨u,rfl,rx⟩:=vals1 r;obtain⟨t,rfl⟩:=rx;exact W.KIN.call_text hn hl ⟨.int _,H,I.tok _,⟨_,rfl⟩,q⟩
end
structure DcK(w:World)(K:ah)(a:Addr)(kvs:List (Str×Int)):Prop where
 obj:∃es n,K.lookup a=some ⟨.type "dict",none,.dict es n,#[]⟩∧W.KeysLit w.params es.toList
 val:∀x i,(x,i)∈kvs→∃t,ez K a x=some (some (.int i t))
theorem xb5{K:ah}{a:Addr}{y:Str}{j:Int}{t:Tok}{kvs:List (Str×Int)}(h:ez K a y=some (some (.int j t)))(r:∀x i,(x,i)∈kvs→∃t,ez K a x=some (some (.int i t))):
  ∀x i,(x,i)∈(y,j)::kvs→∃t,ez K a x=some (some (.int i t)):=fun x i z=>by
 rcases ax.mp z with e|z
 ·obtain⟨rfl,rfl⟩:=Prod.mk.inj e;exact⟨t,h⟩
 ·exact r x i z
section
variable {X:Cx} {o i:Expr} {pos:Pos} {td ty:TE}
def xjL(w:World)(K:ah)(td ty:TE):TE:=fun σ H Q=>td σ H fun x H1=>ty σ H1 fun y H2=>∃a kvs z n,x= .ref a∧y= .str z∧DcK w K a kvs∧(z,n)∈kvs∧Q (.int n) H2
theorem xhz(ho:PE X o td)(hi:PE X i ty)(hs:xhk i):PE X (.Subscript o i pos) (xjL X.w X.K td ty):=by
 intro pins s σ H Q I h;refine xeI PySem.F.slot_dict_getitem.lookup hs (thn (ho pins s σ H _ I h) fun u s1 ⟨x,H1,I1,rx,q1⟩=>thn (hi pins s1 σ H1 _ I1 q1) fun iv s2 ⟨y,H2,I2,ry,a,kvs,z,n,ex,ey,dc,hz,q2⟩=>?_);subst ex ey;obtain rfl:u=aS a:=rx;obtain⟨t,rfl⟩:=ry;obtain⟨es,m,hl,hk⟩:=dc.obj;obtain⟨t',e⟩:=dc.val z n hz;have hm:=W.mapOf_K (prog:=X.prog) (w:=X.w) I2.kIn hl hk;exact⟨hm.typeIs,wpAny_getItem_of (strKind_is X.prog X.w z t) hm (W.find_K hl e) ⟨.int n,H2,I2.tok _,⟨_,rfl⟩,q2⟩⟩
end
section
variable {X:Cx} {K:ah} {tg:Expr}
theorem xgx{T:String}{name:Str}{id:String}{r:V→List V→Hp→VK→Prop}{o e:Expr}{es:List Expr}{to:TE}{t:TA}{apos cpos:Pos}(hK:X.K=K)(pa:PlainAttrs T)(slot:Slot T name id)(hty:typeOf (.builtin id)=pure (.type "method_descriptor"))(hm:MtR X id r)(ho:PE X o to)(ha:PA X (e::es) t)
  (hbase:eR o name X.env (eval o X.env)=eval o X.env:=by rfl)
  (hfew:((cg cpos (aT (e::es) X.env)).all (fun x=> !x.1)&&(backToKw cpos (fY [] X.env)).all (fun x=>x.1.isSome)
   &&decide ((e::es).length+([]:List Keyword).length+(if ([]:List Keyword).isEmpty then 0 else 1)<30))=true:=by rfl)
  (hline:(apos.endLine==cpos.line)=true:=by rfl) (hs:aT (e::es) X.env=(false,eval e X.env)::aT es X.env:=by rfl) (hplain:(cg cpos (aT es X.env)).any (·.1)=false:=by rfl):
  PE X (.Call (.Attribute o name apos) (e::es) [] cpos) (tBM K T r to t):=by
 have:=yb pa slot hty hm ho ha hbase hfew hline hs hplain;rw[hK]at this;exact this
theorem xhA(e:X.K=K):MtM X "str.join" (rJoin K):=e▸yQ
theorem xiI{l:Expr}{tl:TE}(e:X.K=K)(hl:PE X l tl):PI X tg l (xjk K tl):=e▸xbr hl
def xiJ:V→List V→Hp→VK→Prop:=fun x vs H Q=>∃(z y:Str),x= .str z∧vs=[.str y]∧y.length≠0∧z.length+2≤ay∧∀d,H d=none→Q (.ref d) (upd H d (.lst ((PySem.Txt.split z y).map V.str)))
theorem vn:MtM X "str.split" xiJ:=by
 intro pins s σ H x vs v us Q I rx rv h;obtain⟨z,y,rfl,rfl,h0,h1,q⟩:=h;obtain⟨t,rfl⟩:=rx;obtain⟨u,rfl,ru⟩:=rv.one;obtain⟨t2,rfl⟩:=ru;have hy:(y.length==0)=false:=by simpa using h0
 have q0:=q s.heap.objs.size (I.hok.fresh (aD _));unfold PySem.Txt.split at q0;cases e1:(decide (z.length<y.length)||decide (gE z<gE y))with
 |true=>
  rw[if_pos e1]at q0;refine dj fR (dI s z t) fD (fu _ _) (meets_str_split_cannot_occur z y t t2 e1) ?_;exact⟨.ref _,_,I.lnew (show Vals [V.str z] [d8 z t]from .cons ⟨t,rfl⟩ .nil) (by show 1≤ay;decide),rfl,q0⟩
 |false=>
  rw[if_neg (ne_true_of_eq_false e1)]at q0;cases e2:(b7 z y 0 z.length (z.length+1)).isEmpty with
  |true=>
   rw[if_pos e2]at q0;refine dj fR (dI s z t) fD (fu _ _) (meets_str_split_not_found z y t t2 e1 hy e2) ?_;exact⟨.ref _,_,I.lnew (show Vals [V.str z] [d8 z t]from .cons ⟨t,rfl⟩ .nil) (by show 1≤ay;decide),rfl,q0⟩
  |false=>
   rw[if_neg (ne_true_of_eq_false e2)]at q0;have hn:(Builtin.Str.partsBetween z (b7 z y 0 z.length (z.length+1)) y.length).length≤ay:=by
    have l1:=PySem.length_partsBetween z (b7 z y 0 z.length (z.length+1)) y.length;have l2:=StrLaws.occ_length_le z y 0 z.length (z.length+1);lia
   refine dj fR (dI s z t) fD (fu _ _) (meets_str_split_sep z y t t2 e1 hy e2 (by lia) hn) ?_;exact⟨.ref _,_,I.lnew (xcw _ s.toks) (by rw[aa];exact hn),rfl,q0⟩
open PySem.AutoSeq1 (wpAny_loadPart') in
theorem xdt(l:Addr)(items:Array Value)(n:Nat)(b:Addr)(items2:Array Value)(n2:Nat)(dd2:Option Addr)(sl2:Array (Option Value))(hs0:¬(!items.isEmpty&&cw (items.size+items2.size))=true)(hs1:items.size≤ay)(hs2:items.size+items2.size≤ay+1):
  Meets (Builtin.«list.extend» ⟨[.ref l,.ref b],[]⟩) (fun _ R s=>s.heap.get? l=some {cls:=.type "list",dict:=none,data:=.seq items n,slots:=#[]}∧s.heap.get? b=some {cls:=.type "tuple",dict:=dd2,data:=.seq items2 n2,slots:=sl2}∧R (.ok (.ret bg)) {s with heap:=s.heap.update l (fe fun x=>x++items2),toks:=s.toks}):=
 .of_wp fun prog w A R s h=>by
  obtain⟨hp,g,d,tk,os⟩:=s;obtain⟨hl,hb,h⟩:=h;have f1:=AutoSeq1.idx_int;have f2:=AutoSeq1.sub_tuple_tuple;have f3:=AutoSeq1.sub_list_list;have f4:=AutoSeq1.sub_tuple_list;have f5:=AutoSeq1.sub_list_tuple;have hz':(items++items2).size≤ay+1:=by rw[fE];exact hs2
  wp_walk using(wpAny_updateSeq hl rfl (hz:=hs1) (_hz':=hz')),wpAny_loadPart' hl,wpAny_loadPart' hb
  exact⟨_,rfl,h⟩
def xhB(K:ah):V→List V→Hp→VK→Prop:=fun x vs H Q=>∃l b xs zs,x= .ref l∧vs=[.ref b]∧H l=some (.lst xs)∧SqT K H b zs∧xs.length+zs.length≤ay∧Q .non (upd H l (.lst (xs++zs)))
theorem xfx:MtM X "list.extend" (xhB X.K):=by
 intro pins s σ H x vs v us Q I rx rv h;obtain⟨l,b,xs,zs,rfl,rfl,hH,hB,hz,q⟩:=h;cases rx;obtain⟨u,rfl,ru⟩:=rv.one;cases ru;obtain⟨z,its,n,r,hl,e⟩:=I.lstM hH;obtain⟨its2,r2,⟨o2,e2,c2,n2,d2⟩,z2⟩:=I.tuple hB;have hl2:=r2.length;have hsz:its.toArray.size+its2.toArray.size≤ay:=by rw[aC,aC];lia
 have hlong:¬(!its.toArray.isEmpty&&cw (its.toArray.size+its2.toArray.size))=true:=by
  rw[xdd hsz,gf];exact aM
 obtain⟨c3,dd2,d3,sl2⟩:=o2;obtain rfl:c3= .type "tuple":=c2;obtain rfl:d3= .seq its2.toArray n2:=d2;refine dj F.slot_list_extend ⟨_,e,rfl⟩ F.entry_list_extend (F.args_list_extend_2 _ _)
  (xdt l its.toArray n b its2.toArray n2 dd2 sl2 hlong (by rw[aC];lia) (by lia)) ⟨e,e2,?_⟩
 refine⟨.non,_,I.lset (its':=its++its2) hH e (by simp) (r.append r2) ?_,rfl,q⟩;rw[aj];lia
end
end L2
namespace L2
open PySem PySem.Spec PyProof.Rows
open PySem.NumText (AllDigits digitsVal)
def xw(n:Int):Str:=ai (toString n)
def zp(m:Nat):List Nat:=(Nat.toDigits 10 m).map Char.toNat
theorem yG{a b:Str}(h:a.cps.toList=b.cps.toList):a=b:=by
 obtain⟨a⟩:=a;obtain⟨b⟩:=b;have:a=b:=Array.toList_inj.mp h;rw[this]
theorem yn(m:Nat):AllDigits (zp m):=by
 intro c hc;obtain⟨ch,hch,e⟩:=br.mp hc;have r:=digit_range (Nat.isDigit_of_mem_toDigits (by decide) (by decide) hch);rw[←e];exact r
theorem uH(m:Nat):zp m≠[]:=by
 intro e;have h:=toDigits_len_ge 10 m;rw[gF.mp e]at h;exact absurd h (by decide)
theorem xdu(m:Nat):digitsVal (zp m)=m:=W.KIN.val_back m
theorem yh(n:Int):(xw n).cps.toList=if n<0 then 45::zp n.natAbs else zp n.natAbs:=by
 unfold xw;cases n with
 |ofNat m=>
  have:=W.KIN.signs_num m;rw[if_neg (by have:(0:Int)≤Int.ofNat m:=Int.natCast_nonneg m;lia)];exact this
 |negSucc m=>
  rw[if_pos (Int.negSucc_lt_zero m),signs_ofString];show(("-"++(Nat.repr (m+1))).toList).map Char.toNat=_;rw[String.toList_append,aA,Nat.toList_repr];rfl
theorem vK{m k:Nat}(h:m<10^k)(hk:0<k):(zp m).length≤k:=by
 unfold zp;rw[aa];exact Nat.length_toDigits_le_iff (by decide) hk |>.mpr h
theorem yz{n:Int}(h:(n.natAbs:Int)<10^60):(xw n).length≤61:=by
 have hf:(zp n.natAbs).length≤60:=vK (by lia) (by decide);have:(xw n).cps.toList.length≤61:=by
  rw[yh];split
  ·rw[ao];lia
  ·lia
 simpa [bR]using this
theorem yN{n:Int}(h:(n.natAbs:Int)<10^60):PySem.intText? (xw n)=some n:=by
 have hl:=yz h;have e:=yh n
 by_cases h0:n<0
 ·rw[if_pos h0]at e;have:=PySem.intText_neg e (yn _) (uH _) (by lia);rw[this,xdu]
  congr 1
  lia
 ·rw[if_neg h0]at e;have:=PySem.intText_digits (x:=xw n) (by rw[e];exact yn _) (by rw[e];exact uH _) (by lia);rw[this,e,xdu]
  congr 1
  lia
theorem zd{n:Int}(h:(n.natAbs:Int)<10^60):n.natAbs.log2<1920:=by
 have h1:n.natAbs<2^200:=az (show n.natAbs<10^60 by lia) (by decide)
 by_cases h0:n.natAbs=0
 ·rw[h0];decide
 ·exact az ((Nat.log2_lt h0).mpr h1) (by decide)
theorem xP(sep:Str)(ss:List Str):xc6 sep ss=aZ sep ss:=by
 unfold xc6
 split
 ·rfl
 ·exact StrLaws.glued_eq_join _ _
theorem yR(a b:Str):(a++b).cps.toList=a.cps.toList++b.cps.toList:=by
 show(a.cps++b.cps).toList=_;exact Array.toList_append
theorem xY(c:Nat)(x y:Str)(r:List Str):(aZ ⟨#[c]⟩ (x::y::r)).cps.toList=x.cps.toList++c::(aZ ⟨#[c]⟩ (y::r)).cps.toList:=by
 show(x++⟨#[c]⟩++aZ ⟨#[c]⟩ (y::r)).cps.toList=_;rw[yR,yR,cR];rfl
theorem xeP{c:Nat}:∀{a b A B:List Nat},c∉a→c∉b→a++c::A=b++c::B→a=b∧A=B
 |[],[],A,B,_,_,h=>⟨rfl,by injection h⟩
 |[],y::b,A,B,_,hb,h=>by
  injection h with h1 _;exact absurd (by rw[h1];exact aL) hb
 |x::a,[],A,B,ha,_,h=>by
  injection h with h1 _;exact absurd (by rw[h1];exact aL) ha
 |x::a,y::b,A,B,ha,hb,h=>by
  injection h with h1 h2;obtain⟨e1,e2⟩:=xeP (fun z=>ha (ak _ z)) (fun z=>hb (ak _ z)) h2;exact⟨by rw[h1,e1],e2⟩
theorem xdv{c:Nat}:∀{as bs:List Str},as≠[]→bs≠[]→(∀p∈as,c∉p.cps.toList)→(∀p∈bs,c∉p.cps.toList)→aZ ⟨#[c]⟩ as=aZ ⟨#[c]⟩ bs→as=bs
 |[],_,h,_,_,_,_=>absurd rfl h
 |_,[],_,h,_,_,_=>absurd rfl h
 |[x],[y],_,_,_,_,h=>by rw[show x=y from h]
 |[x],y::z::r,_,_,ha,hb,h=>by
  have e:=congrArg (fun s:Str=>s.cps.toList) h;simp only[xY]at e;have:c∈x.cps.toList:=by
   show c∈(aZ ⟨#[c]⟩ [x]).cps.toList;rw[e];simp
  exact absurd this (ha x (by simp))
 |x::z::r,[y],_,_,ha,hb,h=>by
  have e:=congrArg (fun s:Str=>s.cps.toList) h;simp only[xY]at e;have:c∈y.cps.toList:=by
   show c∈(aZ ⟨#[c]⟩ [y]).cps.toList;rw[←e];simp
  exact absurd this (hb y (by simp))
 |x::u::r,y::v::q,_,_,ha,hb,h=>by
  have e:=congrArg (fun s:Str=>s.cps.toList) h;simp only[xY]at e;obtain⟨e1,e2⟩:=xeP (ha x (by simp)) (hb y (by simp)) e;rw[yG e1,xdv (as:=u::r) (bs:=v::q) (by simp) (by simp) (fun p hp=>ha p (ak _ hp)) (fun p hp=>hb p (ak _ hp)) (yG e2)]
theorem uP(x y:Str):PySem.Txt.split x y≠[]:=by
 unfold PySem.Txt.split
 split
 ·simp
 ·split
  ·simp
  ·intro e;have:=PySem.length_partsBetween x (b7 x y 0 x.length (x.length+1)) y.length;rw[e]at this;simp at this
theorem zk{c:Nat}{ss:List Str}(hne:ss≠[])(h:∀p∈ss,c∉p.cps.toList):PySem.Txt.split (aZ ⟨#[c]⟩ ss) ⟨#[c]⟩=ss:=
 xdv (uP _ _) hne (gO _ c) h (dq _ _)
theorem xcx{c d:Nat}(hcd:c≠d):∀{ss:List Str},(∀p∈ss,c∉p.cps.toList)→c∉(aZ ⟨#[d]⟩ ss).cps.toList
 |[],_=>by show c∉(bW).cps.toList;simp[bW]
 |[x],h=>h x (by simp)
 |x::y::r,h=>by
  rw[xY];intro m;rcases aN.mp m with m|m
  ·exact h x (by simp) m
  ·rcases ax.mp m with m|m
   ·exact hcd m
   ·exact xcx hcd (ss:=y::r) (fun p hp=>h p (ak _ hp)) m
theorem uQ{d B:Nat}:∀(ss:List Str),(∀p∈ss,p.length≤B)→(aZ ⟨#[d]⟩ ss).length≤ss.length*(B+1)
 |[],_=>by show(bW).length≤_;simp[bW,bR]
 |[x],h=>by
  have:=h x (by simp);show x.length≤_;simp;lia
 |x::y::r,h=>by
  have h1:=h x (by simp);have h2:=uQ (d:=d) (y::r) (fun p hp=>h p (ak _ hp));have e:(aZ ⟨#[d]⟩ (x::y::r)).length=x.length+(1+(aZ ⟨#[d]⟩ (y::r)).length):=by
   have:=congrArg bZ (xY d x y r);simp only[aj,ao,c9]at this;show(aZ ⟨#[d]⟩ (x::y::r)).cps.size=x.cps.size+(1+(aZ ⟨#[d]⟩ (y::r)).cps.size);lia
  rw[e];have e2:(x::y::r).length*(B+1)=(y::r).length*(B+1)+(B+1):=by
   rw[ao,gP]
  lia
theorem vX{d B:Nat}(ss:List Str)(h:∀p∈ss,p.length≤B):uO ⟨#[d]⟩ ss≤ss.length*(B+1):=by
 unfold uO;rw[StrLaws.joinTotal];have h1:=StrLaws.sumLen_le ss h;have e:(⟨#[d]⟩:Str).length=1:=rfl;rw[e,Nat.mul_add];lia
theorem ui{c:Nat}(n:Int)(h1:c≠45)(h2:c<48):c∉(xw n).cps.toList:=by
 rw[yh];have hf:c∉zp n.natAbs:=fun z=>by have:=yn _ c z;lia
 split
 ·intro m;rcases ax.mp m with m|m
  ·exact h1 m
  ·exact hf m
 ·exact hf
theorem xhC{c:Nat}{a b:Str}(h1:c∉a.cps.toList)(h2:c∉b.cps.toList):c∉(a++b).cps.toList:=by
 rw[yR];intro m;rcases aN.mp m with m|m
 ·exact h1 m
 ·exact h2 m
theorem len_app(a b:Str):(a++b).length=a.length+b.length:=by show(a.cps++b.cps).size=a.cps.size+b.cps.size;exact fE
end L2
namespace HT
open PySem PyProof.Rows
section
variable {prog:aF} {w:World} {A:aW} {E:Value→ae→Prop} {s:ae}
theorem xaE{t sl:Addr}{items:Array Value}{vl vu:Value}{lo hi:Option Int}{Q:Value→ae→Prop}(ht:IsTup s.heap t items)(hs:s.heap.IsSliceOf sl vl vu .none)(pl:fc vl lo)(pu:fc vu hi)
  (hw:sIx items.size 0 lo=0∧sIx items.size items.size hi=items.size) (h:Q (.ref t) s):wpAny (model prog w) A (eH (.ref t) (.ref sl)) Q E s:=by
 obtain⟨os,hos,hcs,hds⟩:=id hs;have hTs:s.TypeIs (.ref sl) "slice":=⟨os,hos,hcs⟩;unfold eH
 try with_reducible refine bC ?_
 first|refine af (aq ?_)|skip
 refine af (wpAny_sequenceKey ht.typeIs (by decide) ?_);refine af (fT (name:=ai "__getitem__") ht.typeIs bL
  (wpAny_call_entry bL ht.typeIs entry_tuple_getitem ?_ (args_tuple_getitem _ _)))
 show wpAny _ _ (fB (.ref t) >>= _) _ _ s;refine af (tupleItemsOf_ ht ?_);refine af (wpAny_typeOf hTs ?_);rw[if_pos (by decide)];refine af (uL hs pl pu ?_);have hyes:(((sIx items.size 0 lo:Nat):Int)==0&&(1:Int)==1&&(sIx items.size items.size hi - sIx items.size 0 lo)==items.size)=true:=by
  rw[hw.1,hw.2];simp
 show wpAny _ _ (if (((sIx items.size 0 lo:Nat):Int)==0&&(1:Int)==1&&(sIx items.size items.size hi - sIx items.size 0 lo)==items.size)=true then _ else _) _ _ s;rw[if_pos hyes];refine af (m:=Builtin.Tuple.tupleIsExact _) (af (wpAny_typeOf ht.typeIs (aq ?_)));have ht2:(gm "tuple"==gm "tuple")=true:=by rfl
 rw[if_pos (by rw[ht2])];refine af (wpAny_rule ?_);exact aq ⟨_,rfl,aq h⟩
end
end HT
namespace L2
open PySem PySem.Spec PyProof.Rows
section
variable {X:Cx}
end
end L2
namespace L2
open PySem PySem.Spec PyProof.Rows
def xia(M:Model)(A:aW)(E:Value→ae→Prop)(Q:Value→ae→Prop)(acc:Value)(ce:Env):fN→ae→Prop
 | .ok _,s'=>∃m,s'.heap.Ns ce.locals m∧∀h',cI ce.locals s'.heap h'→Q acc {s' with heap:=h'}
 | .error x,s'=>∃m,s'.heap.Ns ce.locals m∧∀h',cI ce.locals s'.heap h'→wpAny M A (passOn "comprehension.variables-let-go" x ce:Sem Value) (fun _ _=>False) E {s' with heap:=h'}
theorem xiK{M:Model}{A:aW}{E:Value→ae→Prop}{s:ae}{env:Env}{e:Expr}{scope:Scope}{pos:Pos}{newAcc first:Sem Value}{g:Comprehension}{gs:List Comprehension}{cl:List (Str×Addr)}{Q:Value→ae→Prop}
  (hcl:clausesOf e=g::gs) (hs:∀x,cQ g.iter env x=pure x) (hclos:closureFor scope env=pure cl) (hkind:scope.kind= .function) (hnames:∀x∈scope.names,x.2= .local→scope.names.lookup x.1=some .local)
  (h:wpAny M A first (fun x s₁=>wpAny M A (pyIter x) (fun it s₂=>wpAny M A newAcc (fun acc s₃=>wpAny M A (gg scope env.globals cl [] env.qual none .none (some env)) (fun cenv s₄=>
   df M A (.compStart e 0 it acc {cenv with scope:=eI scope env}) (xia M A E Q acc {cenv with scope:=eI scope env}) s₄) E s₃) E s₂) E s₁) E s):
  wpAny M A (gB e scope env pos newAcc false first none) Q E s:=by
 unfold gB;rw[hclos,hcl];refine af (thn h fun x s₁ h₁=>?_);refine af (cD (af (wpAny_of_eq (hs x) (af (bC (thn h₁ fun it s₂ h₂=>?_))))));refine wpAny_standIf (af (thn h₂ fun acc s₃ h₃=>?_));refine af (aq (af (thn h₃ fun cenv s₄ h₄=>?_)));dsimp only;have hv:∀x∈(scope.names.filter fun x=>(x.2== .local||x.2== .cell)&&x.1 != (".0":Str)).reverse,x.2= .local→Env.kindOf {cenv with scope:=eI scope env} x.1=some .local:=fun x hx hl=>
  cU (hnames x (fU.mp (List.mem_reverse.mp hx)).1 hl)
 refine bC (af (gC (bC (wpAny_run (cZ h₄ fun r s' hr=>?_)))));cases r with
 |ok f=>
  obtain⟨m,hn,hr⟩:=hr;exact af (bC (wpAny_comp_letGo (cenv:={cenv with scope:=eI scope env}) hkind _ s' m hv hn fun h' _ _ q=>aq (hr h' q)))
 |error x=>
  obtain⟨m,hn,hr⟩:=hr;exact af (bC (wpAny_comp_letGo (cenv:={cenv with scope:=eI scope env}) hkind _ s' m hv hn fun h' _ _ q=>aP (hr h' q) (fun _ _ f=>f.elim) fun _ _ y=>y))
def XB(Xc:Cx)(E1:XK):Value→ae→Prop:=fun e s'=>∃pins σ H s,Inv Xc pins σ H s∧CXE Xc.prog Xc.w Xc.stack H s E1 e s'
section
variable {X:Cx} {E1:XK}
variable {k:Nat} {f:Addr} {fd:aK} {ps:List Str} {sp:Sp} {dvs:List V} {ds:List Value} {x:Str} {p pos:Pos} {e:Expr} {es:List Expr} {t:TA}
theorem xgy(F:xA X.prog X.w X.K X.mg X.base (CXE X.prog X.w) k f fd ps sp)(hr:xZ k X.A)(hg:Gl X x)(hm:X.mg x=some (.ref f))(hk:dH X.K (.ref f)=true)(hb:Binds X.K fd ps ds)(hd:Vals dvs ds)
  (ha:PA (X.wish (XB X E1)) (e::es) t) (hdb:(x==("__debug__":Str))=false:=by decide) (he:aT (e::es) X.env=(false,eval e X.env)::aT es X.env:=by rfl) (hpl:(cg pos (aT es X.env)).any (·.1)=false:=by rfl):
  PE (X.wish (XB X E1)) (.Call (.Name x p) (e::es) [] pos) (xdp sp dvs (fun _=>E1) t):=by
 intro pins s σ H Q I h;refine ck (yp I hg hm ?_ hdb);refine ed (h₀:=X.base) I.ok.mod.kin hk (thn (ha pos pins s σ H _ I h) fun us s1 ⟨vs,H1,I1,r,q⟩=>⟨I1.kIn,?_⟩) he hpl;have r2:Vals (vs++dvs) (us++ds):=r.append hd;have hl:(us++ds).length=ps.length:=r2.length.symm.trans (F.len _ _ _ _ q);refine eF (cZ (F.run X.A X.stack s1 H1 ⟨us,[]⟩ (us++ds) (vs++dvs) Q E1 hr I1.unwish.env0 (hb s1 us I1.unwish.kIn hl) r2 q) fun z s' hq=>?_)
 match z,hq with
 | .error e,hq=>exact⟨pins,σ,H1,s1,I1.unwish,hq⟩
 | .ok (.ret u),hq=>exact I1.after hq
 | .ok .next,hq=>exact hq.elim
 | .ok .brk,hq=>exact hq.elim
 | .ok .cont,hq=>exact hq.elim
end
theorem xiL{prog:aF}{w:World}{A:aW}{R:fN→ae→Prop}{s:ae}{elt tg iter:Expr}{scope:Scope}{pos:Pos}{it acc:Value}{env:Env}{XX:Value→ae→Prop}(J:Nat→ae→Prop)
  (hx:∀e s',XX e s'→notedBy (model prog w) A env (fun x s2=>R (.error x) s2) e s')
  (go:∀n s,J n s→wpAny (model prog w) A (pyNext it) (fun r s1=>match r with
   |none=>R (.ok .next) s1
   |some v=>wpAny (model prog w) A (dY tg it v) (fun _ s2=>wpAny (model prog w) A (eZ tg env v) (fun _ s3=>
     wpAny (model prog w) A (eval elt env) (fun y s5=>wpAny (model prog w) A (call (.builtin "list.append") [acc,y]) (fun _ s6=>∃m,m<n∧J m s6) (fun _ _=>False) s5) XX s3) (fun _ _=>False) s2) (fun _ _=>False) s1) (fun _ _=>False) s)
  (n:Nat) (h:J n s):df (model prog w) A (.compLoop (.ListComp elt [⟨tg,iter,[],0⟩] scope pos) 0 it acc env) R s:=by
 refine codeAny_loop rfl J (fun n s hJ=>?_) n h;show wpAny _ A ((compTurn (.ListComp elt [⟨tg,iter,[],0⟩] scope pos) 0 it acc env).onRaise (fun x=>do eX x env;theTreesLotGoes x)) _ _ s;refine wpAny_noted ?_;rw[compTurn_list];refine af (cD (af (aP (go n s hJ) (fun r s1 h1=>?_) fun _ _ z=>z.elim)));cases r with
 |none=>exact aq h1
 |some v=>
  refine af (aP h1 (fun _ s2 h2=>af (aP h2 (fun _ s3 h3=>af (wpAny_tests_nil ?_)) fun _ _ z=>z.elim)) fun _ _ z=>z.elim);exact af (af (aP h3 (fun y s5 h5=>af (aP h5 (fun _ s6 h6=>aq (aq ⟨rfl,h6⟩)) fun _ _ z=>z.elim)) fun e s' z=>hx e s' z))
end L2
namespace L2
open PySem PySem.Spec PyProof.Rows
section
variable {X:Cx} {scope:Scope} {x:Str} {cap:List Nat} {ys:List Str} {elt iter:Expr} {px pos:Pos} {wi:TI} {te:TE} {E1:XK}
theorem xgz{pins:List (Addr×Obj)}{σ:St}{H₂:Hp}{s₂ s':ae}{fp:List Addr}{C:Addr}{e:Value}{R:fN→ae→Prop}(o:Own X)(B:ym X scope x cap ys)(I:Inv X pins σ H₂ s₂)
  (hf:∀b∈fp,zV X pins H₂ b) (hC:s₂.heap.objs.size≤C) (h:XB (X.blk scope C (x::ys) s₂ H₂ fp) E1 e s')
  (hR:∀s8 m,s8.heap.Ns C m→(∀h',cI C s8.heap h'→wpAny (model X.prog X.w) X.A (PySem.passOn "comprehension.variables-let-go" e (ef scope (yy X.env.cells scope.names []) C X.env):Sem Value) (fun _ _=>False) (XE X fun _=>E1) {s8 with heap:=h'})→R (.error e) s8):
  notedBy (model X.prog X.w) X.A (ef scope (yy X.env.cells scope.names []) C X.env) (fun x s8=>R (.error x) s8) e s':=by
 obtain⟨pl,σb,H,s,Ib,cx⟩:=h;have J:Inv X pins σ H s:=B.back I hf Ib;obtain⟨g1,g2,g3,g4,g5⟩:=ym.far I hC Ib;obtain⟨mC,⟨oC,es,ep,eC,dC,kC,fC⟩,_⟩:=Ib.loc;have eC:s.heap.get? C=some oC:=eC;have nfs:C∉X.fs:=fun z=>by
  rcases I.funs.mem z with⟨_,u,hu,_⟩
  exact absurd (aG hu) (Nat.not_lt.mpr hC)
 have fpC:zV X pins H C:=⟨g1,g2,nfs,.inr g3,g4,g5⟩;have Jp:=(J.pinned (fp:=[C]) (fun b hb=>by rw[aw.mp hb];exact fpC) (fun b hb=>by
  rw[aw.mp hb];exact⟨oC,eC,fun v z=>by have:=dC.symm.trans z;cases this⟩)).pnd
 have hpin:(C,oC)∈pins++yu [C] s.heap:=av _ (yJ (aw.mpr rfl) eC);obtain⟨a,cls,dx,σ1,H1,rfl,I1,F1,q1⟩:=xbG (X:=X.pnd (pins++yu [C] s.heap)) (EE:=fun _=>E1) o.pnd (Jp.wish _) cx;show wpAny _ _ (eX (.ref a) X.env) _ _ s';refine xax (X:=X.pnd (pins++yu [C] s.heap)) o.pnd I1.ok.frames I1 F1 fun s8 I8 F8=>?_;have e8:s8.heap.get? C=some oC:=(I8.pin (C,oC) (aU _ (av _ hpin))).1;obtain⟨oe,vs,a0,T,oT,ts,he,hc,hx,hd,h0,h1,nT,hT,hdT,h3,hn,hnT⟩:=F8;have na:a≠C:=fun z=>(hn.2.2 (C,oC) (av _ hpin)) z.symm;have nT2:T≠C:=fun z=>(hnT.2.2 (C,oC) (av _ hpin)) z.symm;have H1C:H1 C=none:=(I8.pin (C,oC) (aU _ (av _ hpin))).2.1;have I8':Inv X pins σ1 H1 s8:=((I8.unpnd I.ok).pins_of fun p hp=>(I8.unpnd I.ok).pin p (av _ (aU _ hp)));refine hR s8 mC ⟨oC,es,ep,e8,dC,kC,fC⟩ fun h' sb=>?_;have I9:Inv X pins σ1 H1 {s8 with heap:=h'}:=I8'.turned (t':=s8.toks) (fun b u hb e=>(sb.2 b hb).trans e) H1C g2 (.inr g3) g4 g5;have nu:∀b,Nu (X.pnd (pins++yu [C] s.heap)) H1 b→Nu X H1 b:=fun b ⟨z1,z2,z3⟩=>⟨z1,z2,fun p hp=>z3 p (aU _ hp)⟩;have F9:jS X (bU X.env.locals) H1 h' a cls dx:=⟨oe,vs,a0,T,oT,ts,(sb.2 a na).trans he,hc,hx,hd,h0,h1,nT,(sb.2 T nT2).trans hT,hdT,h3,nu a hn,nu T hnT⟩;unfold PySem.passOn;refine af (bH ((sb.2 a na).trans he) hd h1 ?_);rw[if_neg (by simp)];refine af (ug (to:=X.env.frame) o I9.nopins F9 fun s10 I10 F10=>?_);refine wpAny_throw ⟨a,cls,dx,σ1,H1,rfl,I10,.inr (.inr ?_),q1⟩;rw[o.fr]at F10;exact F10
theorem xeg(o:Own X)(B:ym X scope x cap ys)(hc:X.calm=true)(he:∀C s H fp,PE ((X.blk scope C (x::ys) s H fp).wish (XB (X.blk scope C (x::ys) s H fp) E1)) elt te)
  {pins:List (Addr×Obj)} {σ:St} {s₂:ae} {Q:VK} {RR:Value→Env→fN→ae→Prop} {itv:Value} {E:Value→ae→Prop}
  (hp:PIE X pins σ (.Name x px) (fun J H2=>yo J (zo σ cap) jQ te Q H2) itv s₂)
  (hR:∀(D C:Addr) (H':Hp) (s':ae),Inv X pins σ H' s'→(∃m,s'.heap.Ns C m)→H' C=none→C≠X.env.locals→X.s₀.heap.objs.size≤C→(∀z c,X.env.cells.lookup z=some c→c≠C)→(∀p∈X.pn++pins,p.1≠C)→Q (.ref D) H'→RR (.ref D) (ef scope (yy X.env.cells scope.names []) C X.env) (.ok .next) s')
  (hX:∀(D:Value) (C:Addr) (e:Value) (s':ae),(∃m,s'.heap.Ns C m)→(∀h',cI C s'.heap h'→wpAny (model X.prog X.w) X.A (PySem.passOn "comprehension.variables-let-go" e (ef scope (yy X.env.cells scope.names []) C X.env):Sem Value) (fun _ _=>False) (XE X fun _=>E1) {s' with heap:=h'})→RR D (ef scope (yy X.env.cells scope.names []) C X.env) (.error e) s'):
  wpAny (model X.prog X.w) X.A (newList []) (fun acc s₃=>wpAny (model X.prog X.w) X.A (gg scope X.env.globals (yy X.env.cells scope.names []) [] X.env.qual none .none (some X.env)) (fun cenv s₄=>
   df (model X.prog X.w) X.A (.compStart (.ListComp elt [⟨.Name x px,iter,[],0⟩] scope pos) 0 itv acc {cenv with scope:=eI scope X.env}) (RR acc {cenv with scope:=eI scope X.env}) s₄) E s₃) E s₂:=by
 obtain⟨it,fp,tn,J,H2,e,I2,T,st2,f2,hw⟩:=hp;subst e;unfold yo at hw;refine cc (wpAny_newFunctionEnv B.nocell (by intro y hy;simp at hy) (fun h₁ hns₁ hsb₁=>?_) B.kind);dsimp only at hns₁ hsb₁⊢;generalize hG:s₂.heap.push {cls:=.type "list",dict:=none,data:=.seq ([]:List Value).toArray}=G at hns₁ hsb₁⊢;have hsz:G.objs.size=s₂.heap.objs.size+1:=by rw[←hG,fm]
 have hCle:s₂.heap.objs.size≤G.objs.size:=by lia
 have hDC:s₂.heap.objs.size≠G.objs.size:=by lia
 have old:∀b o,s₂.heap.get? b=some o→h₁.get? b=some o:=fun b o q=>by
  have lt:=aG q;refine hsb₁.extBut b o (bc (az lt hCle)) (au _ ?_);rw[←hG];exact au _ q
 have accAt:h₁.get? s₂.heap.objs.size=some {cls:=.type "list",data:=.seq ([]:List Value).toArray}:=by
  refine hsb₁.extBut _ _ hDC (au _ ?_);rw[←hG];exact ba _ rfl
 have hfp:∀b∈fp,b<s₂.heap.objs.size:=fun b hb=>by
  obtain⟨o,ho,_⟩:=T.obj _ _ st2 b hb;exact aG ho
 obtain⟨W,⟨m0,w0⟩,turn⟩:=hw s₂.heap.objs.size (I2.hok.fresh (aD _));generalize htk:s₂.toks+([]:List (Str×Value)).length=tk;have I0:=B.start (tk:=tk) (C:=G.objs.size) I2 f2 (aD _) hCle hDC old ⟨_,hns₁⟩ accAt hfp;have st0:tn 0 h₁:=T.keep _ _ _ st2 fun b hb o q=>old b o q
 -- what stays true of the iterator's objects
 have f3:∀{H':Hp},(∀b∈fp,H' b=none)→∀b∈fp,zV (X.blk scope G.objs.size (x::ys) s₂ H2 fp) [] H' b:=fun hn b hb=>by
  obtain⟨f0,f1,f2',f3',f4,f5⟩:=f2 b hb;refine⟨hn b hb,bc (az (hfp b hb) hCle),fun hs=>?_,.inl hb,fun z c q=>f4 z c (B.sub I2.ok q),fun p hp=>absurd (show p∈([]:List (Addr×Obj))from hp) (by simp)⟩;rcases ax.mp (I2.stkSub b hs)with q|q
  ·exact f1 q
  ·exact f2' q
 have n0:∀b∈fp,upd H2 s₂.heap.objs.size (.lst []) b=none:=fun b hb=>by
  rw[xH (bc (hfp b hb))];exact(f2 b hb).1
 have loop:∀sx:ae,sx={s₂ with heap:=h₁,toks:=tk}→
   df (model X.prog X.w) X.A (.compLoop (.ListComp elt [⟨.Name x px,iter,[],0⟩] scope pos) 0 (.ref it) (.ref s₂.heap.objs.size) (ef scope (yy X.env.cells scope.names []) G.objs.size X.env)) (RR (.ref s₂.heap.objs.size) (ef scope (yy X.env.cells scope.names []) G.objs.size X.env)) sx:=by
  rintro sx rfl;refine xiL (XX:=XB (X.blk scope G.objs.size (x::ys) s₂ H2 fp) E1) (fun n s'=>∃i acc H',Inv (X.blk scope G.objs.size (x::ys) s₂ H2 fp) [] (none::zo σ cap) H' s'∧tn i s'.heap∧(∀b∈fp,H' b=none)∧W i n acc H') (fun e s' hz=>xgz o B I2 f2 hCle hz fun s8 m hm k=>hX _ _ e s8 ⟨m,hm⟩ k) ?_ m0 ⟨0,[],_,I0,st0,n0,w0⟩;rintro n s3 ⟨i,acc,H3,I3,st3,fr3,w3⟩;obtain⟨hD3,alt⟩:=turn i n acc H3 w3;rcases alt with⟨stop,q⟩|⟨go,hlen,step⟩
  ·refine aP (T.done (X.blk scope G.objs.size (x::ys) s₂ H2 fp) rfl rfl rfl hc i [] s3 _ H3 (fun _ _=>False) I3 (f3 fr3) st3 stop) (fun r s4 ⟨hr,I4⟩=>?_) fun _ _ z=>z.elim;subst hr;obtain⟨g1,g2,g3,g4,g5⟩:=ym.far I2 hCle I4;obtain⟨m4,hm4,_⟩:=I4.loc;exact hR _ _ H3 s4 (B.back I2 f2 I4) ⟨m4,hm4⟩ g1 g2 g3 g4 g5 q
  ·refine aP (T.item (X.blk scope G.objs.size (x::ys) s₂ H2 fp) rfl rfl rfl hc i [] s3 _ H3 (fun _ _=>False) I3 (f3 fr3) st3 go) (fun r s4 ⟨u,hr,h4⟩=>?_) fun _ _ z=>z.elim;subst hr;refine aP h4 (fun _ s4 ⟨v,H4,I4,rv,y4,st4,fr4⟩=>?_) fun _ _ z=>z.elim;have I4':=I4.pinned (f3 fr4) (T.obj _ _ st4);refine eK (uI (X:=X.blk scope G.objs.size (x::ys) s₂ H2 fp) (i:=0) I4' B.nd rfl (.inl (cU B.lx)) rv (fun s5 I5=>?_) (.inr (cU B.lx)));have I5':Inv (X.blk scope G.objs.size (x::ys) s₂ H2 fp) ([]++yu fp s4.heap) (some v::zo σ cap) H4 s5:=I5;have pinned:∀{σ7:St} {H7:Hp} {s7:ae},Inv (X.blk scope G.objs.size (x::ys) s₂ H2 fp) ([]++yu fp s4.heap) σ7 H7 s7→tn (i+1) s7.heap∧∀b∈fp,H7 b=none:=fun{σ7 H7 s7} I7=>by
    refine⟨T.keep _ _ _ st4 fun b hb o e=>(I7.pin (b,o) (av _ (av _ (yJ hb e)))).1,fun b hb=>?_⟩;obtain⟨o,e,d⟩:=T.obj _ _ st4 b hb;exact(I7.pin (b,o) (av _ (av _ (yJ hb e)))).2.1
   have weak:∀{H7:Hp} {s7:ae},Inv (X.blk scope G.objs.size (x::ys) s₂ H2 fp) ([]++yu fp s4.heap) (some v::zo σ cap) H7 s7→Inv (X.blk scope G.objs.size (x::ys) s₂ H2 fp) [] (none::zo σ cap) H7 s7:=fun I7=>
    (I7.unpinned (pins:=[])).weak rfl fun j z e=>by
     cases j with
     |zero=>simp at e
     |succ j=>simpa using e
   refine aP (he _ _ _ _ _ s5 _ H4 _ (I5'.wish _) ((step v H4 y4:jQ _ _ _).1 rfl)) (fun y s7 ⟨z,H7,I7w,rz,hD7,m',hm',w'⟩=>?_) fun _ _ z=>z;have I7:=I7w.unwish;refine aP (yH (X:=X.blk scope G.objs.size (x::ys) s₂ H2 fp) _ s7 _ H7 (.ref s₂.heap.objs.size) [z] (.ref s₂.heap.objs.size) [y] (fun _ H8=>H8=upd H7 s₂.heap.objs.size (.lst (acc++[z]))) I7 rfl (.cons rz .nil) ⟨_,acc,z,rfl,rfl,hD7,hlen,rfl⟩) (fun _ s8 ⟨_,H8,I8,_,e8⟩=>?_) fun _ _ z=>z.elim;subst e8;exact⟨m',hm',i+1,_,_,weak I8,(pinned I8).1,(pinned I8).2,w'⟩
 exact codeAny_compStart_list (loop _ rfl) (T.self _ 0 _ _ _ st0 (loop _ rfl))
theorem xhD(o:Own X)(B:ym X scope x cap ys)(hc:X.calm=true)(hi:PI (X.wish (XE X fun _=>E1)) (.Name x px) iter wi)(he:∀C s H fp,PE ((X.blk scope C (x::ys) s H fp).wish (XB (X.blk scope C (x::ys) s H fp) E1)) elt te)
  (hs:∀x,cQ iter X.env x=pure x:=by intro _;rfl):PE (X.wish (XE X fun _=>E1)) (.ListComp elt [⟨.Name x px,iter,[],0⟩] scope pos) (xfp cap wi jQ te):=by
 intro pins s σ H Q I h;rw[eval_ListComp];refine xiK rfl hs (vU (B.clos I.unwish.ok)) B.kind B.locs ?_;refine thn (hi pins s σ H _ I h) fun v s1 h1=>thn h1 fun itv s2 h2=>?_;refine xeg (pins:=pins) (σ:=σ) (Q:=Q) (RR:=fun acc ce=>xia (model X.prog X.w) X.A (XE X fun _=>E1) (EP (X.wish (XE X fun _=>E1)) pins σ Q) acc ce) o B hc he ?_ ?_ ?_
 ·obtain⟨it,fp,tn,J,H',e,I2,T,st,f2,hw⟩:=h2;exact⟨it,fp,tn,J,H',e,I2.unwish,T,st,f2,hw⟩
 ·rintro D C H' s' J ⟨m,hm⟩ g1 g2 g3 g4 g5 q;exact⟨m,hm,fun h' sb=>⟨.ref D,H',(J.turned (t':=s'.toks) (fun b o hb e=>(sb.2 b hb).trans e) g1 g2 (.inr g3) g4 g5).wish _,rfl,q⟩⟩
 ·rintro D C e s' ⟨m,hm⟩ k;exact⟨m,hm,k⟩
end
end L2
namespace L2
open PySem PySem.Spec PyProof.Rows
def xkq(X:Cx)(H:Hp)(h:Heap)(a:Addr)(cls:Value)(dx:Option Addr):Prop:=
 ∃oe vs a0,h.get? a=some oe∧oe.cls=cls∧oe.dict=dx∧oe.data= .fields vs∧vs[0]? =some a0∧vs[1]? =some .none∧vs[2]? =some .none∧Nu X H a
def vY(X:Cx)(fl:Value)(H:Hp)(h:Heap)(a:Addr)(cls:Value)(dx:Option Addr):Prop:=
 ∃oe vs a0 T oT ts,h.get? a=some oe∧oe.cls=cls∧oe.dict=dx∧oe.data= .fields vs∧vs[0]? =some a0∧vs[1]? =some (.ref T)∧vs[2]? =some .none∧T≠a∧h.get? T=some oT∧oT.data= .fields ts∧ts[3]? =some fl∧Nu X H a∧Nu X H T
def xhE(X:Cx)(H:Hp)(h:Heap)(a:Addr)(cls:Value)(dx:Option Addr):Prop:=
 xkq X H h a cls dx∨vY X .none H h a cls dx∨vY X (bU X.env.locals) H h a cls dx
def XEN(X:Cx)(EE:EEs):Value→ae→Prop:=fun e s'=>
 ∃a cls dx σ H,e= .ref a∧Inv X [] σ H s'∧xhE X H s'.heap a cls dx∧EE σ cls dx H
section
variable {X:Cx} {pins:List (Addr×Obj)} {σ:St} {H:Hp} {s:ae}
theorem xaJ{M:Model}{A':aW}{E:Value→ae→Prop}{Q:Unit→ae→Prop}{a:Addr}{oe:Obj}{vs:Array Value}{a0 head:Value}{had:Bool}(o:Own X)(hfr:A'.frames=some X.stack)(I:Inv X [] σ H s)
  (he:s.heap.get? a=some oe) (hd:oe.data= .fields vs) (h0:vs[0]? =some a0) (h1:1<vs.size) (h2:vs[2]? =some .none) (hn:Nu X H a)
  (h:∀s',Inv X [] σ H s'→vY X (bU X.env.locals) H s'.heap a oe.cls oe.dict→Q () s'):
  wpAny M A' (do let f ←frameOf X.env;let pl ←entryPlaceOf X.env.locals had;let b ←dU head f .none (bU X.env.locals) .none pl;setField (.ref a) 1 b) Q E s:=by
 have hfs:s.heap.FunFrames X.base (X.env::X.outer):=by have:=I.stack;rwa [o.st]at this
 have hmem:∀b,b∈(X.env::X.outer).filterMap (·.frame)↔b∈frs X.stack:=fun b=>by rw[o.st];rfl
 have hna:a∉frs X.stack:=fun z=>by
  obtain⟨_,u,hu,hnf⟩:=hfs.mem ((hmem a).mpr z);rw[he]at hu;injection hu with hu;subst hu;exact hnf vs hd
 refine af (wpAny_frameOf_fun (by rw[hfr,o.st]) hfs o.fr fun g1 so=>?_);refine af (wpAny_entryPlaceOf fun pl hpl=>?_);unfold dU newFields;refine af (cc ?_ (hpl.sizeOk5 _ _ _ _ _));have g1a:g1.get? a=some oe:=(so.2.1 a fun z=>hna ((hmem a).mp z)).trans he;generalize hT:({cls:=.type "traceback",dict:=none,data:=.fields ([head,.ref X.env.locals,.none,bU X.env.locals,.none]++(if pl.isEmpty then dB 6 bg else pl)).toArray}:Obj)=ot;have g2a:=au (h:=g1) ot g1a;refine cY g2a hd h1 ?_;have neT:g1.objs.size≠a:=fM (aG g1a);have d3:=eo hd (·.setIfInBounds 1 (aS g1.objs.size));have a3:=bO (bf (·.setIfInBounds 1 (aS g1.objs.size))) g2a (dD d3);have t3:((g1.push ot).update a (bf (·.setIfInBounds 1 (aS g1.objs.size)))).get? g1.objs.size=some ot:=(bh _ _ (bz neT)).trans (ba g1 (by rw[←hT];rfl));have kp:∀b u,b≠a→g1.get? b=some u→((g1.push ot).update a (bf (·.setIfInBounds 1 (aS g1.objs.size)))).get? b=some u:=fun b u nb e=>
  (bh _ _ (bz nb)).trans (au _ e)
 have old:∀b u,s.heap.get? b=some u→b≠g1.objs.size:=fun b u e=>bc (by rw[so.1];exact aG e);have nT:Nu X H g1.objs.size:=by
  refine⟨I.hok.fresh (by rw[so.1];exact aD _),?_,fun p hp z=>old p.1 p.2 (I.pin p (by simpa using hp)).1 z⟩;exact eY (by rw[so.1];exact I.sz)
 have J:Inv X [] σ H {s with heap:=(g1.push ot).update a (bf (·.setIfInBounds 1 (aS g1.objs.size)))}:=by
  refine I.flown o (fun b=>b=a) (fun b u n nf e=>kp b u n ((so.2.1 b fun z=>nf ((hmem b).mp z)).trans e)) (fun b u n _ e=>?_) (fun b z=>?_)
  ·obtain⟨sl,e1⟩:=so.2.2 b u e;exact⟨sl,kp b _ n e1⟩
  ·subst z;exact⟨hn,fun u e=>⟨vs,by rw[he]at e;cases e;exact hd⟩⟩
 refine h _ J ?_
 ·refine⟨_,_,a0,g1.objs.size,ot,_,a3,Obj.cls_mapFields _ _,?_,d3,by rw[de (by decide)];exact h0,by simp[h1],by rw[de (by decide)];exact h2,neT,t3,by rw[←hT],by simp,hn,nT⟩;obtain⟨c,d,dt,sl⟩:=oe;cases dt<;> rfl
theorem xdw{M:Model}{A':aW}{E:Value→ae→Prop}{Q:Unit→ae→Prop}{a:Addr}{cls:Value}{dx:Option Addr}(o:Own X)(hfr:A'.frames=some X.stack)(I:Inv X [] σ H s)(F:xhE X H s.heap a cls dx)
  (h:∀s',Inv X [] σ H s'→vY X (bU X.env.locals) H s'.heap a cls dx→Q () s'):wpAny M A' (eX (.ref a) X.env) Q E s:=by
 unfold eX;simp only[o.fr];rcases F with⟨oe,vs,a0,he,rfl,rfl,hd,h0,h1,h2,hn⟩|⟨oe,vs,a0,T,oT,ts,he,rfl,rfl,hd,h0,h1,h2,nT,hT,hdT,h3,hn,hnT⟩|F
 ·refine af (bH he hd h1 ?_);rw[if_neg (by decide)];exact xaJ o hfr I he hd h0 (bE.mp h1).1 h2 hn h
 ·refine af (bH he hd h1 ?_);rw[if_pos (by simp:(aS T != bg)=true)];refine af (bH hT hdT h3 ?_);rw[if_neg (by simp[bU]:¬((bg==bU X.env.locals)=true))];refine af (cY hT hdT (bE.mp h3).1 ?_);have ot:∀b,b≠T→(s.heap.update T (bf (·.setIfInBounds 3 bg))).get? b=s.heap.get? b:=fun b nb=>bh _ _ (bz nb);have I':Inv X [] σ H {s with heap:=s.heap.update T (bf (·.setIfInBounds 3 bg))}:=by
   refine I.flown o (fun b=>b=T) (fun b u n _ e=>(ot b n).trans e) (fun b u n _ e=>⟨u.slots,(ot b n).trans e⟩) (fun b z=>?_);subst z;exact⟨hnT,fun u e=>⟨ts,by rw[hT]at e;cases e;exact hdT⟩⟩
  exact xaJ o hfr I' ((ot a (bz nT)).trans he) hd h0 (bE.mp h1).1 h2 hn h
 ·obtain⟨oe,vs,a0,T,oT,ts,he,hc,hx,hd,h0,h1,h2,nT,hT,hdT,h3,hn,hnT⟩:=id F;refine af (bH he hd h1 ?_);rw[if_pos (by simp:(aS T != bg)=true)];refine af (bH hT hdT h3 ?_);rw[if_pos (by simp:(bU X.env.locals==bU X.env.locals)=true)];exact aq (h s I F)
theorem vZ{M:Model}{A':aW}{E:Value→ae→Prop}{Q:Unit→ae→Prop}{a:Addr}{cls fl:Value}{dx:Option Addr}{to:Option Addr}(o:Own X)(I:Inv X [] σ H s)(F:vY X fl H s.heap a cls dx)
  (h:∀s',Inv X [] σ H s'→vY X (to.elim .none fun f=>bU f) H s'.heap a cls dx→Q () s'):wpAny M A' (setFlight (.ref a) to) Q E s:=by
 obtain⟨oe,vs,a0,T,oT,ts,he,rfl,rfl,hd,h0,h1,h2,nT,hT,hdT,h3,hn,hnT⟩:=F;unfold setFlight;refine af (bH he hd h1 ?_);rw[if_pos (by simp:(aS T != bg)=true)];have z3:=(bE.mp h3).1;have ot:∀b,b≠T→(s.heap.update T (bf (·.setIfInBounds 3 (to.elim bg fun f=>bU f)))).get? b=s.heap.get? b:=fun b nb=>bh _ _ (bz nb);have d3:=eo hdT (·.setIfInBounds 3 (to.elim bg fun f=>bU f));refine cY hT hdT z3 (h _ (I.flown o (fun b=>b=T) (fun b u n _ e=>(ot b n).trans e) (fun b u n _ e=>⟨u.slots,(ot b n).trans e⟩) fun b z=>?_) ?_)
 ·subst z;exact⟨hnT,fun u e=>⟨ts,by rw[hT]at e;cases e;exact hdT⟩⟩
 ·exact⟨oe,vs,a0,T,_,_,(ot a (bz nT)).trans he,rfl,rfl,hd,h0,h1,h2,nT,bO _ hT (dD d3),d3,by simp[z3],hn,hnT⟩
theorem xeh{M:Model}{A':aW}{E:Value→ae→Prop}{Q:Unit→ae→Prop}{a:Addr}{cls:Value}{dx:Option Addr}(o:Own X)(hfr:A'.frames=some X.stack)(I:Inv X [] σ H s)(F:xhE X H s.heap a cls dx)
  (h:∀s',Inv X [] σ H s'→vY X .none H s'.heap a cls dx→Q () s'):wpAny M A' (leaving X.env (.ref a)) Q E s:=by
 unfold leaving;exact af (xdw o hfr I F fun s1 I1 F1=>vZ (to:=none) o I1 F1 h)
end
def CXN(P:aF)(w:World):CXT:=fun outer H s E e s'=>∃a cls dx H' oe vs a0 T oT ts,e= .ref a∧s'.os=s.os∧dP s'.gens∧Un (frs outer) [] H H' s.heap s'.heap∧HOk P w H' s'.heap∧
 s'.heap.get? a=some oe∧oe.cls=cls∧oe.dict=dx∧oe.data= .fields vs∧vs[0]? =some a0∧vs[1]? =some (.ref T)∧vs[2]? =some .none∧T≠a∧s'.heap.get? T=some oT∧oT.data= .fields ts∧ts[3]? =some .none∧
 H' a=none∧s.heap.get? a=none∧H' T=none∧s.heap.get? T=none∧E cls dx H'
abbrev cxN(P:aF)(w:World)(K:ah)(mg:Str→Option Value)(base:Heap)(N:List Str)(qual:Str)(sc:Scope)(f:Addr)(cd:Value)(A:aW)(outer:List Env)(s:ae)(H:Hp)(E:XK):Cx:=
 (uK (CXN P w) P w K mg base N qual sc f cd A outer s H E).wish (XEN (uK (CXN P w) P w K mg base N qual sc f cd A outer s H E) fun _=>E)
section
variable {P:aF} {w:World} {K:ah} {mg:Str→Option Value} {base:Heap}
theorem Fun.okN{x qual:Str}{st:Stmt}{f:Addr}{fd:aK}{N ps:List Str}{k:Nat}{sp:Sp}(F:Fun K x qual st f fd)(S:xr N ps (xl st))(len:∀vs H Q E,sp vs H Q E→vs.length=ps.length)
  (hbody:∀(cdv:Value) (A:aW) (outer:List Env) (s:ae) (H:Hp) (vs:List V) (Q:VK) (E:XK),xZ k (A.deeper (eO qual (xl st) s.heap.objs.size f cdv))→sp vs H Q E→
   ∃t,PSs (cxN P w K mg base N qual (xl st) f cdv A outer s H E) (yr st) t∧t {nx:=fun _ H'=>Q .non H',rt:=Q} (start N vs) H):xA P w K mg base (CXN P w) (k+1) f fd ps sp:=by
 obtain⟨oc,od,kV,doc,pm,an,cdv,ct,osl,rfl,lk,hcd⟩:=F.ex;refine xfh lk hcd S len fun A outer s H vs Q E hr hsp=>?_;obtain⟨t,h,q⟩:=hbody cdv A outer s H vs Q E hr hsp;refine⟨t,h.wished fun e s' ⟨a,cls,dx,σ,H',he,I,Fl,z⟩=>?_,q⟩;subst he;refine xeh xdo I.ok.frames I Fl fun s2 I2 F2=>?_;obtain⟨oe,vs,a0,T,oT,ts,he,hc,hx,hd,h0,h1,h2,nT,hT,hdT,h3,hn,hnT⟩:=F2;exact⟨a,cls,dx,H',oe,vs,a0,T,oT,ts,rfl,I2.os,I2.bare,I2.base,I2.hok,he,hc,hx,hd,h0,h1,h2,nT,hT,hdT,h3,hn.1,hn.2.1,hnT.1,hnT.2.1,z⟩
end
section
variable {X:Cx} {EE:EEs}
theorem xei{pins:List (Addr×Obj)}{σ:St}{H:Hp}{s s':ae}{e:Value}(o:Own X)(I:Inv (X.wish (XEN X EE)) pins σ H s)(h:CXN X.prog X.w X.stack H s (EE σ) e s'):XEN X EE e s':=by
 obtain⟨a,cls,dx,H',oe,vs,a0,T,oT,ts,rfl,os,bare,un,hok,he,hc,hx,hd,h0,h1,h2,nT,hT,hdT,h3,n1,n2,n3,n4,q⟩:=h;have I0:Inv X pins σ H s:=I.unwish;have I1:Inv X pins σ H' s':=I0.call' os un hok bare fun b z=>absurd z (by simp);have nu:∀b,H' b=none→s.heap.get? b=none→Nu X H' b:=fun b m1 m2=>by
  refine⟨m1,?_,fun p hp z=>?_⟩
  ·cases q:X.s₀.heap.get? b with
   |none=>rfl
   |some u=>
    obtain⟨u',e⟩:=I0.base.there b u q (by rw[o.ex];simp);rw[m2]at e;cases e
  ·have:=(I0.pin p (aU _ hp)).1;rw[z,m2]at this;cases this
 exact⟨a,cls,dx,σ,H',rfl,I1.nopins,.inr (.inl ⟨oe,vs,a0,T,oT,ts,he,hc,hx,hd,h0,h1,h2,nT,hT,hdT,h3,nu a n1 n2,nu T n3 n4⟩),q⟩
variable {k:Nat} {f C:Addr} {fd:aK} {ps:List Str} {sp:Sp} {dvs:List V} {ds:List Value} {x m:Str} {p pos apos:Pos} {e ob:Expr} {es:List Expr} {ta:TE} {t:TA}
theorem xiM{pins:List (Addr×Obj)}{σ:St}{H:Hp}{s:ae}{Q:VK}{us:List Value}{vs:List V}(o:Own X)(F:xA X.prog X.w X.K X.mg X.base (CXN X.prog X.w) k f fd ps sp)(hr:xZ k X.A)(hb:Binds X.K fd ps ds)(hd:Vals dvs ds)
  (I:Inv (X.wish (XEN X EE)) pins σ H s) (r:Vals vs us) (h:sp (vs++dvs) H Q (EE σ)):wpAny (model X.prog X.w) X.A (call (.ref f) us) (EP (X.wish (XEN X EE)) pins σ Q) (XEN X EE) s:=by
 have r2:Vals (vs++dvs) (us++ds):=r.append hd;have hl:(us++ds).length=ps.length:=r2.length.symm.trans (F.len _ _ _ _ h);refine eF (cZ (F.run X.A X.stack s H ⟨us,[]⟩ (us++ds) (vs++dvs) Q (EE σ) hr I.unwish.env0 (hb s us I.unwish.kIn hl) r2 h) fun z s' hq=>?_)
 match z,hq with
 | .error e,hq=>exact xei o I hq
 | .ok (.ret u),hq=>exact I.after hq
 | .ok .next,hq=>exact hq.elim
 | .ok .brk,hq=>exact hq.elim
 | .ok .cont,hq=>exact hq.elim
theorem xdx(o:Own X)(F:xA X.prog X.w X.K X.mg X.base (CXN X.prog X.w) k f fd ps sp)(hr:xZ k X.A)(hg:Gl X x)(hm:X.mg x=some (.ref f))(hk:dH X.K (.ref f)=true)(hb:Binds X.K fd ps ds)(hd:Vals dvs ds)
  (ha:PA (X.wish (XEN X EE)) (e::es) t) (hdb:(x==("__debug__":Str))=false:=by decide) (he:aT (e::es) X.env=(false,eval e X.env)::aT es X.env:=by rfl) (hpl:(cg pos (aT es X.env)).any (·.1)=false:=by rfl):
  PE (X.wish (XEN X EE)) (.Call (.Name x p) (e::es) [] pos) (xdp sp dvs EE t):=by
 intro pins s σ H Q I h;refine ck (yp I hg hm ?_ hdb);refine ed (h₀:=X.base) I.ok.mod.kin hk (thn (ha pos pins s σ H _ I h) fun us s1 ⟨vs,H1,I1,r,q⟩=>⟨I1.kIn,xiM o F hr hb hd I1 r q⟩) he hpl
end
section
variable {X:Cx} {EE:EEs}
theorem xgA{C:Addr}{x:Str}{np cpos pos:Pos}{e:Expr}{es:List Expr}{t:TA}(o:Own X)(hc:X.calm=true)(q:jT X.K C)(hg:Gl X x)(hm:X.mg x=some (.ref C))(ha:PA (X.wish (XEN X EE)) (e::es) t)
  (hdb:(x==("__debug__":Str))=false:=by decide) (he:aT (e::es) X.env=(false,eval e X.env)::aT es X.env:=by rfl) (hpl:(cg cpos (aT (e::es) X.env)).any (·.1)=false:=by rfl):
  PS (X.wish (XEN X EE)) (.Raise (some (.Call (.Name x np) (e::es) [] cpos)) none pos) (xgt C EE t):=by
 intro pins s σ H D I h;obtain⟨bm,N,nm,qn,bs,hdct,sn,sub,ab,col,dd,k0,k1,k2,k3,k5,hC,hN,hni,TL⟩:=q.obj I.ok.mod.kin;refine wpAny_Raise_call_subT (C:=C) (N:=N) (bm:=bm) (nm:=nm) (q:=qn) (bs:=bs) (hdct:=hdct) (sn:=sn) (sub:=sub) (ab:=ab) (col:=col) (dd:=dd) (k0:=k0) (k1:=k1) (k2:=k2) (k3:=k3) (k5:=k5) PySem.F.excBase_ValueError (TL.hasType PySem.F.excBase_ValueError.hasBase) (I.ok.hd hc) hpl hni (yp I hg hm ⟨rfl,?_⟩ hdb);have ha':=ha cpos pins s σ H _ I h;rw[he]at ha';show wpAny (model X.prog X.w) X.A (evalArgs (.ref C) true (cg cpos (aT (e::es) X.env)) []) _ _ s;rw[he];refine PySem.evalArgs_kw (keywords:=[]) rfl ?_;refine thn ha' fun us s1 ⟨vs,H1,I1,r,z,y⟩=>?_;refine aq ?_;refine⟨rfl,by rw[←r.length];exact z,I1.bk _ _ hC,hN.keeps I1.bk,TL.keeps I1.bk,fun h' a mk=>?_⟩;obtain⟨t0,ea,_,_⟩:=mk.there;have I2:Inv X pins σ H1 {s1 with heap:=h'}:=I1.unwish.kept (t':=s1.toks) mk.keeps;exact⟨a,.ref C,none,σ,H1,rfl,I2.nopins,.inl ⟨_,_,.ref t0,ea,rfl,rfl,rfl,rfl,rfl,rfl,xfv o I1.unwish mk.new⟩,y⟩
end
end L2
namespace L2
open PySem PySem.Spec PyProof.Rows
section
variable {prog:aF} {w:World} {A:aW} {E:Value→ae→Prop} {s:ae} {env:Env}
variable {nm q:Str} {C N:Addr} {bs bm:List Value} {hdct:Bool} {sn:List Str} {sub:List Value} {ab:Bool} {col:Option Bool} {dd:Option Addr} {k0 k1 k2 k3 k5:Option Value} {newId:String}
theorem xdy{e:Value}{h:Addr}{oh:Obj}{vh:Array Value}{Q:Value→ae→Prop}(he:s.heap.get? h=some oh)(hd:oh.data= .fields vh)(h2:vh[2]? =some .none)(hq:Q .none s):
  wpAny (model prog w) A (runValue (.builtin "proto.unchain" ⟨[e,.ref h,.ref h,.bool false],[]⟩)) Q E s:=by
 refine wpAny_runValue (codeAny_builtin (entryFor_of_fast (by kernel_rfl):entryFor table "proto.unchain"=some Builtin.«proto.unchain») ?_);show wpAny _ _ (field (.ref h) 2 >>= _) _ _ s;refine af (bH he hd h2 ?_);rw[if_pos (by rfl)];exact aq hq
theorem xfy{x c:Sem Value}{h:Addr}{Q:Flow→ae→Prop}(hbase:bm.contains (.type "BaseException")=true)(hh:A.handled=some (.ref h))
  (hx:wpAny (model prog w) A x (fun v s₁=>∃e t,v= .ref e∧s₁.heap.get? C=some (excClassObj nm q C N bs bm hdct sn sub ab col dd k0 k1 k2 k3 k5 newId)∧
   s₁.heap.get? e=some {cls:=.ref C,data:=.fields #[.ref t,.none,.none,.none,.bool false,.none]}∧C≠e∧h≠e∧(∃oh vh,s₁.heap.get? h=some oh∧oh.data= .fields vh∧vh[2]? =some .none)∧
   wpAny (model prog w) A c (fun cv s₂=>cv= .none∧s₂=s₁) E s₁∧∀h',cI e s₁.heap h'→h'.get? e=some {cls:=.ref C,data:=.fields #[.ref t,.none,.ref h,.none,.bool true,.none]}→E (.ref e) {s₁ with heap:=h'}) E s):
  wpAny (model prog w) A (raiseStmt env (some x) (some c)) Q E s:=by
 have hcB:(aS C::bm).contains (.type "BaseException")=true:=by rw[List.contains_cons,hbase,Bool.or_true]
 unfold raiseStmt;refine af (aP hx (fun v s₁ h₁=>?_) fun _ _ z=>z);obtain⟨e,t,rfl,hC,he,nCe,nhe,⟨oh,vh,eh,dh,h2⟩,hc,hE⟩:=h₁;refine af (bC (aP hc (fun cv s₂ z=>?_) fun _ _ z=>z));obtain⟨rfl,rfl⟩:=z;refine af (aq ?_);dsimp only;obtain⟨hp,g,d,tk,os⟩:=s₂
 repeat (first|with_reducible refine wpAny_loadPart_at he ?_|with_reducible refine wpAny_loadPart_at hC ?_|(with_reducible refine wpAny_isSubtype_exc hC ?_;rw[hcB])|wp_step)
 have dE:∀f:Array Value→Array Value,(bf f {cls:=aS C,data:=.fields #[.ref t,.none,.none,.none,.bool false,.none]}:Obj)={cls:=aS C,data:=.fields (f #[.ref t,.none,.none,.none,.bool false,.none])}:=fun _=>rfl;have e1:(hp.update e (bf fun x=>x.setIfInBounds 3 bg)).get? e=some {cls:=.ref C,data:=.fields #[.ref t,.none,.none,.none,.bool false,.none]}:=bO (bf fun x=>x.setIfInBounds 3 bg) he rfl;have e2:((hp.update e (bf fun x=>x.setIfInBounds 3 bg)).update e (bf fun x=>x.setIfInBounds 4 (cF true))).get? e=some {cls:=.ref C,data:=.fields #[.ref t,.none,.none,.none,.bool true,.none]}:=bO (bf fun x=>x.setIfInBounds 4 (cF true)) e1 rfl;have ot:∀b,b≠e→((hp.update e (bf fun x=>x.setIfInBounds 3 bg)).update e (bf fun x=>x.setIfInBounds 4 (cF true))).get? b=hp.get? b:=fun b nb=>(bh _ _ (bz nb)).trans (bh _ _ (bz nb));unfold raiseNew;refine af (wpAny_handled ?_);rw[hh];dsimp only;rw[if_pos (by simpa using nhe)];refine af (bC (xdy ((ot h nhe).trans eh) dh h2 ?_));show wpAny _ _ (setField (.ref e) 2 (.ref h) >>= fun _=>throw (.ref e)) _ _ _;refine af (cY e2 rfl (show 2<6 by decide) (wpAny_throw (hE _ ?_ (bO (bf fun x=>x.setIfInBounds 2 (aS h)) e2 rfl))));exact((fi hp e _).trans (fi _ e _)).trans (fi _ e _)
end
def xgB(K:ah)(C' C2:Addr)(EE:EEs):EEs:=fun σ cls _ H=>∃C,cls= .ref C∧dz K (.ref C) (.ref C')=some true∧EE σ (.ref C2) none H
def xhF(K:ah)(C' C2:Addr)(EE:EEs)(tb:EEs→TS):TS:=fun D σ H=>tb (xgB K C' C2 EE) D σ H
section
variable {X:Cx} {EE:EEs}
theorem xfz{C' C2:Addr}{y x:Str}{np hp pos np2 cpos rpos p1 p2:Pos}{msg:Str}{n1 n2:Nat}{body:List Stmt}{tb:EEs→TS}(o:Own X)(hb:xdq X.K C')(hg:Gl X y)(hm:X.mg y=some (.ref C'))(q2:jT X.K C2)(hg2:Gl X x)(hm2:X.mg x=some (.ref C2))
  (hbody:∀(EE:EEs) (ps:List (Addr×Obj)),PSs ((X.pnd ps).wish (XEN (X.pnd ps) EE)) body (tb EE))
  (hdb:(y==("__debug__":Str))=false:=by decide) (hdb2:(x==("__debug__":Str))=false:=by decide):
  PS (X.wish (XE X EE)) (.Try body [.ExceptHandler (some (.Name y np)) none [.Raise (some (.Call (.Name x np2) [.Constant (.str msg) n1 p1] [] cpos)) (some (.Constant .none n2 p2)) rpos] hp] [] [] pos) (xhF X.K C' C2 EE tb):=by
 intro pins s σ H D I h;have ok:=I.unwish.ok;refine wpAny_Try_except (aP (hbody (xgB X.K C' C2 EE) pins [] s σ H D (I.unwish.pnd.wish _) h) (fun f s1 hq=>?_) fun e s1 hx=>?_)
 ·have hq0:SP X pins D f s1:=(SP.unwish hq).unpnd ok;have hq':SP (X.wish (XE X EE)) pins D f s1:=by
   cases f with
   |next=>obtain⟨σ',H',I,q⟩:=hq0;exact⟨σ',H',I.wish _,q⟩
   |brk=>obtain⟨σ',H',I,q⟩:=hq0;exact⟨σ',H',I.wish _,q⟩
   |cont=>obtain⟨σ',H',I,q⟩:=hq0;exact⟨σ',H',I.wish _,q⟩
   |ret u=>obtain⟨v,σ',H',I,r,q⟩:=hq0;exact⟨v,σ',H',I.wish _,r,q⟩
  cases f with
  |next=>exact dX hq'
  |brk=>exact hq'
  |cont=>exact hq'
  |ret u=>exact hq'
 ·obtain⟨a,cls,dx,σ1,H1,rfl,I1,F1,C,rfl,hk,q⟩:=hx;refine xdw (X:=X.pnd pins) o.pnd ok.frames I1 F1 fun s2 I2 F2=>?_;refine vZ (X:=X.pnd pins) (to:=none) o.pnd I2 F2 fun s3 I3 F3=>?_;refine wpAny_handleBy_cons (codeAny_handlers_test ?_) (by intro z;cases z);obtain⟨oe,vs,a0,T,oT,ts',he,hc,hx,hd,h0,h1,h2,nT,hT,hdT,h3,hn,hnT⟩:=id F3;have J3:=Inv.held I3 ok he hn.1 hd;refine yp J3 hg hm ?_ hdb;refine xbH (K:=X.K) I3.kIn he hc hk hb ?_;refine codeAny_handlers_suite ?_;refine vZ (X:=X.pnd pins) (to:=none) o.pnd I3 F3 fun s4 I4 F4=>?_;obtain⟨oe',vs',a0',T',oT',ts'',he',hc',hx',hd',h0',h1',h2',nT',hT',hdT',h3',hn',hnT'⟩:=id F4;have J4:=Inv.held I4 ok he' hn'.1 hd';have key:∀e s',XE X EE e s'→notedBy (model X.prog X.w) (X.A.mark (some (.ref a))) X.env (fun x s2=>cameBackBy (model X.prog X.w) X.A X.env (XE X EE) x s2) e s':=by
   rintro e s' ⟨a9,cls,dx,σ,H,rfl,I,F,q⟩;refine xax o I.ok.frames I F fun s1 I1 F1=>?_;unfold cameBackBy;obtain⟨oe,vs,a0,T,oT,ts,he,hc,hx,hd,h0,h1,_⟩:=id F1;refine af (bH he hd h1 ?_);rw[if_neg (by simp)];refine ug (to:=X.env.frame) o I1 F1 fun s2 I2 F2=>⟨a9,cls,dx,σ,H,rfl,I2,.inr (.inr ?_),q⟩;rw[o.fr]at F2;exact F2
  refine aP (Q:=fun _ _=>False) (E:=XE X EE) ?_ (fun _ _ z=>z.elim) key;refine fL ?_;refine aP (Q:=fun _ _=>False) ?_ (fun _ _ z=>z.elim) fun _ _ z=>z;obtain⟨bm,N,nm,qn,bs,hdct,sn,sub,ab,col,dd,k0,k1,k2,k3,k5,hC,hN,hni,TL⟩:=q2.obj ok.mod.kin;rw[arm_exec_Raise];refine af (cD ?_);refine xfy (C:=C2) (h:=a) (nm:=nm) (q:=qn) (N:=N) (bs:=bs) (bm:=bm) (hdct:=hdct) (sn:=sn) (sub:=sub) (ab:=ab) (col:=col) (dd:=dd) (k0:=k0) (k1:=k1) (k2:=k2) (k3:=k3) (k5:=k5) (newId:="ValueError.__new__") (TL.hasType PySem.F.excBase_ValueError.hasBase) rfl ?_;refine af (aP (wpAny_Call_ofName (yp J4 hg2 hm2 ?_ hdb2)) (fun v s₃ h₃=>af (cD (aq h₃))) fun _ _ z=>z);have hargs:=(xa (X:=X.held a (pins++[(a,oe')])) (e:=.Constant (.str msg) n1 p1) (es:=[]) xm xc) cpos [] s4 σ1 H1 (fun vs H=>vs.length=1∧H=H1) J4 ⟨rfl,rfl⟩;have hA:wpAny (model X.prog X.w) (X.A.mark (some (.ref a))) (evalArgs (.ref C2) true (cg cpos (aT [.Constant (.str msg) n1 p1] X.env)) []) (fun ar s6=>ar.kw=[]∧AP (X.held a (pins++[(a,oe')])) [] σ1 (fun vs H=>vs.length=1∧H=H1) ar.pos s6) (XE X EE) s4:=by
   refine PySem.evalArgs_kw (keywords:=[]) rfl ?_;refine aP hargs (fun us s5 h5=>?_) fun _ _ z=>z.elim;exact aq ⟨rfl,h5⟩
  unfold callWith;refine af (bC (aP hA (fun ar s6 h6=>af (cD ?_)) fun _ _ z=>z));obtain⟨us,kw⟩:=ar;obtain⟨hkw,vs5,H5,I5,r5,l5,rfl⟩:=h6;obtain rfl:kw=[]:=hkw;have e5:=(I5.pin (a,oe') (aU _ (av _ (av _ (aw.mpr rfl))))).1;have IX:Inv X pins σ1 H5 s6:=I5.unheld ok;obtain⟨hp6,g6,d6,tk6,os6⟩:=s6;refine af (wpAny_keeperOf_exc (I5.bk _ _ hC) ?_);have ln:us.length≤ay:=by rw[←r5.length,l5,ag];lia
  refine af (wpAny_call_exc_subT (hrest:=ln) PySem.F.excBase_ValueError (TL.keeps I5.bk) (I5.bk _ _ hC) (hN.keeps I5.bk) hni fun h' e mk=>af (bC (wpAny_point (aq ?_))));obtain⟨t0,ea,_,_⟩:=mk.there;have nu:Nu X H5 e:=xfv o IX mk.new;have ne:∀b u,hp6.get? b=some u→b≠e:=fun b u z y=>by have:=mk.new;rw[←y]at this;rw[show hp6.get? b=some u from z]at this;cases this
  refine⟨e,t0,rfl,mk.keeps _ _ (I5.bk _ _ hC),ea,ne _ _ (I5.bk _ _ hC),ne _ _ e5,⟨oe',vs',mk.keeps _ _ e5,hd',h2'⟩,af (gw (af (cD (aq ⟨rfl,rfl⟩)))),fun h2 sb ea2=>?_⟩;have I6:Inv X pins σ1 H5 {heap:=h',gens:=g6,drawn:=d6,toks:=tk6,os:=os6}:=IX.kept (t':=tk6) mk.keeps;have I7:Inv X [] σ1 H5 {heap:=h2,gens:=g6,drawn:=d6,toks:=tk6,os:=os6}:=I6.nopins.flown o (fun b=>b=e) (fun b u n _ z=>(sb.2 b n).trans z) (fun b u n _ z=>⟨u.slots,(sb.2 b n).trans z⟩) (fun b z=>by
   subst z;refine⟨nu,fun u z=>?_⟩;have z:h'.get? b=some u:=z;rw[ea]at z;cases z;exact⟨_,rfl⟩)
  exact⟨e,.ref C2,none,σ1,H5,rfl,I7,.inl ⟨_,_,.ref t0,ea2,rfl,rfl,rfl,rfl,rfl,nu⟩,q⟩
end
end L2
namespace L2
open PySem PySem.Spec PyProof.Rows
theorem xib{P:aF}{w:World}{X:Cx}:Passes (CXN P w) X E0:=fun _ _ _ _ _ _ _ h=>by
 obtain⟨_,_,_,_,_,_,_,_,_,_,_,_,_,_,_,_,_,_,_,_,_,_,_,_,_,_,_,_,_,_,z⟩:=h;exact z.elim
section
variable {X:Cx}
def xdz(x:Str)(n:Nat):Str:=⟨(dB n x.cps).foldl (· ++·) #[]⟩
theorem xeQ(x:Str):∀n:Nat,∀a:Array Nat,((dB n x.cps).foldl (· ++·) a).size=a.size+n*x.length
 |0,a=>by simp
 |n+1,a=>by
  rw[List.replicate_succ,List.foldl_cons,xeQ x n,fE];show a.size+x.length+n*x.length=a.size+(n+1)*x.length;rw[gP];lia
theorem xhG(x:Str)(n:Nat):(xdz x n).length=n*x.length:=by
 show((dB n x.cps).foldl (· ++·) #[]).size=_;rw[xeQ];simp
theorem xiN:OpR X (cb .Mult) (fun x y H Q=>∃(z:Str) (n:Nat),x= .str z∧y= .int (n:Nat)∧2≤n∧n≤1000∧z.length=1∧Q (.str (xdz z n)) H):=by
 intro pins s σ H x y v u Q I rx ry h;obtain⟨z,n,rfl,rfl,h2,h3,hz,q⟩:=h;obtain⟨t,rfl⟩:=rx;obtain⟨t',rfl⟩:=ry;refine P.mul_str (by rw[Bool.or_eq_false_iff];exact⟨decide_eq_false (by lia),decide_eq_false (by lia)⟩) (fun _ _=>?_) (fun _ _=>?_) ?_
 ·rw[hz];have:(1:Int)≤(2^63 - 1) / (n:Int):=by
   rw[Int.le_ediv_iff_mul_le (by lia)];lia
  lia
 ·exact decide_eq_false (by rw[hz,ag];lia)
 ·rw[if_neg (by lia),if_neg (by simp;lia)];refine⟨?_,.str (xdz z n),H,I.tok _,⟨_,rfl⟩,q⟩;show(xdz z n).length≤ay;rw[xhG,hz,ag];lia
theorem xfA:MtR X "str.isdigit" (fun x vs H Q=>∃z:Str,x= .str z∧vs=[]∧Q (.bl (Txt.isdigit z)) H):=by
 intro pins s σ H x xs v us Q I rx rv h;obtain⟨z,rfl,rfl,q⟩:=h;obtain⟨t,rfl⟩:=rx;have hus:=rv.zero;subst hus;refine dj F.slot_str_isdigit (dI s z t) F.entry_str_isdigit (F.args_str_isdigit_1 _) (gives_str_isdigit z t).meets ?_;exact⟨.bl _,H,I,rfl,q⟩
end
end L2
namespace L2
open PySem PySem.Spec PyProof.Rows
section
variable {X:Cx}
def xkT(K:ah):V→Option Int→Option Int→Hp→VK→Prop:=fun x lo hi H Q=>∃a xs,x= .ref a∧H a=some (.tup xs)∧∀(p:Addr) (H':Hp),xb H H'→H' p=some (.tup (yx xs lo hi))→Q (.ref p) H'
theorem xeR:SlR X (xkT X.K):=by
 intro pins s σ H x v vl vu lo hi sl Q I rx hs pl pu h;obtain⟨a,xs,rfl,hx,q⟩:=h
 by_cases hw:HT.sIx xs.length 0 lo=0∧HT.sIx xs.length xs.length hi=xs.length
 ·cases rx;obtain⟨its,r,ht,hz⟩:=I.tuple (SqT.of hx);have hlen:its.toArray.size=xs.length:=by rw[aC];exact r.length.symm
  refine⟨"tuple",_,bL.lookup,ht.typeIs,?_⟩;refine HT.xaE ht hs pl pu (by rw[hlen];exact hw) ⟨.ref a,H,I,rfl,q a H (xb.refl _) ?_⟩;have e:yx xs lo hi=xs:=by unfold yx;rw[hw.1,hw.2];simp
  rw[e];exact hx
 ·exact xdc pins s σ H _ v vl vu lo hi sl Q I rx hs pl pu ⟨a,xs,rfl,SqT.of hx,hw,fun p hp=>q p _ (xb.new hp) xn⟩
end
end L2
namespace K63
open PySem PySem.Spec PyProof.Rows L2
def top(i:Nat):Stmt:=PySem.Challenge.pw_oneroom_k63_texts_of_no_paper.main.body.getD i (.Pass ⟨0,0,0,0⟩)
abbrev jA:Stmt:=inClass (top 5) 0
abbrev ja:Stmt:=inClass (top 8) 0
abbrev vt:Stmt:=inClass (top 9) 0
abbrev vv:Stmt:=inClass (top 9) 8
abbrev jb:Stmt:=inClass (top 10) 0
abbrev jc:Stmt:=inClass (top 10) 6
abbrev xa7:Stmt:=top 11
abbrev uR:Stmt:=top 12
abbrev vw:Stmt:=top 13
abbrev vx:Stmt:=top 14
abbrev jV:Stmt:=top 15
abbrev zP:Stmt:=top 16
abbrev jd:Stmt:=top 17
abbrev uS:Stmt:=top 21
abbrev je:Stmt:=top 22
abbrev jW:Stmt:=top 23
abbrev uT:Stmt:=top 24
abbrev xa8:Stmt:=top 25
abbrev uU:Stmt:=top 26
abbrev jf:Stmt:=top 27
abbrev xa9:Stmt:=top 28
abbrev zA:Stmt:=top 29
abbrev uq:Stmt:=top 30
abbrev ur:Stmt:=top 31
abbrev jX:Stmt:=top 33
abbrev xb6:Stmt:=top 34
abbrev xdA:Stmt:=top 35
abbrev xba:Stmt:=top 36
abbrev xdB:Stmt:=top 37
abbrev xb7:Stmt:=top 38
abbrev jY:Stmt:=top 39
abbrev xbb:Stmt:=top 40
abbrev jZ:Stmt:=top 41
abbrev xdC:Stmt:=top 42
abbrev xaa:Stmt:=top 43
abbrev xfB:Stmt:=top 44
abbrev xaA:Stmt:=top 45
set_option genInjectivity false in
set_option genSizeOf false in
set_option genSizeOfSpec false in
structure Adr where
 q01:Addr
 jB:aK
 q0D:Addr
 jg:aK
 q0u:Addr
 vy:aK
 q0v:Addr
 vz:aK
 q0E:Addr
 jh:aK
 q0F:Addr
 ji:aK
 q1s:Addr
 xbc:aK
 q0w:Addr
 uV:aK
 q0J:Addr
 vA:aK
 q0K:Addr
 vB:aK
 q06:Addr
 xab:aK
 q0j:Addr
 zQ:aK
 q0T:Addr
 jj:aK
 q0x:Addr
 uW:aK
 q0U:Addr
 jk:aK
 q07:Addr
 xac:aK
 q0y:Addr
 uX:aK
 q1t:Addr
 xbd:aK
 q0z:Addr
 uY:aK
 q0V:Addr
 jl:aK
 q1u:Addr
 xbe:aK
 q0h:Addr
 zB:aK
 q0p:Addr
 uu:aK
 q0q:Addr
 uv:aK
 q08:Addr
 xad:aK
 q1E:Addr
 xb8:aK
 q1L:Addr
 xdD:aK
 q1v:Addr
 xbf:aK
 q1M:Addr
 xdE:aK
 q1F:Addr
 xb9:aK
 q09:Addr
 xae:aK
 q1w:Addr
 xbg:aK
 q1a:Addr
 xaf:aK
 q1N:Addr
 xdF:aK
 q1b:Addr
 xag:aK
 q12:Addr
 xfC:aK
 q1V:Addr
 xfD:aK
 q1i:Addr
 q0f:Addr
 q0l:Addr
 q0L:Addr
 q0W:Addr
 q0a:Addr
 q0b:Addr
 q0i:Addr
 q1j:Tok
 q0R:Addr
structure Txt(w:World)(K:ah)(mg:Str→Option Value)(a:Adr):Prop where
 q02:Fun K "__init__" "Faulty.__init__" jA a.q01 a.jB
 xi8:Binds K a.jB ["self","fault"] []
 q1k:Fun K "__init__" "Row.__init__" ja a.q0D a.jg
 xbI:Binds K a.jg ["self","to"] []
 q04:Fun K "__init__" "Take.__init__" vt a.q0u a.vy
 xej:Binds K a.vy ["self","to","start","count"] []
 q05:Fun K "told" "Take.told" vv a.q0v a.vz
 xaK:Binds K a.vz ["self"] []
 q1l:Fun K "__init__" "Put.__init__" jb a.q0E a.jh
 xfE:Binds K a.jh ["self","to","signs"] []
 q1m:Fun K "told" "Put.told" jc a.q0F a.ji
 xbJ:Binds K a.ji ["self"] []
 q0M:Fun K "row_of" "row_of" xa7 a.q1s a.xbc
 jm:Binds K a.xbc ["told"] []
 jn:mg "row_of"=some (.ref a.q1s)
 q0A:Fun K "tells_take" "tells_take" uR a.q0w a.uV
 xdG:Binds K a.uV ["told"] []
 xdH:mg "tells_take"=some (.ref a.q0w)
 q0N:Fun K "tells_put" "tells_put" vw a.q0J a.vA
 xek:Binds K a.vA ["told"] []
 xel:mg "tells_put"=some (.ref a.q0J)
 q0O:Fun K "are_signs" "are_signs" vx a.q0K a.vB
 xem:Binds K a.vB ["signs"] []
 xen:mg "are_signs"=some (.ref a.q0K)
 q1c:Fun K "is_sign" "is_sign" jV a.q06 a.xab
 xgC:Binds K a.xab ["value"] []
 xgD:mg "is_sign"=some (.ref a.q06)
 q0d:Fun K "is_whole_from" "is_whole_from" zP a.q0j a.zQ
 yV:Binds K a.zQ ["least","value"] []
 yW:mg "is_whole_from"=some (.ref a.q0j)
 q0G:Fun K "is_whole" "is_whole" jd a.q0T a.jj
 xbK:Binds K a.jj ["value"] []
 xbL:mg "is_whole"=some (.ref a.q0T)
 q0B:Fun K "paper_text" "paper_text" uS a.q0x a.uW
 xdI:Binds K a.uW ["paper"] []
 xdJ:mg "paper_text"=some (.ref a.q0x)
 q0X:Fun K "lines_of" "lines_of" je a.q0U a.jk
 xfF:Binds K a.jk ["paper"] []
 xfG:mg "lines_of"=some (.ref a.q0U)
 q1d:Fun K "line_of" "line_of" jW a.q07 a.xac
 xgE:Binds K a.xac ["told"] []
 xgF:mg "line_of"=some (.ref a.q07)
 q0C:Fun K "numbers_in" "numbers_in" uT a.q0y a.uX
 xdK:Binds K a.uX ["lines"] []
 xdL:mg "numbers_in"=some (.ref a.q0y)
 q1x:Fun K "sum_of" "sum_of" xa8 a.q1t a.xbd
 xhH:Binds K a.xbd ["numbers"] []
 xhI:mg "sum_of"=some (.ref a.q1t)
 q0k:Fun K "read_paper" "read_paper" uU a.q0z a.uY
 uZ:Binds K a.uY ["text"] []
 va:mg "read_paper"=some (.ref a.q0z)
 q0Y:Fun K "paper_in" "paper_in" jf a.q0V a.jl
 xfH:Binds K a.jl ["lines"] []
 xfI:mg "paper_in"=some (.ref a.q0V)
 q1y:Fun K "row_in" "row_in" xa9 a.q1u a.xbe
 xhJ:Binds K a.xbe ["words"] []
 xhK:mg "row_in"=some (.ref a.q1u)
 q0e:Fun K "numbers_behind" "numbers_behind" zA a.q0h a.zB
 vb:Binds K a.zB ["words"] []
 vc:mg "numbers_behind"=some (.ref a.q0h)
 q0r:Fun K "read_number" "read_number" uq a.q0p a.uu
 xcP:Binds K a.uu ["word"] []
 xcQ:mg "read_number"=some (.ref a.q0p)
 q0s:Fun K "are_figures" "are_figures" ur a.q0q a.uv
 xcR:Binds K a.uv ["word"] []
 xcS:mg "are_figures"=some (.ref a.q0q)
 q0n:Fun K "_law_cell_at" "_law_cell_at" jX a.q08 a.xad
 uj:Binds K a.xad ["_law_script","_law_k"] []
 uk:mg "_law_cell_at"=some (.ref a.q08)
 q1A:Fun K "_law_mixed" "_law_mixed" xb6 a.q1E a.xb8
 xeS:Binds K a.xb8 ["_law_cell","_law_k"] []
 xeT:mg "_law_mixed"=some (.ref a.q1E)
 q1O:Fun K "_law_sign" "_law_sign" xdA a.q1L a.xdD
 xjM:Binds K a.xdD ["_law_cell","_law_k"] []
 xjN:mg "_law_sign"=some (.ref a.q1L)
 q0Z:Fun K "_law_number" "_law_number" xba a.q1v a.xbf
 xbh:Binds K a.xbf ["_law_draw","_law_cell"] []
 xbi:mg "_law_number"=some (.ref a.q1v)
 q1P:Fun K "_law_rows" "_law_rows" xdB a.q1M a.xdE
 xjO:Binds K a.xdE ["_law_script"] []
 xjP:mg "_law_rows"=some (.ref a.q1M)
 q1n:Fun K "_law_shown" "_law_shown" xb7 a.q1F a.xb9
 xca:Binds K a.xb9 ["_law_paper"] []
 xcb:mg "_law_shown"=some (.ref a.q1F)
 q1e:Fun K "_law_by_word" "_law_by_word" jY a.q09 a.xae
 xgG:Binds K a.xae ["_law_lines","_law_cell"] []
 xgH:mg "_law_by_word"=some (.ref a.q09)
 q1z:Fun K "_law_by_row" "_law_by_row" xbb a.q1w a.xbg
 xhL:Binds K a.xbg ["_law_lines","_law_cell"] []
 xhM:mg "_law_by_row"=some (.ref a.q1w)
 q1f:Fun K "_law_numbers" "_law_numbers" jZ a.q1a a.xaf
 xgI:Binds K a.xaf ["_law_lines"] []
 xgJ:mg "_law_numbers"=some (.ref a.q1a)
 q1Q:Fun K "_law_good" "_law_good" xdC a.q1N a.xdF
 xjQ:Binds K a.xdF ["_law_lines"] []
 xjR:mg "_law_good"=some (.ref a.q1N)
 q0H:Fun K "_law_refused" "_law_refused" xaa a.q1b a.xag
 xah:Binds K a.xag ["_law_thing"] []
 xai:mg "_law_refused"=some (.ref a.q1b)
 q13:Fun K "_law_ill" "_law_ill" xfB a.q12 a.xfC
 xkr:Binds K a.xfC ["_law_script","_law_cell"] []
 xks:mg "_law_ill"=some (.ref a.q12)
 xc7:Fun K "law" "law" xaA a.q1V a.xfD
 xkX:Binds K a.xfD ["_law_script"] []
 xic:mg "Row"=some (.ref a.q1i)
 q2V:Cls K a.q1i
 q14:xU K a.q1i "count"
 q2c:xU K a.q1i "to"
 xjS:mg "Take"=some (.ref a.q0f)
 q1q:Cls K a.q0f
 q03:xU K a.q0f "count"
 q1o:xU K a.q0f "source"
 q1K:xU K a.q0f "to"
 q2a:Mk K a.q0f a.q0u
 xkt:mg "Put"=some (.ref a.q0l)
 q1G:Cls K a.q0l
 q1B:xU K a.q0l "count"
 q1g:xU K a.q0l "signs"
 q1W:xU K a.q0l "to"
 q2i:Mk K a.q0l a.q0E
 xhN:mg "Faulty"=some (.ref a.q0L)
 xhO:mg "NoLine"=some (.ref a.q0W)
 zE:mg "NoPaper"=some (.ref a.q0a)
 xcc:mg "NoRow"=some (.ref a.q0b)
 xeo:mg "RoomError"=some (.ref a.q0i)
 q1h:jT K a.q0a
 q1R:dz K (.ref a.q0a) (.ref a.q0b)=some false
 q0t:dz K (.ref a.q0a) (.ref a.q0i)=some true
 q0o:bK K (.ref a.q0a) (.type "ValueError")=some true
 q0g:xa6 K a.q0a
 q2b:jT K a.q0b
 q1p:dz K (.ref a.q0b) (.ref a.q0b)=some true
 q1J:dz K (.ref a.q0b) (.ref a.q0i)=some true
 q1D:bK K (.ref a.q0b) (.type "ValueError")=some true
 q2j:xa6 K a.q0b
 q15:xdq K a.q0b
 q1S:xdq K a.q0i
 q0P:bK K (.ref a.q0a) (.ref a.q0L)=some false
 q0Q:bK K (.ref a.q0a) (.ref a.q0W)=some false
 q0I:bK K (.ref a.q0a) (.ref a.q0a)=some true
 q00:bK K (.ref a.q0a) (.ref a.q0b)=some false
 q1X:bK K (.ref a.q0b) (.ref a.q0L)=some false
 q1Y:bK K (.ref a.q0b) (.ref a.q0W)=some false
 q1T:bK K (.ref a.q0b) (.ref a.q0a)=some false
 q10:bK K (.ref a.q0b) (.ref a.q0b)=some true
 xcd:mg "MOST_FIGURES"=some (.int 60 a.q1j)
 xiO:mg "WORDS"=some (.ref a.q0R)
 xiP:DcK w K a.q0R [("paper",1),("take",2),("put",3)]
 q1H:Meth K a.q0l "told" a.q0F
 q1C:Meth K a.q0f "told" a.q0v
 q1I:xhs K a.q1i "__init__" a.q0D
 q1U:mg "ValueError"=none
 q2g:mg "abs"=none
 q2h:mg "all"=none
 q2k:mg "bool"=none
 q1Z:mg "int"=none
 q0c:mg "isinstance"=none
 q0m:mg "len"=none
 q17:mg "list"=none
 q2s:mg "min"=none
 q11:mg "range"=none
 q1r:mg "str"=none
 q0S:mg "tuple"=none
theorem xaL:xr ["self","to"] ["self","to"] (xl ja):=⟨rfl,rfl,rfl,by decide+kernel,rfl,by decide+kernel,by decide+kernel⟩
theorem xaj:xr ["self","to","start","count"] ["self","to","start","count"] (xl vt):=⟨rfl,rfl,rfl,by decide+kernel,rfl,by decide+kernel,by decide+kernel⟩
theorem xak:xr ["self"] ["self"] (xl vv):=⟨rfl,rfl,rfl,by decide+kernel,rfl,by decide+kernel,by decide+kernel⟩
theorem xaM:xr ["self","to","signs"] ["self","to","signs"] (xl jb):=⟨rfl,rfl,rfl,by decide+kernel,rfl,by decide+kernel,by decide+kernel⟩
theorem xaN:xr ["self"] ["self"] (xl jc):=⟨rfl,rfl,rfl,by decide+kernel,rfl,by decide+kernel,by decide+kernel⟩
theorem xcy:xr ["told"] ["told"] (xl xa7):=⟨rfl,rfl,rfl,by decide+kernel,rfl,by decide+kernel,by decide+kernel⟩
theorem jC:xr ["told"] ["told"] (xl uR):=⟨rfl,rfl,rfl,by decide+kernel,rfl,by decide+kernel,by decide+kernel⟩
theorem xal:xr ["told"] ["told"] (xl vw):=⟨rfl,rfl,rfl,by decide+kernel,rfl,by decide+kernel,by decide+kernel⟩
theorem xam:xr ["signs"] ["signs"] (xl vx):=⟨rfl,rfl,rfl,by decide+kernel,rfl,by decide+kernel,by decide+kernel⟩
theorem xbM:xr ["value"] ["value"] (xl jV):=⟨rfl,rfl,rfl,by decide+kernel,rfl,by decide+kernel,by decide+kernel⟩
theorem vd:xr ["least","value"] ["least","value"] (xl zP):=⟨rfl,rfl,rfl,by decide+kernel,rfl,by decide+kernel,by decide+kernel⟩
theorem xaO:xr ["value"] ["value"] (xl jd):=⟨rfl,rfl,rfl,by decide+kernel,rfl,by decide+kernel,by decide+kernel⟩
theorem jD:xr ["paper","lines","shown","total"] ["paper"] (xl uS):=⟨rfl,rfl,rfl,by decide+kernel,rfl,by decide+kernel,by decide+kernel⟩
theorem xaP:xr ["paper","lines"] ["paper"] (xl je):=⟨rfl,rfl,rfl,by decide+kernel,rfl,by decide+kernel,by decide+kernel⟩
theorem xbN:xr ["told"] ["told"] (xl jW):=⟨rfl,rfl,rfl,by decide+kernel,rfl,by decide+kernel,by decide+kernel⟩
theorem jE:xr ["lines","numbers","line"] ["lines"] (xl uT):=⟨rfl,rfl,rfl,by decide+kernel,rfl,by decide+kernel,by decide+kernel⟩
theorem xcz:xr ["numbers","total","number"] ["numbers"] (xl xa8):=⟨rfl,rfl,rfl,by decide+kernel,rfl,by decide+kernel,by decide+kernel⟩
theorem jF:xr ["text","paper"] ["text"] (xl uU):=⟨rfl,rfl,rfl,by decide+kernel,rfl,by decide+kernel,by decide+kernel⟩
theorem xaQ:xr ["lines","lengths"] ["lines"] (xl jf):=⟨rfl,rfl,rfl,by decide+kernel,rfl,by decide+kernel,by decide+kernel⟩
theorem xcA:xr ["words","numbers","told"] ["words"] (xl xa9):=⟨rfl,rfl,rfl,by decide+kernel,rfl,by decide+kernel,by decide+kernel⟩
theorem ux:xr ["words","numbers"] ["words"] (xl zA):=⟨rfl,rfl,rfl,by decide+kernel,rfl,by decide+kernel,by decide+kernel⟩
theorem vL:xr ["word","figures","number"] ["word"] (xl uq):=⟨rfl,rfl,rfl,by decide+kernel,rfl,by decide+kernel,by decide+kernel⟩
theorem vM:xr ["word"] ["word"] (xl ur):=⟨rfl,rfl,rfl,by decide+kernel,rfl,by decide+kernel,by decide+kernel⟩
theorem xbO:xr ["_law_script","_law_k"] ["_law_script","_law_k"] (xl jX):=⟨rfl,rfl,rfl,by decide+kernel,rfl,by decide+kernel,by decide+kernel⟩
theorem xdM:xr ["_law_cell","_law_k","_law_number_here"] ["_law_cell","_law_k"] (xl xb6):=⟨rfl,rfl,rfl,by decide+kernel,rfl,by decide+kernel,by decide+kernel⟩
theorem xeU:xr ["_law_cell","_law_k","_law_draw"] ["_law_cell","_law_k"] (xl xdA):=⟨rfl,rfl,rfl,by decide+kernel,rfl,by decide+kernel,by decide+kernel⟩
theorem xcB:xr ["_law_draw","_law_cell"] ["_law_draw","_law_cell"] (xl xba):=⟨rfl,rfl,rfl,by decide+kernel,rfl,by decide+kernel,by decide+kernel⟩
theorem xeV:xr ["_law_script","_law_rows_here","_law_k","_law_draw","_law_to","_law_signs"] ["_law_script"] (xl xdB):=⟨rfl,rfl,rfl,by decide+kernel,rfl,by decide+kernel,by decide+kernel⟩
theorem xdN:xr ["_law_paper","_law_old","_law_new","_law_rows_here","_law_lines","_law_numbers_here","_law_row","_law_some","_law_total","_law_number_here"] ["_law_paper"] (xl xb7):=⟨rfl,rfl,rfl,by decide+kernel,rfl,by decide+kernel,by decide+kernel⟩
theorem xbP:xr ["_law_lines","_law_cell","_law_at","_law_words","_law_place","_law_odd","_law_way"] ["_law_lines","_law_cell"] (xl jY):=⟨rfl,rfl,rfl,by decide+kernel,rfl,by decide+kernel,by decide+kernel⟩
theorem xcC:xr ["_law_lines","_law_cell","_law_at","_law_other","_law_way","_law_got"] ["_law_lines","_law_cell"] (xl xbb):=⟨rfl,rfl,rfl,by decide+kernel,rfl,by decide+kernel,by decide+kernel⟩
theorem xbQ:xr ["_law_lines","_law_kinds","_law_numbers_here","_law_k","_law_words","_law_some","_law_word","_law_figures"] ["_law_lines"] (xl jZ):=⟨rfl,rfl,rfl,by decide+kernel,rfl,by decide+kernel,by decide+kernel⟩
theorem xeW:xr ["_law_lines","_law_numbers_here","_law_total","_law_number_here"] ["_law_lines"] (xl xdC):=⟨rfl,rfl,rfl,by decide+kernel,rfl,by decide+kernel,by decide+kernel⟩
theorem xbR:xr ["_law_thing","_law_right","e","_law_others"] ["_law_thing"] (xl xaa):=⟨rfl,rfl,rfl,by decide+kernel,rfl,by decide+kernel,by decide+kernel⟩
theorem xgK:xr ["_law_script","_law_cell","_law_rows_here","_law_lines"] ["_law_script","_law_cell"] (xl xfB):=⟨rfl,rfl,rfl,by decide+kernel,rfl,by decide+kernel,by decide+kernel⟩
theorem xgL:xr ["_law_script","_law_paper","_law_lines","_law_cell","_law_got"] ["_law_script"] (xl xaA):=⟨rfl,rfl,rfl,by decide+kernel,rfl,by decide+kernel,by decide+kernel⟩
def xfJ(to st c:Int):List (Str×V):=[("to",.int to),("count",.int c),("source",.int st)]
def xfK(to:Int)(t:Addr)(n:Int):List (Str×V):=[("to",.int to),("count",.int n),("signs",.ref t)]
inductive xk where
 |take (to st c:Int)
 |put (to:Int) (sg:List Int)
def TupAt(K:ah)(H:Hp)(t:Addr):xk→Prop
 | .take to st c=>H t=some (.tup [.str "take",.int to,.int st,.int c])
 | .put to sg=>∃u,H t=some (.tup [.str "put",.int to,.ref u])∧H u=some (.tup (sg.map V.int))
theorem TupAt.same{K:ah}{H H':Hp}{t:Addr}{r:xk}(h:TupAt K H t r)(s:xb H H'):TupAt K H' t r:=by
 cases r with
 |take to st c=>exact s.at h
 |put to sg=>obtain⟨u,h1,h2⟩:=h;exact⟨u,s.at h1,s.at h2⟩
def xfL(K:ah)(a:Adr)(H:Hp)(o:Addr):xk→Prop
 | .take to st c=>∃dx,H o=some (.ins a.q0f dx (xfJ to st c))
 | .put to sg=>∃dx u,H o=some (.ins a.q0l dx (xfK to u sg.length))∧H u=some (.tup (sg.map V.int))
theorem TupAt.mv{K:ah}{H H' H6:Hp}{t:Addr}{r:xk}(h:TupAt K H' t r)(k:∀p o,(H p=none∨∀ys,o≠HO.lst ys)→H' p=some o→H6 p=some o):TupAt K H6 t r:=by
 cases r with
 |take to st c=>exact k _ _ (.inr fun ys z=>by cases z) h
 |put to sg=>obtain⟨u,h1,h2⟩:=h;exact⟨u,k _ _ (.inr fun ys z=>by cases z) h1,k _ _ (.inr fun ys z=>by cases z) h2⟩
def xk.ok:xk→Prop
 | .take to st c=>0≤to∧0≤st∧1≤c
 | .put to sg=>0≤to∧sg≠[]∧sg.length≤100000∧∀x∈sg,(x.natAbs:Int)<10^60
def xk.dat:xk→bq
 | .take to st c=>.tuple [.str "take",.int to,.int st,.int c]
 | .put to sg=>.tuple [.str "put",.int to,.tuple (sg.map bw)]
theorem xdO{K:ah}{H:Hp}:∀xs:List Int,Rps K H (xs.map V.int) (xs.map bw)
 |[]=>.nil
 |x::xs=>.cons (.int x) (xdO xs)
theorem TupAt.rp{K:ah}{H:Hp}{t:Addr}{r:xk}(h:TupAt K H t r):Rp K H (.ref t) r.dat:=by
 cases r with
 |take to st c=>exact .tup (SqT.of h) (.cons (.str _) (.cons (.int _) (.cons (.int _) (.cons (.int _) .nil))))
 |put to sg=>obtain⟨u,h1,h2⟩:=h;exact .tup (SqT.of h1) (.cons (.str _) (.cons (.int _) (.cons (.tup (SqT.of h2) (xdO sg)) .nil)))
theorem xiQ(r:xk):cq r.dat=true:=by
 cases r with
 |take to st c=>simp[xk.dat,cq,cS];decide+kernel
 |put to sg=>simp[xk.dat,cq,cS,W.ke_canLayAll0 sg];decide+kernel
theorem xgM(r:xk):eA r.dat≤2:=by
 cases r with
 |take to st c=>simp[xk.dat,eA,dr]
 |put to sg=>simp[xk.dat,eA,dr,W.ke_depthAll sg]
theorem xdP:∀rs:List xk,cS (rs.map xk.dat)=true
 |[]=>by simp[cS]
 |x::r=>by simp only[aH,cS,xiQ,xdP r,Bool.and_true]
theorem xbS:∀rs:List xk,dr (rs.map xk.dat)≤2
 |[]=>by simp[dr]
 |x::r=>by
  simp only[aH,dr];have:=xgM x;have:=xbS r;lia
theorem xeX{K:ah}{H:Hp}:∀{ts:List Addr} {rs:List xk},Paired (TupAt K H) ts rs→Rps K H (ts.map V.ref) (rs.map xk.dat)
 |_,_,.nil=>.nil
 |_,_,.cons x xs=>.cons x.rp (xeX xs)
theorem xgN{K:ah}{H:Hp}{t p C dx:Addr}{xs:List V}{fs:List (Str×V)}{o:HO}(h:SqT K H t xs)(hp:H p=some (.ins C dx fs)):SqT K (upd H p o) t xs:=by
 rcases h with(h|⟨ob,h⟩)|h
 ·exact .inl (.inl (by rw[xH (xat h hp (by intro z;cases z))];exact h))
 ·exact .inl (.inr ⟨ob,by rw[xH (xat h hp (by intro z;cases z))];exact h⟩)
 ·exact .inr h
def xep(K:ah):Sp:=fun vs H Q _=>∃(p C dx:Addr) (to:Int),vs=[.ref p,.int to]∧H p=some (.ins C dx [])∧Cls K C∧xU K C "to"∧xU K C "count"∧Q .non (upd H p (.ins C dx [("to",.int to),("count",.int 0)]))
def xdQ(a:Adr):Sp:=fun vs H Q _=>∃(p dx:Addr) (to st c:Int),vs=[.ref p,.int to,.int st,.int c]∧H p=some (.ins a.q0f dx [])∧Q .non (upd H p (.ins a.q0f dx (xfJ to st c)))
def xeq(K:ah)(a:Adr):Sp:=fun vs H Q _=>∃(p dx t:Addr) (to:Int) (xs:List V),vs=[.ref p,.int to,.ref t]∧H p=some (.ins a.q0l dx [])∧SqT K H t xs∧Q .non (upd H p (.ins a.q0l dx (xfK to t xs.length)))
def xkU(H:Hp)(Q:VK)(ns:List Int):Prop:=∀(l:Addr) (H':Hp),xb H H'→H l=none→H' l=some (.lst (ns.map V.int))→Q (.ref l) H'
def xhP(a:Adr):Sp:=fun vs H Q _=>∃(o dx:Addr) (to st c:Int),vs=[.ref o]∧H o=some (.ins a.q0f dx (xfJ to st c))∧∀t,H t=none→Q (.ref t) (upd H t (.tup [.str "take",.int to,.int st,.int c]))
def xhQ(a:Adr):Sp:=fun vs H Q _=>∃(o dx u:Addr) (to n:Int),vs=[.ref o]∧H o=some (.ins a.q0l dx (xfK to u n))∧∀t,H t=none→Q (.ref t) (upd H t (.tup [.str "put",.int to,.ref u]))
def mixed(c k:Int):Int:=
 let n:=(c%2147483647+7919*k+1)*48271%2147483647
 n*(n / 1009+69621)%2147483647
def cellAt(ns:List Int)(k:Int):Int:=if k<ns.length then ns.getD k.toNat 0 else 0
def xfM(K:ah):Sp:=fun vs H Q _=>∃(l:Addr) (ns:List Int) (k:Int),vs=[.ref l,.int k]∧SqL K H l (ns.map V.int)∧0≤k∧Q (.int (cellAt ns k)) H
def xhR:Sp:=fun vs H Q _=>∃c k:Int,vs=[.int c,.int k]∧Q (.int (mixed c k)) H
mutual
inductive Dv(H:Hp):V→bq→Prop
 |non:Dv H .non .none
 |bl (b:Bool):Dv H (.bl b) (.bool b)
 |int (i:Int):Dv H (.int i) (.int i)
 |str (x:Str):Dv H (.str x) (.str x)
 |lst {a:Addr} {xs:List V} {ds:List bq}:H a=some (.lst xs)→Dvs H xs ds→Dv H (.ref a) (.list ds)
 |tup {a:Addr} {xs:List V} {ds:List bq}:H a=some (.tup xs)→Dvs H xs ds→Dv H (.ref a) (.tuple ds)
inductive Dvs(H:Hp):List V→List bq→Prop
 |nil:Dvs H [] []
 |cons {x:V} {d:bq} {xs:List V} {ds:List bq}:Dv H x d→Dvs H xs ds→Dvs H (x::xs) (d::ds)
end
mutual
theorem Dv.same{H H':Hp}(e:xb H H'):∀{v:V} {d:bq},Dv H v d→Dv H' v d
 |_,_,.non=>.non
 |_,_,.bl b=>.bl b
 |_,_,.int i=>.int i
 |_,_,.str x=>.str x
 |_,_,.lst q r=>.lst (e.at q) (Dvs.same e r)
 |_,_,.tup q r=>.tup (e.at q) (Dvs.same e r)
theorem Dvs.same{H H':Hp}(e:xb H H'):∀{v:List V} {d:List bq},Dvs H v d→Dvs H' v d
 |_,_,.nil=>.nil
 |_,_,.cons q r=>.cons (Dv.same e q) (Dvs.same e r)
end
mutual
theorem Dv.rp{K:ah}{H:Hp}:∀{v:V} {d:bq},Dv H v d→Rp K H v d
 |_,_,.non=>.non
 |_,_,.bl b=>.bl b
 |_,_,.int i=>.int i
 |_,_,.str x=>.str x
 |_,_,.lst q r=>.lst (SqL.of q) (Dvs.rp r)
 |_,_,.tup q r=>.tup (SqT.of q) (Dvs.rp r)
theorem Dvs.rp{K:ah}{H:Hp}:∀{v:List V} {d:List bq},Dvs H v d→Rps K H v d
 |_,_,.nil=>.nil
 |_,_,.cons q r=>.cons (Dv.rp q) (Dvs.rp r)
end
theorem Dvs.unc{H:Hp}{xs:List V}{d:bq}{ds:List bq}(h:Dvs H xs (d::ds)):∃x r,xs=x::r∧Dv H x d∧Dvs H r ds:=by
 cases h with
 |cons a b=>exact⟨_,_,rfl,a,b⟩
theorem Dvs.unn{H:Hp}{xs:List V}(h:Dvs H xs []):xs=[]:=by cases h;rfl
theorem Dv.unI{H:Hp}{v:V}{i:Int}(h:Dv H v (.int i)):v= .int i:=by cases h;rfl
theorem Dv.unS{H:Hp}{v:V}{x:Str}(h:Dv H v (.str x)):v= .str x:=by cases h;rfl
theorem Dv.unT{H:Hp}{v:V}{ds:List bq}(h:Dv H v (.tuple ds)):∃a xs,v= .ref a∧H a=some (.tup xs)∧Dvs H xs ds:=by
 cases h with
 |tup q r=>exact⟨_,_,rfl,q,r⟩
theorem xbj{ds:List bq}{n:Nat}(h:ds.length=n+1):∃a r,ds=a::r∧r.length=n:=by
 cases ds with
 |nil=>cases h
 |cons a r=>exact⟨a,r,rfl,Nat.succ.inj h⟩
theorem Dvs.length{H:Hp}:∀{xs:List V} {ds:List bq},Dvs H xs ds→xs.length=ds.length
 |_,_,.nil=>rfl
 |_,_,.cons _ r=>congrArg (· +1) (Dvs.length r)
theorem Dvs.get{H:Hp}:∀{xs:List V} {ds:List bq} {i:Nat} {d:bq},Dvs H xs ds→ds[i]? =some d→∃x,xs[i]? =some x∧Dv H x d
 |_,_,_,_,.nil,e=>by simp at e
 |_,_,0,_,.cons q r,e=>by simp at e;subst e;exact⟨_,rfl,q⟩
 |_,_,i+1,_,.cons q r,e=>by
  obtain⟨x,h1,h2⟩:=Dvs.get (i:=i) r (by simpa using e);exact⟨x,by simpa using h1,h2⟩
theorem Dvs.ints{H:Hp}:∀ns:List Int,Dvs H (ns.map V.int) (ns.map bw)
 |[]=>.nil
 |i::r=>.cons (.int i) (Dvs.ints r)
def isInt:bq→Bool
 | .int _=>true
 |_=>false
def ze(l:Int):bq→Bool
 | .int i=>decide (l≤i)
 |_=>false
def yS:bq→Bool
 | .int i=>decide ((i.natAbs:Int)<10^60)
 |_=>false
def um:bq→Bool
 | .tuple ds=>decide (0<ds.length)&&ds.all yS
 |_=>false
def yv:bq→Bool
 | .tuple [w,x,y,z]=>cH w (.str "take")&&(ze 0 x&&(ze 0 y&&ze 1 z))
 |_=>false
def putD:bq→Bool
 | .tuple [w,x,y]=>cH w (.str "put")&&(ze 0 x&&um y)
 |_=>false
def xdR:Sp:=fun vs H Q _=>∃v d,vs=[v]∧Dv H v d∧Q (.bl (isInt d)) H
def xaF:Sp:=fun vs H Q _=>∃(l:Int) (v:V) (d:bq),vs=[.int l,v]∧Dv H v d∧Q (.bl (ze l d)) H
def xer:Sp:=fun vs H Q _=>∃v d,vs=[v]∧Dv H v d∧Q (.bl (yS d)) H
def xcT:Sp:=fun vs H Q _=>∃v d,vs=[v]∧Dv H v d∧(∀ds,d= .tuple ds→ds.length≤100000)∧∀H',xb H H'→Q (.bl (um d)) H'
def vN(d:bq):Prop:=∀ds,d= .tuple ds→(∀x,ds[0]? =some x→c8 x=true)∧∀x es,ds[2]? =some x→x= .tuple es→es.length≤100000
def xce:Sp:=fun vs H Q _=>∃v d,vs=[v]∧Dv H v d∧vN d∧Q (.bl (yv d)) H
def xcU:Sp:=fun vs H Q _=>∃v d,vs=[v]∧Dv H v d∧vN d∧∀H',xb H H'→Q (.bl (putD d)) H'
def xbT(K:ah)(a:Adr):Sp:=fun vs H Q E=>∃v d,vs=[v]∧Dv H v d∧vN d∧
 (∀to st c,d= .tuple [.str "take",.int to,.int st,.int c]→0≤to→0≤st→1≤c→∀(o:Addr) (H':Hp),xb H H'→H o=none→xfL K a H' o (.take to st c)→Q (.ref o) H')∧
 (∀to sg,d= .tuple [.str "put",.int to,.tuple (sg.map bw)]→0≤to→sg≠[]→(∀x∈sg,(x.natAbs:Int)<10^60)→∀(o:Addr) (H':Hp),xb H H'→H o=none→xfL K a H' o (.put to sg)→Q (.ref o) H')∧
 (yv d=false→putD d=false→∀H',xb H H'→E (.ref a.q0b) none H')
theorem zw{l:Int}{d:bq}(h:ze l d=true):∃i,d= .int i∧l≤i:=by
 cases d<;> simp[ze]at h
 exact⟨_,rfl,h⟩
theorem xes{d:bq}(h:um d=true):∃sg:List Int,d= .tuple (sg.map bw)∧sg≠[]∧∀x∈sg,(x.natAbs:Int)<10^60:=by
 cases d with
 |tuple ds=>
  simp only[um,bN,decide_eq_true_eq]at h;obtain⟨h1,h2⟩:=h;have:∃sg:List Int,ds=sg.map bw∧∀x∈sg,(x.natAbs:Int)<10^60:=by
   clear h1
   induction ds with
   |nil=>exact⟨[],rfl,by simp⟩
   |cons d ds ih=>
    rw[gz,bN]at h2;obtain⟨sg,e,hs⟩:=ih h2.2;cases d with
    |int i=>
     refine⟨i::sg,by rw[e];rfl,fun x hx=>?_⟩;rcases ax.mp hx with z|z
     ·have h3:=h2.1;unfold yS at h3;rw[z];exact of_decide_eq_true h3
     ·exact hs x z
    |_=>exact absurd h2.1 aM
  obtain⟨sg,e,hs⟩:=this;refine⟨sg,by rw[e],fun z=>?_,hs⟩;rw[e,z]at h1;simp at h1
 |_=>simp[um]at h
def jo(t n:Int):Int:=(t*31+n+7)%1000003
def zf(ns:List Int):Int:=ns.foldl jo 0
theorem xdS(t n:Int):0≤jo t n∧jo t n<1000003:=⟨bI _ (by decide),bt _ (by decide)⟩
theorem xdT:∀(ns:List Int) (t:Int),0≤t→t<1000003→0≤ns.foldl jo t∧ns.foldl jo t<1000003
 |[],_,a,b=>⟨a,b⟩
 |n::ns,t,_,_=>xdT ns (jo t n) (xdS t n).1 (xdS t n).2
theorem xiR(ns:List Int):0≤zf ns∧zf ns<1000003:=xdT ns 0 (by decide) (by decide)
theorem xan(ns:List Int)(x:Int):zf (ns++[x])=jo (zf ns) x:=by
 unfold zf;rw[List.foldl_append];rfl
def Sm(x:Int):Prop:=(x.natAbs:Int)<10^60
structure Ln where
 w:Str
 c:Int
 ns:List Int
def zx:List (Str×Int):=[("paper",1),("take",2),("put",3)]
def Ln.ok(l:Ln):Prop:=(l.w,l.c)∈zx∧l.ns≠[]∧l.ns.length≤20∧∀x∈l.ns,Sm x
def Ln.ws(l:Ln):List Str:=l.w::l.ns.map xw
def Ln.txt(l:Ln):Str:=aZ ⟨#[32]⟩ l.ws
def ve(H:Hp)(u:Addr)(l:Ln):Prop:=H u=some (.tup (.str l.w::l.ns.map V.int))
def xk.ln:xk→Ln
 | .take to st c=>⟨"take",2,[to,st,c]⟩
 | .put to sg=>⟨"put",3,to::sg⟩
def lns(o n:Int)(rs:List xk):List Ln:=⟨"paper",1,[o,n]⟩::rs.map xk.ln
def ya(ls:List Ln):List Int:=ls.flatMap fun l=>l.c::l.ns
def zR(ls:List Ln):Str:=("sum ":Str)++xw (zf (ya ls))
def xJ(ls:List Ln):List Str:=ls.map Ln.txt++[zR ls]
def zl(ls:List Ln):Str:=aZ ⟨#[10]⟩ (xJ ls)
def zy(K:ah)(H:Hp)(p:Addr)(o n:Int)(rs:List xk):Prop:=∃t ts,H p=some (.tup [.int o,.int n,.ref t])∧H t=some (.tup (ts.map V.ref))∧Paired (TupAt K H) ts rs
theorem zy.same{K:ah}{H H':Hp}{p:Addr}{o n:Int}{rs:List xk}(h:zy K H p o n rs)(s:xb H H'):zy K H' p o n rs:=by
 obtain⟨t,ts,h1,h2,h3⟩:=h;exact⟨t,ts,s.at h1,s.at h2,L2.Paired.imp' (fun _ _ z=>z.same s) h3⟩
structure Pw(o n:Int)(rs:List xk):Prop where
 o:Sm o
 n:Sm n
 few:rs.length≤40
 ln:∀r∈rs,r.ln.ok
structure Pok(o n:Int)(rs:List xk):Prop extends Pw o n rs where
 ok:∀r∈rs,r.ok
theorem Pw.lns{o n:Int}{rs:List xk}(h:Pw o n rs):∀l∈lns o n rs,l.ok:=by
 intro l hl;rcases ax.mp hl with rfl|hl
 ·refine⟨by simp[zx],by simp,by simp,fun x hx=>?_⟩;rcases ax.mp hx with rfl|hx
  ·exact h.o
  ·rw[aw.mp hx];exact h.n
 ·obtain⟨r,hr,rfl⟩:=br.mp hl;exact h.ln r hr
theorem xcD{w:Str}{c:Int}(h:(w,c)∈zx){d:Nat}(hd:d<97):d∉w.cps.toList∧w.length≤5:=by
 unfold zx at h;simp only[ax,Prod.mk.injEq,bS,or_false]at h;rcases h with⟨rfl,_⟩|⟨rfl,_⟩|⟨rfl,_⟩
 ·refine⟨?_,by decide⟩;rw[show("paper":Str).cps.toList=[112,97,112,101,114]from rfl];simp only[ax,bS,or_false];lia
 ·refine⟨?_,by decide⟩;rw[show("take":Str).cps.toList=[116,97,107,101]from rfl];simp only[ax,bS,or_false];lia
 ·refine⟨?_,by decide⟩;rw[show("put":Str).cps.toList=[112,117,116]from rfl];simp only[ax,bS,or_false];lia
theorem Ln.ok.ws{l:Ln}(h:l.ok){d:Nat}(h1:d≠45)(h2:d<48):∀p∈l.ws,d∉p.cps.toList:=by
 intro p hp;rcases ax.mp hp with rfl|hp
 ·exact(xcD h.1 (by lia)).1
 ·obtain⟨n,_,rfl⟩:=br.mp hp;exact ui n h1 h2
theorem Ln.ok.wlen{l:Ln}(h:l.ok):∀p∈l.ws,p.length≤61:=by
 intro p hp;rcases ax.mp hp with rfl|hp
 ·have:=(xcD h.1 (d:=0) (by decide)).2;lia
 ·obtain⟨n,hn,rfl⟩:=br.mp hp;exact yz (h.2.2.2 n hn)
theorem Ln.ok.len{l:Ln}(h:l.ok):l.txt.length≤1302:=by
 have h1:=uQ (d:=32) l.ws h.wlen;have h2:l.ws.length≤21:=by
  have:=h.2.2.1;unfold Ln.ws;rw[ao,aa];lia
 have h3:l.ws.length*62≤21*62:=bF _ h2;exact aO h1 (aO h3 (by decide))
theorem xao(ns:List Int):Sm (zf ns):=by
 have:=xiR ns;unfold Sm;lia
theorem jq(ls:List Ln):(zR ls).length≤65:=by
 unfold zR;rw[len_app];have:=yz (xao (ya ls));have e:("sum ":Str).length=4:=rfl;lia
theorem xgO(ls:List Ln):10∉(zR ls).cps.toList:=xhC (by rw[show("sum ":Str).cps.toList=[115,117,109,32]from rfl];decide) (ui _ (by decide) (by decide))
theorem xcE{ls:List Ln}(h:∀l∈ls,l.ok):∀p∈xJ ls,p.length≤1302:=by
 intro p hp;rcases aN.mp hp with hp|hp
 ·obtain⟨l,hl,rfl⟩:=br.mp hp;exact(h l hl).len
 ·rw[aw.mp hp];have:=jq ls;lia
theorem xfN{ls:List Ln}(h:∀l∈ls,l.ok):∀p∈xJ ls,10∉p.cps.toList:=by
 intro p hp;rcases aN.mp hp with hp|hp
 ·obtain⟨l,hl,rfl⟩:=br.mp hp;exact xcx (by decide) ((h l hl).ws (by decide) (by decide))
 ·rw[aw.mp hp];exact xgO ls
theorem vO(ls:List Ln):(xJ ls).length=ls.length+1:=by
 unfold xJ;simp
theorem vo{ls:List Ln}(h:∀l∈ls,l.ok)(hn:ls.length≤41):(zl ls).length≤54726:=by
 have h1:=uQ (d:=10) (xJ ls) (xcE h);rw[vO]at h1;have h3:(ls.length+1)*1303≤42*1303:=bF _ (by lia);exact aO h1 (aO h3 (by decide))
theorem uA{ls:List Ln}(h:∀l∈ls,l.ok)(hn:ls.length≤41):uO ⟨#[10]⟩ (xJ ls)≤54726:=by
 have h1:=vX (d:=10) (xJ ls) (xcE h);rw[vO]at h1;have h3:(ls.length+1)*1303≤42*1303:=bF _ (by lia);exact aO h1 (aO h3 (by decide))
theorem Ln.ok.uO{l:Ln}(h:l.ok):uO ⟨#[32]⟩ l.ws≤1302:=by
 have h1:=vX (d:=32) l.ws h.wlen;have h2:l.ws.length≤21:=by
  have:=h.2.2.1;unfold Ln.ws;rw[ao,aa];lia
 have h3:l.ws.length*62≤21*62:=bF _ h2;exact aO h1 (aO h3 (by decide))
theorem xbU{ls:List Ln}(h:∀l∈ls,l.ok):PySem.Txt.split (zl ls) ⟨#[10]⟩=xJ ls:=
 zk (by unfold xJ;simp) (xfN h)
theorem Ln.ok.split{l:Ln}(h:l.ok):PySem.Txt.split l.txt ⟨#[32]⟩=l.ws:=zk (by unfold Ln.ws;simp) (h.ws (by decide) (by decide))
def xgP(K:ah):Sp:=fun vs H Q _=>∃(l:Addr) (ns:List Int),vs=[.ref l]∧SqL K H l (ns.map V.int)∧Q (.int (zf ns)) H
def xbV(K:ah):Sp:=fun vs H Q _=>∃(t:Addr) (r:xk),vs=[.ref t]∧TupAt K H t r∧r.ln.ok∧∀u H',xb H H'→ve H' u r.ln→Q (.ref u) H'
def xet(K:ah):Sp:=fun vs H Q _=>∃(p:Addr) (o n:Int) (rs:List xk),vs=[.ref p]∧zy K H p o n rs∧Pok o n rs∧∀(l:Addr) (us:List Addr) (H':Hp),xb H H'→H l=none→H' l=some (.lst (us.map V.ref))→Paired (ve H') us (lns o n rs)→Q (.ref l) H'
def xcV(K:ah):Sp:=fun vs H Q _=>∃(l:Addr) (us:List Addr) (ls:List Ln),vs=[.ref l]∧H l=some (.lst (us.map V.ref))∧Paired (ve H) us ls∧(∀x∈ls,x.ok)∧ls.length≤41∧xkU H Q (ya ls)
def xcW(K:ah):Sp:=fun vs H Q _=>∃(p:Addr) (o n:Int) (rs:List xk),vs=[.ref p]∧zy K H p o n rs∧Pok o n rs∧∀H',xb H H'→Q (.str (zl (lns o n rs))) H'
local macro_rules| `(tactic|walk_at"w")=>`(tactic|(conv=>whnf))
local macro_rules| `(tactic|walk_at"few")=>`(tactic|first|exact Nat.lt_of_lt_of_le (xiC (n:=998) (by simp)) (by decide)|(simp;done))
local macro_rules| `(tactic|walk_at"pos")=>`(tactic|first|(show(0:Int)<_;decide)|(show(0:Int)<_;lia)|assumption)
local macro_rules| `(tactic|walk_at"same")=>`(tactic|first|exact xb.refl _|assumption|(refine' xb.trans ?sa ?sb;(case sb=>assumption);(case sa=>walk_at"same")))
local macro_rules| `(tactic|walk_at"get")=>`(tactic|first|assumption|exact xn|(refine' xb.at ?ga ?gb;(case gb=>assumption);(case ga=>walk_at"same")))
local macro_rules| `(tactic|walk_at"sq")=>`(tactic|first|assumption|(refine' SqL.of ?g;(case g=>walk_at"get"))|(refine' SqT.of ?g;(case g=>walk_at"get"))|(refine' xb.seq ?sa ?sb;(case sb=>assumption);(case sa=>walk_at"same"))|(refine' xb.seqT ?sa ?sb;(case sb=>assumption);(case sa=>walk_at"same"))|(refine' Or.inl ?g;(case g=>walk_at"sq"))|(refine' Or.inr ?g;(case g=>walk_at"sq")))
local macro_rules| `(tactic|walk_at"no")=>`(tactic|(intro z;first|cases z|(simp at z;done)))
local macro_rules| `(tactic|walk_at"mul")=>`(tactic|first|exact Or.inl ⟨by decide,by decide⟩|exact Or.inr ⟨by decide,by decide⟩|exact Or.inl ⟨by lia,by lia⟩|exact Or.inr ⟨by lia,by lia⟩)
local macro_rules| `(tactic|walk_at"side")=>`(tactic|first|exact⟨by decide,by decide⟩|exact⟨by decide,by decide,by decide⟩|walk_at"pos" |walk_at"mul" |(show(_:Nat)≤sizeLine;first|decide|(simp only[List.length_cons,List.length_nil];decide)))
local macro_rules| `(tactic|walk_at"s")=>`(tactic|(refine And.intro (by walk_at"side") ?_;walk_at"w"))
local macro_rules| `(tactic|walk_at"ss")=>`(tactic|(repeat (walk_at"s")))
section
variable {P:aF} {w:World} {K:ah} {mg:Str→Option Value} {base:Heap} {a:Adr}
theorem xaR(T:Txt w K mg a):xA P w K mg base CX0 1 a.q0D a.jg ["self","to"] (xep K):=by
 refine T.q1k.ok xaL (fun vs H Q E h=>?_) (fun cdv A outer s H vs Q E hr h=>?_)
 ·obtain⟨p,C,dx,to,rfl,_⟩:=h;rfl
 ·obtain⟨p,C,dx,to,rfl,hp,c,n1,n2,k⟩:=h;have nd:=xaL.nd;refine⟨_,(xh (vE (cv 0) (cv 1) rfl)
  (xi (vE (cv 0) xf rfl))),?_⟩
  walk_at"w";refine⟨p,C,dx,_,rfl,hp,c,n1,by walk_at"few",?_⟩;walk_at"w";refine⟨p,C,dx,_,rfl,xn,c,n2,by walk_at"few",?_⟩;walk_at"w";rw[zC];exact k
theorem xdU(T:Txt w K mg a):xA P w K mg base CX0 2 a.q0u a.vy ["self","to","start","count"] (xdQ a):=by
 refine T.q04.ok xaj (fun vs H Q E h=>?_) (fun cdv A outer s H vs Q E hr h=>?_)
 ·obtain⟨p,dx,to,st,c,rfl,_⟩:=h;rfl
 ·obtain⟨p,dx,to,st,c,rfl,hp,k⟩:=h;have nd:=xaj.nd;refine⟨_,(xh (yC (xeL (by rfl) T.xic T.q1I (xaR T) (hr.mono (by decide)) T.xbI .nil xy (xa (cv 0) (xa (cv 1) xc))))
  (xh (vE (cv 0) (cv 2) rfl)
  (xi (vE (cv 0) (cv 3) rfl)))),?_⟩
  walk_at"w";refine⟨p,_,dx,to,rfl,hp,T.q1q,T.q1K,T.q03,?_⟩;walk_at"w";refine⟨p,_,dx,_,rfl,xn,T.q1q,T.q1o,by walk_at"few",?_⟩;walk_at"w";refine⟨p,_,dx,_,rfl,xn,T.q1q,T.q03,by walk_at"few",?_⟩;walk_at"w";rw[zC,zC];exact k
theorem xeu(T:Txt w K mg a):xA P w K mg base CX0 2 a.q0E a.jh ["self","to","signs"] (xeq K a):=by
 refine T.q1l.ok xaM (fun vs H Q E h=>?_) (fun cdv A outer s H vs Q E hr h=>?_)
 ·obtain⟨p,dx,t,to,xs,rfl,_⟩:=h;rfl
 ·obtain⟨p,dx,t,to,xs,rfl,hp,ht,k⟩:=h;have nd:=xaM.nd;have ht1:∀o,SqT K (upd H p o) t xs:=fun o=>xgN ht hp;refine⟨_,(xh (yC (xeL (by rfl) T.xic T.q1I (xaR T) (hr.mono (by decide)) T.xbI .nil xy (xa (cv 0) (xa (cv 1) xc))))
  (xh (vE (cv 0) (xC yq (by rfl) T.q0S yL (xa (cv 2) xc)) rfl)
  (xi (vE (cv 0) (xt xE (by rfl) T.q0m yc (xa (vD (cv 0) rfl) xc)) rfl)))),?_⟩
  walk_at"w";refine⟨p,_,dx,to,rfl,hp,T.q1G,T.q1W,T.q1B,?_⟩;walk_at"w";refine⟨t,xs,rfl,.inr ⟨ht1 _,?_⟩⟩;walk_at"w";refine⟨p,_,dx,_,rfl,xn,T.q1G,T.q1g,by walk_at"few",?_⟩;walk_at"w";refine⟨p,_,dx,_,.ref t,rfl,xn,T.q1G,T.q1g,rfl,?_⟩;walk_at"w";refine⟨t,xs,rfl,.inr (xgN (ht1 _) xn),?_⟩;walk_at"w";refine⟨p,_,dx,_,rfl,xn,T.q1G,T.q1B,by walk_at"few",?_⟩;walk_at"w";rw[zC,zC];exact k
theorem xaS(T:Txt w K mg a):xA P w K mg base CX0 1 a.q0T a.jj ["value"] xdR:=by
 refine T.q0G.ok xaO (fun vs H Q E h=>?_) (fun cdv A outer s H vs Q E hr h=>?_)
 ·obtain⟨v,d,rfl,_⟩:=h;rfl
 ·obtain⟨v,d,rfl,hd,q⟩:=h;have nd:=xaO.nd;refine⟨_,(xi (xo (yZ (xt zz (by rfl) T.q0c xS (xa (cv 0) (xa (zU (v:=.ty "int") (by rfl) T.q1Z vI rfl) xc))) (zJ (xgj (xt zz (by rfl) T.q0c xS (xa (cv 0) (xa (zU (v:=.ty "bool") (by rfl) T.q2k xiB rfl) xc)))))))),?_⟩;cases hd with
  |int i=>
   walk_at"w";refine⟨_,_,_,_,true,rfl,rfl,xN.int _,rfl,?_⟩;walk_at"w";refine⟨fun _=>?_,by walk_at"no"⟩;walk_at"w";refine⟨_,_,_,_,false,rfl,rfl,xN.int _,rfl,?_⟩;exact q
  |bl b=>
   walk_at"w";refine⟨_,_,_,_,true,rfl,rfl,xN.bl _,rfl,?_⟩;walk_at"w";refine⟨fun _=>?_,by walk_at"no"⟩;walk_at"w";refine⟨_,_,_,_,true,rfl,rfl,xN.bl _,rfl,?_⟩;exact q
  |non=>
   walk_at"w";refine⟨_,_,_,_,false,rfl,rfl,xN.non,rfl,?_⟩;walk_at"w";exact⟨by walk_at"no",fun _=>q⟩
  |str x=>
   walk_at"w";refine⟨_,_,_,_,false,rfl,rfl,xN.str _,rfl,?_⟩;walk_at"w";exact⟨by walk_at"no",fun _=>q⟩
  |lst e r=>
   walk_at"w";refine⟨_,_,_,_,false,rfl,rfl,xN.lst e,rfl,?_⟩;walk_at"w";exact⟨by walk_at"no",fun _=>q⟩
  |tup e r=>
   walk_at"w";refine⟨_,_,_,_,false,rfl,rfl,xN.tup e,rfl,?_⟩;walk_at"w";exact⟨by walk_at"no",fun _=>q⟩
theorem yO(T:Txt w K mg a):xA P w K mg base CX0 2 a.q0j a.zQ ["least","value"] xaF:=by
 refine T.q0d.ok vd (fun vs H Q E h=>?_) (fun cdv A outer s H vs Q E hr h=>?_)
 ·obtain⟨l,v,d,rfl,_⟩:=h;rfl
 ·obtain⟨l,v,d,rfl,hd,q⟩:=h;have nd:=vd.nd;refine⟨_,(xi (xo (yZ (xp (xaS T) (hr.mono (by decide)) (by rfl) T.xbL T.q0G.kp T.xbK .nil xy (xa (cv 1) xc)) (zJ (zq xjB (cv 1) (cv 0)))))),?_⟩;walk_at"w";refine⟨v,d,rfl,hd,?_⟩;cases hd with
  |int i=>
   walk_at"w";exact⟨fun _=>q,by walk_at"no"⟩
  |_=>
   walk_at"w";exact⟨by walk_at"no",fun _=>q⟩
theorem xfO(T:Txt w K mg a):xA P w K mg base CX0 2 a.q06 a.xab ["value"] xer:=by
 refine T.q1c.ok xbM (fun vs H Q E h=>?_) (fun cdv A outer s H vs Q E hr h=>?_)
 ·obtain⟨v,d,rfl,_⟩:=h;rfl
 ·obtain⟨v,d,rfl,hd,q⟩:=h;have nd:=xbM.nd;refine⟨_,(xi (xo (yZ (xp (xaS T) (hr.mono (by decide)) (by rfl) T.xbL T.q0G.kp T.xbK .nil xy (xa (cv 0) xc)) (zJ (zq xa2 (xt xh8 (by rfl) T.q2g xgo (xa (cv 0) xc)) (xj xbw xf xf)))))),?_⟩;walk_at"w";refine⟨v,d,rfl,hd,?_⟩;cases hd with
  |int i=>
   walk_at"w";refine⟨fun _=>?_,by walk_at"no"⟩;walk_at"w";refine⟨⟨by decide,by decide,by decide⟩,?_⟩;exact q
  |_=>
   walk_at"w";exact⟨by walk_at"no",fun _=>q⟩
theorem xdV(T:Txt w K mg a):xA P w K mg base CX0 3 a.q0K a.vB ["signs"] xcT:=by
 refine T.q0O.ok xam (fun vs H Q E h=>?_) (fun cdv A outer s H vs Q E hr h=>?_)
 ·obtain⟨v,d,rfl,_⟩:=h;rfl
 ·obtain⟨v,d,rfl,hd,hlen,q⟩:=h;have nd:=xam.nd;refine⟨_,(xi (xo (yZ (xt zz (by rfl) T.q0c xS (xa (cv 0) (xa (zU (v:=.ty "tuple") (by rfl) T.q0S yL rfl) xc))) (yZ (zq jN (xt xE (by rfl) T.q0m yc (xa (cv 0) xc)) xf) (zJ (xt (xcv rfl) (by rfl) T.q2h xgp (xa (zD (za (cap:=[]) (ys:=[]) rfl rfl rfl rfl rfl trivial (by decide+kernel)) rfl (xbr (cv 0)) (fun _ _ _ _=>(xp (xfO T) (hr.mono (by decide)) (by rfl) T.xgD T.q1c.kp T.xgC .nil xy (xa (cv 0) xc))) (fun _ _ _ _=>zj)) xc))))))),?_⟩;cases hd with
  |tup e r=>
   rename_i u xs ds;have hl:=hlen _ rfl;have hxl:=r.length;walk_at"w";refine⟨_,_,_,_,true,rfl,rfl,xN.tup e,rfl,?_⟩;walk_at"w";refine⟨fun _=>?_,by walk_at"no"⟩;walk_at"w";refine⟨u,_,rfl,.inr (SqT.of e),?_⟩;walk_at"w";refine⟨fun hp=>?_,fun hn=>?_⟩
   ·have hp':0<xs.length:=by have:=of_decide_eq_true hp;lia
    walk_at"w";refine⟨u,rfl,⟨_,SqT.of e⟩,?_⟩;refine jR (fun i acc _=>acc=(ds.take i).map fun d=>V.bl (yS d)) (SqT.of e) (by rw[ag];lia) rfl (fun i x acc H3 H3' hx s3 s3' hp R hR=>?_) (fun D acc H3 H3' hD hD3 s3 s3' hp hl hv=>?_)
    ·have hi:i<xs.length:=(bx.mp hx).1;have hdi:ds[i]? =some ds[i]:=aB (by lia);obtain⟨x',e1,e2⟩:=r.get hdi;rw[hx]at e1;cases e1;walk_at"w";refine⟨x,_,rfl,e2.same (s3.trans s3'),hR _ _ (xb.refl _) fun H6 _ _=>?_⟩;rw[hp,bB,hdi,aA];rfl
    ·walk_at"w";refine⟨D,ds.map yS,rfl,SqL.of ?_,?_⟩
     ·rw[hv,hp,hxl,bj,cy];rfl
     ·walk_at"w";have z:=q H3' (s3.trans s3');have e3:um (.tuple ds)=(ds.map yS).all id:=by
       simp only[um,fS];rw[decide_eq_true (by lia:0<ds.length)];rfl
      rw[e3]at z;exact z
   ·have hn':xs.length=0:=by have:=of_decide_eq_false hn;lia
    have e3:um (.tuple ds)=false:=by
     have:ds=[]:=eJ.mp (by lia);rw[this];rfl
    have z:=q H (xb.refl _);rw[e3]at z;exact z
  |non=>
   walk_at"w";refine⟨_,_,_,_,false,rfl,rfl,xN.non,rfl,?_⟩;walk_at"w";exact⟨by walk_at"no",fun _=>q H (xb.refl _)⟩
  |bl b=>
   walk_at"w";refine⟨_,_,_,_,false,rfl,rfl,xN.bl _,rfl,?_⟩;walk_at"w";exact⟨by walk_at"no",fun _=>q H (xb.refl _)⟩
  |int i=>
   walk_at"w";refine⟨_,_,_,_,false,rfl,rfl,xN.int _,rfl,?_⟩;walk_at"w";exact⟨by walk_at"no",fun _=>q H (xb.refl _)⟩
  |str x=>
   walk_at"w";refine⟨_,_,_,_,false,rfl,rfl,xN.str _,rfl,?_⟩;walk_at"w";exact⟨by walk_at"no",fun _=>q H (xb.refl _)⟩
  |lst e r=>
   walk_at"w";refine⟨_,_,_,_,false,rfl,rfl,xN.lst e,rfl,?_⟩;walk_at"w";exact⟨by walk_at"no",fun _=>q H (xb.refl _)⟩
theorem xeY{d:bq}{x:Str}(h:cH d (.str x)=true):d= .str x:=by
 cases d<;> simp[cH]at h
 all_goals first|(rw[h])|(exact h.elim)|skip
theorem xcX(T:Txt w K mg a):xA P w K mg base CX0 3 a.q0w a.uV ["told"] xce:=by
 refine T.q0A.ok jC (fun vs H Q E h=>?_) (fun cdv A outer s H vs Q E hr h=>?_)
 ·obtain⟨v,d,rfl,_⟩:=h;rfl
 ·obtain⟨v,d,rfl,hd,ht,q⟩:=h;have nd:=jC.nd;refine⟨_,(xh (xI (PW.pt (yU (uJ (yY (xt zz (by rfl) T.q0c xS (xa (cv 0) (xa (zU (v:=.ty "tuple") (by rfl) T.q0S yL rfl) xc))))) (yU (xv xby (xt xE (by rfl) T.q0m yc (xa (cv 0) xc)) xf) (ud (xv (xbD hr.units) (xq xR (cv 0) xf (fun _ _=>rfl)) xm))))) (xi (xo vi)) xB)
  (xi (xo (yZ (xp (yO T) (hr.mono (by decide)) (by rfl) T.yW T.q0d.kp T.yV .nil xy (xa xf (xa (xq xR (cv 0) xf (fun _ _=>rfl)) xc))) (yZ (xp (yO T) (hr.mono (by decide)) (by rfl) T.yW T.q0d.kp T.yV .nil xy (xa xf (xa (xq xR (cv 0) xf (fun _ _=>rfl)) xc))) (zJ (xp (yO T) (hr.mono (by decide)) (by rfl) T.yW T.q0d.kp T.yV .nil xy (xa xf (xa (xq xR (cv 0) xf (fun _ _=>rfl)) xc))))))))),?_⟩
  cases hd with
  |tup e r=>
   rename_i u xs ds;have hxl:=r.length;walk_at"w";refine⟨_,_,_,_,true,rfl,rfl,xN.tup e,rfl,?_⟩;walk_at"w";refine⟨by walk_at"no",fun _=>?_⟩;walk_at"w";refine⟨u,_,rfl,.inr (SqT.of e),?_⟩;walk_at"w";refine⟨fun hn=>?_,fun hl=>?_⟩
   ·have e3:yv (.tuple ds)=false:=by
     have hn':¬ds.length=4:=by
      have:=of_decide_eq_false (by simpa using hn:decide ((xs.length:Int)=4)=false);lia
     match ds,hn' with
     |[],_=>rfl
     |[_],_=>rfl
     |[_,_],_=>rfl
     |[_,_,_],_=>rfl
     |[_,_,_,_],z=>exact absurd rfl z
     |_::_::_::_::_::_,_=>rfl
    rw[e3]at q;exact⟨fun _=>q,by walk_at"no"⟩
   ·have hl':ds.length=4:=by
     have:=of_decide_eq_true (by simpa using hl:decide ((xs.length:Int)=4)=true);lia
    have ht:=ht _ rfl;obtain⟨d0,ds1,rfl,l1⟩:=xbj hl';obtain⟨d1,ds2,rfl,l2⟩:=xbj l1;obtain⟨d2,ds3,rfl,l3⟩:=xbj l2;obtain⟨d3,ds4,rfl,l4⟩:=xbj l3;obtain rfl:=fg l4;obtain⟨x0,xs1,rfl,r0,p1⟩:=r.unc;obtain⟨x1,xs2,rfl,r1,p2⟩:=p1.unc;obtain⟨x2,xs3,rfl,r2,p3⟩:=p2.unc;obtain⟨x3,xs4,rfl,r3,p4⟩:=p3.unc;obtain rfl:=p4.unn;clear p1 p2 p3 p4 l1 l2 l3 l4
    next=>
     walk_at"w";refine⟨u,_,_,x0,rfl,rfl,SqT.of e,rfl,?_⟩;walk_at"w";refine⟨d0,.str "take",r0.rp,.str _,ht.1 _ rfl,by decide+kernel,?_⟩;walk_at"w";refine⟨fun e1=>?_,fun e1=>?_⟩
     ·have e2:cH d0 (.str "take")=false:=by simpa using e1
      simp only[yv,e2,cX]at q;exact q
     ·have e2:cH d0 (.str "take")=true:=by simpa using e1
      simp only[yv,e2,dO]at q;walk_at"w";refine⟨u,_,_,x1,rfl,rfl,SqT.of e,rfl,?_⟩;walk_at"w";refine⟨_,x1,d1,rfl,r1,?_⟩;walk_at"w";refine⟨fun e3=>?_,fun e3=>?_⟩
      ·rw[e3,dO]at q;walk_at"w";refine⟨u,_,_,x2,rfl,rfl,SqT.of e,rfl,?_⟩;walk_at"w";refine⟨_,x2,d2,rfl,r2,?_⟩;walk_at"w";refine⟨fun e4=>?_,fun e4=>?_⟩
       ·rw[e4,dO]at q;walk_at"w";refine⟨u,_,_,x3,rfl,rfl,SqT.of e,rfl,?_⟩;walk_at"w";exact⟨_,x3,d3,rfl,r3,q⟩
       ·rw[e4,cX]at q
        first|exact q|(rw[e4];exact q)
      ·rw[e3,cX]at q
       first|exact q|(rw[e3];exact q)
  |non=>
   walk_at"w";refine⟨_,_,_,_,false,rfl,rfl,xN.non,rfl,?_⟩;walk_at"w";exact⟨fun _=>⟨fun _=>q,by walk_at"no"⟩,by walk_at"no"⟩
  |bl b=>
   walk_at"w";refine⟨_,_,_,_,false,rfl,rfl,xN.bl _,rfl,?_⟩;walk_at"w";exact⟨fun _=>⟨fun _=>q,by walk_at"no"⟩,by walk_at"no"⟩
  |int i=>
   walk_at"w";refine⟨_,_,_,_,false,rfl,rfl,xN.int _,rfl,?_⟩;walk_at"w";exact⟨fun _=>⟨fun _=>q,by walk_at"no"⟩,by walk_at"no"⟩
  |str x=>
   walk_at"w";refine⟨_,_,_,_,false,rfl,rfl,xN.str _,rfl,?_⟩;walk_at"w";exact⟨fun _=>⟨fun _=>q,by walk_at"no"⟩,by walk_at"no"⟩
  |lst e r=>
   walk_at"w";refine⟨_,_,_,_,false,rfl,rfl,xN.lst e,rfl,?_⟩;walk_at"w";exact⟨fun _=>⟨fun _=>q,by walk_at"no"⟩,by walk_at"no"⟩
theorem xdW(T:Txt w K mg a):xA P w K mg base CX0 4 a.q0J a.vA ["told"] xcU:=by
 refine T.q0N.ok xal (fun vs H Q E h=>?_) (fun cdv A outer s H vs Q E hr h=>?_)
 ·obtain⟨v,d,rfl,_⟩:=h;rfl
 ·obtain⟨v,d,rfl,hd,ht,q⟩:=h;have nd:=xal.nd;refine⟨_,(xh (xI (PW.pt (yU (uJ (yY (xt zz (by rfl) T.q0c xS (xa (cv 0) (xa (zU (v:=.ty "tuple") (by rfl) T.q0S yL rfl) xc))))) (yU (xv xby (xt xE (by rfl) T.q0m yc (xa (cv 0) xc)) xf) (ud (xv (xbD hr.units) (xq xR (cv 0) xf (fun _ _=>rfl)) xm))))) (xi (xo vi)) xB)
  (xi (xo (yZ (xp (yO T) (hr.mono (by decide)) (by rfl) T.yW T.q0d.kp T.yV .nil xy (xa xf (xa (xq xR (cv 0) xf (fun _ _=>rfl)) xc))) (zJ (xp (xdV T) (hr.mono (by decide)) (by rfl) T.xen T.q0O.kp T.xem .nil xy (xa (xq xR (cv 0) xf (fun _ _=>rfl)) xc))))))),?_⟩
  cases hd with
  |tup e r=>
   rename_i u xs ds;have hxl:=r.length;walk_at"w";refine⟨_,_,_,_,true,rfl,rfl,xN.tup e,rfl,?_⟩;walk_at"w";refine⟨by walk_at"no",fun _=>?_⟩;walk_at"w";refine⟨u,_,rfl,.inr (SqT.of e),?_⟩;walk_at"w";refine⟨fun hn=>?_,fun hl=>?_⟩
   ·have e3:putD (.tuple ds)=false:=by
     have hn':¬ds.length=3:=by
      have:=of_decide_eq_false (by simpa using hn:decide ((xs.length:Int)=3)=false);lia
     match ds,hn' with
     |[],_=>rfl
     |[_],_=>rfl
     |[_,_],_=>rfl
     |[_,_,_],z=>exact absurd rfl z
     |_::_::_::_::_,_=>rfl
    have z:=q H (xb.refl _);rw[e3]at z;exact⟨fun _=>z,by walk_at"no"⟩
   ·have hl':ds.length=3:=by
     have:=of_decide_eq_true (by simpa using hl:decide ((xs.length:Int)=3)=true);lia
    have ht:=ht _ rfl;obtain⟨d0,ds1,rfl,l1⟩:=xbj hl';obtain⟨d1,ds2,rfl,l2⟩:=xbj l1;obtain⟨d2,ds3,rfl,l3⟩:=xbj l2;obtain rfl:=fg l3;obtain⟨x0,xs1,rfl,r0,p1⟩:=r.unc;obtain⟨x1,xs2,rfl,r1,p2⟩:=p1.unc;obtain⟨x2,xs3,rfl,r2,p3⟩:=p2.unc;obtain rfl:=p3.unn;clear p1 p2 p3 l1 l2 l3
    next=>
     walk_at"w";refine⟨u,_,_,x0,rfl,rfl,SqT.of e,rfl,?_⟩;walk_at"w";refine⟨d0,.str "put",r0.rp,.str _,ht.1 _ rfl,by decide+kernel,?_⟩;walk_at"w";refine⟨fun e1=>?_,fun e1=>?_⟩
     ·have e2:cH d0 (.str "put")=false:=by simpa using e1
      have z:=q H (xb.refl _);simp only[putD,e2,cX]at z;exact z
     ·have e2:cH d0 (.str "put")=true:=by simpa using e1
      simp only[putD,e2,dO]at q;walk_at"w";refine⟨u,_,_,x1,rfl,rfl,SqT.of e,rfl,?_⟩;walk_at"w";refine⟨_,x1,d1,rfl,r1,?_⟩;walk_at"w";refine⟨fun e3=>?_,fun e3=>?_⟩
      ·rw[e3]at q;simp only[dO]at q;walk_at"w";refine⟨u,_,_,x2,rfl,rfl,SqT.of e,rfl,?_⟩;walk_at"w";exact⟨x2,d2,rfl,r2,fun es z=>ht.2 _ es rfl z,q⟩
      ·have z:=q H (xb.refl _);rw[e3,cX]at z
       first|exact z|(rw[e3];exact z)
  |non=>
   walk_at"w";refine⟨_,_,_,_,false,rfl,rfl,xN.non,rfl,?_⟩;walk_at"w";exact⟨fun _=>⟨fun _=>q H (xb.refl _),by walk_at"no"⟩,by walk_at"no"⟩
  |bl b=>
   walk_at"w";refine⟨_,_,_,_,false,rfl,rfl,xN.bl _,rfl,?_⟩;walk_at"w";exact⟨fun _=>⟨fun _=>q H (xb.refl _),by walk_at"no"⟩,by walk_at"no"⟩
  |int i=>
   walk_at"w";refine⟨_,_,_,_,false,rfl,rfl,xN.int _,rfl,?_⟩;walk_at"w";exact⟨fun _=>⟨fun _=>q H (xb.refl _),by walk_at"no"⟩,by walk_at"no"⟩
  |str x=>
   walk_at"w";refine⟨_,_,_,_,false,rfl,rfl,xN.str _,rfl,?_⟩;walk_at"w";exact⟨fun _=>⟨fun _=>q H (xb.refl _),by walk_at"no"⟩,by walk_at"no"⟩
  |lst e r=>
   walk_at"w";refine⟨_,_,_,_,false,rfl,rfl,xN.lst e,rfl,?_⟩;walk_at"w";exact⟨fun _=>⟨fun _=>q H (xb.refl _),by walk_at"no"⟩,by walk_at"no"⟩
theorem xcF{d:bq}(h:yv d=true):∃to st c,d= .tuple [.str "take",.int to,.int st,.int c]∧0≤to∧0≤st∧1≤c:=by
 unfold yv at h
 split at h
 ·rename_i w x y z;simp only[bN]at h;obtain⟨h1,h2,h3,h4⟩:=h;obtain⟨i,rfl,hi⟩:=zw h2;obtain⟨j,rfl,hj⟩:=zw h3;obtain⟨k,rfl,hk⟩:=zw h4;rw[xeY h1];exact⟨i,j,k,rfl,hi,hj,hk⟩
 ·cases h
theorem xdX{d:bq}(h:putD d=true):∃to sg,d= .tuple [.str "put",.int to,.tuple (sg.map bw)]∧0≤to∧sg≠[]∧∀x∈sg,(x.natAbs:Int)<10^60:=by
 unfold putD at h
 split at h
 ·rename_i w x y;simp only[bN]at h;obtain⟨h1,h2,h3⟩:=h;obtain⟨i,rfl,hi⟩:=zw h2;obtain⟨sg,rfl,hs,hb⟩:=xes h3;rw[xeY h1];exact⟨i,sg,rfl,hi,hs,hb⟩
 ·cases h
theorem Dvs.vals{H:Hp}{xs:List V}{sg:List Int}(h:Dvs H xs (sg.map bw)):xs=sg.map V.int:=by
 induction sg generalizing xs with
 |nil=>exact h.unn
 |cons i sg ih=>
  obtain⟨_,xs1,rfl,r0,h1⟩:=h.unc;rw[r0.unI,ih h1];rfl
theorem Dvs.take4{H:Hp}{x:Str}{i j k:Int}{xs:List V}(h:Dvs H xs [.str x,.int i,.int j,.int k]):xs=[.str x,.int i,.int j,.int k]:=by
 obtain⟨_,xs1,rfl,r0,h1⟩:=h.unc;obtain⟨_,xs2,rfl,r1,h2⟩:=h1.unc;obtain⟨_,xs3,rfl,r2,h3⟩:=h2.unc;obtain⟨_,xs4,rfl,r3,h4⟩:=h3.unc;rw[r0.unS,r1.unI,r2.unI,r3.unI,h4.unn]
theorem Dvs.put3{H:Hp}{x:Str}{i:Int}{sg:List Int}{xs:List V}(h:Dvs H xs [.str x,.int i,.tuple (sg.map bw)]):∃u,xs=[.str x,.int i,.ref u]∧H u=some (.tup (sg.map V.int)):=by
 obtain⟨_,xs1,rfl,r0,h1⟩:=h.unc;obtain⟨_,xs2,rfl,r1,h2⟩:=h1.unc;obtain⟨_,xs3,rfl,r2,h3⟩:=h2.unc;obtain⟨u,ys,e,hu,r⟩:=r2.unT;refine⟨u,by rw[r0.unS,r1.unI,e,h3.unn],?_⟩;rw[←r.vals];exact hu
theorem vp(T:Txt w K mg a):xA P w K mg base (CXN P w) 5 a.q1s a.xbc ["told"] (xbT K a):=by
 refine T.q0M.okN xcy (fun vs H Q E h=>?_) (fun cdv A outer s H vs Q E hr h=>?_)
 ·obtain⟨v,d,rfl,_⟩:=h;rfl
 ·obtain⟨v,d,rfl,hd,ht,q1,q2,q3⟩:=h;have nd:=xcy.nd;refine⟨_,(xh (xI (yY (xp (xcX T) (hr.mono (by decide)) (by rfl) T.xdH T.q0A.kp T.xdG .nil xy (xa (cv 0) xc))) (xi (xo (xeE T.q2a (xdU T) (hr.mono (by decide)) (by rfl) T.xjS T.xej .nil xy (xa (xq xR (cv 0) xf (fun _ _=>rfl)) (xa (xq xR (cv 0) xf (fun _ _=>rfl)) (xa (xq xR (cv 0) xf (fun _ _=>rfl)) xc)))))) xB)
  (xh (xI (yY (xp (xdW T) (hr.mono (by decide)) (by rfl) T.xel T.q0N.kp T.xek .nil xy (xa (cv 0) xc))) (xi (xo (xeE T.q2i (xeu T) (hr.mono (by decide)) (by rfl) T.xkt T.xfE .nil xy (xa (xq xR (cv 0) xf (fun _ _=>rfl)) (xa (xq xR (cv 0) xf (fun _ _=>rfl)) xc))))) xB)
  (xi (xgA ⟨rfl,rfl,rfl⟩ rfl T.q2b (by rfl) T.xcc (xa xm xc))))),?_⟩
  walk_at"w";refine⟨v,d,rfl,hd,ht,?_⟩;walk_at"w";refine⟨fun e=>?_,fun e=>?_⟩
  ·obtain⟨to,st,c,rfl,k1,k2,k3⟩:=xcF e;cases hd with
   |tup h1 r=>
    rename_i t xs;have ex:=r.take4;subst ex;walk_at"w";refine⟨t,_,_,.int to,rfl,rfl,SqT.of h1,rfl,?_⟩;walk_at"w";refine⟨t,_,_,.int st,rfl,rfl,SqT.of h1,rfl,?_⟩;walk_at"w";refine⟨t,_,_,.int c,rfl,rfl,SqT.of h1,rfl,?_⟩;walk_at"w";intro x dx hx hdx hne;generalize hU:upd H dx (.own x)=H3;have sH3:=xb.of_eq hdx hU;have hx3:H3 x=none:=by rw[←hU,xH (bz hne)];exact hx
    refine⟨x,dx,_,_,_,rfl,xn,?_⟩;rw[zC];walk_at"w";exact⟨rfl,q1 to st c rfl k1 k2 k3 x _ (sH3.trans (xb.new hx3)) hx ⟨dx,xn⟩⟩
  ·walk_at"w";refine⟨v,d,rfl,hd,ht,fun H2 s2=>?_⟩;walk_at"w";refine⟨fun e2=>?_,fun e2=>?_⟩
   ·obtain⟨to,sg,rfl,k1,k2,k3⟩:=xdX e2;cases hd with
    |tup h1 r=>
     rename_i t xs;obtain⟨u,rfl,h2⟩:=r.put3;walk_at"w";refine⟨t,_,_,.int to,rfl,rfl,SqT.of (s2.at h1),rfl,?_⟩;walk_at"w";refine⟨t,_,_,.ref u,rfl,rfl,SqT.of (s2.at h1),rfl,?_⟩;walk_at"w";intro x dx hx hdx hne;generalize hU:upd H2 dx (.own x)=H3;have sH3:=xb.of_eq hdx hU;have hx3:H3 x=none:=by rw[←hU,xH (bz hne)];exact hx
     refine⟨x,dx,u,_,_,rfl,xn,(sH3.trans (xb.new hx3)).seqT (SqT.of (s2.at h2)),?_⟩;rw[zC];walk_at"w";refine⟨rfl,q2 to sg rfl k1 k2 k3 x _ (s2.trans (sH3.trans (xb.new hx3))) (s2.back hx) ⟨dx,u,?_,(s2.trans (sH3.trans (xb.new hx3))).at h2⟩⟩;rw[xn,aa]
   ·walk_at"w";exact⟨by decide,q3 e e2 H2 s2⟩
theorem uB{to st c:Int}(k1:0≤to)(k2:0≤st)(k3:1≤c):yv (.tuple [.str "take",.int to,.int st,.int c])=true:=by
 show(cH (.str "take") (.str "take")&&(decide (0≤to)&&(decide (0≤st)&&decide (1≤c))))=true;rw[decide_eq_true k1,decide_eq_true k2,decide_eq_true k3];decide+kernel
theorem xev{sg:List Int}(h:∀x∈sg,(x.natAbs:Int)<10^60):(sg.map bw).all yS=true:=by
 rw[bA];intro d hd;obtain⟨x,hx,rfl⟩:=br.mp hd;cases e:yS (.int x)with
 |true=>rfl
 |false=>
  unfold yS at e;exact absurd (h x hx) (of_decide_eq_false e)
theorem jr{to:Int}{sg:List Int}(k1:0≤to)(k2:sg≠[])(k3:∀x∈sg,(x.natAbs:Int)<10^60):putD (.tuple [.str "put",.int to,.tuple (sg.map bw)])=true:=by
 show(cH (.str "put") (.str "put")&&(decide (0≤to)&&(decide (0<(sg.map bw).length)&&(sg.map bw).all yS)))=true;have:0<(sg.map bw).length:=by rw[aa];exact dW.mpr k2
 rw[decide_eq_true k1,decide_eq_true this,xev k3];decide+kernel
theorem xap(T:Txt w K mg a):xA P w K mg base CX0 1 a.q0v a.vz ["self"] (xhP a):=by
 refine T.q05.ok xak (fun vs H Q E h=>?_) (fun cdv A outer s H vs Q E hr h=>?_)
 ·obtain⟨o,dx,to,st,c,rfl,_⟩:=h;rfl
 ·obtain⟨o,dx,to,st,c,rfl,h1,k⟩:=h;have nd:=xak.nd;refine⟨_,(xi (xo (yd (xa xm (xa (vD (cv 0) rfl) (xa (vD (cv 0) rfl) (xa (vD (cv 0) rfl) xc))))))),?_⟩;walk_at"w";refine⟨o,_,dx,_,.int to,rfl,h1,T.q1q,T.q1K,rfl,?_⟩;walk_at"w";refine⟨o,_,dx,_,.int st,rfl,h1,T.q1q,T.q1o,rfl,?_⟩;walk_at"w";refine⟨o,_,dx,_,.int c,rfl,h1,T.q1q,T.q03,rfl,?_⟩;walk_at"w";exact⟨by walk_at"side",k⟩
theorem xaT(T:Txt w K mg a):xA P w K mg base CX0 1 a.q0F a.ji ["self"] (xhQ a):=by
 refine T.q1m.ok xaN (fun vs H Q E h=>?_) (fun cdv A outer s H vs Q E hr h=>?_)
 ·obtain⟨o,dx,u,to,n,rfl,_⟩:=h;rfl
 ·obtain⟨o,dx,u,to,n,rfl,h1,k⟩:=h;have nd:=xaN.nd;refine⟨_,(xi (xo (yd (xa xm (xa (vD (cv 0) rfl) (xa (vD (cv 0) rfl) xc)))))),?_⟩;walk_at"w";refine⟨o,_,dx,_,.int to,rfl,h1,T.q1G,T.q1W,rfl,?_⟩;walk_at"w";refine⟨o,_,dx,_,.ref u,rfl,h1,T.q1G,T.q1g,rfl,?_⟩;walk_at"w";exact⟨by walk_at"side",k⟩
theorem zS(T:Txt w K mg a):xA P w K mg base CX0 1 a.q08 a.xad ["_law_script","_law_k"] (xfM K):=by
 refine T.q0n.ok xbO (fun vs H Q E h=>?_) (fun cdv A outer s H vs Q E hr h=>?_)
 ·obtain⟨l,ns,k,rfl,_⟩:=h;rfl
 ·obtain⟨l,ns,k,rfl,hl,hk,q⟩:=h;have nd:=xbO.nd;refine⟨_,(xh (xI (xv xa2 (cv 1) (xt xE (by rfl) T.q0m yc (xa (cv 0) xc))) (xi (xo (xq xx (cv 0) (cv 1) (fun _ _=>rfl)))) xB)
  (xi (xo xf))),?_⟩
  walk_at"w";refine⟨l,_,rfl,.inl hl,?_⟩;walk_at"w";refine⟨fun e=>?_,fun e=>?_⟩
  ·have e':=of_decide_eq_true e;rw[aa]at e';walk_at"w";refine⟨l,_,k,.int (ns.getD k.toNat 0),rfl,rfl,hl,?_,?_⟩
   ·have hk':k.toNat<ns.length:=by lia
    have:=xV (xs:=ns.map V.int) (j:=k.toNat) (v:=.int (ns.getD k.toNat 0)) (by simp[hk'])
    rwa [fh hk]at this
   ·walk_at"w";rw[cellAt,if_pos e']at q;exact q
  ·have e':=of_decide_eq_false e;rw[aa]at e';rw[cellAt,if_neg e']at q;exact q
theorem jt(x:Int):0≤x%2147483647∧x%2147483647<2147483647:=⟨bI _ (by decide),bt _ (by decide)⟩
theorem xdY(T:Txt w K mg a):xA P w K mg base CX0 1 a.q1E a.xb8 ["_law_cell","_law_k"] xhR:=by
 refine T.q1A.ok xdM (fun vs H Q E h=>?_) (fun cdv A outer s H vs Q E hr h=>?_)
 ·obtain⟨c,k,rfl,_⟩:=h;rfl
 ·obtain⟨c,k,rfl,q⟩:=h;have nd:=xdM.nd;refine⟨_,(xh (xu (i:=2) nd rfl (aR rfl) (xj xQ (xj vj (xj yk (xj yk (xj xQ (cv 0) xf) (xj vj xf (cv 1))) xf) xf) xf))
  (xi (xo (xj xQ (xj vj (cv 2) (xj yk (xj yg (cv 2) xf) xf)) xf)))),?_⟩
  have b:=jt ((c%2147483647+7919*k+1)*48271);walk_at"w";refine⟨by walk_at"pos",?_⟩;walk_at"w";refine⟨.inl ⟨by decide,by decide⟩,?_⟩;walk_at"w";refine⟨.inr ⟨by decide,by decide⟩,?_⟩;walk_at"w";refine⟨by walk_at"pos",?_⟩;walk_at"w";refine⟨⟨by decide,by decide⟩,?_⟩;walk_at"w";refine⟨.inl ⟨by lia,by lia⟩,?_⟩;walk_at"w";refine⟨by walk_at"pos",?_⟩;exact q
theorem xgQ(T:Txt w K mg a):xA P w K mg base CX0 1 a.q1t a.xbd ["numbers"] (xgP K):=by
 refine T.q1x.ok xcz (fun vs H Q E h=>?_) (fun cdv A outer s H vs Q E hr h=>?_)
 ·obtain⟨l,ns,rfl,_⟩:=h;rfl
 ·obtain⟨l,ns,rfl,hl,q⟩:=h;have nd:=xcz.nd;refine⟨_,(xh (xu (i:=1) nd rfl (aR rfl) xf)
  (xh (ue cz rfl (yE (cv 0)) (yD (i:=2) nd rfl (aR rfl)) (xi (xu (i:=1) nd rfl (aR rfl) (xj xQ (xj yk (xj yk (xj vj (cv 1) xf) (cv 2)) xf) xf))))
  (xi (xo (cv 1))))),?_⟩
  walk_at"w";refine⟨l,rfl,⟨_,hl⟩,?_⟩;walk_at"w";refine zN (xs:=ns.map V.int) (fun i σ H1=>H1=H∧∃x,σ=[some (.ref l),some (.int (zf (ns.take i))),x]) ⟨rfl,_,rfl⟩ (fun i σ H1 hi hP=>by obtain⟨rfl,_⟩:=hP;exact hl) (fun i x σ H1 hx hP=>?_) (fun σ H1 hP=>?_)
  ·obtain⟨rfl,x0,rfl⟩:=hP;rw[aJ]at hx;obtain⟨n,hn,rfl⟩:=aX.mp hx;walk_at"w";walk_at"ss";refine⟨rfl,some (.int n),?_⟩;rw[bB,hn];show _=[some (V.ref l),some (V.int (zf (ns.take i++[n]))),_];rw[xan];rfl
  ·obtain⟨rfl,x0,rfl⟩:=hP;rw[aa,bj];exact q
end
section
variable {P:aF} {w:World} {K:ah} {mg:Str→Option Value} {base:Heap} {a:Adr}
theorem TupAt.dv{K:ah}{H:Hp}{t:Addr}{r:xk}(h:TupAt K H t r):Dv H (.ref t) r.dat:=by
 cases r with
 |take to st c=>exact .tup h (.cons (.str _) (.cons (.int _) (.cons (.int _) (.cons (.int _) .nil))))
 |put to sg=>obtain⟨u,h1,h2⟩:=h;exact .tup h1 (.cons (.str _) (.cons (.int _) (.cons (.tup h2 (Dvs.ints sg)) .nil)))
theorem uC(x:Str)(h:cq (.str x)=true):c8 (.str x)=true:=by
 unfold c8;rw[h,decide_eq_true (by simp[eA])];rfl
theorem yf{xs ys:List Int}(h:xs.map bw=ys.map bw):xs=ys:=by
 induction xs generalizing ys with
 |nil=>cases ys with
  |nil=>rfl
  |cons y ys=>simp at h
 |cons x xs ih=>cases ys with
  |nil=>simp at h
  |cons y ys=>
   rw[aH,aH]at h;injection h with h1 h2;injection h1 with h1;rw[h1,ih h2]
theorem xjT{K:ah}{a:Adr}{H:Hp}{t:Addr}{r:xk}{Q:VK}{E:XK}(ht:TupAt K H t r)(ok:r.ok)(k:∀(o:Addr) (H':Hp),xb H H'→H o=none→xfL K a H' o r→Q (.ref o) H'):xbT K a [.ref t] H Q E:=by
 refine⟨.ref t,r.dat,rfl,ht.dv,fun ds e=>?_,fun to st c e _ _ _=>?_,fun to sg e _ _ _=>?_,fun h1 h2=>?_⟩
 ·cases r with
  |take to st c=>
   injection e with e;subst e;exact⟨fun x hx=>by cases hx;exact uC _ (by decide+kernel),fun x es hx he=>by cases hx;cases he⟩
  |put to sg=>
   injection e with e;subst e;refine⟨fun x hx=>by cases hx;exact uC _ (by decide+kernel),fun x es hx he=>?_⟩;cases hx;injection he with he;rw[←he,aa];exact ok.2.2.1
 ·cases r with
  |take to2 st2 c2=>injection e with e;simp only[du,dJ,and_true,true_and]at e;obtain⟨rfl,rfl,rfl⟩:=e;exact k
  |put _ _=>injection e with e;simp at e
 ·cases r with
  |take _ _ _=>injection e with e;simp at e
  |put to2 sg2=>
   injection e with e;simp only[du,dJ,and_true,true_and,eB]at e;obtain⟨rfl,e⟩:=e;rw[←yf e];exact k
 ·cases r with
  |take to st c=>rw[show yv (xk.take to st c).dat=true from uB ok.1 ok.2.1 ok.2.2]at h1;cases h1
  |put to sg=>rw[show putD (xk.put to sg).dat=true from jr ok.1 ok.2.1 ok.2.2.2]at h2;cases h2
theorem xbk(v:V)(xs:List V):yx (v::xs) (some 1) none=xs:=by
 unfold yx;rw[vJ (by decide),HT.vT,ao];have e:min (Int.toNat 1) (xs.length+1)=1:=by show min 1 (xs.length+1)=1;lia
 rw[e,cf,cn,dA (by lia)]
theorem ve.off{H:Hp}{u l:Addr}{x:Ln}{xs:List V}{o:HO}(h:ve H u x)(hl:H l=some (.lst xs)):ve (upd H l o) u x:=by
 unfold ve at h⊢;rw[xH (xat h hl (by intro z;cases z))];exact h
theorem xfP(T:Txt w K mg a):xA P w K mg base CX0 1 a.q07 a.xac ["told"] (xbV K):=by
 refine T.q1d.ok xbN (fun vs H Q E h=>?_) (fun cdv A outer s H vs Q E hr h=>?_)
 ·obtain⟨t,r,rfl,_⟩:=h;rfl
 ·obtain⟨t,r,rfl,ht,hk,q⟩:=h;have nd:=xbN.nd;refine⟨_,(xh (xI (xv zL (xq xR (cv 0) xf (fun _ _=>rfl)) xm) (xi (xo (xj vF (xF xdc (cv 0) xO (xM xf)) (xq xR (cv 0) xf (fun _ _=>rfl))))) xB)
  (xi (xo (cv 0)))),?_⟩
  cases r with
  |take to st c=>
   walk_at"w";refine⟨t,_,_,.str "take",rfl,rfl,SqT.of ht,rfl,?_⟩;walk_at"w";refine⟨by walk_at"no",fun _=>?_⟩;walk_at"w";exact q t H (xb.refl _) ht
  |put to sg=>
   obtain⟨u,h1,h2⟩:=ht;have hl:(to::sg).length≤20:=hk.2.2.1;rw[ao]at hl;walk_at"w";refine⟨t,_,_,.str "put",rfl,rfl,SqT.of h1,rfl,?_⟩;walk_at"w";refine⟨fun _=>?_,by walk_at"no"⟩;walk_at"w";refine⟨_,rfl,?_⟩;walk_at"w";refine⟨t,_,rfl,SqT.of h1,fun z=>absurd z.2 (by show¬(2=3);decide),?_⟩;intro c hc;generalize hUc:upd H c _=H1;have sH1:=xb.of_eq hc hUc;have ec:=xg hUc;clear hUc;walk_at"w";refine⟨t,_,_,.ref u,rfl,rfl,SqT.of (sH1.at h1),rfl,?_⟩;walk_at"w";have ec':H1 c=some (.tup [.str "put",.int to]):=ec;refine⟨c,u,_,_,rfl,rfl,SqT.of ec',SqT.of (sH1.at h2),by simp,?_,?_⟩
   ·rw[aa,ag];simp;lia
   refine⟨fun e=>?_,fun _=>?_⟩
   ·have:sg=[]:=gF.mp e;have hk2:=hk.2.1;exact q c H1 sH1 (by show H1 c=some (.tup (.str "put"::(to::sg).map V.int));rw[this];exact ec')
   ·intro p hp;exact q p _ (sH1.trans (xb.new hp)) xn
theorem xcY(T:Txt w K mg a):xA P w K mg base CX0 1 a.q0y a.uX ["lines"] (xcV K):=by
 refine T.q0C.ok jE (fun vs H Q E h=>?_) (fun cdv A outer s H vs Q E hr h=>?_)
 ·obtain⟨l,us,ls,rfl,_⟩:=h;rfl
 ·obtain⟨l,us,ls,rfl,hl,hp,hk,hn,q⟩:=h;have nd:=jE.nd;refine⟨_,(xh (xu (i:=1) nd rfl (aR rfl) (xD xc))
  (xh (ue cz rfl (yE (cv 0)) (yD (i:=2) nd rfl (aR rfl)) (xh (yC (yb PySem.F.plainAttrs_list PySem.F.slot_list_append PySem.F.type_list_append yH (cv 1) (xa (xhz (uE (v:=.ref a.q0R) (by rfl) T.xiO rfl) (xq xR (cv 2) xf (fun _ _=>rfl)) (fun _ _=>rfl)) xc)))
  (xi (yC (yb PySem.F.plainAttrs_list PySem.F.slot_list_extend PySem.F.type_list_extend xfx (cv 1) (xa (xF xdc (cv 2) (xM xf) xO) xc))))))
  (xi (xo (cv 1))))),?_⟩
  have ul:us.length=ls.length:=hp.length;have bd:∀k,(ya (ls.take k)).length≤k*21:=by
   intro k
   induction k with
   |zero=>simp[ya]
   |succ k ih=>
    rw[bB];unfold ya at ih⊢;rw[fj,aj];cases hx:ls[k]? with
    |none=>exact aO (show _+0≤_ from aD _) (by lia)
    |some x=>
     have:=(hk x (aQ hx)).2.2.1;have e1:(List.flatMap (fun l:Ln=>l.c::l.ns) (some x).toList).length=x.ns.length+1:=by simp
     rw[e1];lia
  walk_at"w";walk_at"ss";intro nl hnl;generalize hUnl:upd H nl _=H1;have sH1:=xb.of_eq hnl hUnl;have enl:=xg hUnl;clear hUnl;walk_at"w";refine⟨l,rfl,⟨_,SqL.of (sH1.at hl)⟩,?_⟩;refine zN (xs:=us.map V.ref) (fun k σ G=>xb H G∧G nl=some (.lst ((ya (ls.take k)).map V.int))∧∃x,σ=[some (.ref l),some (.ref nl),x]) ⟨sH1,enl,_,rfl⟩ (fun i σ G hi hP=>SqL.of (hP.1.at hl)) (fun k x σ G hx hP=>?_) (fun σ G hP=>?_)
  ·obtain⟨sG,eG,x0,rfl⟩:=hP;rw[aJ]at hx;obtain⟨u,hu,rfl⟩:=aX.mp hx;obtain⟨x,hx1,hx2⟩:=yP hp hu;have hxk:=hk x (aQ hx1);have hkl:k<ls.length:=(bx.mp hx1).1;have e2:G u=some (.tup (.str x.w::x.ns.map V.int)):=sG.at hx2;have bk:=bd k;have x7:=hxk.2.2.1;walk_at"w";refine aY (.inl ⟨rfl,_,SqL.of eG⟩) ?_;walk_at"w";refine⟨u,_,_,.str x.w,rfl,rfl,SqT.of e2,xV (j:=0) rfl,?_⟩;walk_at"w";refine⟨a.q0R,_,x.w,x.c,rfl,rfl,T.xiP,hxk.1,?_⟩;walk_at"w";refine⟨nl,_,_,rfl,rfl,eG,?_,?_⟩
   ·rw[aa,ag];lia
   generalize hU:upd G nl _=G1;have sG1:xb H G1:=by rw[←hU];exact sG.put hnl
   have eG1:=xg hU;have e21:G1 u=some (.tup (.str x.w::x.ns.map V.int)):=sG1.at hx2;walk_at"w";refine aY (.inl ⟨rfl,_,SqL.of eG1⟩) ?_;walk_at"w";refine⟨_,rfl,?_⟩;walk_at"w";refine⟨u,_,rfl,SqT.of e21,?_,?_⟩
   ·intro z;have:=z.1;rw[vJ (by decide)]at this;simp at this
   intro c hc;generalize hUc:upd G1 c _=G2;have sG2:=xb.of_eq hc hUc;have ec:=xg hUc;clear hUc;walk_at"w";have ec':G2 c=some (.tup (x.ns.map V.int)):=by rw[ec,xbk]
   refine⟨nl,c,_,_,rfl,rfl,sG2.at eG1,SqT.of ec',?_,?_⟩
   ·rw[aj,aa,aa,bD,ag];lia
   refine⟨(sG1.trans sG2).put hnl,?_,_,rfl⟩;rw[xn,bB,hx1];unfold ya;rw[fj];simp
  ·obtain⟨sG,eG,x0,rfl⟩:=hP;rw[aa,ul,bj]at eG;exact q nl G sG hnl eG
theorem xew(T:Txt w K mg a):xA P w K mg base CX0 6 a.q0U a.jk ["paper"] (xet K):=by
 refine T.q0X.ok xaP (fun vs H Q E h=>?_) (fun cdv A outer s H vs Q E hr h=>?_)
 ·obtain⟨p,o,n,rs,rfl,_⟩:=h;rfl
 ·obtain⟨p,o,n,rs,rfl,⟨t,ts,hp,ht,hts⟩,ok,q⟩:=h;have nd:=xaP.nd;refine⟨_,(xh (xu (i:=1) nd rfl (aR rfl) (xD (xa (yd (xa xm (xa (xq xR (cv 0) xf (fun _ _=>rfl)) (xa (xq xR (cv 0) xf (fun _ _=>rfl)) xc)))) xc)))
  (xh (yC (yb PySem.F.plainAttrs_list PySem.F.slot_list_extend PySem.F.type_list_extend xgc (cv 1) (xa (zD (za (cap:=[]) (ys:=[]) rfl rfl rfl rfl rfl trivial (by decide+kernel)) rfl (xbr (xq xR (cv 0) xf (fun _ _=>rfl))) (fun _ _ _ _=>(xp (xfP T) (hr.mono (by decide)) (by rfl) T.xgF T.q1d.kp T.xgE .nil xy (xa (xgi (vS (xp (vp T) (hr.mono (by decide)) (by rfl) T.jn T.q0M.kp T.jm .nil xib (xa (cv 0) xc)) T.q1G T.q1H (xaT T) (hr.mono (by decide)) T.xbJ .nil xy) (vS (xp (vp T) (hr.mono (by decide)) (by rfl) T.jn T.q0M.kp T.jm .nil xib (xa (cv 0) xc)) T.q1q T.q1C (xap T) (hr.mono (by decide)) T.xaK .nil xy)) xc))) (fun _ _ _ _=>zj)) xc)))
  (xi (xo (cv 1))))),?_⟩
  have tl:ts.length=rs.length:=hts.length;have few:=ok.few;walk_at"w";refine⟨p,_,_,.int o,rfl,rfl,SqT.of hp,rfl,?_⟩;walk_at"w";refine⟨p,_,_,.int n,rfl,rfl,SqT.of hp,rfl,?_⟩;walk_at"w";walk_at"ss";intro c hc;generalize hUc:upd H c _=H1;have sH1:=xb.of_eq hc hUc;have ec:=xg hUc;clear hUc;walk_at"w";walk_at"ss";intro l hl;generalize hUl:upd H1 l _=H2;have sH2:=xb.of_eq hl hUl;have el:=xg hUl;clear hUl;walk_at"w";have s2:=sH1.trans sH2;refine aY (.inl ⟨rfl,_,SqL.of el⟩) ?_;walk_at"w";refine⟨p,_,_,.ref t,rfl,rfl,SqT.of (s2.at hp),rfl,?_⟩;walk_at"w";refine⟨t,rfl,⟨_,SqT.of (s2.at ht)⟩,?_⟩;refine jR (fun i acc G=>∃us:List Addr,acc=us.map V.ref∧Paired (ve G) us ((rs.take i).map xk.ln)) (SqT.of (s2.at ht)) (by rw[aa,ag];lia) ⟨[],rfl,.nil⟩ (fun i x acc H3 H3' hx s3 s3' hP R hR=>?_) (fun D acc H3 H3' hD hD3 s3 s3' hP hle he=>?_)
  ·obtain⟨us,rfl,hus⟩:=hP;rw[aJ]at hx;obtain⟨t0,ht0,rfl⟩:=aX.mp hx;obtain⟨r,hr0,pr⟩:=yP hts ht0;have hrm:r∈rs:=aQ hr0;have sA:=s2.trans (s3.trans s3');have fin:∀(t1:Addr) (G:Hp),xb H3' G→TupAt K G t1 r→xbV K [.ref t1] G (fun u G1=>R u G1) E0:=by
    intro t1 G sG h1;refine⟨t1,r,rfl,h1,ok.ln r hrm,fun u G1 sG1 hu=>hR _ _ (sG.trans sG1) fun H6 s6 k6=>⟨us++[u],by simp,?_⟩⟩;rw[bB,hr0,aA];exact zt (show ve H6 u r.ln from k6 _ _ (.inr fun ys z=>by cases z) hu) (L2.Paired.imp' (fun _ _ z=>s6.at z) hus)
   walk_at"w";cases r with
   |put to sg=>
    left
    dsimp only[xfg,xc1,xff,xfe,xdi];refine xjT (pr.same sA) (ok.ok _ hrm) fun ob G sG hob hO=>?_;walk_at"w";obtain⟨dx,u,h1,h2⟩:=hO;refine⟨ob,dx,_,rfl,h1,rfl,ob,dx,u,to,_,rfl,h1,fun t1 ht1=>?_⟩;exact fin t1 _ (sG.trans (xb.new ht1)) ⟨u,xn,(xb.new ht1).at h2⟩
   |take to st c=>
    right
    dsimp only[xfg,xc1,xff,xfe,xdi];refine xjT (pr.same sA) (ok.ok _ hrm) fun ob G sG hob hO=>?_;walk_at"w";obtain⟨dx,h1⟩:=hO;refine⟨ob,dx,_,rfl,h1,rfl,ob,dx,to,st,c,rfl,h1,fun t1 ht1=>?_⟩;exact fin t1 _ (sG.trans (xb.new ht1)) xn
  obtain⟨us,rfl,hus⟩:=hP;rw[aa,tl,bj]at hus;have ul:us.length=rs.length:=by have:=hus.length;rwa [aa]at this
  have e5:=(s3.trans s3').at el;walk_at"w";refine⟨l,D,_,_,rfl,rfl,e5,he,?_,?_⟩
  ·rw[aa,bD,ag];lia
  walk_at"w";have lf:=sH1.back hl;have sF:=(s2.trans (s3.trans s3')).put (o:=.lst ([V.ref c]++us.map V.ref)) lf;refine q l (c::us) _ sF lf (by rw[xn];rfl) (.cons ?_ (L2.Paired.imp' (fun _ _ z=>?_) hus))
  ·exact ve.off (x:=⟨"paper",1,[o,n]⟩) ((sH2.trans (s3.trans s3')).at ec) e5
  ·exact ve.off (s3'.at z) e5
end
section
variable {P:aF} {w:World} {K:ah} {mg:Str→Option Value} {base:Heap} {a:Adr}
open PySem.NumText (AllDigits digitsVal)
noncomputable def rdN(z:Str):Option Int:=open Classical in if h:∃n,xw n=z∧Sm n then some (Classical.choose h)else none
theorem zF{m n:Int}(hm:Sm m)(hn:Sm n)(e:xw m=xw n):m=n:=by
 have h1:=yN (n:=m) hm;rw[e,yN (n:=n) hn]at h1;exact(aE h1).symm
theorem xjU{z:Str}{n:Int}(h:rdN z=some n):xw n=z∧Sm n:=by
 unfold rdN at h
 split at h
 ·rename_i w;rw[←aE h];exact gj w
 ·cases h
theorem xeZ{n:Int}(h:Sm n):rdN (xw n)=some n:=by
 have w:∃m,xw m=xw n∧Sm m:=⟨n,rfl,h⟩;unfold rdN;rw[dif_pos w];obtain⟨e,hs⟩:=gj w;rw[zF hs h e]
theorem xhS{z:Str}(h:¬∃n,xw n=z∧Sm n):rdN z=none:=by unfold rdN;rw[dif_neg h]
noncomputable def rdV(z:Str):V:=match rdN z with
 |some n=>.int n
 |none=>.non
theorem jG:∀(cs:List Nat) (a:Nat),AllDigits cs→cs.foldl (fun acc c=>acc*10+(c - 48)) a<(a+1)*10^cs.length
 |[],a,_=>by simp
 |c::cs,a,h=>by
  have hc:=h c aL;have:=jG cs (a*10+(c - 48)) h.tail;rw[List.foldl_cons,ao];refine az this ?_;rw[Nat.pow_succ,Nat.mul_comm (10^cs.length) 10,←Nat.mul_assoc];exact bF _ (by lia)
theorem xaq{cs:List Nat}(h:AllDigits cs)(hl:cs.length≤60):digitsVal cs<10^60:=by
 have:=jG cs 0 h;rw[Nat.zero_add,Nat.one_mul]at this;exact az this (gr (by decide) hl)
theorem xbW(z:Str):(decide (0+("-":Str).length≤z.length)&&gU z ("-":Str) 0)=decide (z.cps.toList.head? =some 45):=by
 have hl:z.length=z.cps.toList.length:=by simp[bR]
 rw[StrLaws.subAt_eq,hl];have e1:(("-":Str).length)=1:=rfl;have e2:("-":Str).cps.toList=[45]:=rfl;rw[e1,e2];cases z.cps.toList with
 |nil=>simp
 |cons c r=>simp;rfl
theorem xe0{z:Str}{cs:List Nat}(h:z.cps.toList=45::cs):jU z (some 1) none=⟨cs.toArray⟩:=by
 have hl:z.length=cs.length+1:=by
  have:=congrArg bZ h;simpa [bR]using this
 unfold jU;rw[h,hl];have s1:HT.sIx (cs.length+1) 0 (some 1)=1:=by simp[HT.sIx]
 have s2:HT.sIx (cs.length+1) (cs.length+1) none=cs.length+1:=by simp[HT.sIx]
 rw[s1,s2];simp
theorem vP{n:Int}{z:Str}{cs:List Nat}(h:z.cps.toList=45::cs)(e:xw n=z):cs=zp n.natAbs∧n<0:=by
 have q:=yh n;rw[e,h]at q
 by_cases h0:n<0
 ·rw[if_pos h0]at q;injection q with _ q;exact⟨q,h0⟩
 ·rw[if_neg h0]at q;have:=yn n.natAbs 45 (by rw[←q];simp);lia
theorem xaB{n:Int}{z:Str}(h:¬z.cps.toList.head? =some 45)(e:xw n=z):z.cps.toList=zp n.natAbs∧¬n<0:=by
 have q:=yh n;rw[e]at q
 by_cases h0:n<0
 ·rw[if_pos h0]at q;rw[q]at h;simp at h
 ·rw[if_neg h0]at q;exact⟨q,h0⟩
def zg(z:Str):Bool:=decide (0<z.length)&&z.cps.toList.all fun c=>decide (48≤c∧c≤57)
theorem ub{z:Str}:zg z=true↔z.cps.toList≠[]∧AllDigits z.cps.toList:=by
 unfold zg;have hl:z.length=z.cps.toList.length:=by simp[bR]
 rw[bN,decide_eq_true_iff,hl,dW,bA];refine and_congr Iff.rfl ⟨fun h c hc=>of_decide_eq_true (h c hc),fun h c hc=>decide_eq_true (h c hc)⟩
theorem xgR(c:Nat):(!(b7 ("0123456789":Str) ⟨#[c]⟩ 0 ("0123456789":Str).length 1).isEmpty)=decide (48≤c∧c≤57):=by
 rw[StrLaws.found_one];have e:("0123456789":Str).cps.toList=[48,49,50,51,52,53,54,55,56,57]:=rfl;rw[e];refine decide_eq_decide.mpr ?_;simp only[ax,bS,or_false];omega
def xcf:Sp:=fun vs H Q _=>∃z:Str,vs=[.str z]∧z.length≤100000∧∀H',xb H H'→Q (.bl (zg z)) H'
def xcg:Sp:=fun vs H Q _=>∃z:Str,vs=[.str z]∧z.length≤100000∧∀H',xb H H'→Q (rdV z) H'
theorem xch(T:Txt w K mg a):xA P w K mg base CX0 1 a.q0q a.uv ["word"] xcf:=by
 refine T.q0s.ok vM (fun vs H Q E h=>?_) (fun cdv A outer s H vs Q E hr h=>?_)
 ·obtain⟨z,rfl,_⟩:=h;rfl
 ·obtain⟨z,rfl,hm,q⟩:=h;have nd:=vM.nd;refine⟨_,(xi (xo (yZ (zq jN (xt uM (by rfl) T.q0m yc (xa (cv 0) xc)) xf) (zJ (xt (xcv rfl) (by rfl) T.q2h xgp (xa (zD (za (cap:=[]) (ys:=[]) rfl rfl rfl rfl rfl trivial (by decide+kernel)) rfl (xjK (cv 0)) (fun _ _ _ _=>(zq xf1 (cv 0) xm (by rfl))) (fun _ _ _ _=>zj)) xc)))))),?_⟩;have hz:z.length=z.cps.toList.length:=by simp[bR]
  have hz2:z.cps.size=z.length:=rfl;walk_at"w";refine⟨_,rfl,by rw[ag];lia,?_⟩;walk_at"w";refine⟨fun b=>?_,fun b=>?_⟩
  ·walk_at"w";refine⟨_,rfl,?_⟩;refine xhy (fun c=>.bl (decide (48≤c∧c≤57))) (by rw[hz2,ag];lia) (fun c H3 hc s3 R hR=>?_) (fun D H' hD s' he=>?_)
   ·walk_at"w";refine⟨_,_,rfl,rfl,?_⟩;have:=hR H3 (xb.refl _);rw[←xgR c]at this;exact this
   ·have e:(z.cps.toList.map fun c=>V.bl (decide (48≤c∧c≤57)))=(z.cps.toList.map fun c=>decide (48≤c∧c≤57)).map V.bl:=by rw[cy];rfl
    rw[e]at he;walk_at"w";refine⟨D,_,rfl,SqL.of he,?_⟩;have e2:(z.cps.toList.map fun c=>decide (48≤c∧c≤57)).all id=zg z:=by
     unfold zg;rw[fS,decide_eq_true (by have:=of_decide_eq_true b;lia),dO];rfl
    show Q (.bl ((z.cps.toList.map fun c=>decide (48≤c∧c≤57)).all id)) H';rw[e2];exact q _ s'
  ·have hf:zg z=false:=by
    unfold zg;rw[decide_eq_false (by have:=of_decide_eq_false b;lia),cX]
   have:=q H (xb.refl _);rw[hf]at this;exact this
theorem xci(T:Txt w K mg a):xA P w K mg base CX0 2 a.q0p a.uu ["word"] xcg:=by
 refine T.q0r.ok vL (fun vs H Q E h=>?_) (fun cdv A outer s H vs Q E hr h=>?_)
 ·obtain⟨z,rfl,_⟩:=h;rfl
 ·obtain⟨z,rfl,hzl,q⟩:=h;have nd:=vL.nd;refine⟨_,(xh (xu (i:=1) nd rfl (aR rfl) (xh7 (yY (yb PySem.F.plainAttrs_str PySem.F.slot_str_startswith PySem.F.type_str_startswith jz (cv 0) (xa xm xc))) (xF xgw (cv 0) (xM xf) xO) (cv 0)))
  (xh (xI (PW.pt (yU (xv jN (xt uM (by rfl) T.q0m yc (xa (cv 1) xc)) (uE (v:=.int 60) (by rfl) T.xcd ⟨_,rfl⟩)) (ud (uJ (yY (xp (xch T) (hr.mono (by decide)) (by rfl) T.xcS T.q0s.kp T.xcR .nil xy (xa (cv 1) xc))))))) (xi (xo zI)) xB)
  (xh (xu (i:=2) nd rfl (aR rfl) (xC vm (by rfl) T.q1Z vI (xa (cv 0) xc)))
  (xh (xI (xv xfn (xC yM (by rfl) T.q1r zr (xa (cv 2) xc)) (cv 0)) (xi (xo zI)) xB)
  (xi (xo (cv 2))))))),?_⟩
  have no:(¬∃n,xw n=z∧Sm n)→∀H',xb H H'→Q .non H':=fun h H' s'=>by
   have:=q H' s';unfold rdV at this;rw[xhS h]at this;exact this
  have yes:∀n,xw n=z→Sm n→∀H',xb H H'→Q (.int n) H':=fun n e hn H' s'=>by
   have:=q H' s';unfold rdV at this;rw[←e,xeZ hn]at this;exact this
  have hlz:z.length=z.cps.toList.length:=by simp[bR]
  walk_at"w";refine aY rfl ?_;walk_at"w";refine⟨_,_,rfl,rfl,?_⟩;rw[xbW z];walk_at"w";refine⟨fun b=>?_,fun b=>?_⟩
  ·have hd:=of_decide_eq_true b;obtain⟨cs,hz⟩:∃cs,z.cps.toList=45::cs:=by
    cases hc:z.cps.toList with
    |nil=>rw[hc]at hd;cases hd
    |cons c r=>rw[hc]at hd;cases hd;exact⟨r,rfl⟩
   have hl:z.length=cs.length+1:=by rw[hlz,hz];rfl
   have hy:(⟨cs.toArray⟩:Str).length=cs.length:=by simp[bR]
   have hy2:(⟨cs.toArray⟩:Str).cps.toList=cs:=rfl;walk_at"w";refine⟨_,rfl,?_⟩;walk_at"w";refine⟨_,rfl,by rw[ag];lia,?_⟩;rw[xe0 hz];walk_at"w";refine⟨_,rfl,by rw[hy,ag];lia,?_⟩;walk_at"w";refine⟨fun b1=>?_,fun b1=>?_⟩
   ·refine⟨fun _=>?_,by walk_at"no"⟩;walk_at"w";refine no (fun⟨n,e,hn⟩=>?_) H (xb.refl _);have:=vK (m:=n.natAbs) (k:=60) (by unfold Sm at hn;lia) (by decide);rw[←(vP hz e).1]at this;have:=of_decide_eq_true b1;rw[hy]at this;lia
   have hle:cs.length≤60:=by have:=of_decide_eq_false b1;rw[hy]at this;lia
   walk_at"w";refine⟨_,rfl,by rw[hy];lia,fun H1 s1=>?_⟩;walk_at"w";refine⟨fun b2=>?_,fun b2=>?_⟩
   ·walk_at"w";refine no (fun⟨n,e,hn⟩=>?_) H1 s1;have hf:zg ⟨cs.toArray⟩=true:=ub.mpr ⟨by rw[hy2,(vP hz e).1];exact uH _,by rw[hy2,(vP hz e).1];exact yn _⟩;rw[hf]at b2;cases b2
   have hf:zg ⟨cs.toArray⟩=true:=by simpa using b2
   obtain⟨hne,hdg⟩:=ub.mp hf;rw[hy2]at hne hdg;have hi:=intText_neg hz hdg hne (by lia);have hsm:Sm (-((digitsVal cs:Nat):Int)):=by have:=xaq hdg hle;unfold Sm;lia
   walk_at"w";refine⟨_,_,rfl,hi,by lia,?_⟩;generalize hm: -((digitsVal cs:Nat):Int)=m at hi hsm;walk_at"w";refine⟨_,_,rfl,rfl,fun i e=>by injection e with e;rw[←e];exact zd hsm,?_⟩;walk_at"w";refine⟨fun b3=>?_,fun b3=>?_⟩
   ·walk_at"w";refine no (fun⟨n,e,hn⟩=>?_) H1 s1;have hi2:=yN (n:=n) hn;rw[e,hi]at hi2;have:decide (ai (toString m)=z)=true:=decide_eq_true (by rw[aE hi2];exact e);rw[this]at b3;cases b3
   ·walk_at"w";exact yes m (of_decide_eq_true (p:=ai (toString m)=z) (by rw[←bP];exact b3)) hsm H1 s1
  ·have hd:=of_decide_eq_false b;walk_at"w";refine⟨_,rfl,by rw[ag];lia,?_⟩;walk_at"w";refine⟨fun b1=>?_,fun b1=>?_⟩
   ·refine⟨fun _=>?_,by walk_at"no"⟩;walk_at"w";refine no (fun⟨n,e,hn⟩=>?_) H (xb.refl _);have:=vK (m:=n.natAbs) (k:=60) (by unfold Sm at hn;lia) (by decide);rw[←(xaB hd e).1,←hlz]at this;have:=of_decide_eq_true b1;lia
   have hle:z.length≤60:=by have:=of_decide_eq_false b1;lia
   walk_at"w";refine⟨_,rfl,by lia,fun H1 s1=>?_⟩;walk_at"w";refine⟨fun b2=>?_,fun b2=>?_⟩
   ·walk_at"w";refine no (fun⟨n,e,hn⟩=>?_) H1 s1;have hf:zg z=true:=ub.mpr ⟨by rw[(xaB hd e).1];exact uH _,by rw[(xaB hd e).1];exact yn _⟩;rw[hf]at b2;cases b2
   have hf:zg z=true:=by simpa using b2
   obtain⟨hne,hdg⟩:=ub.mp hf;have hi:=intText_digits hdg hne (by lia);have hsm:Sm ((digitsVal z.cps.toList:Nat):Int):=by have:=xaq hdg (by lia);unfold Sm;lia
   walk_at"w";refine⟨_,_,rfl,hi,by lia,?_⟩;generalize hm:((digitsVal z.cps.toList:Nat):Int)=m at hi hsm;walk_at"w";refine⟨_,_,rfl,rfl,fun i e=>by injection e with e;rw[←e];exact zd hsm,?_⟩;walk_at"w";refine⟨fun b3=>?_,fun b3=>?_⟩
   ·walk_at"w";refine no (fun⟨n,e,hn⟩=>?_) H1 s1;have hi2:=yN (n:=n) hn;rw[e,hi]at hi2;have:decide (ai (toString m)=z)=true:=decide_eq_true (by rw[aE hi2];exact e);rw[this]at b3;cases b3
   ·walk_at"w";exact yes m (of_decide_eq_true (p:=ai (toString m)=z) (by rw[←bP];exact b3)) hsm H1 s1
def xaG(a:Adr):Sp:=fun vs H Q E=>∃(l:Addr) (w0:Str) (ws:List Str),vs=[.ref l]∧H l=some (.lst ((w0::ws).map V.str))∧ws.length≤1000∧(∀z∈ws,z.length≤100000)∧
 (∀ns:List Int,ws.map rdN=ns.map some→∀(u:Addr) (H':Hp),xb H H'→H u=none→H' u=some (.tup (ns.map V.int))→Q (.ref u) H')∧((¬∃ns:List Int,ws.map rdN=ns.map some)→∀H',xb H H'→E (.ref a.q0a) none H')
theorem xhT(ws:List Str):(ws.map rdV).all zK=true:=by
 rw[fS];refine bA.mpr fun x _=>?_;show zK (rdV x)=true;unfold rdV;cases rdN x<;> rfl
theorem xgS(ws:List Str):inV V.non (ws.map rdV)=true↔¬∃ns:List Int,ws.map rdN=ns.map some:=by
 unfold inV
 induction ws with
 |nil=>exact⟨fun h=>by simp at h,fun h=>absurd ⟨[],rfl⟩ h⟩
 |cons x r ih=>
  rw[aH,eU,Bool.or_eq_true];have e1:eqV (rdV x) V.non=true↔rdN x=none:=by
   unfold rdV;cases rdN x with
   |none=>exact⟨fun _=>rfl,fun _=>rfl⟩
   |some n=>exact⟨fun h=>by simp[eqV]at h,fun h=>by cases h⟩
  rw[e1,ih];constructor
  ·rintro h ⟨ns,e⟩;cases ns with
   |nil=>simp at e
   |cons n ns=>
    rw[aH,aH]at e;injection e with e2 e3;rcases h with h|h
    ·rw[h]at e2;cases e2
    ·exact h ⟨ns,e3⟩
  ·intro h;cases hx:rdN x with
   |none=>exact .inl rfl
   |some n=>
    right
    rintro⟨ns,e⟩;exact h ⟨n::ns,by rw[aH,aH,hx,e]⟩
theorem xhU{ws:List Str}{ns:List Int}(h:ws.map rdN=ns.map some):ws.map rdV=ns.map V.int:=by
 have:ws.map rdV=(ws.map rdN).map fun x=>match x with|some n=>V.int n|none=>V.non:=by rw[cy];rfl
 rw[this,h,cy];rfl
theorem uy(T:Txt w K mg a):xA P w K mg base (CXE P w) 3 a.q0h a.zB ["words"] (xaG a):=by
 refine T.q0e.okX ux (fun vs H Q E h=>?_) (fun cdv A outer s H vs Q E hr h=>?_)
 ·obtain⟨l,w0,ws,rfl,_⟩:=h;rfl
 ·obtain⟨l,w0,ws,rfl,hl,hn,hw,q1,q2⟩:=h;have nd:=ux.nd;refine⟨_,(xh (xu (i:=1) nd rfl (aR rfl) (xC yq (by rfl) T.q0S yL (xa (zD (za (cap:=[]) (ys:=[]) rfl rfl rfl rfl rfl trivial (by decide+kernel)) rfl (yE (xF xX (cv 0) (xM xf) xO)) (fun _ _ _ _=>(xp (xci T) (hr.mono (by decide)) (by rfl) T.xcQ T.q0r.kp T.xcP .nil xy (xa (cv 0) xc))) (fun _ _ _ _=>zj)) xc)))
  (xh (xI (xv xcp zI (cv 1) (by rfl)) (xi (vW ⟨rfl,rfl,rfl⟩ rfl T.q1h (by rfl) T.zE (xa xm xc))) xB)
  (xi (xo (cv 1))))),?_⟩
  have hl':H l=some (.lst (V.str w0::ws.map V.str)):=hl;walk_at"w";refine⟨_,rfl,?_⟩;walk_at"w";refine⟨l,_,rfl,SqL.of hl',?_⟩;intro c hc;generalize hUc:upd H c _=H1;have sH1:=xb.of_eq hc hUc;have ec:=xg hUc;clear hUc;walk_at"w";rw[xbk]at ec;refine⟨c,rfl,⟨_,SqL.of ec⟩,?_⟩;refine zO (fun i acc _=>acc=(ws.take i).map rdV) (SqL.of ec) (by rw[aa,ag];lia) rfl (fun i y acc H3 H3' hy s3 s3' hP R hR=>?_) (fun D acc H3 H3' hD hD3 s3 s3' hP hle he=>?_)
  ·rw[aJ]at hy;obtain⟨z,hz,rfl⟩:=aX.mp hy;walk_at"w";refine⟨z,rfl,hw z (aQ hz),fun H6 s6=>hR _ _ s6 fun H7 _ _=>?_⟩;rw[hP,bB,hz,aA];rfl
  rw[aa,bj]at hP;rw[hP]at he;have sA:=sH1.trans (s3.trans s3');walk_at"w";refine⟨D,_,rfl,.inl ⟨SqL.of he,?_⟩⟩;intro u hu;generalize hUu:upd H3' u _=H4;have sH4:=xb.of_eq hu hUu;have eu:=xg hUu;clear hUu;walk_at"w";refine⟨u,_,rfl,.inr (SqT.of eu),rfl,xhT ws,?_⟩;walk_at"w";refine⟨fun b=>?_,fun b=>?_⟩
  ·walk_at"w";exact⟨by decide,q2 ((xgS ws).mp b) _ (sA.trans sH4)⟩
  ·have hex:∃ns:List Int,ws.map rdN=ns.map some:=by
    by_cases h:∃ns:List Int,ws.map rdN=ns.map some
    ·exact h
    ·rw[(xgS ws).mpr h]at b;cases b
   obtain⟨ns,hns⟩:=hex;walk_at"w";rw[xhU hns]at eu;exact q1 ns hns u H4 (sA.trans sH4) (sA.back hu) eu
end
section
variable {P:aF} {w:World} {K:ah} {mg:Str→Option Value} {base:Heap} {a:Adr}
def zT(ws:List Str)(r:xk):Prop:=r.ok∧ws=r.ln.ws∧∀x∈r.ln.ns,Sm x
def WOk(ws:List Str):Prop:=ws≠[]∧ws.length≤21∧(∀z∈ws,z.length≤100000)∧∀z∈ws,cq (.str z)=true
def xK(w0:Str)(ns:List Int):bq:=if w0=("put":Str)then .tuple (.str w0::(ns.take 1).map bw++[.tuple ((ns.drop 1).map bw)])else .tuple (.str w0::ns.map bw)
theorem xcj{ws:List Str}{ns:List Int}(h:ws.map rdN=ns.map some):ws=ns.map xw∧∀x∈ns,Sm x:=by
 induction ws generalizing ns with
 |nil=>cases ns with
  |nil=>exact⟨rfl,by simp⟩
  |cons n ns=>simp at h
 |cons w ws ih=>cases ns with
  |nil=>simp at h
  |cons n ns=>
   rw[aH,aH]at h;injection h with h1 h2;obtain⟨e1,e2⟩:=xjU h1;obtain⟨i1,i2⟩:=ih h2;refine⟨by rw[aH,e1,←i1],fun x hx=>?_⟩;rcases ax.mp hx with z|z
   ·rw[z];exact e2
   ·exact i2 x z
theorem yw{ns:List Int}(h:∀x∈ns,Sm x):(ns.map xw).map rdN=ns.map some:=by
 rw[cy];exact gG fun x hx=>xeZ (h x hx)
theorem xcG{w0:Str}{ns:List Int}(h:yv (xK w0 ns)=true):∃to st c,w0="take"∧ns=[to,st,c]∧(xk.take to st c).ok:=by
 obtain⟨to,st,c,e,k1,k2,k3⟩:=xcF h;unfold xK at e
 split at e
 ·injection e with e;simp only[cE]at e;injection e with e1 e2;rename_i hw;rw[hw]at e1;injection e1 with e1;exact absurd e1 (by decide+kernel)
 ·injection e with e;injection e with e1 e2;injection e1 with e1;have:ns=[to,st,c]:=yf (by simpa using e2);exact⟨to,st,c,e1,this,k1,k2,k3⟩
theorem xdZ{w0:Str}{ns:List Int}(h:putD (xK w0 ns)=true):∃to sg,w0="put"∧ns=to::sg∧0≤to∧sg≠[]∧∀x∈sg,(x.natAbs:Int)<10^60:=by
 obtain⟨to,sg,e,k1,k2,k3⟩:=xdX h;unfold xK at e
 split at e
 ·rename_i hw;injection e with e;cases ns with
  |nil=>simp at e
  |cons n ns=>
   simp only[fk,gk,aH,cJ,cE,d5,cf,cn,du,dJ,eB,and_true]at e;obtain⟨_,rfl,e⟩:=e;rw[yf e];exact⟨n,sg,hw,rfl,k1,k2,k3⟩
 ·rename_i hw;injection e with e;injection e with e1 e2;injection e1 with e1;exact absurd e1 hw
theorem xd0{w0:Str}{ws:List Str}{ns:List Int}(hns:ws.map rdN=ns.map some)(hl:ns.length≤100000)(h1:yv (xK w0 ns)=false)(h2:putD (xK w0 ns)=false):¬∃r,zT (w0::ws) r:=by
 rintro⟨r,ok,e,hs⟩;obtain⟨q1,q2⟩:=xcj hns;have e':w0=r.ln.w∧ws=r.ln.ns.map xw:=by
  unfold Ln.ws at e;injection e with a b;exact⟨a,b⟩
 have hn:ns=r.ln.ns:=by
  have:=yw hs;rw[←e'.2,hns]at this;exact gQ (fun x y z=>aE z) |>.mp this
 cases r with
 |take to st c=>
  rw[e'.1,hn]at h1;have:xK ("take":Str) [to,st,c]=(xk.take to st c).dat:=by unfold xK;rw[if_neg (by decide+kernel)];rfl
  have h1:yv (xK ("take":Str) [to,st,c])=false:=h1;rw[this,show yv (xk.take to st c).dat=true from uB ok.1 ok.2.1 ok.2.2]at h1;cases h1
 |put to sg=>
  rw[e'.1,hn]at h2;have:xK ("put":Str) (to::sg)=(xk.put to sg).dat:=by unfold xK;rw[if_pos rfl];rfl
  have h2:putD (xK ("put":Str) (to::sg))=false:=h2;rw[this,show putD (xk.put to sg).dat=true from jr ok.1 ok.2.1 ok.2.2.2]at h2;cases h2
theorem xe1{w0:Str}{ns:List Int}(hw:cq (.str w0)=true)(hl:ns.length≤20):vN (xK w0 ns):=by
 intro ds e;unfold xK at e
 split at e
 ·injection e with e;subst e;refine⟨fun x hx=>by cases hx;exact uC _ hw,fun x es hx he=>?_⟩;have hm:=aQ hx;rw[he]at hm;rcases aN.mp hm with z|z
  ·rcases ax.mp z with z|z
   ·cases z
   ·obtain⟨i,_,h⟩:=br.mp z;cases h
  ·have:=aw.mp z;injection this with this;rw[this,aa,aV];lia
 ·injection e with e;subst e;refine⟨fun x hx=>by cases hx;exact uC _ hw,fun x es hx he=>?_⟩;have hm:=aQ hx;rw[he]at hm;rcases ax.mp hm with z|z
  ·cases z
  ·obtain⟨i,_,h⟩:=br.mp z;cases h
def xgT(K:ah)(a:Adr):Sp:=fun vs H Q E=>∃(l:Addr) (ws:List Str),vs=[.ref l]∧H l=some (.lst (ws.map V.str))∧WOk ws∧(∀r,zT ws r→∀(t:Addr) (H':Hp),xb H H'→TupAt K H' t r→Q (.ref t) H')∧((¬∃r,zT ws r)→∀H',xb H H'→E (.ref a.q0a) none H')
theorem xiS(xs:List V):yx xs none (some 1)=xs.take 1:=by
 unfold yx;rw[vJ (by decide),HT.vT];show(xs.drop 0).take (min 1 xs.length - 0)=_;rw[cn,Nat.sub_zero];cases xs<;> simp
theorem xbl(xs:List V):yx xs (some 1) none=xs.drop 1:=by
 cases xs with
 |nil=>rfl
 |cons v xs=>rw[xbk];rfl
theorem xgU(T:Txt w K mg a):xA P w K mg base (CXE P w) 6 a.q1u a.xbe ["words"] (xgT K a):=by
 refine T.q1y.okX xcA (fun vs H Q E h=>?_) (fun cdv A outer s H vs Q E hr h=>?_)
 ·obtain⟨l,ws,rfl,_⟩:=h;rfl
 ·obtain⟨l,ws,rfl,hl,⟨hne,hwl,hz,hcan⟩,q1,q2⟩:=h;have nd:=xcA.nd;refine⟨_,(xh (xu (i:=1) nd rfl (aR rfl) (vV ⟨rfl,rfl,rfl⟩ (uy T) (hr.mono (by decide)) (by rfl) T.vc T.q0e.kp T.vb .nil (xa (cv 0) xc)))
  (xh (xu (i:=2) nd rfl (aR rfl) (xj vF (yd (xa (xq xx (cv 0) xf (fun _ _=>rfl)) xc)) (cv 1)))
  (xh (xdj (xI (xv zL (xq xx (cv 0) xf (fun _ _=>rfl)) xm) (xi (xu (i:=2) nd rfl (aR rfl) (xj vF (xj vF (yd (xa xm xc)) (xF xeR (cv 1) xO (xM xf))) (yd (xa (xF xeR (cv 1) (xM xf) xO) xc))))) xB))
  (xi (xfz ⟨rfl,rfl,rfl⟩ T.q15 (by rfl) T.xcc T.q1h (by rfl) T.zE (fun _ _=>(xi (xo (xgi (vS (xdx ⟨rfl,rfl,rfl⟩ (vp T) (hr.mono (by decide)) (by rfl) T.jn T.q0M.kp T.jm .nil (xa (cv 2) xc)) T.q1G T.q1H (xaT T) (hr.mono (by decide)) T.xbJ .nil xy) (vS (xdx ⟨rfl,rfl,rfl⟩ (vp T) (hr.mono (by decide)) (by rfl) T.jn T.q0M.kp T.jm .nil (xa (cv 2) xc)) T.q1q T.q1C (xap T) (hr.mono (by decide)) T.xaK .nil xy)))))))))),?_⟩
  cases ws with
  |nil=>exact absurd rfl hne
  |cons w0 ws=>
  rw[ao]at hwl;walk_at"w";refine⟨l,w0,ws,rfl,hl,by lia,fun z hm=>hz z (ak _ hm),fun ns hns u H1 s1 hu eu=>?_,fun hno H1 s1=>q2 ?_ H1 s1⟩
  rotate_left
  ·rintro⟨r,ok,e,hs⟩;unfold Ln.ws at e;injection e with e1 e2;exact hno ⟨r.ln.ns,by rw[e2];exact yw hs⟩
  obtain⟨n1,n2⟩:=xcj hns;have nl:ns.length≤20:=by have:=congrArg bZ n1;rw[aa]at this;lia
  have hl1:H1 l=some (.lst (V.str w0::ws.map V.str)):=s1.at hl;walk_at"w";refine⟨l,_,_,.str w0,rfl,rfl,SqL.of hl1,xV (j:=0) rfl,?_⟩;walk_at"w";walk_at"ss";intro c hc;generalize hUc:upd H1 c _=H2;have sH2:=xb.of_eq hc hUc;have ec:=xg hUc;clear hUc;walk_at"w";have ec':H2 c=some (.tup [.str w0]):=ec;refine⟨c,u,_,_,rfl,rfl,SqT.of ec',SqT.of (sH2.at eu),by simp,by rw[aa,ag];simp;lia,?_⟩;cases ns with
  |nil=>
   refine⟨fun _=>?_,fun z=>absurd rfl z⟩;have s02:=s1.trans sH2;walk_at"w";refine⟨fun σ G=>xb H G∧∃t,Dv G (.ref t) (xK w0 [])∧σ=[some (.ref l),some (.ref u),some (.ref t)],?_,?_⟩
   ·refine⟨l,_,_,.str w0,rfl,rfl,SqL.of (sH2.at hl1),xV (j:=0) rfl,?_⟩;walk_at"w";refine⟨fun b=>?_,fun b=>?_⟩
    ·have hw:w0=("put":Str):=of_decide_eq_true b;walk_at"w";walk_at"ss";intro c1 hc1;generalize hUc1:upd H2 c1 _=H4;have sH4:=xb.of_eq hc1 hUc1;have ec1:=xg hUc1;clear hUc1;walk_at"w";refine⟨_,rfl,?_⟩;walk_at"w";refine⟨u,_,rfl,(sH2.trans sH4).at eu,fun c2 H5 s5 ec2=>?_⟩;have ec2':H5 c2=some (.tup []):=ec2;walk_at"w";refine⟨c1,c2,_,_,rfl,rfl,SqT.of (s5.at ec1),SqT.of ec2',by simp,by simp[ag],fun _=>?_,fun z=>absurd rfl z⟩;walk_at"w";refine⟨_,rfl,?_⟩;walk_at"w";refine⟨u,_,rfl,(sH2.trans (sH4.trans s5)).at eu,fun c4 H6 s6 ec4=>?_⟩;have ec4':H6 c4=some (.tup []):=ec4;walk_at"w";walk_at"ss";intro c5 hc5;generalize hUc5:upd H6 c5 _=H7;have sH7:=xb.of_eq hc5 hUc5;have ec5:=xg hUc5;clear hUc5;walk_at"w";refine⟨c1,c5,_,_,rfl,rfl,SqT.of ((s5.trans (s6.trans sH7)).at ec1),SqT.of ec5,by simp,by simp[ag],fun z=>(by cases z),fun _=>?_⟩;intro c6 hc6;generalize hUc6:upd H7 c6 _=H8;have sH8:=xb.of_eq hc6 hUc6;have ec6:=xg hUc6;clear hUc6;walk_at"w";refine⟨s02.trans (sH4.trans (s5.trans (s6.trans (sH7.trans sH8)))),c6,?_,rfl⟩;unfold xK;rw[if_pos hw,hw];exact .tup ec6 (.cons (.str _) (.cons (.tup ((sH7.trans sH8).at ec4') .nil) .nil))
    ·refine⟨s02,c,?_,rfl⟩;unfold xK;rw[if_neg (of_decide_eq_false b)];exact .tup ec' (.cons (.str _) .nil)
   ·rintro σ G ⟨sG,t,ht,rfl⟩;walk_at"w";have hto:vN (xK w0 ([]:List Int)):=xe1 (hcan w0 aL) nl;cases e1:yv (xK w0 ([]:List Int))with
    |true=>
     obtain⟨to,st,c0,rfl,hns3,ok⟩:=xcG e1
     right
     refine⟨.ref t,_,rfl,ht,hto,fun to2 st2 c2 e k1 k2 k3 ob G1 sG1 hob hO=>?_,fun to2 sg2 e k1 k2 k3=>?_,fun h1=>?_⟩
     ·obtain⟨dx,hO⟩:=hO;walk_at"w";refine⟨ob,dx,_,rfl,hO,rfl,ob,dx,to2,st2,c2,rfl,hO,fun t1 ht1=>?_⟩;refine q1 (.take to2 st2 c2) ⟨⟨k1,k2,k3⟩,?_,?_⟩ t1 _ (sG.trans (sG1.trans (xb.new ht1))) xn
      ·have e9:xK ("take":Str) ([]:List Int)= .tuple (.str "take"::(([]:List Int)).map bw):=by unfold xK;rw[if_neg (by decide+kernel)]
       rw[e9]at e;injection e with e;injection e with _ e;have:([]:List Int)=[to2,st2,c2]:=yf (by simpa using e);rw[n1,this];rfl
      ·have e9:xK ("take":Str) ([]:List Int)= .tuple (.str "take"::(([]:List Int)).map bw):=by unfold xK;rw[if_neg (by decide+kernel)]
       rw[e9]at e;injection e with e;injection e with _ e;have:([]:List Int)=[to2,st2,c2]:=yf (by simpa using e);rw[this]at n2;exact n2
     ·rw[e]at e1;exact absurd e1 (by simp[yv])
     ·rw[e1]at h1;cases h1
    |false=>
     left
     cases e2:putD (xK w0 ([]:List Int))with
     |true=>
      refine⟨.ref t,_,rfl,ht,hto,fun to2 st2 c2 e k1 k2 k3=>?_,fun to2 sg2 e k1 k2 k3 ob G1 sG1 hob hO=>?_,fun _ h1=>?_⟩
      ·rw[e]at e2;exact absurd e2 (by simp[putD])
      ·obtain⟨to,sg,hw,hns3,_⟩:=xdZ e2;obtain⟨dx,u1,h1,h2⟩:=hO;walk_at"w";refine⟨ob,dx,_,rfl,h1,rfl,ob,dx,u1,to2,_,rfl,h1,fun t1 ht1=>?_⟩;have e9:to2=to∧sg2=sg:=by
        unfold xK at e;rw[if_pos hw,hns3]at e;injection e with e;simp only[fk,gk,aH,cJ,cE,d5,cf,cn,du,dJ,eB,and_true]at e;exact⟨e.2.1.symm,(yf e.2.2).symm⟩
       obtain⟨rfl,rfl⟩:=e9;refine q1 (.put to2 sg2) ⟨⟨k1,k2,?_,k3⟩,?_,?_⟩ t1 _ (sG.trans (sG1.trans (xb.new ht1))) ⟨u1,xn,(xb.new ht1).at h2⟩
       ·have h9:(to2::sg2).length≤20:=by rw[←hns3];exact nl
        rw[ao]at h9;lia
       ·rw[n1,hns3,hw];rfl
       ·rw[hns3]at n2;exact n2
      ·rw[e2]at h1;cases h1
     |false=>
      refine⟨.ref t,_,rfl,ht,hto,fun to2 st2 c2 e k1 k2 k3=>?_,fun to2 sg2 e k1 k2 k3=>?_,fun _ _ G1 sG1=>⟨a.q0b,rfl,T.q1p,q2 (xd0 hns (by lia) e1 e2) _ (sG.trans sG1)⟩⟩
      ·rw[e,uB k1 k2 k3]at e1;cases e1
      ·rw[e,jr k1 k2 k3]at e2;cases e2
  |cons n ns=>
   refine⟨fun z=>(by cases z),fun _=>?_⟩;intro c0 hc0;generalize hUc0:upd H2 c0 _=H3;have sH3:=xb.of_eq hc0 hUc0;have ec0:=xg hUc0;clear hUc0;walk_at"w";have s13:=sH2.trans sH3;have s03:=s1.trans s13;refine⟨fun σ G=>xb H G∧∃t,Dv G (.ref t) (xK w0 (n::ns))∧σ=[some (.ref l),some (.ref u),some (.ref t)],?_,?_⟩
   ·refine⟨l,_,_,.str w0,rfl,rfl,SqL.of (s13.at hl1),xV (j:=0) rfl,?_⟩;walk_at"w";refine⟨fun b=>?_,fun b=>?_⟩
    ·have hw:w0=("put":Str):=of_decide_eq_true b;walk_at"w";walk_at"ss";intro c1 hc1;generalize hUc1:upd H3 c1 _=H4;have sH4:=xb.of_eq hc1 hUc1;have ec1:=xg hUc1;clear hUc1;walk_at"w";refine⟨_,rfl,?_⟩;walk_at"w";refine⟨u,_,rfl,(s13.trans sH4).at eu,fun c2 H5 s5 ec2=>?_⟩;have ec2':H5 c2=some (.tup [.int n]):=by rw[ec2,xiS];rfl
     walk_at"w";refine⟨c1,c2,_,_,rfl,rfl,SqT.of (s5.at ec1),SqT.of ec2',by simp,by simp[ag],fun z=>(by cases z),fun _=>?_⟩;intro c3 hc3;generalize hUc3:upd H5 c3 _=H5b;have sH5b:=xb.of_eq hc3 hUc3;have ec3:=xg hUc3;clear hUc3;walk_at"w";refine⟨_,rfl,?_⟩;walk_at"w";refine⟨u,_,rfl,(s13.trans (sH4.trans (s5.trans sH5b))).at eu,fun c4 H6 s6 ec4=>?_⟩;have ec4':H6 c4=some (.tup (ns.map V.int)):=by rw[ec4,xbl];rfl
     walk_at"w";walk_at"ss";intro c5 hc5;generalize hUc5:upd H6 c5 _=H7;have sH7:=xb.of_eq hc5 hUc5;have ec5:=xg hUc5;clear hUc5;walk_at"w";refine⟨c3,c5,_,_,rfl,rfl,SqT.of ((s6.trans sH7).at ec3),SqT.of ec5,by simp,by simp[ag],fun z=>(by cases z),fun _=>?_⟩;intro c6 hc6;generalize hUc6:upd H7 c6 _=H8;have sH8:=xb.of_eq hc6 hUc6;have ec6:=xg hUc6;clear hUc6;walk_at"w";refine⟨s03.trans (sH4.trans (s5.trans (sH5b.trans (s6.trans (sH7.trans sH8))))),c6,?_,rfl⟩;unfold xK;rw[if_pos hw,hw];exact .tup ec6 (.cons (.str _) (.cons (.int _) (.cons (.tup ((sH7.trans sH8).at ec4') (Dvs.ints ns)) .nil)))
    ·refine⟨s03,c0,?_,rfl⟩;unfold xK;rw[if_neg (of_decide_eq_false b)];exact .tup ec0 (.cons (.str _) (Dvs.ints (n::ns)))
   ·rintro σ G ⟨sG,t,ht,rfl⟩;walk_at"w";have hto:vN (xK w0 (n::ns)):=xe1 (hcan w0 aL) nl;cases e1:yv (xK w0 (n::ns))with
    |true=>
     obtain⟨to,st,c0,rfl,hns3,ok⟩:=xcG e1
     right
     refine⟨.ref t,_,rfl,ht,hto,fun to2 st2 c2 e k1 k2 k3 ob G1 sG1 hob hO=>?_,fun to2 sg2 e k1 k2 k3=>?_,fun h1=>?_⟩
     ·obtain⟨dx,hO⟩:=hO;walk_at"w";refine⟨ob,dx,_,rfl,hO,rfl,ob,dx,to2,st2,c2,rfl,hO,fun t1 ht1=>?_⟩;refine q1 (.take to2 st2 c2) ⟨⟨k1,k2,k3⟩,?_,?_⟩ t1 _ (sG.trans (sG1.trans (xb.new ht1))) xn
      ·have e9:xK ("take":Str) (n::ns)= .tuple (.str "take"::((n::ns)).map bw):=by unfold xK;rw[if_neg (by decide+kernel)]
       rw[e9]at e;injection e with e;injection e with _ e;have:(n::ns)=[to2,st2,c2]:=yf (by simpa using e);rw[n1,this];rfl
      ·have e9:xK ("take":Str) (n::ns)= .tuple (.str "take"::((n::ns)).map bw):=by unfold xK;rw[if_neg (by decide+kernel)]
       rw[e9]at e;injection e with e;injection e with _ e;have:(n::ns)=[to2,st2,c2]:=yf (by simpa using e);rw[this]at n2;exact n2
     ·rw[e]at e1;exact absurd e1 (by simp[yv])
     ·rw[e1]at h1;cases h1
    |false=>
     left
     cases e2:putD (xK w0 (n::ns))with
     |true=>
      refine⟨.ref t,_,rfl,ht,hto,fun to2 st2 c2 e k1 k2 k3=>?_,fun to2 sg2 e k1 k2 k3 ob G1 sG1 hob hO=>?_,fun _ h1=>?_⟩
      ·rw[e]at e2;exact absurd e2 (by simp[putD])
      ·obtain⟨to,sg,hw,hns3,_⟩:=xdZ e2;obtain⟨dx,u1,h1,h2⟩:=hO;walk_at"w";refine⟨ob,dx,_,rfl,h1,rfl,ob,dx,u1,to2,_,rfl,h1,fun t1 ht1=>?_⟩;have e9:to2=to∧sg2=sg:=by
        unfold xK at e;rw[if_pos hw,hns3]at e;injection e with e;simp only[fk,gk,aH,cJ,cE,d5,cf,cn,du,dJ,eB,and_true]at e;exact⟨e.2.1.symm,(yf e.2.2).symm⟩
       obtain⟨rfl,rfl⟩:=e9;refine q1 (.put to2 sg2) ⟨⟨k1,k2,?_,k3⟩,?_,?_⟩ t1 _ (sG.trans (sG1.trans (xb.new ht1))) ⟨u1,xn,(xb.new ht1).at h2⟩
       ·have h9:(to2::sg2).length≤20:=by rw[←hns3];exact nl
        rw[ao]at h9;lia
       ·rw[n1,hns3,hw];rfl
       ·rw[hns3]at n2;exact n2
      ·rw[e2]at h1;cases h1
     |false=>
      refine⟨.ref t,_,rfl,ht,hto,fun to2 st2 c2 e k1 k2 k3=>?_,fun to2 sg2 e k1 k2 k3=>?_,fun _ _ G1 sG1=>⟨a.q0b,rfl,T.q1p,q2 (xd0 hns (by lia) e1 e2) _ (sG.trans sG1)⟩⟩
      ·rw[e,uB k1 k2 k3]at e1;cases e1
      ·rw[e,jr k1 k2 k3]at e2;cases e2
end
section
variable {P:aF} {w:World} {K:ah} {mg:Str→Option Value} {base:Heap} {a:Adr}
def mid{α:Type}(xs:List α):List α:=(xs.drop 1).dropLast
theorem xiT(xs:List V):yx xs (some 1) (some (-1))=mid xs:=by
 unfold yx mid;rw[vJ (i:=1) (by decide)];rcases List.eq_nil_or_concat xs with z|⟨ys,y,z⟩
 ·subst z;rfl
 rw[List.concat_eq_append]at z;subst z;have e2:HT.sIx (ys++[y]).length (ys++[y]).length (some (-1))=ys.length:=by
  rw[aj,bD];show((-1:Int)+((ys.length+1:Nat):Int)).toNat=_;omega
 rw[e2];cases ys with
 |nil=>rfl
 |cons v ys=>
  have e:min (Int.toNat 1) (v::ys++[y]).length=1:=by
   rw[aj,ao];show min 1 (ys.length+1+1)=1;omega
  rw[e];simp
structure PIs(wss:List (List Str))(o n:Int)(rs:List xk):Prop where
 head:∃a0,wss.head? =some [a0,xw o,xw n]
 o:Sm o
 n:Sm n
 rows:mid wss=rs.map fun r=>r.ln.ws
 ok:∀r∈rs,zT r.ln.ws r
def WsL(H:Hp)(u:Addr)(ws:List Str):Prop:=H u=some (.lst (ws.map V.str))
def xex(K:ah)(a:Adr):Sp:=fun vs H Q E=>∃(l:Addr) (us:List Addr) (wss:List (List Str)),vs=[.ref l]∧H l=some (.lst (us.map V.ref))∧Paired (WsL H) us wss∧wss≠[]∧wss.length≤42∧(∀ws∈wss,WOk ws)∧
 (∀o n rs,PIs wss o n rs→∀(p:Addr) (H':Hp),xb H H'→zy K H' p o n rs→Q (.ref p) H')∧((¬∃o n rs,PIs wss o n rs)→∀H',xb H H'→E (.ref a.q0a) none H')
theorem xfQ{α β:Type}{F:α→β→Prop}{xs:List α}{ys:List β}(h:Paired F xs ys):Paired F (mid xs) (mid ys):=by
 have h1:Paired F (xs.drop 1) (ys.drop 1):=by
  cases h with
  |nil=>exact .nil
  |cons _ t=>exact t
 unfold mid;generalize xs.drop 1=as at h1⊢;generalize ys.drop 1=bs at h1⊢
 induction h1 with
 |nil=>exact .nil
 |cons h t ih=>
  cases t with
  |nil=>exact .nil
  |cons h2 t2=>exact .cons h ih
theorem xiU{α β:Type}(f:α→β)(xs:List α):mid (xs.map f)=(mid xs).map f:=by
 unfold mid;rw[←cO,List.map_dropLast]
theorem xe2{α:Type}{xs:List α}{x:α}(h:x∈mid xs):x∈xs:=bT (ff _ h)
theorem xiV{α:Type}(xs:List α):(mid xs).length≤xs.length:=by
 unfold mid;rw[b5,aV];lia
theorem xgV{r r':xk}{ws:List Str}(h:zT ws r)(h':zT ws r'):r=r':=by
 obtain⟨o1,e1,s1⟩:=h;obtain⟨o2,e2,s2⟩:=h';rw[e1]at e2;unfold Ln.ws at e2;injection e2 with a b;have hn:r.ln.ns=r'.ln.ns:=by
  have h1:=yw s1;rw[b,yw s2]at h1;exact(gQ (fun x y z=>aE z) |>.mp h1).symm
 cases r with
 |take to st c=>cases r' with
  |take to2 st2 c2=>
   have hn:[to,st,c]=[to2,st2,c2]:=hn;injection hn with x hn;injection hn with y hn;injection hn with z _;rw[x,y,z]
  |put to2 sg2=>exact absurd (show("take":Str)="put" from a) (by decide+kernel)
 |put to sg=>cases r' with
  |take to2 st2 c2=>exact absurd (show("put":Str)="take" from a) (by decide+kernel)
  |put to2 sg2=>
   have hn:to::sg=to2::sg2:=hn;injection hn with x y;rw[x,y]
theorem PIs.uniq{wss:List (List Str)}{o n o' n':Int}{rs rs':List xk}(h:PIs wss o n rs)(h':PIs wss o' n' rs'):o=o'∧n=n'∧rs=rs':=by
 obtain⟨⟨a0,e0⟩,ho,hn,hr,hk⟩:=h;obtain⟨⟨a1,e1⟩,ho',hn',hr',hk'⟩:=h';rw[e0]at e1;have e1:=aE e1;injection e1 with _ e1;injection e1 with x e1;injection e1 with y _;refine⟨zF ho ho' x,zF hn hn' y,?_⟩;rw[hr]at hr';clear hr e0 e1
 induction rs generalizing rs' with
 |nil=>cases rs' with
  |nil=>rfl
  |cons r rs'=>simp at hr'
 |cons r rs ih=>cases rs' with
  |nil=>simp at hr'
  |cons r' rs'=>
   rw[aH,aH]at hr';injection hr' with z1 z2;have h1:=hk r aL;have h2:=hk' r' aL;rw[←z1]at h2;rw[xgV h1 h2,ih (fun r hr=>hk r (ak _ hr)) z2 (fun r hr=>hk' r (ak _ hr))]
theorem xey(T:Txt w K mg a):xA P w K mg base (CXE P w) 7 a.q0V a.jl ["lines"] (xex K a):=by
 refine T.q0Y.okX xaQ (fun vs H Q E h=>?_) (fun cdv A outer s H vs Q E hr h=>?_)
 ·obtain⟨l,us,wss,rfl,_⟩:=h;rfl
 ·obtain⟨l,us,wss,rfl,hl,hp,hne,hlen,hwk,q1,q2⟩:=h;have nd:=xaQ.nd;refine⟨_,(xh (xu (i:=1) nd rfl (aR rfl) (vV ⟨rfl,rfl,rfl⟩ (uy T) (hr.mono (by decide)) (by rfl) T.vc T.q0e.kp T.vb .nil (xa (xq xx (cv 0) xf (fun _ _=>rfl)) xc)))
  (xh (xI (xv xby (xt xE (by rfl) T.q0m yc (xa (cv 1) xc)) xf) (xi (vW ⟨rfl,rfl,rfl⟩ rfl T.q1h (by rfl) T.zE (xa xm xc))) xB)
  (xi (xo (xj vF (cv 1) (yd (xa (xC yq (by rfl) T.q0S yL (xa (xhD ⟨rfl,rfl,rfl⟩ (za (cap:=[]) (ys:=[]) rfl rfl rfl rfl rfl trivial (by decide+kernel)) rfl (yE (xF xX (cv 0) (xM xf) (xM (xau xaw xf)))) (fun _ _ _ _=>(xgy (xgU T) (hr.mono (by decide)) (by rfl) T.xhK T.q1y.kp T.xhJ .nil (xa (cv 0) xc)))) xc)) xc))))))),?_⟩
  have hmp:=xfQ hp;have hml:=xiV wss;have hml2:=hmp.length;have hmw:∀ws∈mid wss,WOk ws:=fun ws h=>hwk ws (xe2 h);have hcut:yx (us.map V.ref) (some 1) (some (-1))=(mid us).map V.ref:=by rw[xiT,xiU]
  cases hp with
  |nil=>exact absurd rfl hne
  | @cons u0 ws0 us' wss' h0 hus=>
  obtain⟨wne,wlen,wz,wcan⟩:=hwk ws0 aL;cases ws0 with
  |nil=>exact absurd rfl wne
  |cons a0 ws0=>
  rw[ao]at wlen;walk_at"w";refine⟨l,_,_,.ref u0,rfl,rfl,SqL.of hl,xV (j:=0) rfl,?_⟩;walk_at"w";refine⟨u0,a0,ws0,rfl,h0,by lia,fun z hm=>wz z (ak _ hm),fun ns hns u H1 s1 hu eu=>?_,fun hno H1 s1=>q2 ?_ H1 s1⟩
  rotate_left
  ·rintro⟨o,n,rs,⟨b0,e0⟩,ho,hn,_,_⟩;have e0:=aE e0;injection e0 with _ e0;refine hno ⟨[o,n],?_⟩;rw[e0];exact yw (ns:=[o,n]) fun x hx=>by
    rcases ax.mp hx with z|z
    ·rw[z];exact ho
    ·rw[aw.mp z];exact hn
  obtain⟨n1,n2⟩:=xcj hns;walk_at"w";refine⟨u,_,rfl,.inr (SqT.of eu),?_⟩;walk_at"w";rw[aa];refine⟨fun b=>?_,fun b=>?_⟩
  ·walk_at"w";refine⟨by decide,q2 ?_ _ s1⟩;rintro⟨o,n,rs,⟨b0,e0⟩,ho,hn,_,_⟩;have e0:=aE e0;injection e0 with _ e0;have:=congrArg bZ n1;rw[e0,aa]at this;have b:(!decide ((ns.length:Int)=2))=true:=b;rw[decide_eq_true (by show(ns.length:Int)=2;rw[←this];rfl)]at b;cases b
  have hn2:ns.length=2:=by
   have b:(!decide ((ns.length:Int)=2))=false:=b;rw[bP]at b;have:=of_decide_eq_true b;lia
  obtain⟨o,n,rfl⟩:∃o n,ns=[o,n]:=by
   match ns,hn2 with
   |[o,n],_=>exact⟨o,n,rfl⟩
  have ho:=n2 o aL;have hn:=n2 n (ak _ aL);have n1:ws0=[xw o,xw n]:=n1;subst n1;walk_at"w";refine⟨_,rfl,?_⟩;walk_at"w";refine⟨_,rfl,?_⟩;walk_at"w";refine⟨l,_,rfl,SqL.of (s1.at hl),?_⟩;intro c hc;generalize hUc:upd H1 c _=H2;have sH2:=xb.of_eq hc hUc;have ec:=xg hUc;clear hUc;walk_at"w";have ec':H2 c=some (.lst ((mid (u0::us')).map V.ref)):=by rw[ec];exact congrArg (fun x=>some (HO.lst x)) hcut
  refine⟨c,rfl,⟨_,SqL.of ec'⟩,?_⟩;have s2:=s1.trans sH2;generalize hM:mid ((a0::[xw o,xw n])::wss')=ms at*;generalize mid (u0::us')=mu at*;refine zO (fun i acc G=>∃(ts:List Addr) (rs:List xk),acc=ts.map V.ref∧Paired (TupAt K G) ts rs∧ms.take i=(rs.map fun r=>r.ln.ws)∧∀r∈rs,zT r.ln.ws r) (SqL.of ec') (by rw[aa,ag];lia) ⟨[],[],rfl,.nil,rfl,by simp⟩ (fun i y acc H3 H3' hy s3 s3' hP R hR=>?_) (fun D acc H3 H3' hD hD3 s3 s3' hP hle he=>?_)
  ·obtain⟨ts,rs,rfl,hts,hms,hrk⟩:=hP;rw[aJ]at hy;obtain⟨u1,hu1,rfl⟩:=aX.mp hy;obtain⟨ws,hws,pw⟩:=yP hmp hu1;have sA:=s2.trans (s3.trans s3');walk_at"w";refine⟨u1,ws,rfl,sA.at pw,hmw ws (aQ hws),fun r hri t G sG ht=>hR _ _ sG fun H6 s6 k6=>⟨ts++[t],rs++[r],by simp,zt (ht.mv k6) (L2.Paired.imp' (fun _ _ z=>z.same s6) hts),?_,fun r' hr'=>?_⟩,fun hno G sG=>q2 ?_ G (sA.trans sG)⟩
   ·rw[bB,hws,hms,aA,gR,fw,hri.2.1]
   ·rcases aN.mp hr' with z|z
    ·exact hrk r' z
    ·rw[aw.mp z,←hri.2.1];exact hri
   ·rintro⟨o',n',rs',h'⟩;have:=h'.rows;rw[hM]at this;rw[this,aJ]at hws;obtain⟨r,hr1,hr2⟩:=aX.mp hws;exact hno ⟨r,hr2▸h'.ok r (aQ hr1)⟩
  obtain⟨ts,rs,rfl,hts,hms,hrk⟩:=hP;rw[aa,hml2,bj]at hms;have sA:=sH2.trans (s3.trans s3');walk_at"w";refine⟨D,_,rfl,.inl ⟨SqL.of he,?_⟩⟩;intro t ht;generalize hUt:upd H3' t _=H4;have sH4:=xb.of_eq ht hUt;have et:=xg hUt;clear hUt;walk_at"w";walk_at"ss";intro c1 hc1;generalize hUc1:upd H4 c1 _=H5;have sH5:=xb.of_eq hc1 hUc1;have ec1:=xg hUc1;clear hUc1;walk_at"w";have eu5:=(sA.trans (sH4.trans sH5)).at eu;refine⟨u,c1,_,_,rfl,rfl,SqT.of eu5,SqT.of ec1,by simp,by simp[ag],?_⟩;refine⟨fun e=>(by cases e),fun _=>?_⟩;intro p hp;generalize hUp:upd H5 p _=H6;have sH6:=xb.of_eq hp hUp;have ep:=xg hUp;clear hUp;walk_at"w";exact q1 o n rs ⟨⟨a0,rfl⟩,ho,hn,hM.trans hms,hrk⟩ p H6 (s1.trans (sA.trans (sH4.trans (sH5.trans sH6)))) ⟨t,ts,ep,(sH5.trans sH6).at et,L2.Paired.imp' (fun _ _ z=>z.same (s3'.trans (sH4.trans (sH5.trans sH6)))) hts⟩
theorem xcZ(T:Txt w K mg a):xA P w K mg base CX0 7 a.q0x a.uW ["paper"] (xcW K):=by
 refine T.q0B.ok jD (fun vs H Q E h=>?_) (fun cdv A outer s H vs Q E hr h=>?_)
 ·obtain⟨p,o,n,rs,rfl,_⟩:=h;rfl
 ·obtain⟨p,o,n,rs,rfl,hp,ok,q⟩:=h;have nd:=jD.nd;refine⟨_,(xh (xu (i:=1) nd rfl (aR rfl) (xp (xew T) (hr.mono (by decide)) (by rfl) T.xfG T.q0X.kp T.xfF .nil xy (xa (cv 0) xc)))
  (xh (xbC (i:=2) (za (cap:=[]) (ys:=[]) rfl rfl rfl rfl rfl trivial (by decide+kernel)) rfl nd rfl rfl (yE (cv 1)) (fun _ _ _ _=>(xgx (K:=K) rfl PySem.F.plainAttrs_str PySem.F.slot_str_join PySem.F.type_str_join (xhA (K:=K) rfl) xm (xa (zD (za (cap:=[]) (ys:=[]) rfl rfl rfl rfl rfl trivial (by decide+kernel)) rfl (xiI (K:=K) rfl (cv 0)) (fun _ _ _ _=>(xC yM (by rfl) T.q1r zr (xa (cv 0) xc))) (fun _ _ _ _=>zj)) xc))) (fun _ _ _ _=>zj))
  (xh (xu (i:=3) nd rfl (aR rfl) (xp (xgQ T) (hr.mono (by decide)) (by rfl) T.xhI T.q1x.kp T.xhH .nil xy (xa (xp (xcY T) (hr.mono (by decide)) (by rfl) T.xdL T.q0C.kp T.xdK .nil xy (xa (cv 1) xc)) xc)))
  (xh (yC (yb PySem.F.plainAttrs_list PySem.F.slot_list_append PySem.F.type_list_append yH (cv 2) (xa (xiH (cv 3)) xc)))
  (xi (xo (yb PySem.F.plainAttrs_str PySem.F.slot_str_join PySem.F.type_str_join yQ xm (xa (cv 2) xc)))))))),?_⟩
  have few:=ok.few;have okl:=ok.lns;have ll:(lns o n rs).length=rs.length+1:=by unfold lns;simp
  walk_at"w";refine⟨p,o,n,rs,rfl,hp,ok,fun l us H1 s1 hlf el hus=>?_⟩;generalize hls:lns o n rs=ls at*;have ul:us.length=ls.length:=hus.length;walk_at"w";refine⟨l,rfl,⟨_,SqL.of el⟩,?_⟩;refine zO (fun i acc _=>acc=(ls.take i).map fun x=>V.str x.txt) (SqL.of el) (by rw[aa,ag];lia) rfl (fun i y acc H3 H3' hy s3 s3' hP R hR=>?_) (fun D acc H3 H3' hD hD3 s3 s3' hP hle he=>?_)
  ·rw[aJ]at hy;obtain⟨u,hu,rfl⟩:=aX.mp hy;obtain⟨x,hx,px⟩:=yP hus hu;have hxk:=okl x (aQ hx);have x7:=hxk.2.2.1;have px3:H3' u=some (.tup (.str x.w::x.ns.map V.int)):=(s3.trans s3').at px;walk_at"w";refine aY rfl ?_;walk_at"w";refine⟨u,rfl,⟨_,SqT.of px3⟩,?_⟩;refine jR (fun i acc _=>acc=(x.ws.take i).map V.str) (SqT.of px3) (by rw[ao,aa,ag];lia) rfl (fun j y acc G3 G3' hy t3 t3' hP' R' hR'=>?_) (fun D acc G3 G3' hD hD3 t3 t3' hP' hle he=>?_)
   ·walk_at"w";obtain⟨z,hz,hj,hb⟩:∃z,xjI y=some z∧x.ws[j]? =some z∧∀i,y= .int i→i.natAbs.log2<1920:=by
     cases j with
     |zero=>cases hy;exact⟨_,rfl,rfl,fun i e=>by cases e⟩
     |succ j=>
      rw[bQ,aJ]at hy;obtain⟨m,hm,rfl⟩:=aX.mp hy;refine⟨xw m,rfl,?_,fun i e=>?_⟩
      ·unfold Ln.ws;rw[bQ,aJ,hm];rfl
      ·injection e with e;rw[←e];exact zd (hxk.2.2.2 m (aQ hm))
    refine⟨y,z,rfl,hz,hb,hR' _ _ (xb.refl _) fun H7 _ _=>?_⟩;rw[hP',bB,hj,aA];rfl
   have e1:(V.str x.w::x.ns.map V.int).length=x.ws.length:=by unfold Ln.ws;simp
   rw[e1,bj]at hP';rw[hP']at he;walk_at"w";have h1:=hxk.uO;have h2:=hxk.len;refine⟨_,D,x.ws,rfl,rfl,SqL.of he,aO h1 (by rw[ag];decide),?_,?_⟩
   ·rw[xP];exact aO h2 (by rw[ag];decide)
   rw[xP];refine hR _ _ (t3.trans t3') fun H7 _ _=>?_;rw[hP,bB,hx,aA];rfl
  rw[aa,ul,bj]at hP;rw[hP]at he;have sA:=s3.trans s3';walk_at"w";refine⟨l,us,ls,rfl,sA.at el,L2.Paired.imp' (fun _ _ z=>sA.at z) hus,okl,by lia,fun nl H4 s4 hnl enl=>?_⟩;walk_at"w";refine⟨nl,_,rfl,SqL.of enl,?_⟩;walk_at"w";have eD4:=s4.at he;refine aY (.inl ⟨rfl,_,SqL.of eD4⟩) ?_;walk_at"w";refine aY (by decide) ?_;walk_at"w";have eS:bW++("sum ":Str)++ai (toString (zf (ya ls)))=zR ls:=by
   unfold zR xw;exact congrArg (· ++ai (toString (zf (ya ls)))) (W.KT.empty_app _)
  have lS:=jq ls;refine⟨_,rfl,zd (xao _),by rw[eS,ag];lia,?_⟩;rw[eS];walk_at"w";refine⟨D,_,_,rfl,rfl,eD4,by rw[aa,ag];lia,?_⟩;generalize hU:upd H4 D _=H5;have eD5:H5 D=some (.lst ((xJ ls).map V.str)):=by
   rw[xg hU];unfold xJ;rw[aA,cy];rfl
  have s5:xb H H5:=by rw[←hU];exact(s1.trans (sA.trans s4)).put (s1.back hD)
  walk_at"w";refine aY rfl ?_;walk_at"w";have h1:=uA okl (by lia);have h2:=vo okl (by lia);refine⟨_,D,xJ ls,rfl,rfl,SqL.of eD5,aO h1 (by rw[ag];decide),?_,?_⟩
  ·rw[xP];exact aO h2 (by rw[ag];decide)
  rw[xP];exact q H5 s5
def TOk(z:Str):Prop:=z.length+2≤ay∧(PySem.Txt.split z ⟨#[10]⟩).length≤42∧∀y∈PySem.Txt.split z ⟨#[10]⟩,y.length+2≤ay∧WOk (PySem.Txt.split y ⟨#[32]⟩)
def xbm(z:Str):Prop:=∃o n rs,Pok o n rs∧zl (lns o n rs)=z
def xc0(K:ah)(a:Adr):Sp:=fun vs H Q E=>∃v,vs=[v]∧((∃t,xN K H v (.type t)∧bK K (.type t) (.type "str")=some false∧∀H',xb H H'→E (.ref a.q0a) none H')∨
 ∃z,v= .str z∧TOk z∧(∀o n rs,Pok o n rs→zl (lns o n rs)=z→∀(p:Addr) (H':Hp),xb H H'→zy K H' p o n rs→Q (.ref p) H')∧(¬xbm z→∀H',xb H H'→E (.ref a.q0a) none H'))
theorem xcH{r:xk}(h:zT r.ln.ws r)(hl:r.ln.ws.length≤21):r.ln.ok:=by
 have hl:r.ln.ns.length≤20:=by
  unfold Ln.ws at hl;rw[ao,aa]at hl;lia
 refine⟨?_,?_,hl,h.2.2⟩
 ·cases r with
  |take _ _ _=>exact ak _ aL
  |put _ _=>exact ak _ (ak _ aL)
 ·cases r with
  |take _ _ _=>simp[xk.ln]
  |put _ _=>simp[xk.ln]
theorem xd1{z:Str}{o n:Int}{rs:List xk}(ok:Pok o n rs)(e:zl (lns o n rs)=z):PIs ((PySem.Txt.split z ⟨#[10]⟩).map fun y=>PySem.Txt.split y ⟨#[32]⟩) o n rs:=by
 have okl:=ok.toPw.lns;rw[←e,xbU okl];have hx0:=okl ⟨"paper",1,[o,n]⟩ (by unfold lns;simp);have e1:(xJ (lns o n rs)).map (fun y=>PySem.Txt.split y ⟨#[32]⟩)=(lns o n rs).map Ln.ws++[PySem.Txt.split (zR (lns o n rs)) ⟨#[32]⟩]:=by
  unfold xJ;rw[aA,cy];refine congr (congrArg _ (gG fun x hx=>(okl x hx).split)) rfl
 rw[e1];refine⟨⟨"paper",rfl⟩,ok.o,ok.n,?_,fun r hr=>⟨ok.ok r hr,rfl,(ok.ln r hr).2.2.2⟩⟩;unfold mid lns;rw[aH,cE,cf,cn,dM,cy];rfl
theorem xjV{wss:List (List Str)}{o n:Int}{rs:List xk}(h:PIs wss o n rs)(hl:wss.length≤42)(hw:∀ws∈wss,WOk ws):Pok o n rs:=by
 have hlen:rs.length≤40:=by
  have:=congrArg bZ h.rows;rw[aa]at this;unfold mid at this;rw[b5,aV]at this;lia
 refine⟨⟨h.o,h.n,hlen,fun r hr=>xcH (h.ok r hr) ?_⟩,fun r hr=>(h.ok r hr).1⟩;exact(hw _ (xe2 (by rw[h.rows];exact br.mpr ⟨r,hr,rfl⟩))).2.1
theorem uw(T:Txt w K mg a):xA P w K mg base (CXE P w) 8 a.q0z a.uY ["text"] (xc0 K a):=by
 refine T.q0k.okX jF (fun vs H Q E h=>?_) (fun cdv A outer s H vs Q E hr h=>?_)
 ·obtain⟨v,rfl,_⟩:=h;rfl
 ·obtain⟨v,rfl,h⟩:=h;have nd:=jF.nd;refine⟨_,(xh (xI (uJ (yY (xt zz (by rfl) T.q0c xS (xa (cv 0) (xa (zU (v:=.ty "str") (by rfl) T.q1r zr rfl) xc))))) (xi (vW ⟨rfl,rfl,rfl⟩ rfl T.q1h (by rfl) T.zE (xa xm xc))) xB)
  (xh (xu (i:=1) nd rfl (aR rfl) (vV ⟨rfl,rfl,rfl⟩ (xey T) (hr.mono (by decide)) (by rfl) T.xfI T.q0Y.kp T.xfH .nil (xa (zD (za (cap:=[]) (ys:=[]) rfl rfl rfl rfl rfl trivial (by decide+kernel)) rfl (yE (yb PySem.F.plainAttrs_str PySem.F.slot_str_split PySem.F.type_str_split vn (cv 0) (xa xm xc))) (fun _ _ _ _=>(xgx (K:=K) rfl PySem.F.plainAttrs_str PySem.F.slot_str_split PySem.F.type_str_split vn (cv 0) (xa xm xc))) (fun _ _ _ _=>zj)) xc)))
  (xh (xI (xv xfn (xp (xcZ T) (hr.mono (by decide)) (by rfl) T.xdJ T.q0B.kp T.xdI .nil xy (xa (cv 1) xc)) (cv 0)) (xi (vW ⟨rfl,rfl,rfl⟩ rfl T.q1h (by rfl) T.zE (xa xm xc))) xB)
  (xi (xo (cv 1)))))),?_⟩
  rcases h with⟨t,ty,hk,q⟩|⟨z,rfl,⟨hz1,hz2,hz3⟩,q1,q2⟩
  ·walk_at"w";refine⟨_,_,_,_,false,rfl,rfl,ty,hk,?_⟩;walk_at"w";refine⟨fun _=>?_,by walk_at"no"⟩;walk_at"w";exact⟨by decide,q _ (xb.refl _)⟩
  walk_at"w";refine⟨_,_,_,_,true,rfl,rfl,xN.str _,rfl,?_⟩;walk_at"w";refine⟨by walk_at"no",fun _=>?_⟩;walk_at"w";refine aY rfl ?_;walk_at"w";refine⟨_,_,rfl,rfl,by decide,hz1,?_⟩;rw[show(ai "\n")=(⟨#[10]⟩:Str)from rfl];have hsn:=uP z ⟨#[10]⟩;have hpi:∀o n rs,Pok o n rs→zl (lns o n rs)=z→PIs ((PySem.Txt.split z ⟨#[10]⟩).map fun y=>PySem.Txt.split y ⟨#[32]⟩) o n rs:=fun o n rs h e=>xd1 h e;generalize PySem.Txt.split z ⟨#[10]⟩=ys at*;intro l hl;generalize hUl:upd H l _=H1;have sH1:=xb.of_eq hl hUl;have el:=xg hUl;clear hUl;walk_at"w";refine⟨l,rfl,⟨_,SqL.of el⟩,?_⟩;refine zO (fun i acc G=>∃us:List Addr,acc=us.map V.ref∧Paired (WsL G) us ((ys.take i).map fun y=>PySem.Txt.split y ⟨#[32]⟩)) (SqL.of el) (by rw[aa,ag];lia) ⟨[],rfl,.nil⟩ (fun i y acc H3 H3' hy s3 s3' hP R hR=>?_) (fun D acc H3 H3' hD hD3 s3 s3' hP hle he=>?_)
  ·obtain⟨us,rfl,hus⟩:=hP;rw[aJ]at hy;obtain⟨y,hy1,rfl⟩:=aX.mp hy;walk_at"w";refine aY rfl ?_;walk_at"w";refine⟨_,_,rfl,rfl,by decide,(hz3 y (aQ hy1)).1,fun d hd=>?_⟩;refine hR _ _ (xb.new hd) fun H6 s6 k6=>⟨us++[d],by simp,?_⟩;have k:=k6 d _ (.inl hd) xn;rw[bB,hy1,gR,aA];exact zt (show WsL H6 d _ from k) (L2.Paired.imp' (fun _ _ (z:WsL H3 _ _)=>(s6.at z:WsL H6 _ _)) hus)
  obtain⟨us,rfl,hus⟩:=hP;rw[aa,bj]at hus;have hwk:∀ws∈ys.map fun y=>PySem.Txt.split y ⟨#[32]⟩,WOk ws:=fun ws hws=>by
   obtain⟨y,hy,rfl⟩:=br.mp hws;exact(hz3 y hy).2
  have sA:=s3.trans s3';walk_at"w";refine⟨D,us,_,rfl,he,L2.Paired.imp' (fun _ _ (z:WsL H3 _ _)=>(s3'.at z:WsL H3' _ _)) hus,by simpa using hsn,by rw[aa];exact hz2,hwk,fun o n rs hp p H4 s4 hpa=>?_,fun hno H4 s4=>q2 ?_ _ (sH1.trans (sA.trans s4))⟩
  rotate_left
  ·rintro⟨o,n,rs,ok,e⟩;exact hno ⟨o,n,rs,hpi o n rs ok e⟩
  have ok:=xjV hp (by rw[aa];exact hz2) hwk;walk_at"w";refine⟨p,o,n,rs,rfl,hpa,ok,fun H5 s5=>?_⟩;walk_at"w";refine⟨fun b=>?_,fun b=>?_⟩
  ·walk_at"w";refine⟨by decide,q2 ?_ _ (sH1.trans (sA.trans (s4.trans s5)))⟩;rintro⟨o',n',rs',ok',e'⟩;obtain⟨rfl,rfl,rfl⟩:=hp.uniq (hpi o' n' rs' ok' e');rw[show decide (zl (lns o n rs)=z)=true from decide_eq_true e']at b;cases b
  ·walk_at"w";exact q1 o n rs ok (of_decide_eq_true (p:=zl (lns o n rs)=z) (by rw[←bP];exact b)) p H5 (sH1.trans (sA.trans (s4.trans s5))) (hpa.same s5)
end
section
variable {P:aF} {w:World} {K:ah} {mg:Str→Option Value} {base:Heap} {a:Adr}
theorem TupAt.off{K:ah}{H:Hp}{t p:Addr}{r:xk}{xs:List V}{o:HO}(h:TupAt K H t r)(hp:H p=some (.lst xs)):TupAt K (upd H p o) t r:=by
 cases r with
 |take to st c=>show upd H p o t=_;rw[xH (xat h hp (by intro z;cases z))];exact h
 |put to sg=>
  obtain⟨u,h1,h2⟩:=h;exact⟨u,by rw[xH (xat h1 hp (by intro z;cases z))];exact h1,by rw[xH (xat h2 hp (by intro z;cases z))];exact h2⟩
def xiW:Sp:=fun vs H Q _=>∃c k:Int,vs=[.int c,.int k]∧∀v:Int,(v.natAbs:Int)<10^60→Q (.int v) H
def xgW:Sp:=fun vs H Q _=>∃d c:Int,vs=[.int d,.int c]∧0≤d∧d<2147483647∧∀(v:Int) (H':Hp),xb H H'→0≤v→v<10^60 - 1→Q (.int v) H'
def xk.l7(r:xk):Prop:=r.ln.ok∧r.ln.ns.length≤7
def xiX(K:ah):Sp:=fun vs H Q _=>∃(l:Addr) (ns:List Int),vs=[.ref l]∧SqL K H l (ns.map V.int)∧ns.length≤63∧∀(t:Addr) (ts:List Addr) (rs:List xk) (H':Hp),xb H H'→H' t=some (.tup (ts.map V.ref))→Paired (TupAt K H') ts rs→rs.length≤20→(∀r∈rs,r.ok∧r.l7)→Q (.ref t) H'
def xhV(K:ah):Sp:=fun vs H Q _=>∃(p:Addr) (o n:Int) (rs:List xk),vs=[.ref p]∧zy K H p o n rs∧Pw o n rs∧∀(l:Addr) (H':Hp),xb H H'→H' l=some (.lst ((xJ (lns o n rs)).map V.str))→Q (.ref l) H'
theorem xiY(T:Txt w K mg a):xA P w K mg base CX0 2 a.q1L a.xdD ["_law_cell","_law_k"] xiW:=by
 refine T.q1O.ok xeU (fun vs H Q E h=>?_) (fun cdv A outer s H vs Q E hr h=>?_)
 ·obtain⟨c,k,rfl,_⟩:=h;rfl
 ·obtain⟨c,k,rfl,q⟩:=h;have nd:=xeU.nd;refine⟨_,(xh (yF (i:=2) nd rfl (aR rfl) (xp (xdY T) (hr.mono (by decide)) (by rfl) T.xeT T.q1A.kp T.xeS .nil xy (xa (cv 0) (xa (cv 1) xc))))
  (xh (xI (xv zv (xj xQ (cv 2) xf) xf) (xi (xo (xj xQ (xj yg (cv 2) xf) xf))) xB)
  (xi (xo (xj yk (xj xc4 (xj xQ (xj yk (xj vj (cv 2) (cv 2)) (cv 0)) (xj xc4 (xj vj xf (xj xbw xf xf)) xf)) (xj xbw xf xf)) xf))))),?_⟩
  walk_at"w";refine⟨c,k,rfl,?_⟩;walk_at"w";refine zY fun d hd=>?_;walk_at"w";have bd:0≤d∧d<2147483647:=by rw[hd];exact jt _
  clear hd;walk_at"ss";refine⟨fun _=>?_,fun _=>?_⟩
  ·walk_at"w";walk_at"ss";refine q _ ?_;have:=bI (d / 3) (show(4:Int)≠0 by decide);have:=bt (d / 3) (show(0:Int)<4 by decide);show(((d / 3%4:Int).natAbs:Nat):Int)<10^60;lia
  ·walk_at"w";walk_at"ss";refine q _ ?_;have e:(10:Int)^(60:Int).toNat=10^60:=rfl;show(((d*d+c)%(2*10^(60:Int).toNat - 1) - 10^(60:Int).toNat+1:Int).natAbs:Int)<10^60;rw[e];have:=bI (d*d+c) (show(2*10^60 - 1:Int)≠0 by decide);have:=bt (d*d+c) (show(0:Int)<2*10^60 - 1 by decide);lia
theorem xar(T:Txt w K mg a):xA P w K mg base CX0 1 a.q1v a.xbf ["_law_draw","_law_cell"] xgW:=by
 refine T.q0Z.ok xcB (fun vs H Q E h=>?_) (fun cdv A outer s H vs Q E hr h=>?_)
 ·obtain⟨d,c,rfl,_⟩:=h;rfl
 ·obtain⟨d,c,rfl,h0,h1,q⟩:=h;have nd:=xcB.nd;refine⟨_,(xi (xo (xq xx (xD (xa (xj xQ (cv 0) xf) (xa (xj xQ (cv 0) xf) (xa (xj yk (xj xQ (cv 1) (xj xbw xf xf)) (cv 0)) xc)))) (xj xQ (xj yg (cv 0) xf) xf) (fun _ _=>rfl)))),?_⟩;walk_at"w";walk_at"ss";intro l hl;generalize hUl:upd H l _=H1;have sH1:=xb.of_eq hl hUl;have el:=xg hUl;clear hUl;walk_at"w";walk_at"ss";have b3:(0:Int)≤d / 301%3∧d / 301%3<3:=⟨bI _ (by decide),bt _ (by decide)⟩;have e:(10:Int)^(59:Int).toNat=10^59:=rfl;obtain⟨v,hv,v0,v1⟩:∃v:Int,[d%10,d%301,c%10^(59:Int).toNat+d][(d / 301%3).toNat]? =some v∧0≤v∧v<10^60 - 1:=by
   rw[e];have t1:=bI d (show(10:Int)≠0 by decide);have t2:=bt d (show(0:Int)<10 by decide);have t3:=bI d (show(301:Int)≠0 by decide);have t4:=bt d (show(0:Int)<301 by decide);have t5:=bI c (show(10^59:Int)≠0 by decide);have t6:=bt c (show(0:Int)<10^59 by decide);have hk:d / 301%3=0∨d / 301%3=1∨d / 301%3=2:=by lia
   rcases hk with z|z|z
   ·rw[z];exact⟨_,rfl,by lia,by lia⟩
   ·rw[z];exact⟨_,rfl,by lia,by lia⟩
   ·rw[z];exact⟨_,rfl,by lia,by lia⟩
  refine⟨l,_,_,.int v,rfl,rfl,SqL.of el,?_,?_⟩
  ·exact xgs (xs:=[d%10,d%301,c%10^(59:Int).toNat+d]) b3.1 hv
  exact q v H1 sH1 v0 v1
theorem xiZ(T:Txt w K mg a):xA P w K mg base CX0 3 a.q1M a.xdE ["_law_script"] (xiX K):=by
 refine T.q1P.ok xeV (fun vs H Q E h=>?_) (fun cdv A outer s H vs Q E hr h=>?_)
 ·obtain⟨l,ns,rfl,_⟩:=h;rfl
 ·obtain⟨l,ns,rfl,hl,hlen,q⟩:=h;have nd:=xeV.nd;refine⟨_,(xh (xu (i:=1) nd rfl (aR rfl) (xD xc))
  (xh (ue cz rfl (xgn (by rfl) T.q11 (xa xf (xa (xt (xjF rfl) (by rfl) T.q2s xjE (xa (xt xE (by rfl) T.q0m yc (xa (cv 0) xc)) (xa xf xc))) xc))) (yD (i:=2) nd rfl (Or.inr rfl)) (xh (xu (i:=3) nd rfl (aR rfl) (xp (xdY T) (hr.mono (by decide)) (by rfl) T.xeT T.q1A.kp T.xeS .nil xy (xa (xq xx (cv 0) (cv 2) (fun _ _=>rfl)) (xa (cv 2) xc))))
  (xh (xu (i:=4) nd rfl (aR rfl) (xp (xar T) (hr.mono (by decide)) (by rfl) T.xbi T.q0Z.kp T.xbh .nil xy (xa (xj yg (cv 3) xf) (xa (xq xx (cv 0) (cv 2) (fun _ _=>rfl)) xc))))
  (xi (xI (xv zv (xj xQ (cv 3) xf) xf) (xh (xbC (i:=5) (za (cap:=[0,2]) (ys:=["_law_script","_law_k"]) rfl rfl rfl rfl rfl ⟨⟨rfl,rfl,.inl rfl⟩,⟨⟨rfl,rfl,.inl rfl⟩,trivial⟩⟩ (by decide+kernel)) rfl nd rfl rfl (xct (by rfl) T.q11 (xa (xj yk xf (xj xQ (xj yg (cv 3) xf) xf)) xc)) (fun _ _ _ _=>(xp (xiY T) (hr.mono (by decide)) (by rfl) T.xjN T.q1O.kp T.xjM .nil xy (xa (xq (xhu (K:=K) rfl) (cv 1) (cv 2) (fun _ _=>rfl)) (xa (cv 0) xc)))) (fun _ _ _ _=>zj))
  (xi (yC (yb PySem.F.plainAttrs_list PySem.F.slot_list_append PySem.F.type_list_append yH (cv 1) (xa (yd (xa xm (xa (cv 4) (xa (xC yq (by rfl) T.q0S yL (xa (cv 5) xc)) xc)))) xc))))) (xi (yC (yb PySem.F.plainAttrs_list PySem.F.slot_list_append PySem.F.type_list_append yH (cv 1) (xa (yd (xa xm (xa (cv 4) (xa (xp (xar T) (hr.mono (by decide)) (by rfl) T.xbi T.q0Z.kp T.xbh .nil xy (xa (xj yg (cv 3) xf) (xa (xq xx (cv 0) (cv 2) (fun _ _=>rfl)) xc))) (xa (xj yk xf (xp (xar T) (hr.mono (by decide)) (by rfl) T.xbi T.q0Z.kp T.xbh .nil xy (xa (xj yg (cv 3) xf) (xa (xq xx (cv 0) (cv 2) (fun _ _=>rfl)) xc)))) xc))))) xc)))))))))
  (xi (xo (xC yq (by rfl) T.q0S yL (xa (cv 1) xc)))))),?_⟩
  walk_at"w";walk_at"ss";intro rl hrl;generalize hUrl:upd H rl _=H1;have sH1:=xb.of_eq hrl hUrl;have erl:=xg hUrl;clear hUrl;walk_at"w";refine⟨l,_,rfl,.inl (sH1.seq hl),?_⟩;walk_at"w";generalize hn:zM 3 _ 1=n;have bn:n≤20∧∀i:Nat,i<n→3+i<ns.length:=by
   rw[←hn,xa5,aa];refine⟨by lia,fun i hi=>by lia⟩
  clear hn;refine xcu (fun i σ G=>xb H G∧∃ts rs x2 x3 x4 x5,σ=[some (.ref l),some (.ref rl),x2,x3,x4,x5]∧G rl=some (.lst (ts.map V.ref))∧Paired (TupAt K G) ts rs∧rs.length=i∧∀r∈rs,r.ok∧r.l7)
   ⟨sH1,[],[],_,_,_,_,rfl,erl,.nil,rfl,by simp⟩ (fun i σ G hi hP=>?_) (fun σ G hP=>?_)
  ·obtain⟨sG,ts,rs,x2,x3,x4,x5,rfl,eG,hts,hrl2,hok⟩:=hP;have hi':=bn.2 i hi;have tl:ts.length=rs.length:=hts.length;obtain⟨y,hy⟩:∃y,ns[(3+(i:Int)*1).toNat]? =some y:=⟨_,aB (by lia)⟩;have aty:atI (ns.map V.int) (3+(i:Int)*1)=some (.int y):=xgs (by lia) hy;generalize hk:3+(i:Int)*1=k at aty;walk_at"w";refine⟨l,_,_,.int y,rfl,rfl,sG.seq hl,aty,?_⟩;walk_at"w";refine⟨y,k,rfl,?_⟩;have b0:=jt ((y%2147483647+7919*k+1)*48271%2147483647*((y%2147483647+7919*k+1)*48271%2147483647 / 1009+69621));generalize hm:mixed y k=m;have bm:0≤m∧m<2147483647:=by rw[←hm];exact b0
   clear hm b0;walk_at"w";walk_at"ss";refine⟨l,_,_,.int y,rfl,rfl,sG.seq hl,aty,?_⟩;walk_at"w";refine⟨_,_,rfl,by lia,by lia,fun to G1 s1 t0 t1=>?_⟩;walk_at"w";walk_at"ss";have sG1:=sG.trans s1;have fin:∀(t:Addr) (r:xk) (H5:Hp) (z5:Option V),xb G1 H5→TupAt K H5 t r→r.ok→r.l7→∃(l':Addr) (xs:List V) (x:V),V.ref rl= .ref l'∧[V.ref t]=[x]∧H5 l'=some (.lst xs)∧xs.length<ay∧(xb H (upd H5 l' (.lst (xs++[x])))∧∃ts rs x2 x3 x4 x5,[some (.ref l),some (.ref rl),some (.int k),some (.int m),some (.int to),z5]=[some (V.ref l),some (.ref rl),x2,x3,x4,x5]∧upd H5 l' (.lst (xs++[x])) rl=some (.lst (ts.map V.ref))∧Paired (TupAt K (upd H5 l' (.lst (xs++[x])))) ts rs∧rs.length=i+1∧∀r∈rs,r.ok∧r.l7):=by
    intro t r H5 z5 s5 hT ok1 ok2;have e5:=(s1.trans s5).at eG;refine⟨rl,_,_,rfl,rfl,e5,by rw[aa,ag];lia,(sG1.trans s5).put hrl,ts++[t],rs++[r],_,_,_,_,rfl,?_,?_,by simp[hrl2],fun r' hr'=>?_⟩
    ·rw[xn,aA];rfl
    ·exact zt (hT.off e5) (L2.Paired.imp' (fun _ _ (z:TupAt K G _ _)=>(z.same (s1.trans s5)).off e5) hts)
    ·rcases aN.mp hr' with z|z
     ·exact hok r' z
     ·rw[aw.mp z];exact⟨ok1,ok2⟩
   refine⟨fun _=>?_,fun _=>?_⟩
   ·walk_at"w";walk_at"ss";have b1:(0:Int)≤m / 2%6∧m / 2%6<6:=⟨bI _ (by decide),bt _ (by decide)⟩;generalize hn2:zM 0 (1+m / 2%6) 1=n2;have bn2:1≤n2∧n2≤6:=by rw[←hn2,xa5];lia
    clear hn2;refine xgr (fun i acc _=>∃sg:List Int,acc=sg.map V.int∧sg.length=i∧∀x∈sg,Sm x) (by rw[ag];lia) ⟨[],rfl,rfl,by simp⟩ (fun i acc H3 H3' hi s3 s3' hP R hR=>?_) (fun D acc H3 H3' hD hD3 s3 s3' hP hle he=>?_)
    ·obtain⟨sg,rfl,hsl,hss⟩:=hP;walk_at"w";refine⟨l,_,_,.int y,rfl,rfl,(sG1.trans (s3.trans s3')).seq hl,aty,?_⟩;walk_at"w";refine⟨_,_,rfl,fun v hv=>hR _ _ (xb.refl _) fun H6 _ _=>⟨sg++[v],by simp,by simp[hsl],fun x hx=>?_⟩⟩;rcases aN.mp hx with z|z
     ·exact hss x z
     ·rw[aw.mp z];exact hv
    obtain⟨sg,rfl,hsl,hss⟩:=hP;have sB:=s3.trans s3';walk_at"w";refine aY (.inl ⟨rfl,_,SqL.of ((s1.trans sB).at eG)⟩) ?_;walk_at"w";refine⟨D,_,rfl,.inl ⟨SqL.of he,?_⟩⟩;intro u hu;generalize hUu:upd H3' u _=H4;have sH4:=xb.of_eq hu hUu;have eu:=xg hUu;clear hUu;walk_at"w";walk_at"ss";intro t ht;generalize hUt:upd H4 t _=H5;have sH5:=xb.of_eq ht hUt;have et:=xg hUt;clear hUt;walk_at"w";refine fin t (.put to sg) H5 _ (sB.trans (sH4.trans sH5)) ⟨u,et,sH5.at eu⟩ ⟨t0,fun z=>?_,by lia,hss⟩ ⟨⟨by simp[zx,xk.ln],by simp[xk.ln],?_,?_⟩,?_⟩
    ·rw[z]at hsl;simp at hsl;lia
    ·show(to::sg).length≤20;rw[ao];lia
    ·intro x hx;rcases ax.mp hx with rfl|hx
     ·unfold Sm;lia
     ·exact hss x hx
    ·show(to::sg).length≤7;rw[ao];lia
   ·walk_at"w";refine aY (.inl ⟨rfl,_,SqL.of (s1.at eG)⟩) ?_;walk_at"w";walk_at"ss";refine⟨l,_,_,.int y,rfl,rfl,sG1.seq hl,aty,?_⟩;walk_at"w";refine⟨_,_,rfl,by lia,by lia,fun st G2 s2 st0 st1=>?_⟩;walk_at"w";walk_at"ss";refine⟨l,_,_,.int y,rfl,rfl,(sG1.trans s2).seq hl,aty,?_⟩;walk_at"w";refine⟨_,_,rfl,by lia,by lia,fun c G3 s3 c0 c1=>?_⟩;walk_at"w";walk_at"ss";intro t ht;generalize hUt:upd G3 t _=G4;have sG4:=xb.of_eq ht hUt;have et:=xg hUt;clear hUt;walk_at"w";refine fin t (.take to st (1+c)) G4 _ (s2.trans (s3.trans sG4)) et ⟨t0,st0,by lia⟩ ⟨⟨by simp[zx,xk.ln],by simp[xk.ln],by simp[xk.ln],?_⟩,by simp[xk.ln]⟩;intro x hx;simp only[xk.ln,ax,bS,or_false]at hx;unfold Sm;rcases hx with rfl|rfl|rfl<;> lia
  ·obtain⟨sG,ts,rs,x2,x3,x4,x5,rfl,eG,hts,hrl2,hok⟩:=hP;walk_at"w";refine⟨rl,_,rfl,.inl ⟨SqL.of eG,?_⟩⟩;intro t ht;generalize hUt:upd G t _=G1;have sG1:=xb.of_eq ht hUt;have et:=xg hUt;clear hUt;walk_at"w";exact q t ts rs G1 (sG.trans sG1) et (L2.Paired.imp' (fun _ _ z=>z.same sG1) hts) (by lia) hok
theorem xgX(o n:Int):("paper ":Str)++xw o++(" ":Str)++xw n=Ln.txt ⟨"paper",1,[o,n]⟩:=by
 refine yG ?_;unfold Ln.txt Ln.ws;rw[aH,aH,cJ,xY,xY,yR,yR,yR];show("paper ":Str).cps.toList++(xw o).cps.toList++[32]++(xw n).cps.toList=("paper":Str).cps.toList++32::((xw o).cps.toList++32::(xw n).cps.toList);rw[show("paper ":Str).cps.toList=("paper":Str).cps.toList++[32]from rfl];simp only[cR,List.singleton_append,cE,d5]
theorem yI(ls:List Ln)(l:Ln):ya (ls++[l])=ya ls++l.c::l.ns:=by
 unfold ya;rw[fj];simp
theorem xbn{o n:Int}{rs:List xk}{i:Nat}{r:xk}(h:rs[i]? =some r):lns o n (rs.take (i+1))=lns o n (rs.take i)++[r.ln]:=by
 unfold lns;rw[bB,h,aA];rfl
theorem xbo(T:Txt w K mg a):xA P w K mg base CX0 1 a.q1F a.xb9 ["_law_paper"] (xhV K):=by
 refine T.q1n.ok xdN (fun vs H Q E h=>?_) (fun cdv A outer s H vs Q E hr h=>?_)
 ·obtain⟨p,o,n,rs,rfl,_⟩:=h;rfl
 ·obtain⟨p,o,n,rs,rfl,⟨t,ts,hp,ht,hts⟩,ok,q⟩:=h;have nd:=xdN.nd;refine⟨_,(xh (vC (cv 0) (xjj rfl (xaW (yD (i:=1) nd rfl (aR rfl)) (xaW (yD (i:=2) nd rfl (aR rfl)) (xaW (yD (i:=3) nd rfl (aR rfl)) xif)))))
  (xh (xu (i:=4) nd rfl (aR rfl) (xD (xa (xj yK (xj yK (xj yK xm (xC yM (by rfl) T.q1r zr (xa (cv 1) xc))) xm) (xC yM (by rfl) T.q1r zr (xa (cv 2) xc))) xc)))
  (xh (xu (i:=5) nd rfl (aR rfl) (xD (xa xf (xa (cv 1) (xa (cv 2) xc)))))
  (xh (ue cz rfl (xbr (cv 3)) (yD (i:=6) nd rfl (aR rfl)) (xh (xu (i:=7) nd rfl (aR rfl) (xD (xa (xq xR (cv 6) xf (fun _ _=>rfl)) xc)))
  (xh (xdj (xI (xv zL (xq xR (cv 6) xf (fun _ _=>rfl)) xm) (xh (xu (i:=7) nd rfl (aR rfl) (xj xW (cv 7) (xD (xa (xq xR (cv 6) xf (fun _ _=>rfl)) (xa (xq xR (cv 6) xf (fun _ _=>rfl)) xc)))))
  (xi (xu (i:=5) nd rfl (aR rfl) (xj xW (xj xW (cv 5) (xD (xa xf xc))) (cv 7))))) (xh (xu (i:=7) nd rfl (aR rfl) (xj xW (cv 7) (xC jM (by rfl) T.q17 xeM (xa (xq xR (cv 6) xf (fun _ _=>rfl)) xc))))
  (xi (xu (i:=5) nd rfl (aR rfl) (xj xW (xj xW (cv 5) (xD (xa xf xc))) (cv 7)))))))
  (xi (yC (yb PySem.F.plainAttrs_list PySem.F.slot_list_append PySem.F.type_list_append yH (cv 4) (xa (yb PySem.F.plainAttrs_str PySem.F.slot_str_join PySem.F.type_str_join yQ xm (xa (xj xW (xD (xa (xq xR (cv 6) xf (fun _ _=>rfl)) xc)) (zD (za (cap:=[]) (ys:=[]) rfl rfl rfl rfl rfl trivial (by decide+kernel)) rfl (yE (cv 7)) (fun _ _ _ _=>(xC yM (by rfl) T.q1r zr (xa (cv 0) xc))) (fun _ _ _ _=>zj))) xc)) xc)))))))
  (xh (xu (i:=8) nd rfl (aR rfl) xf)
  (xh (ue cz rfl (yE (cv 5)) (yD (i:=9) nd rfl (aR rfl)) (xi (xu (i:=8) nd rfl (aR rfl) (xj xQ (xj yk (xj yk (xj vj (cv 8) xf) (cv 9)) xf) xf))))
  (xi (xo (xj xW (cv 4) (xD (xa (xj yK xm (xC yM (by rfl) T.q1r zr (xa (cv 8) xc))) xc))))))))))),?_⟩
  have tl:ts.length=rs.length:=hts.length;have few:=ok.few;have lo:=yz ok.o;have ln:=yz ok.n;have okl:=ok.lns;have ll21:(lns o n rs).length=rs.length+1:=by unfold lns;simp
  have lenN:∀i,(ya (lns o n (rs.take i))).length≤21*(i+1):=by
   intro i
   induction i with
   |zero=>simp[ya,lns]
   |succ i ih=>
    cases hr0:rs[i]? with
    |none=>
     have e:rs.take (i+1)=rs.take i:=by rw[bB,hr0];simp
     rw[e];lia
    |some r=>
     have:=(ok.ln r (aQ hr0)).2.2.1;rw[xbn hr0,yI,aj,ao];lia
  walk_at"w";refine⟨p,_,rfl,SqT.of hp,rfl,?_⟩;walk_at"w";refine⟨_,_,rfl,?_⟩;walk_at"w";refine⟨_,_,rfl,?_⟩;walk_at"w";refine⟨_,_,rfl,?_⟩;walk_at"w";refine aY rfl ?_;walk_at"w";refine⟨_,_,rfl,rfl,fun i e=>(by injection e with e;rw[←e];exact zd ok.o),?_⟩;walk_at"w";refine⟨_,_,rfl,rfl,?_,?_⟩
  ·show 6+(xw o).length≤_;rw[ag];lia
  walk_at"w";refine⟨_,_,rfl,rfl,?_,?_⟩
  ·rw[len_app];show 6+(xw o).length+1≤_;rw[ag];lia
  walk_at"w";refine⟨_,_,rfl,rfl,fun i e=>(by injection e with e;rw[←e];exact zd ok.n),?_⟩;walk_at"w";refine⟨_,_,rfl,rfl,?_,?_⟩
  ·rw[len_app,len_app];show 6+(xw o).length+1+(xw n).length≤_;rw[ag];lia
  have ePT:ai "paper "++ai (toString o)++ai " "++ai (toString n)=Ln.txt ⟨"paper",1,[o,n]⟩:=xgX o n;rw[ePT];walk_at"w";walk_at"ss";intro ll hll;generalize hUll:upd H ll _=H1;have sH1:=xb.of_eq hll hUll;have ell:=xg hUll;clear hUll;walk_at"w";walk_at"ss";intro nl0 hnl0;generalize hUnl0:upd H1 nl0 _=H2;have sH2:=xb.of_eq hnl0 hUnl0;have enl0:=xg hUnl0;clear hUnl0;walk_at"w";refine⟨t,rfl,⟨_,SqT.of ((sH1.trans sH2).at ht)⟩,?_⟩;have ne0:nl0≠ll:=fun z=>by rw[z,ell]at hnl0;cases hnl0
  refine xgq (xs:=ts.map V.ref) (fun i σ G=>xb H G∧∃nl x6 x7 x8 x9,σ=[some (.ref p),some (.int o),some (.int n),some (.ref t),some (.ref ll),some (.ref nl),x6,x7,x8,x9]∧nl≠ll∧G ll=some (.lst ((lns o n (rs.take i)).map fun x=>V.str x.txt))∧G nl=some (.lst ((ya (lns o n (rs.take i))).map V.int)))
   ⟨sH1.trans sH2,nl0,_,_,_,_,rfl,ne0,sH2.at ell,enl0⟩ (fun i σ G hi hP=>SqT.of (hP.1.at ht)) (fun i x σ G hx hP=>?_) (fun σ G hP=>?_)
  ·obtain⟨sG,nl,x6,x7,x8,x9,rfl,ne,eL,eN⟩:=hP;rw[aJ]at hx;obtain⟨t0,ht0,rfl⟩:=aX.mp hx;obtain⟨r,hr0,pr⟩:=yP hts ht0;have hrm:r∈rs:=aQ hr0;have hil:i<rs.length:=(bx.mp hr0).1;have okr:=ok.ln r hrm;have r7:=okr.2.2.1;have lN:=lenN i;have prG:=pr.same sG;have at1:∀G',xb G G'→∃xs v2,SqT K G' t0 (.str r.ln.w:: .int r.ln.ns.head! ::v2::xs):=by
    intro G' s';cases r with
    |take to st c=>exact⟨_,_,SqT.of (s'.at prG)⟩
    |put to sg=>obtain⟨u,h1,h2⟩:=prG;exact⟨_,_,SqT.of (s'.at h1)⟩
   obtain⟨xs1,v2,sq1⟩:=at1 G (xb.refl _);walk_at"w";refine⟨t0,_,_,.int r.ln.ns.head!,rfl,rfl,sq1,xV (j:=1) rfl,?_⟩;walk_at"w";walk_at"ss";intro s0 hs0;generalize hUs0:upd G s0 _=G1;have sG1:=xb.of_eq hs0 hUs0;have es0:=xg hUs0;clear hUs0;walk_at"w";have es0':G1 s0=some (.lst [V.int r.ln.ns.head!]):=es0;refine⟨fun σ' G'=>xb G1 G'∧∃sl nl',σ'=[some (.ref p),some (.int o),some (.int n),some (.ref t),some (.ref ll),some (.ref nl'),some (.ref t0),some (.ref sl),x8,x9]∧nl'≠ll∧G' sl=some (.lst (r.ln.ns.map V.int))∧G' nl'=some (.lst ((ya (lns o n (rs.take (i+1)))).map V.int)),?_,?_⟩
   ·rw[xbn hr0,yI];obtain⟨xs2,v3,sq2⟩:=at1 G1 sG1;refine⟨t0,_,_,.str r.ln.w,rfl,rfl,sq2,xV (j:=0) rfl,?_⟩;have eN1:=sG1.at eN;have eL1:=sG1.at eL;cases r with
    |take to st c=>
     have hT:G1 t0=some (.tup [.str "take",.int to,.int st,.int c]):=sG1.at prG;refine⟨fun _=>?_,by walk_at"no"⟩;walk_at"w";refine⟨t0,_,_,.int st,rfl,rfl,SqT.of hT,rfl,?_⟩;walk_at"w";refine⟨t0,_,_,.int c,rfl,rfl,SqT.of hT,rfl,?_⟩;walk_at"w";walk_at"ss";intro c1 hc1;generalize hUc1:upd G1 c1 _=G2;have sG2:=xb.of_eq hc1 hUc1;have ec1:=xg hUc1;clear hUc1;walk_at"w";refine⟨s0,c1,_,_,rfl,rfl,sG2.at es0',ec1,by simp[ag],?_⟩;intro s1 hs1;generalize hUs1:upd G2 s1 _=G3;have sG3:=xb.of_eq hs1 hUs1;have es1:=xg hUs1;clear hUs1;walk_at"w";walk_at"ss";intro c2 hc2;generalize hUc2:upd G3 c2 _=G4;have sG4:=xb.of_eq hc2 hUc2;have ec2:=xg hUc2;clear hUc2;walk_at"w";refine⟨nl,c2,_,_,rfl,rfl,(sG2.trans (sG3.trans sG4)).at eN1,ec2,by rw[aa,ag];simp;lia,?_⟩;intro c3 hc3;generalize hUc3:upd G4 c3 _=G5;have sG5:=xb.of_eq hc3 hUc3;have ec3:=xg hUc3;clear hUc3;walk_at"w";refine⟨c3,s1,_,_,rfl,rfl,ec3,(sG4.trans sG5).at es1,by simp[ag];lia,?_⟩;intro c4 hc4;generalize hU:upd G5 c4 _=G6;have sG6:=xb.of_eq hc4 hU;have ec4:=xg hU;have sZ:=sG2.trans (sG3.trans (sG4.trans (sG5.trans sG6)));refine⟨sZ,s1,c4,rfl,fun z=>?_,(sG4.trans (sG5.trans sG6)).at es1,?_⟩
     ·rw[z,(sG2.trans (sG3.trans (sG4.trans sG5))).at eL1]at hc4;cases hc4
     ·rw[ec4];simp[xk.ln];rfl
    |put to sg=>
     obtain⟨u,h1,h2⟩:=prG;have hT:G1 t0=some (.tup [.str "put",.int to,.ref u]):=sG1.at h1;have hu1:=sG1.at h2;have r6:(to::sg).length≤20:=r7;rw[ao]at r6;refine⟨by walk_at"no",fun _=>?_⟩;walk_at"w";refine⟨t0,_,_,.ref u,rfl,rfl,SqT.of hT,rfl,?_⟩;walk_at"w";refine⟨u,_,rfl,.inr (SqT.of hu1),?_⟩;intro c1 hc1;generalize hUc1:upd G1 c1 _=G2;have sG2:=xb.of_eq hc1 hUc1;have ec1:=xg hUc1;clear hUc1;walk_at"w";refine⟨s0,c1,_,_,rfl,rfl,sG2.at es0',ec1,by simp[ag];lia,?_⟩;intro s1 hs1;generalize hUs1:upd G2 s1 _=G3;have sG3:=xb.of_eq hs1 hUs1;have es1:=xg hUs1;clear hUs1;walk_at"w";walk_at"ss";intro c2 hc2;generalize hUc2:upd G3 c2 _=G4;have sG4:=xb.of_eq hc2 hUc2;have ec2:=xg hUc2;clear hUc2;walk_at"w";refine⟨nl,c2,_,_,rfl,rfl,(sG2.trans (sG3.trans sG4)).at eN1,ec2,by rw[aa,ag];simp;lia,?_⟩;intro c3 hc3;generalize hUc3:upd G4 c3 _=G5;have sG5:=xb.of_eq hc3 hUc3;have ec3:=xg hUc3;clear hUc3;walk_at"w";refine⟨c3,s1,_,_,rfl,rfl,ec3,(sG4.trans sG5).at es1,by simp[ag];lia,?_⟩;intro c4 hc4;generalize hU:upd G5 c4 _=G6;have sG6:=xb.of_eq hc4 hU;have ec4:=xg hU;have sZ:=sG2.trans (sG3.trans (sG4.trans (sG5.trans sG6)));refine⟨sZ,s1,c4,rfl,fun z=>?_,(sG4.trans (sG5.trans sG6)).at es1,?_⟩
     ·rw[z,(sG2.trans (sG3.trans (sG4.trans sG5))).at eL1]at hc4;cases hc4
     ·rw[ec4];simp[xk.ln];rfl
   ·rintro σ G2 ⟨s2,sl,nl',rfl,ne',eS,eN2⟩;have s02:=sG1.trans s2;have eL2:=s02.at eL;walk_at"w";refine aY (.inl ⟨rfl,_,SqL.of eL2⟩) ?_;walk_at"w";refine aY rfl ?_;walk_at"w";obtain⟨xs3,v4,sq3⟩:=at1 G2 s02;refine⟨t0,_,_,.str r.ln.w,rfl,rfl,sq3,xV (j:=0) rfl,?_⟩;walk_at"w";walk_at"ss";intro c1 hc1;generalize hUc1:upd G2 c1 _=G3;have sG3:=xb.of_eq hc1 hUc1;have ec1:=xg hUc1;clear hUc1;walk_at"w";refine⟨sl,rfl,⟨_,SqL.of (sG3.at eS)⟩,?_⟩;refine zO (fun i acc _=>acc=((r.ln.ns.take i).map xw).map V.str) (SqL.of (sG3.at eS)) (by rw[aa,ag];lia) rfl (fun j y acc H3 H3' hy t3 t3' hP R hR=>?_) (fun D acc H3 H3' hD hD3 t3 t3' hP hle he=>?_)
    ·rw[aJ]at hy;obtain⟨m,hm,rfl⟩:=aX.mp hy;walk_at"w";refine⟨_,xw m,rfl,rfl,fun i e=>(by injection e with e;rw[←e];exact zd (okr.2.2.2 m (aQ hm))),hR _ _ (xb.refl _) fun H7 _ _=>?_⟩;rw[hP,bB,hm];simp
    rw[aa,bj]at hP;rw[hP]at he;have sD:=t3.trans t3';walk_at"w";refine⟨c1,D,_,_,rfl,rfl,sD.at ec1,he,by simp[ag];lia,?_⟩;intro c2 hc2;generalize hUc2:upd H3' c2 _=H4;have sH4:=xb.of_eq hc2 hUc2;have ec2:=xg hUc2;clear hUc2;walk_at"w";have ec2':H4 c2=some (.lst (r.ln.ws.map V.str)):=ec2;have h1:=okr.uO;have h2:=okr.len;refine⟨_,c2,r.ln.ws,rfl,rfl,SqL.of ec2',aO h1 (by rw[ag];decide),?_,?_⟩
    ·rw[xP];exact aO h2 (by rw[ag];decide)
    rw[xP];walk_at"w";have sE:=sG3.trans (sD.trans sH4);refine⟨ll,_,_,rfl,rfl,sE.at eL2,?_,?_⟩
    ·rw[aa];unfold lns;rw[ao,aa,aI,ag];lia
    refine⟨(sG.trans (s02.trans sE)).put hll,nl',_,_,_,_,rfl,ne',?_,?_⟩
    ·rw[xn,xbn hr0,aA];rfl
    ·rw[xH ne'];exact sE.at eN2
  ·obtain⟨sG,nl,x6,x7,x8,x9,rfl,ne,eL,eN⟩:=hP;have eT:rs.take (ts.map V.ref).length=rs:=by rw[aa,tl,bj]
   rw[eT]at eL eN;walk_at"w";refine⟨nl,rfl,⟨_,SqL.of eN⟩,?_⟩;refine zN (xs:=(ya (lns o n rs)).map V.int) (fun i σ G1=>G1=G∧∃x,σ=[some (.ref p),some (.int o),some (.int n),some (.ref t),some (.ref ll),some (.ref nl),x6,x7,some (.int (zf ((ya (lns o n rs)).take i))),x]) ⟨rfl,_,rfl⟩ (fun i σ G1 hi hP=>by obtain⟨rfl,_⟩:=hP;exact SqL.of eN) (fun i x σ G1 hx hP=>?_) (fun σ G1 hP=>?_)
   ·obtain⟨rfl,x0,rfl⟩:=hP;rw[aJ]at hx;obtain⟨m,hm,rfl⟩:=aX.mp hx;walk_at"w";walk_at"ss";refine⟨rfl,some (.int m),?_⟩;have e9:(ya (lns o n rs)).take (i+1)=(ya (lns o n rs)).take i++[m]:=by rw[bB,hm];rfl
    rw[e9,xan];rfl
   ·obtain⟨rfl,x0,rfl⟩:=hP;rw[aa,bj];walk_at"w";refine⟨_,_,rfl,rfl,fun i e=>(by injection e with e;rw[←e];exact zd (xao _)),?_⟩;walk_at"w";have hS:=jq (lns o n rs);refine⟨_,_,rfl,rfl,?_,?_⟩
    ·unfold zR at hS;rw[len_app]at hS;exact aO hS (by rw[ag];decide)
    have eS:ai "sum "++ai (toString (zf (ya (lns o n rs))))=zR (lns o n rs):=rfl;rw[eS];walk_at"w";walk_at"ss";intro c1 hc1;generalize hUc1:upd G1 c1 _=G2;have sG2:=xb.of_eq hc1 hUc1;have ec1:=xg hUc1;clear hUc1;walk_at"w";refine⟨ll,c1,_,_,rfl,rfl,sG2.at eL,ec1,?_,?_⟩
    ·rw[aa,ag];simp;lia
    intro c2 hc2;refine q c2 _ (sG.trans (sG2.trans (xb.new hc2))) ?_;rw[xn];unfold xJ;rw[aA,cy];rfl
end
theorem zh(xs:List V)(i:Nat):yx xs (some (i:Int)) none=xs.drop i:=by
 unfold yx;rw[vJ (by lia),HT.vT,fF]
 by_cases h:i≤xs.length
 ·rw[Nat.min_eq_left h];exact dA (by rw[aV];lia)
 ·rw[Nat.min_eq_right (by lia),f7 (aD _),f7 (by lia)];simp
theorem uc(xs:List V)(i:Nat):yx xs none (some (i:Int))=xs.take i:=by
 unfold yx;rw[vJ (by lia),HT.vT,fF];simp[←List.take_eq_take_min]
def Asc(z:Str):Prop:=∀c∈z.cps.toList,c<128∧c≠10
structure WP(z:Str):Prop where
 asc:Asc z
 len:z.length≤62
 sp:z.cps.toList.count 32≤1
structure LO(z:Str):Prop where
 asc:Asc z
 len:z.length≤2000
 sp:z.cps.toList.count 32≤20
theorem join_nil(c:Nat):(aZ ⟨#[c]⟩ []).cps.toList=[]:=rfl
theorem join_one(c:Nat)(x:Str):(aZ ⟨#[c]⟩ [x]).cps.toList=x.cps.toList:=rfl
theorem xd2{c d:Nat}:∀{ss:List Str},d∈(aZ ⟨#[c]⟩ ss).cps.toList→d=c∨∃p∈ss,d∈p.cps.toList
 |[],h=>by rw[join_nil]at h;cases h
 |[x],h=>by rw[join_one]at h;exact .inr ⟨x,aL,h⟩
 |x::y::r,h=>by
  rw[xY]at h;rcases aN.mp h with z|z
  ·exact .inr ⟨x,aL,z⟩
  ·rcases ax.mp z with z|z
   ·exact .inl z
   ·rcases xd2 z with q|⟨p,hp,q⟩
    ·exact .inl q
    ·exact .inr ⟨p,ak _ hp,q⟩
theorem xbX{B:Nat}:∀{ss:List Str},(∀p∈ss,p.cps.toList.count 32≤B)→(aZ ⟨#[32]⟩ ss).cps.toList.count 32≤ss.length*(B+1)
 |[],_=>by rw[join_nil];simp
 |[x],h=>by
  rw[join_one];have:=h x aL;show _≤1*(B+1);lia
 |x::y::r,h=>by
  have i:=xbX (ss:=y::r) fun p hp=>h p (ak _ hp);rw[xY,eM,gu];have:=h x aL;rw[ao,gP];lia
theorem xe3{ws:List Str}(hl:ws.length≤10)(h:∀p∈ws,WP p):LO (aZ ⟨#[32]⟩ ws):=by
 refine⟨fun c hc=>?_,?_,?_⟩
 ·rcases xd2 hc with z|⟨p,hp,z⟩
  ·subst z;decide
  ·exact(h p hp).asc c z
 ·have:=uQ (d:=32) (B:=62) ws fun p hp=>(h p hp).len;have:ws.length*63≤10*63:=bF _ hl;lia
 ·have:=xbX (B:=1) fun p hp=>(h p hp).sp;have:ws.length*2≤10*2:=bF _ hl;lia
theorem xbY{ss:List Str}(hne:ss≠[])(h:∀p∈ss,32∉p.cps.toList):(aZ ⟨#[32]⟩ ss).cps.toList.count 32+1=ss.length:=by
 induction ss with
 |nil=>exact absurd rfl hne
 |cons x r ih=>
  have hx:=dw.mpr (h x aL);cases r with
  |nil=>rw[join_one,hx];rfl
  |cons y r=>
   have i:=ih (by simp) fun p hp=>h p (ak _ hp);rw[xY,eM,gu,hx,ao];lia
theorem xi0(n:Int):Asc (xw n):=fun c hc=>by
 rw[yh]at hc;have f:∀c∈zp n.natAbs,c<128∧c≠10:=fun c hc=>by have:=yn n.natAbs c hc;lia
 split at hc
 ·rcases ax.mp hc with z|z
  ·subst z;decide
  ·exact f c z
 ·exact f c hc
theorem xd3{n:Int}(h:(n.natAbs:Int)<10^61):WP (xw n):=by
 refine⟨xi0 n,?_,?_⟩
 ·have e:=yh n;have hl:(xw n).length=(xw n).cps.toList.length:=by simp[bR]
  have hf:(zp n.natAbs).length≤61:=vK (by lia) (by decide);rw[hl,e]
  split
  ·rw[ao];lia
  ·lia
 ·rw[dw.mpr (ui n (by decide) (by decide))];exact bV _
theorem xi1{n:Int}(h:(n.natAbs:Int)<10^61):n.natAbs.log2<1920:=by
 by_cases h0:n.natAbs=0
 ·rw[h0];decide
 ·refine(Nat.log2_lt h0).mpr ?_;have:n.natAbs<10^61:=by lia
  exact az this (aO (show 10^61≤2^256 by decide) (gr (by decide) (by decide)))
def FST:List Str:=["paper","take","put","sum"]
def zu(z:Str)(w:Str)(ns:List Int):Prop:=z=aZ ⟨#[32]⟩ (w::ns.map xw)∧w∈FST∧1≤ns.length∧ns.length≤7∧∀x∈ns,Sm x
theorem xbZ{w:Str}(h:w∈FST):WP w∧32∉w.cps.toList:=by
 have:∀w∈FST,(w.cps.toList.all fun c=>decide (c<128∧c≠10∧c≠32))=true∧w.length≤62:=by decide+kernel
 obtain⟨h1,h2⟩:=this w h;rw[bA]at h1;have h3:∀c∈w.cps.toList,c<128∧c≠10∧c≠32:=fun c hc=>of_decide_eq_true (h1 c hc);have h4:32∉w.cps.toList:=fun z=>(h3 32 z).2.2 rfl;exact⟨⟨fun c hc=>⟨(h3 c hc).1,(h3 c hc).2.1⟩,h2,by rw[dw.mpr h4];exact bV _⟩,h4⟩
theorem zu.split{z w:Str}{ns:List Int}(h:zu z w ns):PySem.Txt.split z ⟨#[32]⟩=w::ns.map xw:=by
 rw[h.1];refine zk (by simp) fun p hp=>?_;rcases ax.mp hp with q|q
 ·rw[q];exact(xbZ h.2.1).2
 ·obtain⟨n,_,rfl⟩:=br.mp q;exact ui n (by decide) (by decide)
theorem zu.wp{z w:Str}{ns:List Int}(h:zu z w ns):∀p∈w::ns.map xw,WP p:=fun p hp=>by
 rcases ax.mp hp with q|q
 ·rw[q];exact(xbZ h.2.1).1
 ·obtain⟨n,hn,rfl⟩:=br.mp q;have:=h.2.2.2.2 n hn;unfold Sm at this;exact xd3 (Int.lt_trans this (by decide))
theorem zu.lo{z w:Str}{ns:List Int}(h:zu z w ns):LO z:=by
 have:=xe3 (ws:=w::ns.map xw) (by rw[ao,aa];have:=h.2.2.2.1;lia) h.wp;rw[←h.1]at this;exact this
theorem xhW(ls:List Ln):zu (zR ls) "sum" [zf (ya ls)]:=by
 refine⟨?_,by simp[FST],by simp,by simp,fun x hx=>by rw[aw.mp hx];exact xao _⟩;refine yG ?_;rw[aH,cJ,xY,join_one];unfold zR;rw[yR];rfl
theorem xi2{l:Ln}(h:l.ok)(h7:l.ns.length≤7):zu l.txt l.w l.ns:=by
 refine⟨rfl,?_,by have:=dW.mpr h.2.1;lia,h7,h.2.2.2⟩;have:=h.1;unfold zx at this;simp only[ax,Prod.mk.injEq,bS,or_false]at this;unfold FST;simp only[ax,bS,or_false];rcases this with⟨e,_⟩|⟨e,_⟩|⟨e,_⟩
 ·exact .inl e
 ·exact .inr (.inl e)
 ·exact .inr (.inr (.inl e))
theorem xcI{o n:Int}{rs:List xk}(h:Pw o n rs)(h7:∀r∈rs,r.ln.ns.length≤7):∀z∈xJ (lns o n rs),∃w ns,zu z w ns:=by
 intro z hz;unfold xJ at hz;rcases aN.mp hz with q|q
 ·obtain⟨l,hl,rfl⟩:=br.mp q;refine⟨_,_,xi2 (h.lns l hl) ?_⟩;unfold lns at hl;rcases ax.mp hl with e|e
  ·rw[e];show([o,n]:List Int).length≤7;simp
  ·obtain⟨r,hr,rfl⟩:=br.mp e;exact h7 r hr
 ·rw[aw.mp q];exact⟨_,_,xhW _⟩
theorem yA(c:Int){n:Nat}(h:0<n):∃i:Nat,c%(n:Int)=(i:Int)∧i<n:=by
 have h1:=bI c (show(n:Int)≠0 by lia);have h2:=bt c (show(0:Int)<(n:Int)by lia);exact⟨(c%(n:Int)).toNat,by lia,by lia⟩
def xd4(K:ah):Sp:=fun vs H Q _=>∃(l:Addr) (ss:List Str) (c:Int),vs=[.ref l,.int c]∧H l=some (.lst (ss.map V.str))∧2≤ss.length∧ss.length≤22∧(∀z∈ss,∃w ns,zu z w ns)∧∀(g:Addr) (gs:List Str) (H':Hp),xb H H'→H' g=some (.lst (gs.map V.str))→gs≠[]→gs.length≤23→(∀z∈gs,LO z)→Q (.ref g) H'
section
variable {P:aF} {w:World} {K:ah} {mg:Str→Option Value} {base:Heap} {a:Adr}
theorem vQ{n j:Nat}(h:j<n):ixN n (j:Int)=some j:=by
 unfold ixN;rw[if_pos (by lia),if_pos (by lia),fF]
theorem xgY(T:Txt w K mg a):xA P w K mg base CX0 1 a.q1w a.xbg ["_law_lines","_law_cell"] (xd4 K):=by
 refine T.q1z.ok xcC (fun vs H Q E h=>?_) (fun cdv A outer s H vs Q E hr h=>?_)
 ·obtain⟨l,ss,c,rfl,_⟩:=h;rfl
 ·obtain⟨l,ss,c,rfl,hl,h2,h22,hls,q⟩:=h;have nd:=xcC.nd;refine⟨_,(xh (yF (i:=2) nd rfl (aR rfl) (xj xQ (cv 1) (xt xE (by rfl) T.q0m yc (xa (cv 0) xc))))
  (xh (yF (i:=3) nd rfl (aR rfl) (xj xQ (xj yg (cv 1) xf) (xt xE (by rfl) T.q0m yc (xa (cv 0) xc))))
  (xh (yF (i:=4) nd rfl (aR rfl) (xj xQ (xj yg (cv 1) xf) xf))
  (xh (xI (xv zv (cv 4) xf) (xi (xo (xj xW (xF xX (cv 0) xO (xM (cv 2))) (xF xX (cv 0) (xM (xj yk (cv 2) xf)) xO)))) xB)
  (xh (xI (xv zv (cv 4) xf) (xi (xo (xj xW (xF xX (cv 0) xO (xM (xj yk (cv 2) xf))) (xF xX (cv 0) (xM (cv 2)) xO)))) xB)
  (xh (xI (xv zv (cv 4) xf) (xh (yF (i:=5) nd rfl (aR rfl) (xC jM (by rfl) T.q17 xeM (xa (cv 0) xc)))
  (xh (vC (xq xx (cv 0) (cv 3) (fun _ _=>rfl)) (jI (cv 5) (cv 2) set_list))
  (xh (vC (xq xx (cv 0) (cv 2) (fun _ _=>rfl)) (jI (cv 5) (cv 3) set_list))
  (xi (xo (cv 5)))))) xB)
  (xh (xI (xv zv (cv 4) xf) (xi (xo (xj xW (xj xW (xF xX (cv 0) xO (xM (cv 2))) (xD (xa xm xc))) (xF xX (cv 0) (xM (cv 2)) xO)))) xB)
  (xi (xo (xq xx (xD (xa (xj xW (xD (xa xm xc)) (cv 0)) (xa (xj xW (cv 0) (xD (xa xm xc))) xc))) (xj xc4 (cv 4) xf) (fun _ _=>rfl))))))))))),?_⟩
  have lo:∀z∈ss,LO z:=fun z hz=>by obtain⟨w,ns,h⟩:=hls z hz;exact h.lo
  have lo0:LO (ai ""):=⟨fun c hc=>(by cases hc),(by decide),(by decide)⟩;obtain⟨i,ei,hi⟩:=yA c (n:=ss.length) (by lia);obtain⟨j,ej,hj⟩:=yA (c / 30) (n:=ss.length) (by lia);obtain⟨m,em,hm⟩:=yA (c / 900) (n:=6) (by decide);walk_at"w";refine⟨l,_,rfl,.inl (SqL.of hl),?_⟩;walk_at"w";rw[aa];refine aY (show(0:Int)<(ss.length:Int)by lia) ?_;refine zY fun i0 hi0=>?_;walk_at"w";obtain rfl:i0=(i:Int):=by rw[hi0];exact ei
  clear hi0;walk_at"ss";refine⟨l,_,rfl,.inl (SqL.of hl),?_⟩;walk_at"w";rw[aa];refine aY (show(0:Int)<(ss.length:Int)by lia) ?_;refine zY fun j0 hj0=>?_;walk_at"w";obtain rfl:j0=(j:Int):=by rw[hj0];exact ej
  clear hj0;walk_at"ss";refine zY fun m0 hm0=>?_;walk_at"w";obtain rfl:m0=(m:Int):=by rw[hm0];exact em
  clear hm0;have e1:(i:Int)+1=((i+1:Nat):Int):=by lia
  -- what is cut off ahead and behind,put together with what stands between
  have fin:∀(g:Addr) (gs:List Str) (H':Hp),xb H H'→H' g=some (.lst (gs.map V.str))→gs≠[]→gs.length≤23→(∀z∈gs,z∈ss∨z=ai "")→Q (.ref g) H':=fun g gs H' s' e n1 n2 n3=>q g gs H' s' e n1 n2 fun z hz=>by
   rcases n3 z hz with h|h
   ·exact lo z h
   ·rw[h];exact lo0
  walk_at"w";refine⟨fun _=>?_,fun b0=>?_⟩
  ·walk_at"w";refine⟨_,rfl,?_⟩;walk_at"w";refine⟨l,_,rfl,SqL.of hl,?_⟩;rw[uc,←dg];intro y1 hy1;generalize hUy1:upd H y1 _=H1;have sH1:=xb.of_eq hy1 hUy1;have ey1:=xg hUy1;clear hUy1;walk_at"w";refine⟨((i+1:Nat):Int),congrArg V.int e1,?_⟩;walk_at"w";refine⟨l,_,rfl,SqL.of (sH1.at hl),?_⟩;rw[zh,←cO];intro y2 hy2;generalize hUy2:upd H1 y2 _=H2;have sH2:=xb.of_eq hy2 hUy2;have ey2:=xg hUy2;clear hUy2;walk_at"w";refine⟨y1,y2,_,_,rfl,rfl,sH2.at ey1,ey2,by rw[aa,aa,aI,aV,ag];lia,fun y3 hy3=>?_⟩;refine fin y3 (ss.take i++ss.drop (i+1)) _ ((sH1.trans sH2).trans (xb.new hy3)) (by rw[xn,aA]) (fun z=>?_) ?_ (fun z hz=>.inl ?_)
   ·have:=congrArg bZ z;rw[aj,aI,aV,cL]at this;lia
   ·rw[aj,aI,aV];lia
   ·rcases aN.mp hz with z|z
    ·exact b6 z
    ·exact bT z
  walk_at"w";refine⟨fun _=>?_,fun b1=>?_⟩
  ·walk_at"w";refine⟨((i+1:Nat):Int),congrArg V.int e1,?_⟩;walk_at"w";refine⟨l,_,rfl,SqL.of hl,?_⟩;rw[uc,←dg];intro y1 hy1;generalize hUy1:upd H y1 _=H1;have sH1:=xb.of_eq hy1 hUy1;have ey1:=xg hUy1;clear hUy1;walk_at"w";refine⟨_,rfl,?_⟩;walk_at"w";refine⟨l,_,rfl,SqL.of (sH1.at hl),?_⟩;rw[zh,←cO];intro y2 hy2;generalize hUy2:upd H1 y2 _=H2;have sH2:=xb.of_eq hy2 hUy2;have ey2:=xg hUy2;clear hUy2;walk_at"w";refine⟨y1,y2,_,_,rfl,rfl,sH2.at ey1,ey2,by rw[aa,aa,aI,aV,ag];lia,fun y3 hy3=>?_⟩;refine fin y3 (ss.take (i+1)++ss.drop i) _ ((sH1.trans sH2).trans (xb.new hy3)) (by rw[xn,aA]) (fun z=>?_) ?_ (fun z hz=>.inl ?_)
   ·have:=congrArg bZ z;rw[aj,aI,aV,cL]at this;lia
   ·rw[aj,aI,aV];lia
   ·rcases aN.mp hz with z|z
    ·exact b6 z
    ·exact bT z
  walk_at"w";refine⟨fun _=>?_,fun b2=>?_⟩
  ·walk_at"w";refine⟨l,_,rfl,.inl (SqL.of hl),?_⟩;intro g hg;generalize hUg:upd H g _=H1;have sH1:=xb.of_eq hg hUg;have eg:=xg hUg;clear hUg;walk_at"w";refine uG ?_;walk_at"w";have hj':(ss.map V.str)[j]? =some (.str (ss.getD j bW)):=by rw[aJ,cP,aB hj];rfl
   have hi':(ss.map V.str)[i]? =some (.str (ss.getD i bW)):=by rw[aJ,cP,aB hi];rfl
   have mj:ss.getD j bW∈ss:=by rw[cP,aB hj];exact bY hj
   have mi:ss.getD i bW∈ss:=by rw[cP,aB hi];exact bY hi
   refine⟨l,_,_,_,rfl,rfl,SqL.of (sH1.at hl),xV hj',?_⟩;walk_at"w";refine⟨g,_,_,i,rfl,rfl,eg,vQ (by rw[aa];exact hi),?_⟩;generalize hU:upd H1 g _=H2;have eg2:H2 g=some (.lst ((ss.set i (ss.getD j bW)).map V.str)):=by rw[←hU,xn];simp only[gS]
   have sH2:xb H H2:=xb.wr sH1 hg hU;clear hU;walk_at"w";refine⟨l,_,_,_,rfl,rfl,SqL.of (sH2.at hl),xV hi',?_⟩;walk_at"w";refine⟨g,_,_,j,rfl,rfl,eg2,vQ (by rw[aa,cK];exact hj),?_⟩;generalize hU:upd H2 g _=H3;have eg3:H3 g=some (.lst (((ss.set i (ss.getD j bW)).set j (ss.getD i bW)).map V.str)):=by rw[←hU,xn];simp only[gS]
   have sH3:xb H H3:=xb.wr sH2 hg hU;clear hU;walk_at"w";refine fin g _ H3 sH3 eg3 (fun z=>?_) (by rw[cK,cK];lia) (fun z hz=>.inl ?_)
   ·have:=congrArg bZ z;rw[cK,cK,cL]at this;lia
   ·rcases d7 hz with h|h
    ·rcases d7 h with h|h
     ·exact h
     ·rw[h];exact mj
    ·rw[h];exact mi
  walk_at"w";refine⟨fun _=>?_,fun b3=>?_⟩
  ·walk_at"w";refine⟨_,rfl,?_⟩;walk_at"w";refine⟨l,_,rfl,SqL.of hl,?_⟩;rw[uc,←dg];intro y1 hy1;generalize hUy1:upd H y1 _=H1;have sH1:=xb.of_eq hy1 hUy1;have ey1:=xg hUy1;clear hUy1;walk_at"w";walk_at"ss";intro y0 hy0;generalize hUy0:upd H1 y0 _=H1b;have sH1b:=xb.of_eq hy0 hUy0;have ey0:=xg hUy0;clear hUy0;walk_at"w";refine⟨y1,y0,_,_,rfl,rfl,sH1b.at ey1,ey0,by rw[aa,aI,ag];simp;lia,?_⟩;intro y2 hy2;generalize hUy2:upd H1b y2 _=H2;have sH2:=xb.of_eq hy2 hUy2;have ey2:=xg hUy2;clear hUy2;walk_at"w";have s02:=sH1.trans (sH1b.trans sH2);refine⟨_,rfl,?_⟩;walk_at"w";refine⟨l,_,rfl,SqL.of (s02.at hl),?_⟩;rw[zh,←cO];intro y3 hy3;generalize hUy3:upd H2 y3 _=H3;have sH3:=xb.of_eq hy3 hUy3;have ey3:=xg hUy3;clear hUy3;walk_at"w";refine⟨y2,y3,_,_,rfl,rfl,sH3.at ey2,ey3,by rw[aj,aa,aa,aI,aV,ag];simp;lia,fun y4 hy4=>?_⟩;refine fin y4 (ss.take i++[ai ""]++ss.drop i) _ ((s02.trans sH3).trans (xb.new hy4)) (by rw[xn,aA,aA];rfl) (fun z=>?_) ?_ (fun z hz=>?_)
   ·have:=congrArg bZ z;rw[aj,aj]at this;simp at this
   ·rw[aj,aj,aI,aV,bD];lia
   ·rcases aN.mp hz with z|z
    ·rcases aN.mp z with z|z
     ·exact .inl (b6 z)
     ·exact .inr (aw.mp z)
    ·exact .inl (bT z)
  have hm4:m=4∨m=5:=by
   have:=of_decide_eq_false b0;have:=of_decide_eq_false b1;have:=of_decide_eq_false b2;have:=of_decide_eq_false b3;lia
  walk_at"w";walk_at"ss";intro y0 hy0;generalize hUy0:upd H y0 _=H1;have sH1:=xb.of_eq hy0 hUy0;have ey0:=xg hUy0;clear hUy0;walk_at"w";refine⟨y0,l,_,_,rfl,rfl,ey0,sH1.at hl,by rw[aa,ag];simp;lia,?_⟩;intro y1 hy1;generalize hUy1:upd H1 y1 _=H2;have sH2:=xb.of_eq hy1 hUy1;have ey1:=xg hUy1;clear hUy1;walk_at"w";walk_at"ss";intro y2 hy2;generalize hUy2:upd H2 y2 _=H3;have sH3:=xb.of_eq hy2 hUy2;have ey2:=xg hUy2;clear hUy2;walk_at"w";have s03:=sH1.trans (sH2.trans sH3);refine⟨l,y2,_,_,rfl,rfl,s03.at hl,ey2,by rw[aa,ag];simp;lia,?_⟩;intro y3 hy3;generalize hUy3:upd H3 y3 _=H4;have sH4:=xb.of_eq hy3 hUy3;have ey3:=xg hUy3;clear hUy3;walk_at"w";walk_at"ss";intro y4 hy4;generalize hUy4:upd H4 y4 _=H5;have sH5:=xb.of_eq hy4 hUy4;have ey4:=xg hUy4;clear hUy4;walk_at"w";have s05:=s03.trans (sH4.trans sH5);rcases hm4 with e|e
  ·subst e;refine⟨y4,_,_,.ref y1,rfl,rfl,SqL.of ey4,rfl,?_⟩;refine fin y1 (ai ""::ss) _ s05 ((sH3.trans (sH4.trans sH5)).at ey1) (by simp) (by rw[ao];lia) (fun z hz=>?_);rcases ax.mp hz with z|z
   ·exact .inr z
   ·exact .inl z
  ·subst e;refine⟨y4,_,_,.ref y3,rfl,rfl,SqL.of ey4,rfl,?_⟩;refine fin y3 (ss++[ai ""]) _ s05 (by rw[sH5.at ey3,aA];rfl) (by simp) (by rw[aj,bD];lia) (fun z hz=>?_);rcases aN.mp hz with z|z
   ·exact .inl z
   ·exact .inr (aw.mp z)
end
section
variable {P:aF} {w:World} {K:ah} {mg:Str→Option Value} {base:Heap} {a:Adr}
def ODD:List Str:=["x","","1 2","+1","--1","-0","1.0","put","00",xdz "9" 61]
theorem xjW:∀z∈ODD,WP z:=by
 have:∀z∈ODD,(z.cps.toList.all fun c=>decide (c<128∧c≠10))=true∧z.length≤62∧z.cps.toList.count 32≤1:=by decide+kernel
 intro z hz;obtain⟨h1,h2,h3⟩:=this z hz;rw[bA]at h1;exact⟨fun c hc=>of_decide_eq_true (h1 c hc),h2,h3⟩
theorem xe4{a b:Str}(h1:Asc a)(h2:Asc b):Asc (a++b):=fun c hc=>by
 rw[yR]at hc;rcases aN.mp hc with z|z
 ·exact h1 c z
 ·exact h2 c z
theorem xfR(T:Txt w K mg a):xA P w K mg base CX0 1 a.q09 a.xae ["_law_lines","_law_cell"] (xd4 K):=by
 refine T.q1e.ok xbP (fun vs H Q E h=>?_) (fun cdv A outer s H vs Q E hr h=>?_)
 ·obtain⟨l,ss,c,rfl,_⟩:=h;rfl
 ·obtain⟨l,ss,c,rfl,hl,h2,h22,hls,q⟩:=h;have nd:=xbP.nd;refine⟨_,(xh (yF (i:=2) nd rfl (aR rfl) (xj xQ (cv 1) (xt xE (by rfl) T.q0m yc (xa (cv 0) xc)))) (xh (yF (i:=3) nd rfl (aR rfl) (yb PySem.F.plainAttrs_str PySem.F.slot_str_split PySem.F.type_str_split vn (xq xx (cv 0) (cv 2) (fun _ _=>rfl)) (xa xm xc))) (xh (yF (i:=4) nd rfl (aR rfl) (xj xQ (xj yg (cv 1) xf) (xt xE (by rfl) T.q0m yc (xa (cv 3) xc)))) (@xh _ _ _ _ _ (@yF _ _ 5 _ _ _ _ nd rfl (aR rfl) (@xq _ _ _ _ _ _ _ xx (@xD _ _ _ _ (@xa _ _ _ _ _ (@xm _ _ _ _) (@xa _ _ _ _ _ (@xm _ _ _ _) (@xa _ _ _ _ _ (@xm _ _ _ _) (@xa _ _ _ _ _ (@xm _ _ _ _) (@xa _ _ _ _ _ (@xm _ _ _ _) (@xa _ _ _ _ _ (@xm _ _ _ _) (@xa _ _ _ _ _ (@xm _ _ _ _) (@xa _ _ _ _ _ (@xm _ _ _ _) (@xa _ _ _ _ _ (@xm _ _ _ _) (@xa _ _ _ _ _ (@xj _ _ _ _ _ _ _ _ xiN (@xm _ _ _ _) (@xf _ _ _ _)) (@xc _) rfl) rfl) rfl) rfl) rfl) rfl) rfl) rfl) rfl) rfl)) (@xj _ _ _ _ _ _ _ _ xQ (@xj _ _ _ _ _ _ _ _ yg (cv 1) (@xf _ _ _ _)) (@xf _ _ _ _)) (fun _ _=>rfl)) rfl (.inl rfl)) (xh (yF (i:=6) nd rfl (aR rfl) (xj xQ (xj yg (cv 1) xf) xf)) (xh (xdj (xI (xv zv (cv 6) xf) (xi (yF (i:=3) nd rfl (aR rfl) (xj xW (xF xX (cv 3) xO (xM (cv 4))) (xF xX (cv 3) (xM (xj yk (cv 4) xf)) xO)))) (xi (xI (xv zv (cv 6) xf) (xi (yF (i:=3) nd rfl (aR rfl) (xj xW (xj xW (xF xX (cv 3) xO (xM (cv 4))) (xD (xa (cv 5) xc))) (xF xX (cv 3) (xM (cv 4)) xO)))) (xi (xI (xv zv (cv 6) xf) (xi (yF (i:=3) nd rfl (aR rfl) (xj xW (xj xW (xF xX (cv 3) xO (xM (cv 4))) (xD (xa (cv 5) xc))) (xF xX (cv 3) (xM (xj yk (cv 4) xf)) xO)))) (xi (xI (PW.pt (vH (xv jN (cv 4) xf) (uF (xv zv (cv 6) xf)))) (xi (vC (xC yM (by rfl) T.q1r zr (xa (xj yk (xC vm (by rfl) T.q1Z vI (xa (xq xx (cv 3) (cv 4) (fun _ _=>rfl)) xc)) (xq xx (xD (xa xf (xa (xau xaw xf) xc))) (xj xQ (xj yg (cv 1) xf) xf) (fun _ _=>rfl))) xc)) (jI (cv 3) (cv 4) set_list))) (xi (xI (xv jN (cv 4) xf) (xi (vC (xj yK xm (xq xx (cv 3) (cv 4) (fun _ _=>rfl))) (jI (cv 3) (cv 4) set_list))) (xi (vC (xj yK (xq xx (cv 3) xf (fun _ _=>rfl)) xm) (jI (cv 3) xf set_list))))))))))))) (xi (xo (xj xW (xj xW (xF xX (cv 0) xO (xM (cv 2))) (xD (xa (yb PySem.F.plainAttrs_str PySem.F.slot_str_join PySem.F.type_str_join yQ xm (xa (cv 3) xc)) xc))) (xF xX (cv 0) (xM (xj yk (cv 2) xf)) xO)))))))))),?_⟩;have lo:∀z∈ss,LO z:=fun z hz=>by obtain⟨w,ns,h⟩:=hls z hz;exact h.lo
  obtain⟨i,ei,hi⟩:=yA c (n:=ss.length) (by lia);have hmem:=bY hi;obtain⟨w,ns,hL⟩:=hls _ hmem;have hspl:=hL.split;have hwp:=hL.wp;have hlo:=lo _ hmem;obtain⟨_,hwf,hn1,hn7,hsm⟩:=id hL;walk_at"w";refine⟨l,_,rfl,.inl (SqL.of hl),?_⟩;walk_at"w";rw[aa];refine aY (show(0:Int)<(ss.length:Int)by lia) ?_;refine zY fun i0 hi0=>?_;walk_at"w";obtain rfl:i0=(i:Int):=by rw[hi0];exact ei
  clear hi0;refine⟨l,_,_,.str ss[i],rfl,rfl,SqL.of hl,xV (by rw[aJ,aB hi];rfl),?_⟩;walk_at"w";refine aY rfl ?_;walk_at"w";refine⟨_,_,rfl,rfl,by decide,by have:=hlo.len;rw[ag];lia,?_⟩;rw[show(ai " ")=(⟨#[32]⟩:Str)from rfl,hspl];generalize hW:w::ns.map xw=W at hwp;have hWl:W.length=ns.length+1:=by rw[←hW,ao,aa]
  intro wl hwl;generalize hUwl:upd H wl _=H1;have sH1:=xb.of_eq hwl hUwl;have ewl:=xg hUwl;clear hUwl;walk_at"w";refine uG ?_;walk_at"w";obtain⟨p,ep,hp⟩:=yA (c / 30) (n:=W.length) (by lia);obtain⟨k,ek,hk⟩:=yA (c / 900) (n:=10) (by decide);obtain⟨m,em,hm⟩:=yA (c / 9000) (n:=5) (by decide);walk_at"ss";refine⟨wl,_,rfl,.inl (SqL.of ewl),?_⟩;walk_at"w";rw[aa];refine aY (show(0:Int)<(W.length:Int)by lia) ?_;refine zY fun p0 hp0=>?_;walk_at"w";obtain rfl:p0=(p:Int):=by rw[hp0];exact ep
  clear hp0;refine⟨_,61,rfl,rfl,by decide,by decide,rfl,?_⟩;walk_at"w";walk_at"ss";intro ol hol;generalize hUol:upd H1 ol _=H2;have sH2:=xb.of_eq hol hUol;have eol:=xg hUol;clear hUol;walk_at"w";have eol':H2 ol=some (.lst (ODD.map V.str)):=eol;walk_at"ss";have hk2:k<ODD.length:=hk;refine⟨ol,_,_,.str ODD[k],rfl,rfl,SqL.of eol',?_,?_⟩
  ·have e9:atI (ODD.map V.str) (k:Int)=some (.str ODD[k]):=xV (by rw[aJ,aB hk2];rfl);have ek:c / 900%10=(k:Int):=ek;rw[←ek]at e9;exact e9
  have hodd:=xjW _ (bY hk2);generalize ODD[k]=od at hodd;refine uG ?_;walk_at"w";walk_at"ss";refine zY fun m0 hm0=>?_;walk_at"w";obtain rfl:m0=(m:Int):=by rw[hm0];exact em
  clear hm0;have e1:(p:Int)+1=((p+1:Nat):Int):=by lia
  have ewl2:=sH2.at ewl;refine⟨fun σ' G=>xb H G∧∃(wl':Addr) (W':List Str),σ'=[some (.ref l),some (.int c),some (.int (i:Int)),some (.ref wl'),some (.int (p:Int)),some (.str od),some (.int (m:Int))]∧G wl'=some (.lst (W'.map V.str))∧W'.length≤10∧∀z∈W',WP z,?_,?_⟩
  ·have s02:=sH1.trans sH2;walk_at"w";refine⟨fun _=>?_,fun b0=>?_⟩
   ·walk_at"w";refine⟨_,rfl,?_⟩;walk_at"w";refine⟨wl,_,rfl,SqL.of ewl2,?_⟩;rw[uc,←dg];intro y1 hy1;generalize hUy1:upd H2 y1 _=H3;have sH3:=xb.of_eq hy1 hUy1;have ey1:=xg hUy1;clear hUy1;walk_at"w";refine⟨((p+1:Nat):Int),congrArg V.int e1,?_⟩;walk_at"w";refine⟨wl,_,rfl,SqL.of (sH3.at ewl2),?_⟩;rw[zh,←cO];intro y2 hy2;generalize hUy2:upd H3 y2 _=H4;have sH4:=xb.of_eq hy2 hUy2;have ey2:=xg hUy2;clear hUy2;walk_at"w";refine⟨y1,y2,_,_,rfl,rfl,sH4.at ey1,ey2,by rw[aa,aa,aI,aV,ag];lia,?_⟩;intro y3 hy3;generalize hUy3:upd H4 y3 _=H5;have sH5:=xb.of_eq hy3 hUy3;have ey3:=xg hUy3;clear hUy3;walk_at"w";refine uG ?_;walk_at"w";refine⟨s02.trans (sH3.trans (sH4.trans sH5)),y3,W.take p++W.drop (p+1),rfl,by rw[ey3,aA],by rw[aj,aI,aV];lia,fun z hz=>hwp z ?_⟩;rcases aN.mp hz with z|z
    ·exact b6 z
    ·exact bT z
   walk_at"w";refine⟨fun _=>?_,fun b1=>?_⟩
   ·walk_at"w";refine⟨_,rfl,?_⟩;walk_at"w";refine⟨wl,_,rfl,SqL.of ewl2,?_⟩;rw[uc,←dg];intro y1 hy1;generalize hUy1:upd H2 y1 _=H3;have sH3:=xb.of_eq hy1 hUy1;have ey1:=xg hUy1;clear hUy1;walk_at"w";walk_at"ss";intro y0 hy0;generalize hUy0:upd H3 y0 _=H3b;have sH3b:=xb.of_eq hy0 hUy0;have ey0:=xg hUy0;clear hUy0;walk_at"w";refine⟨y1,y0,_,_,rfl,rfl,sH3b.at ey1,ey0,by rw[aa,aI,ag];simp;lia,?_⟩;intro y2 hy2;generalize hUy2:upd H3b y2 _=H4;have sH4:=xb.of_eq hy2 hUy2;have ey2:=xg hUy2;clear hUy2;walk_at"w";have s24:=sH3.trans (sH3b.trans sH4);refine⟨_,rfl,?_⟩;walk_at"w";refine⟨wl,_,rfl,SqL.of (s24.at ewl2),?_⟩;rw[zh,←cO];intro y3 hy3;generalize hUy3:upd H4 y3 _=H5;have sH5:=xb.of_eq hy3 hUy3;have ey3:=xg hUy3;clear hUy3;walk_at"w";refine⟨y2,y3,_,_,rfl,rfl,sH5.at ey2,ey3,by rw[aj,aa,aa,aI,aV,ag];simp;lia,?_⟩;intro y4 hy4;generalize hUy4:upd H5 y4 _=H6;have sH6:=xb.of_eq hy4 hUy4;have ey4:=xg hUy4;clear hUy4;walk_at"w";refine uG ?_;walk_at"w";refine⟨s02.trans (s24.trans (sH5.trans sH6)),y4,W.take p++[od]++W.drop p,rfl,by rw[ey4,aA,aA];rfl,by rw[aj,aj,aI,aV,bD];lia,fun z hz=>?_⟩;rcases aN.mp hz with z|z
    ·rcases aN.mp z with z|z
     ·exact hwp _ (b6 z)
     ·rw[aw.mp z];exact hodd
    ·exact hwp _ (bT z)
   walk_at"w";refine⟨fun _=>?_,fun b2=>?_⟩
   ·walk_at"w";refine⟨_,rfl,?_⟩;walk_at"w";refine⟨wl,_,rfl,SqL.of ewl2,?_⟩;rw[uc,←dg];intro y1 hy1;generalize hUy1:upd H2 y1 _=H3;have sH3:=xb.of_eq hy1 hUy1;have ey1:=xg hUy1;clear hUy1;walk_at"w";walk_at"ss";intro y0 hy0;generalize hUy0:upd H3 y0 _=H3b;have sH3b:=xb.of_eq hy0 hUy0;have ey0:=xg hUy0;clear hUy0;walk_at"w";refine⟨y1,y0,_,_,rfl,rfl,sH3b.at ey1,ey0,by rw[aa,aI,ag];simp;lia,?_⟩;intro y2 hy2;generalize hUy2:upd H3b y2 _=H4;have sH4:=xb.of_eq hy2 hUy2;have ey2:=xg hUy2;clear hUy2;walk_at"w";have s24:=sH3.trans (sH3b.trans sH4);refine⟨((p+1:Nat):Int),congrArg V.int e1,?_⟩;walk_at"w";refine⟨wl,_,rfl,SqL.of (s24.at ewl2),?_⟩;rw[zh,←cO];intro y3 hy3;generalize hUy3:upd H4 y3 _=H5;have sH5:=xb.of_eq hy3 hUy3;have ey3:=xg hUy3;clear hUy3;walk_at"w";refine⟨y2,y3,_,_,rfl,rfl,sH5.at ey2,ey3,by rw[aj,aa,aa,aI,aV,ag];simp;lia,?_⟩;intro y4 hy4;generalize hUy4:upd H5 y4 _=H6;have sH6:=xb.of_eq hy4 hUy4;have ey4:=xg hUy4;clear hUy4;walk_at"w";refine uG ?_;walk_at"w";refine⟨s02.trans (s24.trans (sH5.trans sH6)),y4,W.take p++[od]++W.drop (p+1),rfl,by rw[ey4,aA,aA];rfl,by rw[aj,aj,aI,aV,bD];lia,fun z hz=>?_⟩;rcases aN.mp hz with z|z
    ·rcases aN.mp z with z|z
     ·exact hwp _ (b6 z)
     ·rw[aw.mp z];exact hodd
    ·exact hwp _ (bT z)
   have hWp:(W.map V.str)[p]? =some (.str W[p]):=by rw[aJ,aB hp];rfl
   have set_fin:∀(j:Nat) (v:Str) (H3:Hp),xb H2 H3→WP v→H3 wl=some (.lst (W.map V.str))→xb H (upd H3 wl (.lst ((W.map V.str).set j (.str v))))∧∃(wl':Addr) (W':List Str),([some (.ref l),some (.int c),some (.int (i:Int)),some (.ref wl),some (.int (p:Int)),some (.str od),some (.int (m:Int))]:L2.St)=[some (.ref l),some (.int c),some (.int (i:Int)),some (.ref wl'),some (.int (p:Int)),some (.str od),some (.int (m:Int))]∧upd H3 wl (.lst ((W.map V.str).set j (.str v))) wl'=some (.lst (W'.map V.str))∧W'.length≤10∧∀z∈W',WP z:=fun j v H3 s3 hv _=>by
    refine⟨(s02.trans s3).put hwl,wl,W.set j v,rfl,by rw[xn,gS],by rw[cK];lia,fun z hz=>?_⟩;rcases d7 hz with h|h
    ·exact hwp z h
    ·rw[h];exact hv
   have num_at:0<p→∃n,Sm n∧W[p]=xw n:=fun h0=>by
    obtain⟨p',rfl⟩:∃p',p=p'+1:=⟨p - 1,by lia⟩;have hp':p'<ns.length:=by lia
    refine⟨ns[p'],hsm _ (bY hp'),?_⟩;subst hW;simp
   have tailc:0<p→∀(Hx:Hp),Hx=H2→WP (ai "0"++W[p]):=fun h0 Hx _=>by
    obtain⟨n,hn,e⟩:=num_at h0;rw[e];have hw:=xd3 (n:=n) (Int.lt_trans hn (by decide));refine⟨xe4 (fun c hc=>?_) hw.asc,?_,?_⟩
    ·have:c∈[48]:=hc;rw[aw.mp this];decide
    ·rw[len_app];have:=yz hn;show 1+_≤62;lia
    ·rw[yR,eM,dw.mpr (ui n (by decide) (by decide))];exact(by decide:List.count 32 [48]+0≤1)
   walk_at"w";refine⟨fun bp=>?_,fun bp=>?_⟩
   ·have h0:0<p:=by have:=of_decide_eq_true bp;lia
    obtain⟨n,hn,en⟩:=num_at h0;walk_at"w";refine⟨fun _=>?_,fun b3=>?_⟩
    ·walk_at"w";refine⟨wl,_,_,_,rfl,rfl,SqL.of ewl2,xV hWp,?_⟩;walk_at"w";refine⟨_,n,rfl,by rw[en];exact yN hn,by rw[en];have:=yz hn;lia,?_⟩;walk_at"w";walk_at"ss";intro y1 hy1;generalize hUy1:upd H2 y1 _=H3;have sH3:=xb.of_eq hy1 hUy1;have ey1:=xg hUy1;clear hUy1;walk_at"w";walk_at"ss";obtain⟨r,er,hr2⟩:=yA (c / 45000) (n:=2) (by decide);have er:c / 45000%2=(r:Int):=er;have hd:∃d:Int,(d=1∨d= -1)∧atI [V.int 1,V.int (-1)] (c / 45000%2)=some (.int d):=by
      rw[er]
      match r,hr2 with
      |0,_=>exact⟨1,.inl rfl,rfl⟩
      |1,_=>exact⟨-1,.inr rfl,rfl⟩
     obtain⟨d,hd1,hd2⟩:=hd;refine⟨y1,_,_,_,rfl,rfl,SqL.of ey1,hd2,?_⟩;walk_at"w";have hb:((n+d).natAbs:Int)<10^61:=by
      unfold Sm at hn;have:(10:Int)^60+1<10^61:=by decide
      rcases hd1 with e|e<;> subst e<;> lia
     refine⟨_,_,rfl,rfl,fun i e=>by injection e with e;rw[←e];exact xi1 hb,?_⟩;walk_at"w";refine⟨wl,_,_,p,rfl,rfl,sH3.at ewl2,vQ (by rw[aa];exact hp),?_⟩;exact set_fin p (xw (n+d)) H3 sH3 (xd3 hb) (sH3.at ewl2)
    ·walk_at"w";refine⟨fun _=>?_,fun z=>by rw[bp]at z;cases z⟩;walk_at"w";refine⟨wl,_,_,_,rfl,rfl,SqL.of ewl2,xV hWp,?_⟩;walk_at"w";refine⟨_,_,rfl,rfl,by rw[en];have:=yz hn;show 1+_≤_;rw[ag];lia,?_⟩;walk_at"w";refine⟨wl,_,_,p,rfl,rfl,ewl2,vQ (by rw[aa];exact hp),?_⟩;exact set_fin p _ H2 (xb.refl _) (tailc h0 H2 rfl) ewl2
   ·have h0:p=0:=by have:=of_decide_eq_false bp;lia
    walk_at"w";refine⟨by walk_at"no",fun _=>?_⟩;walk_at"w";refine⟨fun z=>(by rw[bp]at z;cases z),fun _=>?_⟩;walk_at"w";have hW0:(W.map V.str)[0]? =some (.str w):=by rw[←hW];rfl
    refine⟨wl,_,_,_,rfl,rfl,SqL.of ewl2,xV (j:=0) hW0,?_⟩;walk_at"w";have hwW:=(xbZ hwf).1;have hw2:=(xbZ hwf).2;have hw5:w.length≤5:=by
     have:∀w∈FST,w.length≤5:=by decide+kernel
     exact this w hwf
    refine⟨_,_,rfl,rfl,by show _+1≤_;rw[ag];lia,?_⟩;walk_at"w";refine⟨wl,_,_,0,rfl,rfl,ewl2,vQ (j:=0) (by rw[aa];lia),?_⟩;refine set_fin 0 (w++ai " ") H2 (xb.refl _) ⟨xe4 hwW.asc (fun c hc=>?_),?_,?_⟩ ewl2
    ·have:c∈[32]:=hc;rw[aw.mp this];decide
    ·rw[len_app];show _+1≤62;lia
    ·rw[yR,eM,dw.mpr hw2];exact(by decide:0+List.count 32 [32]≤1)
  ·rintro σ G ⟨sG,wl',W',rfl,eW,hW10,hWP⟩;have hLO:=xe3 hW10 hWP;have e1':(i:Int)+1=((i+1:Nat):Int):=by lia
   walk_at"w";refine⟨_,rfl,?_⟩;walk_at"w";refine⟨l,_,rfl,SqL.of (sG.at hl),?_⟩;rw[uc,←dg];intro y1 hy1;generalize hUy1:upd G y1 _=G1;have sG1:=xb.of_eq hy1 hUy1;have ey1:=xg hUy1;clear hUy1;walk_at"w";refine aY rfl ?_;walk_at"w";have hj1:=vX (d:=32) (B:=62) W' fun p hp=>(hWP p hp).len;have hj2:W'.length*63≤10*63:=bF _ hW10;have hj3:=hLO.len;refine⟨_,wl',W',rfl,rfl,SqL.of (sG1.at eW),by show uO ⟨#[32]⟩ W'≤_;rw[ag];lia,by rw[xP];show(aZ ⟨#[32]⟩ W').length≤_;rw[ag];lia,?_⟩;rw[xP];walk_at"w";walk_at"ss";intro y0 hy0;generalize hUy0:upd G1 y0 _=G2;have sG2:=xb.of_eq hy0 hUy0;have ey0:=xg hUy0;clear hUy0;walk_at"w";refine⟨y1,y0,_,_,rfl,rfl,sG2.at ey1,ey0,by rw[aa,aI,ag];simp;lia,?_⟩;intro y2 hy2;generalize hUy2:upd G2 y2 _=G3;have sG3:=xb.of_eq hy2 hUy2;have ey2:=xg hUy2;clear hUy2;walk_at"w";have s13:=sG1.trans (sG2.trans sG3);refine⟨((i+1:Nat):Int),congrArg V.int e1',?_⟩;walk_at"w";refine⟨l,_,rfl,SqL.of ((sG.trans s13).at hl),?_⟩;rw[zh,←cO];intro y3 hy3;generalize hUy3:upd G3 y3 _=G4;have sG4:=xb.of_eq hy3 hUy3;have ey3:=xg hUy3;clear hUy3;walk_at"w";refine⟨y2,y3,_,_,rfl,rfl,sG4.at ey2,ey3,by rw[aj,aa,aa,aI,aV,ag];simp;lia,fun y4 hy4=>?_⟩;refine q y4 (ss.take i++[aZ ⟨#[32]⟩ W']++ss.drop (i+1)) _ ((sG.trans (s13.trans sG4)).trans (xb.new hy4)) (by rw[xn,aA,aA];rfl) (by simp) ?_ fun z hz=>?_
   ·rw[aj,aj,aI,aV,bD];lia
   ·rcases aN.mp hz with z|z
    ·rcases aN.mp z with z|z
     ·exact lo _ (b6 z)
     ·rw[aw.mp z];exact hLO
    ·exact lo _ (bT z)
end
section
variable {P:aF} {w:World} {K:ah} {mg:Str→Option Value} {base:Heap} {a:Adr}
open PySem.NumText (AllDigits digitsVal)
theorem xcJ:∀c<128,Unicode.isDigit c=decide (48≤c∧c≤57):=by decide+kernel
theorem xaU{z:Str}(h:∀c∈z.cps.toList,c<128):PySem.Txt.isdigit z=zg z:=by
 unfold PySem.Txt.isdigit zg;rw[←Array.all_toList]
 congr 1
 rw[di,bA,bA];exact⟨fun q c hc=>by rw[←xcJ c (h c hc)];exact q c hc,fun q c hc=>by rw[xcJ c (h c hc)];exact q c hc⟩
def xb0(z y:Str):Prop:=(∃cs,z.cps.toList=45::cs∧y=⟨cs.toArray⟩)∨(¬z.cps.toList.head? =some 45∧y=z)
theorem xhX{z y:Str}{n:Int}(h:xb0 z y)(e:xw n=z):y.cps.toList=zp n.natAbs:=by
 rcases h with⟨cs,h1,rfl⟩|⟨h1,rfl⟩
 ·exact(vP h1 e).1
 ·exact(xaB h1 e).1
theorem xd5{n:Int}(h:Sm n):Sm (n.natAbs:Int):=by unfold Sm at*;lia
theorem xd6(n:Int):(xw (n.natAbs:Int)).cps.toList=zp n.natAbs:=by
 rw[yh,if_neg (by lia)];rfl
theorem zG{z y:Str}{n:Int}(h:xb0 z y)(hn:Sm n)(e:xw n=z):zg y=true∧y.length≤60∧z≠("-0":Str)∧xw (n.natAbs:Int)=y:=by
 have q:=xhX h e;have hl:y.length=y.cps.toList.length:=by simp[bR]
 refine⟨ub.mpr ⟨by rw[q];exact uH _,by rw[q];exact yn _⟩,?_,fun e0=>?_,yG (by rw[xd6,q])⟩
 ·rw[hl,q];exact vK (by unfold Sm at hn;lia) (by decide)
 ·have hz:z.cps.toList=45::[48]:=by rw[e0];rfl
  obtain⟨a,b⟩:=vP hz e;have:xw (n.natAbs:Int)=xw 0:=yG (by rw[xd6,←a];rfl);have:=zF (xd5 hn) (by unfold Sm;decide) this;lia
theorem xe5{y:Str}(h:zg y=true)(hl:y.length≤60):∃m:Nat,Sm (m:Int)∧PySem.intText? y=some (m:Int):=by
 obtain⟨a,b⟩:=ub.mp h;have hly:y.length=y.cps.toList.length:=by simp[bR]
 exact⟨_,by have:=xaq b (by lia);unfold Sm;lia,intText_digits b a (by lia)⟩
theorem xd7{z y:Str}{m:Nat}(h:xb0 z y)(hm:Sm (m:Int))(e:xw (m:Int)=y)(h0:z≠("-0":Str)):∃n,xw n=z∧Sm n:=by
 rcases h with⟨cs,h1,rfl⟩|⟨h1,rfl⟩
 ·have q:cs=zp m:=by
   have:=congrArg (fun s:Str=>s.cps.toList) e;simp only at this;rw[yh,if_neg (by lia)]at this;exact this.symm
  by_cases m0:m=0
  ·subst m0;exact absurd (yG (by rw[h1,q];rfl)) h0
  ·refine⟨-(m:Int),yG ?_,by unfold Sm at*;lia⟩;rw[yh,if_pos (by lia),h1,q,show(-(m:Int)).natAbs=m by lia]
 ·exact⟨_,e,hm⟩
theorem split_len(z:Str):(PySem.Txt.split z ⟨#[32]⟩).length=z.cps.toList.count 32+1:=by
 have:=xbY (uP z ⟨#[32]⟩) (gO z 32);rw[dq]at this;exact this.symm
theorem xcK{z p:Str}{c:Nat}(h:p∈PySem.Txt.split z ⟨#[32]⟩)(hc:c∈p.cps.toList):c∈z.cps.toList:=by
 rw[←dq z ⟨#[32]⟩];generalize PySem.Txt.split z ⟨#[32]⟩=ss at h
 induction ss with
 |nil=>cases h
 |cons x r ih=>
  cases r with
  |nil=>rw[aw.mp h]at hc;exact hc
  |cons y r=>
   rw[xY];rcases ax.mp h with rfl|h
   ·exact aU _ hc
   ·exact av _ (ak _ (ih h))
theorem xb1{z p:Str}(h:p∈PySem.Txt.split z ⟨#[32]⟩):p.length≤z.length:=by
 have hl:∀z:Str,z.length=z.cps.toList.length:=fun z=>by simp[bR]
 rw[hl,hl,←dq z ⟨#[32]⟩];generalize PySem.Txt.split z ⟨#[32]⟩=ss at h
 induction ss with
 |nil=>cases h
 |cons x r ih=>
  cases r with
  |nil=>rw[aw.mp h];exact aD _
  |cons y r=>
   rw[xY,aj,ao];rcases ax.mp h with rfl|h
   ·lia
   ·have:=ih h;lia
theorem xi3{z:Str}(h:∀c∈z.cps.toList,c<128):cq (.str z)=true:=by
 show z.cps.all (· <0x110000)=true;rw[←Array.all_toList,bA];intro c hc;have:=h c hc;exact decide_eq_true (by lia)
theorem LO.wok{z:Str}(h:LO z):WOk (PySem.Txt.split z ⟨#[32]⟩):=
 ⟨uP _ _,by rw[split_len];have:=h.sp;lia,fun p hp=>by have:=xb1 hp;have:=h.len;lia,fun p hp=>xi3 fun c hc=>(h.asc c (xcK hp hc)).1⟩
theorem uo{gs:List Str}(h0:gs≠[])(hl:gs.length≤23)(h:∀z∈gs,LO z):TOk (aZ ⟨#[10]⟩ gs)∧PySem.Txt.split (aZ ⟨#[10]⟩ gs) ⟨#[10]⟩=gs:=by
 have e:PySem.Txt.split (aZ ⟨#[10]⟩ gs) ⟨#[10]⟩=gs:=zk h0 fun p hp hc=>((h p hp).asc 10 hc).2 rfl;have h1:=uQ (d:=10) (B:=2000) gs fun p hp=>(h p hp).len;have h2:gs.length*2001≤23*2001:=bF _ hl;refine⟨⟨by rw[ag];lia,by rw[e];lia,fun y hy=>?_⟩,e⟩;rw[e]at hy;exact⟨by have:=(h y hy).len;rw[ag];lia,(h y hy).wok⟩
def vf(k:Nat)(ws:List Str)(l:Ln):Prop:=(k=0∧∃o n,Sm o∧Sm n∧l=⟨"paper",1,[o,n]⟩∧ws=l.ws)∨(0<k∧∃r,zT ws r∧l=r.ln)
structure LF(k:Nat)(w0:Str)(wt:List Str)(ns:List Int):Prop where
 a:k=0↔w0=("paper":Str)
 b:w0=("paper":Str)∨w0=("take":Str)∨w0=("put":Str)
 n:wt=ns.map xw
 s:∀x∈ns,Sm x
 p:w0=("paper":Str)→ns.length=2
 t:w0=("take":Str)→ns.length=3
 l:2≤ns.length
 z:0<k→∀x,ns[0]? =some x→0≤x
 u:0<k→w0=("take":Str)→∀x y,ns[1]? =some x→ns[2]? =some y→0≤x∧1≤y
theorem ju:("paper":Str)≠("take":Str):=by decide
theorem xb2:("paper":Str)≠("put":Str):=by decide
theorem xc8:("take":Str)≠("put":Str):=by decide
def KND:List (Key×V):=[(.inr "paper",.int 1),(.inr "take",.int 2),(.inr "put",.int 3)]
theorem xgZ{w0:Str}:(yT KND (.inr w0)).isSome=true↔(w0=("paper":Str)∨w0=("take":Str)∨w0=("put":Str)):=by
 constructor
 ·intro h
  by_cases h1:w0=("paper":Str)
  ·exact .inl h1
  by_cases h2:w0=("take":Str)
  ·exact .inr (.inl h2)
  by_cases h3:w0=("put":Str)
  ·exact .inr (.inr h3)
  have:yT KND (.inr w0)=none:=by
   unfold KND;simp[yT,bz h1,bz h2,bz h3,h1,h2,h3]
  rw[this]at h;cases h
 ·rintro(rfl|rfl|rfl)<;> decide
theorem vf.facts{k:Nat}{w0:Str}{wt:List Str}{l:Ln}(h:vf k (w0::wt) l):LF k w0 wt l.ns:=by
 rcases h with⟨rfl,o,n,ho,hn,rfl,e⟩|⟨hk,r,⟨ok,e,sm⟩,rfl⟩
 ·obtain⟨rfl,rfl⟩:=gD e;refine⟨⟨fun _=>rfl,fun _=>rfl⟩,.inl rfl,rfl,fun x hx=>?_,fun _=>rfl,fun e=>absurd e ju,(by decide:2≤2),fun z=>absurd z (by decide),fun z=>absurd z (by decide)⟩;rcases ax.mp hx with rfl|hx
  ·exact ho
  ·rw[aw.mp hx];exact hn
 ·cases r with
  |take to st c=>
   obtain⟨rfl,rfl⟩:=gD e;obtain⟨h1,h2,h3⟩:=ok;refine⟨⟨fun z=>by lia,fun z=>absurd z.symm ju⟩,.inr (.inl rfl),rfl,sm,fun z=>absurd z.symm ju,fun _=>rfl,(by decide:2≤3),fun _ x hx=>?_,fun _ _ x y hx hy=>?_⟩
   ·obtain rfl:=aE (show some to=some x from hx);exact h1
   ·obtain rfl:=aE (show some st=some x from hx);obtain rfl:=aE (show some c=some y from hy);exact⟨h2,h3⟩
  |put to sg=>
   obtain⟨rfl,rfl⟩:=gD e;obtain⟨h1,h2,h3,h4⟩:=ok;refine⟨⟨fun z=>by lia,fun z=>absurd z.symm xb2⟩,.inr (.inr rfl),rfl,sm,fun z=>absurd z.symm xb2,fun z=>absurd z.symm xc8,?_,fun _ x hx=>?_,fun _ z=>absurd z.symm xc8⟩
   ·show 2≤(to::sg).length;have:=dW.mpr h2;rw[ao];lia
   ·obtain rfl:=aE (show some to=some x from hx);exact h1
theorem LF.is{k:Nat}{w0:Str}{wt:List Str}{ns:List Int}(h:LF k w0 wt ns)(hl:ns.length≤20):∃l,vf k (w0::wt) l∧l.ns=ns∧yT KND (.inr w0)=some (.int l.c):=by
 rcases h.b with e|e|e
 ·subst e;have hk:=h.a.mpr rfl;have hn:=h.p rfl
  match ns,hn,h.s,h.n with
  |[o,n],_,hs,e=>exact⟨⟨"paper",1,[o,n]⟩,.inl ⟨hk,o,n,hs o (by simp),hs n (by simp),rfl,by rw[e];rfl⟩,rfl,(by decide:yT KND (.inr ("paper":Str))=some (.int 1))⟩
 ·subst e;have hk:0<k:=eD fun z=>absurd (h.a.mp z).symm ju;have hn:=h.t rfl;have hz:=h.z hk;have hu:=h.u hk rfl
  match ns,hn,h.s,h.n,hz,hu with
  |[to,st,c],_,hs,e,hz,hu=>exact⟨(xk.take to st c).ln,.inr ⟨hk,.take to st c,⟨⟨hz to rfl,(hu st c rfl rfl).1,(hu st c rfl rfl).2⟩,by rw[e];rfl,hs⟩,rfl⟩,rfl,(by decide:yT KND (.inr ("take":Str))=some (.int 2))⟩
 ·subst e;have hk:0<k:=eD fun z=>absurd (h.a.mp z).symm xb2;have hz:=h.z hk
  match ns,h.l,h.s,h.n,hz,hl with
  |to::s1::sg,_,hs,e,hz,hl=>exact⟨(xk.put to (s1::sg)).ln,.inr ⟨hk,.put to (s1::sg),⟨⟨hz to rfl,by simp,by simp at hl⊢;lia,fun x hx=>hs x (ak _ hx)⟩,by rw[e];rfl,hs⟩,rfl⟩,rfl,(by decide:yT KND (.inr ("put":Str))=some (.int 3))⟩
def uD(zs:List Str)(ls:List Ln):Prop:=ls.length=zs.length∧∀i z l,zs[i]? =some z→ls[i]? =some l→vf i (PySem.Txt.split z ⟨#[32]⟩) l
def xfS:Sp:=fun vs H Q _=>∃(l:Addr) (ss:List Str),vs=[.ref l]∧H l=some (.lst (ss.map V.str))∧1≤ss.length∧ss.length≤23∧(∀z∈ss,LO z)∧(∀ls,uD ss.dropLast ls→∀(g:Addr) (H':Hp),xb H H'→H' g=some (.lst ((ya ls).map V.int))→Q (.ref g) H')∧((¬∃ls,uD ss.dropLast ls)→∀H',xb H H'→Q .non H')
end
section
variable {P:aF} {w:World} {K:ah} {mg:Str→Option Value} {base:Heap} {a:Adr}
theorem xhY{x:Str}{ws:List Str}:inV (.str x) (ws.map V.str)=true↔x∈ws:=by
 unfold inV;rw[List.any_map,List.any_eq_true];constructor
 ·rintro⟨y,hy,e⟩;have:y=x:=by simpa [eqV]using e
  rw[←this];exact hy
 ·exact fun h=>⟨x,h,by simp[eqV]⟩
theorem xg0(ws:List Str):(ws.map V.str).all zK=true:=by
 rw[fS,bA];intro x _;rfl
theorem xez{H:Hp}{p q:Addr}{o:HO}(h1:H p=some o)(h2:H q=none):q≠p:=fun e=>by rw[e,h1]at h2;cases h2
theorem take_snoc{α:Type}{xs:List α}{i:Nat}{x:α}(h:xs[i]? =some x):xs.take (i+1)=xs.take i++[x]:=by
 rw[List.take_add_one,h];rfl
theorem xg1:vG [] KND=KND:=by decide
theorem vg{α:Type}:∀{xs ys:List α},xs.map some=ys.map some→xs=ys
 |[],[],_=>rfl
 |[],_::_,h=>by cases h
 |_::_,[],h=>by cases h
 |x::xs,y::ys,h=>by
  rw[aH,aH]at h;injection h with h1 h2;rw[aE h1,vg h2]
theorem jv{zs:List Str}{k:Nat}{z:Str}{ls:List Ln}{l:Ln}(h:uD (zs.take k) ls)(hz:zs[k]? =some z)(hl:vf k (PySem.Txt.split z ⟨#[32]⟩) l):uD (zs.take (k+1)) (ls++[l]):=by
 have hk:=(bx.mp hz).1;have h1:ls.length=k:=by rw[h.1,aI];lia
 rw[take_snoc hz];have h2:(zs.take k).length=k:=by rw[aI];lia
 refine⟨by rw[aj,aj,h1,h2];rfl,fun i z' l' hz' hl'=>?_⟩;rcases Nat.lt_trichotomy i k with hi|hi|hi
 ·rw[fG (by lia)]at hz' hl';exact h.2 i z' l' hz' hl'
 ·subst hi;rw[dN (by lia),h2,Nat.sub_self]at hz';rw[dN (by lia),h1,Nat.sub_self]at hl';obtain rfl:=aE (show some z=some z' from hz');obtain rfl:=aE (show some l=some l' from hl');exact hl
 ·rw[cm (by rw[aj,h2,bD];lia)]at hz';cases hz'
theorem xfT(T:Txt w K mg a):xA P w K mg base CX0 1 a.q1a a.xaf ["_law_lines"] xfS:=by
 refine T.q1f.ok xbQ (fun vs H Q E h=>?_) (fun cdv A outer s H vs Q E hr h=>?_)
 ·obtain⟨l,ss,rfl,_⟩:=h;rfl
 ·obtain⟨l,ss,rfl,hl,h1,h23,hlo,yes,no⟩:=h;have nd:=xbQ.nd;refine⟨_,(xh (xu (i:=1) nd rfl (aR rfl) (xiu (xa1 xm xf (xa1 xm xf (xa1 xm xf xit))) rfl rfl (by simp) (by decide)))
  (xh (xu (i:=2) nd rfl (aR rfl) (xD xc))
  (xh (ue cz rfl (xct (by rfl) T.q11 (xa (xj xc4 (xt xE (by rfl) T.q0m yc (xa (cv 0) xc)) xf) xc)) (yD (i:=3) nd rfl (aR rfl)) (xh (xu (i:=4) nd rfl (aR rfl) (yb PySem.F.plainAttrs_str PySem.F.slot_str_split PySem.F.type_str_split vn (xq xx (cv 0) (cv 3) (fun _ _=>rfl)) (xa xm xc)))
  (xh (xI (PW.pt (yU (xv xkm (zq zv (cv 3) xf) (zq zL (xq xx (cv 4) xf (fun _ _=>rfl)) xm)) (yU (xkn (xge (xh4 hr) (xq xx (cv 4) xf (fun _ _=>rfl)) (cv 1)) (by rfl)) (ud (xv xcp xm (cv 4) (by rfl)))))) (xi (xo zI)) xB)
  (xh (xu (i:=5) nd rfl (aR rfl) (xD xc))
  (xh (ue cz rfl (yE (xF xX (cv 4) (xM xf) xO)) (yD (i:=6) nd rfl (aR rfl)) (xh (xu (i:=7) nd rfl (aR rfl) (xh7 (yY (yb PySem.F.plainAttrs_str PySem.F.slot_str_startswith PySem.F.type_str_startswith jz (cv 6) (xa xm xc))) (xF xgw (cv 6) (xM xf) xO) (cv 6)))
  (xh (xI (PW.pt (yU (uJ (yY (xjz PySem.F.plainAttrs_str PySem.F.slot_str_isdigit PySem.F.type_str_isdigit xfA (cv 7)))) (yU (xv jN (xt uM (by rfl) T.q0m yc (xa (cv 7) xc)) xf) (yU (xv zL (cv 6) xm) (ud (xv xfn (cv 7) (xC yM (by rfl) T.q1r zr (xa (xC vm (by rfl) T.q1Z vI (xa (cv 7) xc)) xc)))))))) (xi (xo zI)) xB)
  (xi (yC (yb PySem.F.plainAttrs_list PySem.F.slot_list_append PySem.F.type_list_append yH (cv 5) (xa (xC vm (by rfl) T.q1Z vI (xa (cv 6) xc)) xc)))))))
  (xh (xI (PW.pt (yU (PW.pt (vH (xv zL (xq xx (cv 4) xf (fun _ _=>rfl)) xm) (uF (xv xby (xt xE (by rfl) T.q0m yc (xa (cv 5) xc)) xf)))) (yU (PW.pt (vH (xv zL (xq xx (cv 4) xf (fun _ _=>rfl)) xm) (uF (xv xby (xt xE (by rfl) T.q0m yc (xa (cv 5) xc)) xf)))) (ud (xv xa2 (xt xE (by rfl) T.q0m yc (xa (cv 5) xc)) xf))))) (xi (xo zI)) xB)
  (xh (xI (PW.pt (vH (xv jN (cv 3) xf) (uF (PW.pt (yU (xv xa2 (xq xx (cv 5) xf (fun _ _=>rfl)) xf) (ud (PW.pt (vH (xv zL (xq xx (cv 4) xf (fun _ _=>rfl)) xm) (uF (PW.pt (yU (xv xa2 (xq xx (cv 5) xf (fun _ _=>rfl)) xf) (ud (xv xa2 (xq xx (cv 5) xf (fun _ _=>rfl)) xf))))))))))))) (xi (xo zI)) xB)
  (xh (xI (PW.pt (vH (xv zL (xq xx (cv 4) xf (fun _ _=>rfl)) xm) (uF (xv (xbD hr.units) (zD (za (cap:=[]) (ys:=[]) rfl rfl rfl rfl rfl trivial (by decide+kernel)) rfl (yE (xF xX (cv 5) (xM xf) xO)) (fun _ _ _ _=>(cv 0)) (fun _ _ _ _=>(xiy (xv xjB (xt xh8 (by rfl) T.q2g xgo (xa (cv 0) xc)) (xj xbw xf xf))))) (xD xc))))) (xi (xo zI)) xB)
  (xi (xu (i:=2) nd rfl (aR rfl) (xj xW (xj xW (cv 2) (xD (xa (xis (xh4 hr) (cv 1) (xq xx (cv 4) xf (fun _ _=>rfl)) (fun _ _=>rfl)) xc))) (cv 5))))))))))))
  (xi (xo (cv 2)))))),?_⟩
  walk_at"w";intro dk hdk;walk_at"w";refine aY xn ⟨KND,rfl,by decide,?_⟩;rw[zC,xg1];generalize hU:upd H dk _=H1;have sH1:=xb.of_eq hdk hU;have edk:=xg hU;clear hU;walk_at"w";walk_at"ss";intro nl0 hnl0;generalize hUnl0:upd H1 nl0 _=H2;have sH2:=xb.of_eq hnl0 hUnl0;have enl0:=xg hUnl0;clear hUnl0;walk_at"w";walk_at"ss";refine⟨l,_,rfl,.inl (SqL.of ((sH1.trans sH2).at hl)),?_⟩;walk_at"w";rw[aa];obtain⟨n,hn⟩:∃n,ss.length=n+1:=⟨ss.length - 1,by lia⟩;have hdl:∀i,i<n→ss.dropLast[i]? =ss[i]? :=fun i hi=>by rw[List.getElem?_dropLast,if_pos (by lia)]
  rw[show((ss.length:Int) - 1)=(n:Int)by lia,show zM 0 (n:Int) 1=n by rw[xa5];lia];refine xcu (fun k σ G=>xb H G∧G dk=some (.dK KND)∧∃nl ls x3 x4 x5 x6 x7,σ=[some (.ref l),some (.ref dk),some (.ref nl),x3,x4,x5,x6,x7]∧G nl=some (.lst ((ya ls).map V.int))∧uD (ss.dropLast.take k) ls∧(ya ls).length≤k*21)
   ⟨sH1.trans sH2,sH2.at edk,nl0,[],_,_,_,_,_,rfl,enl0,⟨rfl,fun i z l _ h=>by cases h⟩,bV _⟩ (fun k σ G hk hP=>?_) (fun σ G hP=>?_)
  ·obtain⟨sG,edG,nl,ls,x3,x4,x5,x6,x7,rfl,eG,hls,hal⟩:=hP;have hk2:k<ss.length:=by lia
   have hz:LO ss[k]:=hlo _ (bY hk2);have hgz:ss.dropLast[k]? =some ss[k]:=by rw[hdl k hk,aB hk2]
   have atk:atI (ss.map V.str) (0+(k:Int)*1)=some (.str ss[k]):=by
    rw[show(0+(k:Int)*1)=(k:Int)by lia];exact xV (by rw[aJ,aB hk2];rfl)
   generalize ss[k]=z at hz hgz atk;obtain⟨w0,wt,hW⟩:∃w0 wt,PySem.Txt.split z ⟨#[32]⟩=w0::wt:=by
    cases h:PySem.Txt.split z ⟨#[32]⟩with
    |nil=>exact absurd h (uP _ _)
    |cons a b=>exact⟨a,b,rfl⟩
   have hwt:wt.length≤20:=by
    have:=split_len z;rw[hW,ao]at this;have:=hz.sp;lia
   have hasc:∀p∈w0::wt,∀c∈p.cps.toList,c<128:=fun p hp c hc=>(hz.asc c (xcK (by rw[hW];exact hp) hc)).1;have hpl:∀p∈w0::wt,p.length≤2000:=fun p hp=>aO (xb1 (by rw[hW];exact hp)) hz.len;have noK:(¬∃l,vf k (w0::wt) l)→∀G',xb G G'→Q .non G':=fun h G' s'=>no (fun⟨ls,h3,h4⟩=>by
    have hkl:k<ls.length:=by rw[h3,b5];lia
    have:=h4 k z ls[k] hgz (aB hkl);rw[hW]at this;exact h ⟨_,this⟩) G' (sG.trans s')
   have noF:(∀ns,¬LF k w0 wt ns)→∀G',xb G G'→Q .non G':=fun h=>noK fun⟨l,hl⟩=>h _ hl.facts;generalize hki:0+(k:Int)*1=ki at atk;walk_at"w";refine⟨l,_,_,.str z,rfl,rfl,SqL.of (sG.at hl),atk,?_⟩;walk_at"w";refine aY rfl ?_;walk_at"w";refine⟨_,_,rfl,rfl,by decide,by have:=hz.len;rw[ag];lia,?_⟩;rw[show(ai " ")=(⟨#[32]⟩:Str)from rfl,hW];intro wl hwl;generalize hUwl:upd G wl _=G1;have sG1:=xb.of_eq hwl hUwl;have ewl:=xg hUwl;clear hUwl;walk_at"w";have at0:atI ((w0::wt).map V.str) 0=some (.str w0):=xV (j:=0) rfl;refine⟨wl,_,_,.str w0,rfl,rfl,SqL.of ewl,at0,?_⟩;walk_at"w";refine⟨fun b0=>?_,fun b0=>?_⟩
   ·walk_at"w";refine⟨fun _=>?_,by walk_at"no"⟩;walk_at"w";refine noF (fun ns h=>?_) G1 sG1;have:decide (ki=0)=decide (w0=("paper":Str)):=decide_eq_decide.mpr (by rw[←h.a];lia);rw[show ai "paper"=("paper":Str)from rfl,this]at b0;simp at b0
   have ha:k=0↔w0=("paper":Str):=by
    have:=of_decide_eq_true (p:=decide (ki=0)=decide (w0=ai "paper")) (by rw[←bP];exact b0);rw[decide_eq_decide]at this;rw[←this];lia
   walk_at"w";refine⟨wl,_,_,.str w0,rfl,rfl,SqL.of ewl,at0,?_⟩;walk_at"w";refine⟨dk,_,rfl,uN.k (k:=.inr w0) (sG1.at edG),?_⟩;walk_at"w";refine⟨fun b1=>?_,fun b1=>?_⟩
   ·refine⟨fun _=>?_,by walk_at"no"⟩;walk_at"w";refine noF (fun ns h=>?_) G1 sG1;rw[xgZ.mpr h.b]at b1;cases b1
   have hb:=xgZ.mp (by simpa using b1);walk_at"w";refine⟨wl,_,rfl,.inl (SqL.of ewl),rfl,xg0 _,?_⟩;walk_at"w";refine⟨fun b2=>?_,fun b2=>?_⟩
   ·walk_at"w";refine noF (fun ns h=>?_) G1 sG1;have hm:=xhY.mp b2;rcases ax.mp hm with e|e
    ·rcases hb with z|z|z<;> (rw[←e]at z;exact absurd z (by decide))
    ·rw[h.n]at e;obtain⟨x,_,e⟩:=br.mp e;have:=yh x;rw[e]at this;have e3:(ai "").cps.toList=[]:=rfl;rw[e3]at this
     split at this
     ·cases this
     ·exact uH _ this.symm
   clear b0 b1 b2;walk_at"w";walk_at"ss";intro sl hsl;generalize hUsl:upd G1 sl _=G2;have sG2:=xb.of_eq hsl hUsl;have esl:=xg hUsl;clear hUsl;walk_at"w";walk_at"ss";refine⟨_,rfl,?_⟩;walk_at"w";refine⟨wl,_,rfl,SqL.of (sG2.at ewl),?_⟩;rw[xbl,aH,cf,cn];intro yl hyl;generalize hUyl:upd G2 yl _=G3;have sG3:=xb.of_eq hyl hUyl;have eyl:=xg hUyl;clear hUyl;walk_at"w";have hsl1:G1 sl=none:=hsl;have hyl:yl≠sl:=xez esl hyl;refine⟨yl,rfl,⟨_,SqL.of eyl⟩,?_⟩;refine zN (xs:=wt.map V.str) (fun j σ G4=>xb G1 G4∧G4 yl=some (.lst (wt.map V.str))∧∃ns x6 x7,σ=[some (.ref l),some (.ref dk),some (.ref nl),some (.int ki),some (.ref wl),some (.ref sl),x6,x7]∧G4 sl=some (.lst (ns.map V.int))∧wt.take j=ns.map xw∧∀x∈ns,Sm x)
    ⟨sG2.trans sG3,eyl,[],_,_,rfl,sG3.at esl,rfl,by simp⟩ (fun j σ G4 hj hP=>SqL.of hP.2.1) (fun j v σ G4 hx hP=>?_) (fun σ G4 hP=>?_)
   ·obtain⟨s4,ey4,ns,x6,x7,rfl,e4,hnw,hsm⟩:=hP;rw[aJ]at hx;obtain⟨x,hgx,rfl⟩:=aX.mp hx;have hxm:x∈w0::wt:=ak _ (aQ hgx);have hxl:=hpl x hxm;have hxa:=hasc x hxm;have hnl20:ns.length≤20:=by
     have:=congrArg bZ hnw;rw[aI,aa]at this;lia
    have noN:(¬∃n,xw n=x∧Sm n)→∀G',xb G1 G'→Q .non G':=fun h G' s'=>noF (fun ns' hf=>by
     have hx2:x∈ns'.map xw:=by rw[←hf.n];exact aQ hgx
     obtain⟨n,hn1,hn2⟩:=br.mp hx2;exact h ⟨n,hn2,hf.s n hn1⟩) G' (sG1.trans s')
    have hlx:x.length=x.cps.toList.length:=by simp[bR]
    walk_at"w";refine aY rfl ?_;walk_at"w";refine⟨_,_,rfl,rfl,?_⟩;rw[xbW x];walk_at"w";refine⟨fun b=>?_,fun b=>?_⟩
    ·have hd:=of_decide_eq_true b;obtain⟨cs,hzc⟩:∃cs,x.cps.toList=45::cs:=by
      cases hc:x.cps.toList with
      |nil=>rw[hc]at hd;cases hd
      |cons c r=>rw[hc]at hd;cases hd;exact⟨r,rfl⟩
     have hF:xb0 x ⟨cs.toArray⟩:=.inl ⟨cs,hzc,rfl⟩;have hya:∀c∈(⟨cs.toArray⟩:Str).cps.toList,c<128:=fun c hc=>hxa c (by rw[hzc];exact ak _ hc);have hyl2:(⟨cs.toArray⟩:Str).length≤2000:=by
      have:(⟨cs.toArray⟩:Str).length=cs.length:=by simp[bR]
      have:=congrArg bZ hzc;rw[ao]at this;lia
     walk_at"w";refine⟨_,rfl,?_⟩;walk_at"w";refine⟨_,rfl,by rw[ag];lia,?_⟩;rw[xe0 hzc];walk_at"w";refine aY rfl ?_;walk_at"w";refine⟨_,rfl,rfl,?_⟩;rw[xaU hya];walk_at"w";refine⟨fun b1=>?_,fun b1=>?_⟩
     ·refine⟨fun _=>?_,by walk_at"no"⟩;walk_at"w";refine noN (fun⟨n,e,hn⟩=>?_) G4 s4;rw[(zG hF hn e).1]at b1;cases b1
     have hfb:zg ⟨cs.toArray⟩=true:=by simpa using b1
     walk_at"w";refine⟨_,rfl,by rw[ag];lia,?_⟩;walk_at"w";refine⟨fun b2=>?_,fun b2=>?_⟩
     ·refine⟨fun _=>?_,by walk_at"no"⟩;walk_at"w";refine noN (fun⟨n,e,hn⟩=>?_) G4 s4;have:=(zG hF hn e).2.1;have:=of_decide_eq_true b2;lia
     have h60:(⟨cs.toArray⟩:Str).length≤60:=by have:=of_decide_eq_false b2;lia
     obtain⟨m,hm,hmi⟩:=xe5 hfb h60;walk_at"w";refine⟨fun b3=>?_,fun b3=>?_⟩
     ·refine⟨fun _=>?_,by walk_at"no"⟩;walk_at"w";refine noN (fun⟨n,e,hn⟩=>?_) G4 s4;exact(zG hF hn e).2.2.1 (of_decide_eq_true b3)
     have h0:=of_decide_eq_false b3;walk_at"w";refine⟨_,_,rfl,hmi,by lia,?_⟩;generalize hmm:(m:Int)=mi at hmi;walk_at"w";refine⟨_,_,rfl,rfl,fun i e=>by injection e with e;rw[←e,←hmm];exact zd hm,?_⟩;walk_at"w";refine⟨fun b4=>?_,fun b4=>?_⟩
     ·walk_at"w";refine noN (fun⟨n,e,hn⟩=>?_) G4 s4;have e1:=(zG hF hn e).2.2.2;have e2:=yN (xd5 hn);rw[e1,hmi]at e2;have:decide (⟨cs.toArray⟩=ai (toString mi))=true:=decide_eq_true (by rw[aE e2];exact e1.symm);rw[this]at b4;cases b4
     have b4':⟨cs.toArray⟩=xw mi:=of_decide_eq_true (p:=⟨cs.toArray⟩=ai (toString mi)) (by rw[←bP];exact b4);obtain⟨n,en,hns⟩:=xd7 hF hm (by rw[hmm];exact b4'.symm) h0;walk_at"w";refine aY (.inl ⟨rfl,_,SqL.of e4⟩) ?_;walk_at"w";refine⟨_,n,rfl,by rw[←en];exact yN hns,by have:=yz hns;rw[en]at this;lia,?_⟩;walk_at"w";refine⟨sl,_,_,rfl,rfl,e4,by rw[aa,ag];lia,?_⟩;refine⟨s4.put hsl1,by rw[xH hyl];exact ey4,ns++[n],_,_,rfl,by rw[xn,aA];rfl,?_,?_⟩
     ·rw[aA,←hnw,fw,en];exact take_snoc hgx
     ·intro x hx;rcases aN.mp hx with h|h
      ·exact hsm x h
      ·rw[aw.mp h];exact hns
    ·have hd:=of_decide_eq_false b;have hF:xb0 x x:=.inr ⟨hd,rfl⟩;have hya:=hxa;walk_at"w";refine aY rfl ?_;walk_at"w";refine⟨_,rfl,rfl,?_⟩;rw[xaU hya];walk_at"w";refine⟨fun b1=>?_,fun b1=>?_⟩
     ·refine⟨fun _=>?_,by walk_at"no"⟩;walk_at"w";refine noN (fun⟨n,e,hn⟩=>?_) G4 s4;rw[(zG hF hn e).1]at b1;cases b1
     have hfb:zg x=true:=by simpa using b1
     walk_at"w";refine⟨_,rfl,by rw[ag];lia,?_⟩;walk_at"w";refine⟨fun b2=>?_,fun b2=>?_⟩
     ·refine⟨fun _=>?_,by walk_at"no"⟩;walk_at"w";refine noN (fun⟨n,e,hn⟩=>?_) G4 s4;have:=(zG hF hn e).2.1;have:=of_decide_eq_true b2;lia
     have h60:(x:Str).length≤60:=by have:=of_decide_eq_false b2;lia
     obtain⟨m,hm,hmi⟩:=xe5 hfb h60;walk_at"w";refine⟨fun b3=>?_,fun b3=>?_⟩
     ·refine⟨fun _=>?_,by walk_at"no"⟩;walk_at"w";refine noN (fun⟨n,e,hn⟩=>?_) G4 s4;exact(zG hF hn e).2.2.1 (of_decide_eq_true b3)
     have h0:=of_decide_eq_false b3;walk_at"w";refine⟨_,_,rfl,hmi,by lia,?_⟩;generalize hmm:(m:Int)=mi at hmi;walk_at"w";refine⟨_,_,rfl,rfl,fun i e=>by injection e with e;rw[←e,←hmm];exact zd hm,?_⟩;walk_at"w";refine⟨fun b4=>?_,fun b4=>?_⟩
     ·walk_at"w";refine noN (fun⟨n,e,hn⟩=>?_) G4 s4;have e1:=(zG hF hn e).2.2.2;have e2:=yN (xd5 hn);rw[e1,hmi]at e2;have:decide (x=ai (toString mi))=true:=decide_eq_true (by rw[aE e2];exact e1.symm);rw[this]at b4;cases b4
     have b4':x=xw mi:=of_decide_eq_true (p:=x=ai (toString mi)) (by rw[←bP];exact b4);obtain⟨n,en,hns⟩:=xd7 hF hm (by rw[hmm];exact b4'.symm) h0;walk_at"w";refine aY (.inl ⟨rfl,_,SqL.of e4⟩) ?_;walk_at"w";refine⟨_,n,rfl,by rw[←en];exact yN hns,by have:=yz hns;rw[en]at this;lia,?_⟩;walk_at"w";refine⟨sl,_,_,rfl,rfl,e4,by rw[aa,ag];lia,?_⟩;refine⟨s4.put hsl1,by rw[xH hyl];exact ey4,ns++[n],_,_,rfl,by rw[xn,aA];rfl,?_,?_⟩
     ·rw[aA,←hnw,fw,en];exact take_snoc hgx
     ·intro x hx;rcases aN.mp hx with h|h
      ·exact hsm x h
      ·rw[aw.mp h];exact hns
   ·obtain⟨s4,ey4,ns,x6,x7,rfl,e4,hnw,hsm⟩:=hP;rw[aa,bj]at hnw;have hnl:ns.length=wt.length:=by rw[hnw,aa]
    have hnl20:ns.length≤20:=by lia
    have same:∀{ns'},LF k w0 wt ns'→ns'=ns:=fun{ns'} h=>by
     have e:=yw h.s;rw[←h.n,hnw,yw hsm]at e;exact(vg e).symm
    have noL:(LF k w0 wt ns→False)→∀G',xb G1 G'→Q .non G':=fun h G' s'=>noF (fun ns' hf=>h (by rw[←same hf];exact hf)) G' (sG1.trans s');have e0:∀{j x} {F:Hp},ns[j]? =some x→atI (ns.map V.int) ((j:Nat):Int)=some (.int x):=fun{j x F} h=>xV (by rw[aJ,h];rfl);rcases hb with e|e|e
    ·subst e;have hk0:k=0:=ha.mpr rfl;walk_at"w";refine⟨wl,_,_,.str _,rfl,rfl,SqL.of ((s4).at ewl),at0,?_⟩;walk_at"w";refine⟨fun _=>?_,fun z=>absurd z (by decide)⟩;walk_at"w";refine⟨sl,_,rfl,.inl (SqL.of e4),?_⟩;rw[aa];walk_at"w";refine⟨fun c=>?_,fun c=>?_⟩
     ·walk_at"w"
      first|(refine⟨fun _=>?_,by walk_at"no"⟩;walk_at"w")|skip
      exact noL (fun h=>by have:=h.p rfl;rw[decide_eq_true (by lia)]at c;cases c) G4 s4
     have hlen:ns.length=2:=by have:=of_decide_eq_true (p:=(ns.length:Int)=2) (by rw[←bP];exact c);lia
     walk_at"w";refine⟨wl,_,_,.str _,rfl,rfl,SqL.of ((s4).at ewl),at0,?_⟩;walk_at"w";refine⟨fun z=>absurd z (by decide),fun _=>?_⟩;walk_at"w";refine⟨by walk_at"no",fun _=>?_⟩;walk_at"w";refine⟨sl,_,rfl,.inl (SqL.of e4),?_⟩;rw[aa];walk_at"w";refine⟨fun c=>by have:=of_decide_eq_true c;lia,fun _=>?_⟩;walk_at"w";refine⟨fun c=>by have:=of_decide_eq_true c;lia,fun _=>?_⟩;walk_at"w";refine⟨by walk_at"no",fun _=>?_⟩;walk_at"w";refine⟨wl,_,_,.str _,rfl,rfl,SqL.of ((s4).at ewl),at0,?_⟩;walk_at"w";refine⟨fun z=>absurd z (by decide),fun _=>?_⟩;walk_at"w";refine⟨by walk_at"no",fun _=>?_⟩;have hLF:LF k _ wt ns:=⟨ha,.inl rfl,hnw,hsm,fun _=>hlen,fun e=>absurd e ju,by lia,fun z=>by lia,fun z=>by lia⟩;obtain⟨ln,hln,hlns,hlc⟩:=LF.is hLF hnl20;walk_at"w";refine⟨wl,_,_,.str _,rfl,rfl,SqL.of ((s4).at ewl),at0,?_⟩;walk_at"w";have hdg:=uN.k (k:=.inr (ai "paper")) ((sG1.trans (s4)).at edG);rw[hlc]at hdg;refine⟨dk,_,rfl,hdg,?_⟩;walk_at"w";walk_at"ss";intro q1 hq1;generalize hUq1:upd G4 q1 _=F1;have sF1:=xb.of_eq hq1 hUq1;have eq1:=xg hUq1;clear hUq1;walk_at"w";have hall:∀F,xb G4 F→F nl=some (.lst ((ya ls).map V.int)):=fun F h=>((sG1.trans (s4)).trans h).at eG;refine⟨nl,q1,_,_,rfl,rfl,hall _ sF1,eq1,by rw[aa,ag];simp;lia,?_⟩;intro q2 hq2;generalize hUq2:upd F1 q2 _=F2;have sF2:=xb.of_eq hq2 hUq2;have eq2:=xg hUq2;clear hUq2;walk_at"w";refine⟨q2,sl,_,_,rfl,rfl,eq2,(sF1.trans sF2).at e4,by rw[aj,aa,aa,ag];simp;lia,?_⟩;intro q3 hq3;generalize hUq3:upd F2 q3 _=F3;have sF3:=xb.of_eq hq3 hUq3;have eq3:=xg hUq3;clear hUq3;walk_at"w";have sF:xb G F3:=(sG1.trans (s4)).trans (sF1.trans (sF2.trans sF3));refine⟨sG.trans sF,sF.at edG,q3,ls++[ln],_,_,_,_,_,rfl,by rw[eq3,yI,hlns,aA,cR];rfl,jv hls hgz (by rw[hW];exact hln),by rw[yI,aj,ao,hlns];lia⟩
    ·subst e;have hk0:0<k:=eD fun z=>absurd (ha.mp z).symm ju;walk_at"w";refine⟨wl,_,_,.str _,rfl,rfl,SqL.of ((s4).at ewl),at0,?_⟩;walk_at"w";refine⟨fun z=>absurd z (by decide),fun _=>?_⟩;walk_at"w";refine⟨by walk_at"no",fun _=>?_⟩;walk_at"w";refine⟨wl,_,_,.str _,rfl,rfl,SqL.of ((s4).at ewl),at0,?_⟩;walk_at"w";refine⟨fun _=>?_,fun z=>absurd z (by decide)⟩;walk_at"w";refine⟨sl,_,rfl,.inl (SqL.of e4),?_⟩;rw[aa];walk_at"w";refine⟨fun c=>?_,fun c=>?_⟩
     ·walk_at"w"
      first|(refine⟨fun _=>?_,by walk_at"no"⟩;walk_at"w")|skip
      exact noL (fun h=>by have:=h.t rfl;rw[decide_eq_true (by lia)]at c;cases c) G4 s4
     have hlen:ns.length=3:=by have:=of_decide_eq_true (p:=(ns.length:Int)=3) (by rw[←bP];exact c);lia
     obtain⟨n0,n1,n2,rfl⟩:∃n0 n1 n2,ns=[n0,n1,n2]:=by
      match ns,hlen with
      |[a,b,c],_=>exact⟨a,b,c,rfl⟩
     walk_at"w";refine⟨sl,_,rfl,.inl (SqL.of e4),?_⟩;rw[aa];walk_at"w";refine⟨fun c=>by have:=of_decide_eq_true c;lia,fun _=>?_⟩;walk_at"w";refine⟨fun _=>?_,fun c=>by have:=of_decide_eq_false c;lia⟩;walk_at"w";refine⟨sl,_,_,.int n0,rfl,rfl,SqL.of e4,e0 (F:=G4) (j:=0) rfl,?_⟩;walk_at"w";refine⟨fun c=>?_,fun c=>?_⟩
     ·walk_at"w"
      first|(refine⟨fun _=>?_,by walk_at"no"⟩;walk_at"w")|skip
      exact noL (fun h=>by have:=h.z hk0 n0 rfl;have:=of_decide_eq_true c;lia) G4 s4
     have hn0:=of_decide_eq_false c;walk_at"w";refine⟨wl,_,_,.str _,rfl,rfl,SqL.of ((s4).at ewl),at0,?_⟩;walk_at"w";refine⟨fun _=>?_,fun z=>absurd z (by decide)⟩;walk_at"w";refine⟨sl,_,_,.int n1,rfl,rfl,SqL.of e4,e0 (F:=G4) (j:=1) rfl,?_⟩;walk_at"w";refine⟨fun c=>?_,fun c=>?_⟩
     ·walk_at"w"
      first|(refine⟨fun _=>?_,by walk_at"no"⟩;walk_at"w")|skip
      exact noL (fun h=>by have:=(h.u hk0 rfl n1 n2 rfl rfl).1;have:=of_decide_eq_true c;lia) G4 s4
     have hn1:=of_decide_eq_false c;walk_at"w";refine⟨sl,_,_,.int n2,rfl,rfl,SqL.of e4,e0 (F:=G4) (j:=2) rfl,?_⟩;walk_at"w";refine⟨fun c=>?_,fun c=>?_⟩
     ·walk_at"w"
      first|(refine⟨fun _=>?_,by walk_at"no"⟩;walk_at"w")|skip
      exact noL (fun h=>by have:=(h.u hk0 rfl n1 n2 rfl rfl).2;have:=of_decide_eq_true c;lia) G4 s4
     have hn2:=of_decide_eq_false c;walk_at"w";refine⟨wl,_,_,.str _,rfl,rfl,SqL.of ((s4).at ewl),at0,?_⟩;walk_at"w";refine⟨fun z=>absurd z (by decide),fun _=>?_⟩;walk_at"w";refine⟨by walk_at"no",fun _=>?_⟩;have hLF:LF k _ wt [n0,n1,n2]:=⟨ha,.inr (.inl rfl),hnw,hsm,fun e=>absurd e.symm ju,fun _=>rfl,(by decide:2≤3),fun _ x hx=>by obtain rfl:=aE (show some n0=some x from hx);lia,fun _ _ x y hx hy=>by obtain rfl:=aE (show some n1=some x from hx);obtain rfl:=aE (show some n2=some y from hy);lia⟩;obtain⟨ln,hln,hlns,hlc⟩:=LF.is hLF hnl20;walk_at"w";refine⟨wl,_,_,.str _,rfl,rfl,SqL.of ((s4).at ewl),at0,?_⟩;walk_at"w";have hdg:=uN.k (k:=.inr (ai "take")) ((sG1.trans (s4)).at edG);rw[hlc]at hdg;refine⟨dk,_,rfl,hdg,?_⟩;walk_at"w";walk_at"ss";intro q1 hq1;generalize hUq1:upd G4 q1 _=F1;have sF1:=xb.of_eq hq1 hUq1;have eq1:=xg hUq1;clear hUq1;walk_at"w";have hall:∀F,xb G4 F→F nl=some (.lst ((ya ls).map V.int)):=fun F h=>((sG1.trans (s4)).trans h).at eG;refine⟨nl,q1,_,_,rfl,rfl,hall _ sF1,eq1,by rw[aa,ag];simp;lia,?_⟩;intro q2 hq2;generalize hUq2:upd F1 q2 _=F2;have sF2:=xb.of_eq hq2 hUq2;have eq2:=xg hUq2;clear hUq2;walk_at"w";refine⟨q2,sl,_,_,rfl,rfl,eq2,(sF1.trans sF2).at e4,by rw[aj,aa,aa,ag];simp;lia,?_⟩;intro q3 hq3;generalize hUq3:upd F2 q3 _=F3;have sF3:=xb.of_eq hq3 hUq3;have eq3:=xg hUq3;clear hUq3;walk_at"w";have sF:xb G F3:=(sG1.trans (s4)).trans (sF1.trans (sF2.trans sF3));refine⟨sG.trans sF,sF.at edG,q3,ls++[ln],_,_,_,_,_,rfl,by rw[eq3,yI,hlns,aA,cR];rfl,jv hls hgz (by rw[hW];exact hln),by rw[yI,aj,ao,hlns];lia⟩
    ·subst e;have hk0:0<k:=eD fun z=>absurd (ha.mp z).symm xb2;walk_at"w";refine⟨wl,_,_,.str _,rfl,rfl,SqL.of ((s4).at ewl),at0,?_⟩;walk_at"w";refine⟨fun z=>absurd z (by decide),fun _=>?_⟩;walk_at"w";refine⟨by walk_at"no",fun _=>?_⟩;walk_at"w";refine⟨wl,_,_,.str _,rfl,rfl,SqL.of ((s4).at ewl),at0,?_⟩;walk_at"w";refine⟨fun z=>absurd z (by decide),fun _=>?_⟩;walk_at"w";refine⟨by walk_at"no",fun _=>?_⟩;walk_at"w";refine⟨sl,_,rfl,.inl (SqL.of e4),?_⟩;rw[aa];walk_at"w";refine⟨fun c=>?_,fun c=>?_⟩
     ·walk_at"w"
      first|(refine⟨fun _=>?_,by walk_at"no"⟩;walk_at"w")|skip
      exact noL (fun h=>by have:=h.l;have:=of_decide_eq_true c;lia) G4 s4
     obtain⟨n0,n1,nr,rfl⟩:∃n0 n1 nr,ns=n0::n1::nr:=by
      have:=of_decide_eq_false c
      match ns,this with
      |[],h=>exact absurd (by decide:((0:Nat):Int)<2) h
      |[_],h=>exact absurd (by decide:((1:Nat):Int)<2) h
      |a::b::r,_=>exact⟨a,b,r,rfl⟩
     walk_at"w";refine⟨fun _=>?_,fun c=>by have:=of_decide_eq_false c;lia⟩;walk_at"w";refine⟨sl,_,_,.int n0,rfl,rfl,SqL.of e4,e0 (F:=G4) (j:=0) rfl,?_⟩;walk_at"w";refine⟨fun c=>?_,fun c=>?_⟩
     ·walk_at"w"
      first|(refine⟨fun _=>?_,by walk_at"no"⟩;walk_at"w")|skip
      exact noL (fun h=>by have:=h.z hk0 n0 rfl;have:=of_decide_eq_true c;lia) G4 s4
     have hn0:=of_decide_eq_false c;walk_at"w";refine⟨wl,_,_,.str _,rfl,rfl,SqL.of ((s4).at ewl),at0,?_⟩;walk_at"w";refine⟨fun z=>absurd z (by decide),fun _=>?_⟩;walk_at"w";refine⟨by walk_at"no",fun _=>?_⟩;walk_at"w";refine⟨wl,_,_,.str _,rfl,rfl,SqL.of ((s4).at ewl),at0,?_⟩;walk_at"w";refine⟨fun _=>?_,fun z=>absurd z (by decide)⟩;walk_at"w";refine⟨_,rfl,?_⟩;walk_at"w";refine⟨sl,_,rfl,SqL.of e4,?_⟩;rw[xbl,aH,cf,cn];intro c1 hc1;generalize hUc1:upd G4 c1 _=G5;have sG5:=xb.of_eq hc1 hUc1;have ec1:=xg hUc1;clear hUc1;walk_at"w";refine⟨c1,rfl,⟨_,SqL.of ec1⟩,?_⟩;refine xfs (xs:=(n1::nr).map V.int) (fun _=>false) id (SqL.of ec1) (by rw[aa,ag];simp at hnl20⊢;lia) (fun v G6 hv s6 R hR=>?_) (fun v G6 hv hp s6 R hR=>by cases hp) (fun D5 G6 hD5 s6 e6=>?_)
     ·obtain⟨x,hx,rfl⟩:=br.mp hv;have hx3:Sm x:=hsm x (ak _ hx);walk_at"w";refine aY ⟨by decide,by decide,by decide⟩ ?_;have:=hR G6 (xb.refl _);rw[←show decide ((10:Int)^(Int.toNat 60)≤(x.natAbs:Int))=false from decide_eq_false (by unfold Sm at hx3;exact Int.not_le.mpr hx3)]at this;exact this
     rw[show(((n1::nr).map V.int).filter fun _=>false)=[]by simp]at e6;walk_at"w";walk_at"ss";intro y0 hy0;generalize hUy0:upd G6 y0 _=G7;have sG7:=xb.of_eq hy0 hUy0;have ey0:=xg hUy0;clear hUy0;walk_at"w";have s47:=sG5.trans (s6.trans sG7);refine⟨.list [],.list [],.lst (SqL.of (sG7.at e6)) .nil,.lst (SqL.of ey0) .nil,by decide,by decide,?_⟩;walk_at"w";refine⟨by walk_at"no",fun _=>?_⟩;have e47:=s47.at e4;have hn9:nr.length≤18:=by simp at hnl20;lia
     have hLF:LF k _ wt (n0::n1::nr):=⟨ha,.inr (.inr rfl),hnw,hsm,fun e=>absurd e.symm xb2,fun e=>absurd e.symm xc8,by simp,fun _ x hx=>by obtain rfl:=aE (show some n0=some x from hx);lia,fun _ e=>absurd e.symm xc8⟩;obtain⟨ln,hln,hlns,hlc⟩:=LF.is hLF hnl20;walk_at"w";refine⟨wl,_,_,.str _,rfl,rfl,SqL.of ((s4.trans s47).at ewl),at0,?_⟩;walk_at"w";have hdg:=uN.k (k:=.inr (ai "put")) ((sG1.trans (s4.trans s47)).at edG);rw[hlc]at hdg;refine⟨dk,_,rfl,hdg,?_⟩;walk_at"w";walk_at"ss";intro q1 hq1;generalize hUq1:upd G7 q1 _=F1;have sF1:=xb.of_eq hq1 hUq1;have eq1:=xg hUq1;clear hUq1;walk_at"w";have hall:∀F,xb G7 F→F nl=some (.lst ((ya ls).map V.int)):=fun F h=>((sG1.trans (s4.trans s47)).trans h).at eG;refine⟨nl,q1,_,_,rfl,rfl,hall _ sF1,eq1,by rw[aa,ag];simp;lia,?_⟩;intro q2 hq2;generalize hUq2:upd F1 q2 _=F2;have sF2:=xb.of_eq hq2 hUq2;have eq2:=xg hUq2;clear hUq2;walk_at"w";refine⟨q2,sl,_,_,rfl,rfl,eq2,(sF1.trans sF2).at e47,by rw[aj,aa,aa,ag];simp;lia,?_⟩;intro q3 hq3;generalize hUq3:upd F2 q3 _=F3;have sF3:=xb.of_eq hq3 hUq3;have eq3:=xg hUq3;clear hUq3;walk_at"w";have sF:xb G F3:=(sG1.trans (s4.trans s47)).trans (sF1.trans (sF2.trans sF3));refine⟨sG.trans sF,sF.at edG,q3,ls++[ln],_,_,_,_,_,rfl,by rw[eq3,yI,hlns,aA,cR];rfl,jv hls hgz (by rw[hW];exact hln),by rw[yI,aj,ao,hlns];lia⟩
  ·obtain⟨sG,edG,nl,ls,x3,x4,x5,x6,x7,rfl,eG,hls,hal⟩:=hP;rw[dA (by rw[b5];lia)]at hls;exact yes ls hls nl G sG eG
end
section
variable {P:aF} {w:World} {K:ah} {mg:Str→Option Value} {base:Heap} {a:Adr}
def xc9(gs:List Str):Prop:=∃o n rs,Pok o n rs∧xJ (lns o n rs)=gs
theorem xcL{gs:List Str}(h:xc9 gs):2≤gs.length:=by
 obtain⟨o,n,rs,_,rfl⟩:=h;rw[vO];unfold lns;rw[ao];lia
theorem xb3{o n:Int}{rs:List xk}(ok:Pok o n rs):uD (xJ (lns o n rs)).dropLast (lns o n rs):=by
 unfold xJ;rw[dM];refine⟨by rw[aa],fun i z l hz hl=>?_⟩;rw[aJ,hl]at hz;obtain rfl:=aE (show some l.txt=some z from hz);have hlk:=ok.lns l (aQ hl);rw[hlk.split];unfold lns at hl;cases i with
 |zero=>
  obtain rfl:=aE (show some _=some l from hl);exact .inl ⟨rfl,o,n,ok.o,ok.n,rfl,rfl⟩
 |succ i=>
  rw[bQ,aJ]at hl;obtain⟨r,hr,rfl⟩:=aX.mp hl;exact .inr ⟨by lia,r,⟨ok.ok r (aQ hr),rfl,hlk.2.2.2⟩,rfl⟩
theorem xi4{ls:List Ln}(h:∀l∈ls,∃r,zT l.ws r∧l=r.ln):∃rs:List xk,ls=rs.map xk.ln∧∀r∈rs,zT r.ln.ws r:=by
 induction ls with
 |nil=>exact⟨[],rfl,by simp⟩
 |cons l ls ih=>
  obtain⟨rs,e,q⟩:=ih fun x hx=>h x (ak _ hx);obtain⟨r,h1,rfl⟩:=h l aL;refine⟨r::rs,by rw[e];rfl,fun x hx=>?_⟩;rcases ax.mp hx with rfl|hx
  ·exact h1
  ·exact q x hx
theorem xjX{gs:List Str}{ls:List Ln}(h2:2≤gs.length)(h23:gs.length≤23)(hlo:∀z∈gs,LO z)(h:uD gs.dropLast ls)(hs:gs=gs.dropLast++[zR ls]):xc9 gs:=by
 have hl:ls.length=gs.length - 1:=by rw[h.1,b5]
 have txt:∀i z l,gs.dropLast[i]? =some z→ls[i]? =some l→vf i l.ws l∧z=l.txt:=fun i z l hz hl=>by
  have q:=h.2 i z l hz hl;have e:PySem.Txt.split z ⟨#[32]⟩=l.ws:=by
   rcases q with⟨_,_,_,_,_,_,e⟩|⟨_,r,⟨_,e,_⟩,rfl⟩
   ·exact e
   ·exact e
  rw[e]at q;refine⟨q,?_⟩;rw[←dq z ⟨#[32]⟩,e];rfl
 have pair:∀i l,ls[i]? =some l→∃z,gs.dropLast[i]? =some z:=fun i l hi=>by
  have:=(bx.mp hi).1;exact⟨_,aB (by rw[b5];lia)⟩
 have hmap:gs.dropLast=ls.map Ln.txt:=by
  apply List.ext_getElem?;intro i;rw[aJ];cases hi:ls[i]? with
  |none=>
   have:=List.getElem?_eq_none_iff.mp hi;rw[cm (by rw[b5];lia)];rfl
  |some l=>
   obtain⟨z,hz⟩:=pair i l hi;rw[hz,(txt i z l hz hi).2];rfl
 cases ls with
 |nil=>rw[cL]at hl;lia
 |cons l0 lt=>
  obtain⟨z0,hz0⟩:=pair 0 l0 rfl;rcases(txt 0 z0 l0 hz0 rfl).1 with⟨_,o,n,ho,hn,rfl,_⟩|⟨z,_⟩
  ·obtain⟨rs,e,hr⟩:=xi4 (ls:=lt) fun l hl=>by
    obtain⟨i,hi⟩:=gv hl;obtain⟨z,hz⟩:=pair (i+1) l (by rw[bQ];exact hi);rcases(txt (i+1) z l hz (by rw[bQ];exact hi)).1 with⟨z,_⟩|⟨_,r,h1,h2⟩
    ·lia
    ·exact⟨r,h1,h2⟩
   have hrl:rs.length≤40:=by
    have:=congrArg bZ e;rw[aa]at this;rw[ao]at hl;lia
   have hln:∀r∈rs,r.ln.ok:=fun r hrm=>by
    refine xcH (hr r hrm) ?_;have hmem:r.ln.txt∈gs:=by
     have:r.ln.txt∈gs.dropLast:=by rw[hmap,e,aH,cy];exact ak _ (br.mpr ⟨r,hrm,rfl⟩)
     exact ff _ this
    obtain⟨i,hi⟩:=gv (show r.ln∈lt by rw[e];exact br.mpr ⟨r,hrm,rfl⟩);obtain⟨z,hz⟩:=pair (i+1) r.ln (by rw[bQ];exact hi);have q:=h.2 (i+1) z r.ln hz (by rw[bQ];exact hi);have e2:PySem.Txt.split z ⟨#[32]⟩=r.ln.ws:=by
     rcases q with⟨_,_,_,_,_,_,e⟩|⟨_,r',⟨_,e,_⟩,e'⟩
     ·exact e
     ·rw[e'];exact e
    rw[←e2];exact(hlo z (ff _ (aQ hz))).wok.2.1
   refine⟨o,n,rs,⟨⟨ho,hn,hrl,hln⟩,fun r hrm=>(hr r hrm).1⟩,?_⟩;rw[hs,hmap,e];rfl
  ·lia
theorem xg2{k:Nat}{ws:List Str}{l l':Ln}(h:vf k ws l)(h':vf k ws l'):l=l':=by
 rcases h with⟨rfl,o,n,ho,hn,rfl,e⟩|⟨hk,r,h1,rfl⟩
 ·rcases h' with⟨_,o',n',ho',hn',rfl,e'⟩|⟨hk,_⟩
  ·rw[e]at e';unfold Ln.ws at e';simp only[aH,cJ,du,and_true,true_and]at e';rw[zF ho ho' e'.1,zF hn hn' e'.2]
  ·lia
 ·rcases h' with⟨z,_⟩|⟨_,r',h1',rfl⟩
  ·lia
  ·rw[xgV h1 h1']
theorem xhZ{zs:List Str}{ls ls':List Ln}(h:uD zs ls)(h':uD zs ls'):ls=ls':=by
 apply List.ext_getElem?;intro i
 by_cases hi:i<zs.length
 ·have h1:i<ls.length:=by rw[h.1];exact hi
  have h2:i<ls'.length:=by rw[h'.1];exact hi
  rw[aB h1,aB h2];exact congrArg some (xg2 (h.2 i _ _ (aB hi) (aB h1)) (h'.2 i _ _ (aB hi) (aB h2)))
 ·rw[cm (by rw[h.1];lia),cm (by rw[h'.1];lia)]
def xi5:Sp:=fun vs H Q _=>∃(l:Addr) (gs:List Str),vs=[.ref l]∧H l=some (.lst (gs.map V.str))∧gs≠[]∧gs.length≤23∧(∀z∈gs,LO z)∧∀(b:Bool) (H':Hp),xb H H'→(b=true↔xc9 gs)→Q (.bl b) H'
theorem xi6(T:Txt w K mg a):xA P w K mg base CX0 2 a.q1N a.xdF ["_law_lines"] xi5:=by
 refine T.q1Q.ok xeW (fun vs H Q E h=>?_) (fun cdv A outer s H vs Q E hr h=>?_)
 ·obtain⟨l,gs,rfl,_⟩:=h;rfl
 ·obtain⟨l,gs,rfl,hl,hne,h23,hlo,q⟩:=h;have nd:=xeW.nd;refine⟨_,(xh (xI (xv xa2 (xt xE (by rfl) T.q0m yc (xa (cv 0) xc)) xf) (xi (xo vi)) xB)
  (xh (xu (i:=1) nd rfl (aR rfl) (xp (xfT T) (hr.mono (by decide)) (by rfl) T.xgJ T.q1f.kp T.xgI .nil xy (xa (cv 0) xc)))
  (xh (xI (xjG (cv 1)) (xi (xo vi)) xB)
  (xh (xu (i:=2) nd rfl (aR rfl) xf)
  (xh (ue cz rfl (yE (cv 1)) (yD (i:=3) nd rfl (aR rfl)) (xi (xu (i:=2) nd rfl (aR rfl) (xj xQ (xj yk (xj yk (xj vj (cv 2) xf) (cv 3)) xf) xf))))
  (xi (xo (zq zL (xq xx (cv 0) (xau xaw xf) (fun _ _=>rfl)) (xj yK xm (xC yM (by rfl) T.q1r zr (xa (cv 2) xc))))))))))),?_⟩
  walk_at"w";refine⟨l,_,rfl,.inl (SqL.of hl),?_⟩;rw[aa];walk_at"w";refine⟨fun b=>?_,fun b=>?_⟩
  ·walk_at"w";exact q false H (xb.refl _) ⟨fun z=>(by cases z),fun z=>by have:=xcL z;have:=of_decide_eq_true b;lia⟩
  have h2:2≤gs.length:=by have:=of_decide_eq_false b;lia
  walk_at"w";refine⟨l,gs,rfl,hl,by lia,h23,hlo,fun ls hls g H1 s1 eg=>?_,fun hno H1 s1=>?_⟩
  ·walk_at"w";refine⟨by walk_at"no",fun _=>?_⟩;walk_at"w";refine⟨g,rfl,⟨_,SqL.of eg⟩,?_⟩;refine zN (xs:=(ya ls).map V.int) (fun i σ G1=>G1=H1∧∃x,σ=[some (.ref l),some (.ref g),some (.int (zf ((ya ls).take i))),x]) ⟨rfl,_,rfl⟩ (fun i σ G1 hi hP=>by obtain⟨rfl,_⟩:=hP;exact SqL.of eg) (fun i x σ G1 hx hP=>?_) (fun σ G1 hP=>?_)
   ·obtain⟨rfl,x0,rfl⟩:=hP;rw[aJ]at hx;obtain⟨m,hm,rfl⟩:=aX.mp hx;walk_at"w";walk_at"ss";refine⟨rfl,some (.int m),?_⟩;rw[take_snoc hm,xan];rfl
   ·obtain⟨rfl,x0,rfl⟩:=hP;rw[aa,bj];obtain⟨gi,gl,hgl⟩:∃gi gl,gs=gi++[gl]:=⟨_,_,(List.dropLast_concat_getLast hne).symm⟩;walk_at"w";refine⟨l,_,_,.str gl,rfl,rfl,SqL.of (s1.at hl),by rw[hgl,aA];exact xhj _ _,?_⟩;walk_at"w";refine⟨_,_,rfl,rfl,fun i e=>(by injection e with e;rw[←e];exact zd (xao _)),?_⟩;walk_at"w";have hS:=jq ls;refine⟨_,_,rfl,rfl,?_,?_⟩
    ·unfold zR at hS;rw[len_app]at hS;exact aO hS (by rw[ag];decide)
    have eS:ai "sum "++ai (toString (zf (ya ls)))=zR ls:=rfl;rw[eS];walk_at"w";refine q _ G1 s1 ?_;rw[decide_eq_true_iff];constructor
    ·intro e;refine xjX h2 h23 hlo hls ?_;rw[←e,hgl,dM]
    ·rintro⟨o,n,rs,ok,e⟩;have hu:=xb3 ok;rw[e]at hu;have e2:ls=lns o n rs:=xhZ hls hu;have e3:=e;unfold xJ at e3;rw[hgl,←e2]at e3;have:=(List.append_inj' e3 rfl).2;injection this with this;exact this.symm
  ·walk_at"w";refine⟨fun _=>?_,by walk_at"no"⟩;walk_at"w";exact q false H1 s1 ⟨fun z=>(by cases z),fun⟨o,n,rs,ok,e⟩=>absurd ⟨_,by rw[←e];exact xb3 ok⟩ hno⟩
end
section
variable {P:aF} {w:World} {K:ah} {mg:Str→Option Value} {base:Heap} {a:Adr}
def xjY(K:ah)(H:Hp)(v:V):Prop:=(∃t,xN K H v (.type t)∧bK K (.type t) (.type "str")=some false)∨∃z,v= .str z∧TOk z∧¬xbm z
def xfU(K:ah):Sp:=fun vs H Q _=>∃v,vs=[v]∧xjY K H v∧∀H',xb H H'→Q (.bl true) H'
theorem jw(T:Txt w K mg a):xA P w K mg base CX0 9 a.q1b a.xag ["_law_thing"] (xfU K):=by
 refine T.q0H.ok xbR (fun vs H Q E h=>?_) (fun cdv A outer s H vs Q E hr h=>?_)
 ·obtain⟨v,rfl,_⟩:=h;rfl
 ·obtain⟨v,rfl,hv,q⟩:=h;have nd:=xbR.nd;refine⟨_,(xh (xu (i:=1) nd rfl (aR rfl) vi)
  (xh (xhv (i:=2) ⟨rfl,rfl,rfl⟩ T.q1S (by rfl) T.xeo nd rfl rfl (fun _ _=>(xi (yC (vV ⟨rfl,rfl,rfl⟩ (uw T) (hr.mono (by decide)) (by rfl) T.va T.q0k.kp T.uZ .nil (xa (cv 0) xc))))) (fun _ _ _ _ ep=>(xh (xu (i:=3) nd rfl (aR rfl) (xh6 (xt (r:=xaz K _ _ _) (uh ep fun _ z=>av _ z) (by rfl) T.q0c xS (xa (cv 2) (xa (uE (v:=.ref a.q0b) (by rfl) T.xcc rfl) xc))) (xh6 (xt (r:=xaz K _ _ _) (uh ep fun _ z=>av _ z) (by rfl) T.q0c xS (xa (cv 2) (xa (uE (v:=.ref a.q0W) (by rfl) T.xhO rfl) xc))) (zJ (xt (r:=xaz K _ _ _) (uh ep fun _ z=>av _ z) (by rfl) T.q0c xS (xa (cv 2) (xa (uE (v:=.ref a.q0L) (by rfl) T.xhN rfl) xc)))))))
  (xi (xu (i:=1) nd rfl (aR rfl) (yZ (xt (r:=xaz K _ _ _) (uh ep fun _ z=>av _ z) (by rfl) T.q0c xS (xa (cv 2) (xa (uE (v:=.ref a.q0a) (by rfl) T.zE rfl) xc))) (yZ (xt (r:=xaz K _ _ _) (uh ep fun _ z=>av _ z) (by rfl) T.q0c xS (xa (cv 2) (xa (zU (v:=.ty "ValueError") (by rfl) T.q1U PyProof.Rows.Boot.«ValueError» rfl) xc))) (zJ (xgj (cv 3))))))))))
  (xi (xo (cv 1))))),?_⟩
  walk_at"w";refine⟨v,rfl,?_⟩;rcases hv with⟨t,h1,h2⟩|⟨z,rfl,h1,h2⟩
  ·refine .inl ⟨t,h1,h2,fun H1 s1=>?_⟩;refine⟨a.q0a,rfl,T.q0t,fun b hb=>?_⟩;walk_at"w";refine⟨a.q0a,_,_,_,rfl,.inl rfl,T.q0g,rfl,rfl,T.q00,?_⟩;walk_at"w";refine⟨by walk_at"no",fun _=>?_⟩;walk_at"w";refine⟨a.q0a,_,_,_,rfl,.inl rfl,T.q0g,rfl,rfl,T.q0Q,?_⟩;walk_at"w";refine⟨by walk_at"no",fun _=>?_⟩;walk_at"w";refine⟨a.q0a,_,_,_,rfl,.inl rfl,T.q0g,rfl,rfl,T.q0P,?_⟩;walk_at"w";refine⟨a.q0a,_,_,_,rfl,.inl rfl,T.q0g,rfl,rfl,T.q0I,?_⟩;walk_at"w";refine⟨fun _=>?_,by walk_at"no"⟩;walk_at"w";refine⟨a.q0a,_,_,_,rfl,.inl rfl,T.q0g,rfl,rfl,T.q0o,?_⟩;walk_at"w";refine⟨fun _=>?_,by walk_at"no"⟩;exact q H1 s1
  ·refine .inr ⟨z,rfl,h1,fun o n rs ok e=>absurd ⟨o,n,rs,ok,e⟩ h2,fun _ H1 s1=>?_⟩;refine⟨a.q0a,rfl,T.q0t,fun b hb=>?_⟩;walk_at"w";refine⟨a.q0a,_,_,_,rfl,.inl rfl,T.q0g,rfl,rfl,T.q00,?_⟩;walk_at"w";refine⟨by walk_at"no",fun _=>?_⟩;walk_at"w";refine⟨a.q0a,_,_,_,rfl,.inl rfl,T.q0g,rfl,rfl,T.q0Q,?_⟩;walk_at"w";refine⟨by walk_at"no",fun _=>?_⟩;walk_at"w";refine⟨a.q0a,_,_,_,rfl,.inl rfl,T.q0g,rfl,rfl,T.q0P,?_⟩;walk_at"w";refine⟨a.q0a,_,_,_,rfl,.inl rfl,T.q0g,rfl,rfl,T.q0I,?_⟩;walk_at"w";refine⟨fun _=>?_,by walk_at"no"⟩;walk_at"w";refine⟨a.q0a,_,_,_,rfl,.inl rfl,T.q0g,rfl,rfl,T.q0o,?_⟩;walk_at"w";refine⟨fun _=>?_,by walk_at"no"⟩;exact q H1 s1
end
section
variable {P:aF} {w:World} {K:ah} {mg:Str→Option Value} {base:Heap} {a:Adr}
def ILL:List xk:=[.take 0 0 0,.put (-1) [1],.take (-1) 0 1,.take 0 (-1) 1,.put 0 []]
theorem xg3{r:xk}(h:r∈ILL):r.ln.ok∧r.ln.ns.length≤7∧∀k wt,¬LF (k+1) r.ln.w wt r.ln.ns:=by
 have s0:Sm 0:=by unfold Sm;decide
 have s1:Sm 1:=by unfold Sm;decide
 have s2:Sm (-1):=by unfold Sm;decide
 unfold ILL at h;simp only[ax,bS,or_false]at h;rcases h with rfl|rfl|rfl|rfl|rfl
 ·refine⟨⟨by simp[zx,xk.ln],by simp[xk.ln],by simp[xk.ln],fun x hx=>?_⟩,by simp[xk.ln],fun k wt h=>?_⟩
  ·simp[xk.ln]at hx;subst hx;exact s0
  ·have:=(h.u (by lia) rfl 0 0 rfl rfl).2;lia
 ·refine⟨⟨by simp[zx,xk.ln],by simp[xk.ln],by simp[xk.ln],fun x hx=>?_⟩,by simp[xk.ln],fun k wt h=>?_⟩
  ·simp[xk.ln]at hx;rcases hx with rfl|rfl<;> assumption
  ·have:=h.z (by lia) (-1) rfl;lia
 ·refine⟨⟨by simp[zx,xk.ln],by simp[xk.ln],by simp[xk.ln],fun x hx=>?_⟩,by simp[xk.ln],fun k wt h=>?_⟩
  ·simp[xk.ln]at hx;rcases hx with rfl|rfl|rfl<;> assumption
  ·have:=h.z (by lia) (-1) rfl;lia
 ·refine⟨⟨by simp[zx,xk.ln],by simp[xk.ln],by simp[xk.ln],fun x hx=>?_⟩,by simp[xk.ln],fun k wt h=>?_⟩
  ·simp[xk.ln]at hx;rcases hx with rfl|rfl|rfl<;> assumption
  ·have:=(h.u (by lia) rfl (-1) 1 rfl rfl).1;lia
 ·refine⟨⟨by simp[zx,xk.ln],by simp[xk.ln],by simp[xk.ln],fun x hx=>?_⟩,by simp[xk.ln],fun k wt h=>?_⟩
  ·simp[xk.ln]at hx;subst hx;exact s0
  ·have:=h.l;simp[xk.ln]at this
theorem jx{gs:List Str}(h0:gs≠[])(h:∀z∈gs,LO z):xbm (aZ ⟨#[10]⟩ gs)↔xc9 gs:=by
 have e:PySem.Txt.split (aZ ⟨#[10]⟩ gs) ⟨#[10]⟩=gs:=zk h0 fun p hp hc=>((h p hp).asc 10 hc).2 rfl;constructor
 ·rintro⟨o,n,rs,ok,q⟩;refine⟨o,n,rs,ok,?_⟩;have:=xbU ok.lns;rw[q,e]at this;exact this.symm
 ·rintro⟨o,n,rs,ok,q⟩;exact⟨o,n,rs,ok,by unfold zl;rw[q]⟩
theorem xd8{o n:Int}{rs:List xk}(h:Pw o n rs)(h7:∀r∈rs,r.ln.ns.length≤7):∀z∈xJ (lns o n rs),LO z:=fun z hz=>by
 obtain⟨w,ns,q⟩:=xcI h h7 z hz;exact q.lo
theorem xh0{o n:Int}{r:xk}(hr:r∈ILL)(h:Pw o n [r]):¬xbm (zl (lns o n [r])):=by
 have hi:=xg3 hr;have h7:∀x∈[r],x.ln.ns.length≤7:=fun x hx=>by rw[aw.mp hx];exact hi.2.1
 intro q;have q:=(jx (by unfold xJ;simp) (xd8 h h7)).mp q;obtain⟨o',n',rs,ok,e⟩:=q;have q:=xb3 ok;have hd:(xJ (lns o' n' rs)).dropLast=(lns o n [r]).map Ln.txt:=by rw[e];unfold xJ;rw[dM]
 rw[hd]at q;have h1:1<(lns o' n' rs).length:=by rw[q.1,aa];unfold lns;simp
 have q1:=q.2 1 r.ln.txt _ rfl (aB h1);rw[hi.1.split]at q1;have f:=vf.facts q1;have e2:(lns o' n' rs)[1].ns=r.ln.ns:=by
  have e:=yw f.s;rw[←f.n,yw hi.1.2.2.2]at e;exact(vg e).symm
 rw[e2]at f;exact hi.2.2 0 _ f
def xjZ(K:ah):Sp:=fun vs H Q _=>∃(l:Addr) (ns:List Int) (c:Int),vs=[.ref l,.int c]∧SqL K H l (ns.map V.int)∧∀(z:Str) (H':Hp),xb H H'→TOk z→¬xbm z→Q (.str z) H'
theorem xj0(T:Txt w K mg a):xA P w K mg base CX0 2 a.q12 a.xfC ["_law_script","_law_cell"] (xjZ K):=by
 refine T.q13.ok xgK (fun vs H Q E h=>?_) (fun cdv A outer s H vs Q E hr h=>?_)
 ·obtain⟨l,ns,c,rfl,_⟩:=h;rfl
 ·obtain⟨l,ns,c,rfl,hl,q⟩:=h;have nd:=xgK.nd;refine⟨_,(@xh _ _ _ _ _ (@xu _ _ 2 _ _ _ _ nd rfl (aR rfl) (@xD _ _ _ _ (@xa _ _ _ _ _ (@xD _ _ _ _ (@xa _ _ _ _ _ (@yd _ _ _ _ _ (@xa _ _ _ _ _ (@xm _ _ _ _) (@xa _ _ _ _ _ (@xf _ _ _ _) (@xa _ _ _ _ _ (@xf _ _ _ _) (@xa _ _ _ _ _ (@xf _ _ _ _) (@xc _) rfl) rfl) rfl) rfl)) (@xc _) rfl)) (@xa _ _ _ _ _ (@xD _ _ _ _ (@xa _ _ _ _ _ (@yd _ _ _ _ _ (@xa _ _ _ _ _ (@xm _ _ _ _) (@xa _ _ _ _ _ (@xau _ _ _ _ _ _ xaw (@xf _ _ _ _)) (@xa _ _ _ _ _ (@yd _ _ _ _ _ (@xa _ _ _ _ _ (@xf _ _ _ _) (@xc _) rfl)) (@xc _) rfl) rfl) rfl)) (@xc _) rfl)) (@xa _ _ _ _ _ (@xD _ _ _ _ (@xa _ _ _ _ _ (@yd _ _ _ _ _ (@xa _ _ _ _ _ (@xm _ _ _ _) (@xa _ _ _ _ _ (@xau _ _ _ _ _ _ xaw (@xf _ _ _ _)) (@xa _ _ _ _ _ (@xf _ _ _ _) (@xa _ _ _ _ _ (@xf _ _ _ _) (@xc _) rfl) rfl) rfl) rfl)) (@xc _) rfl)) (@xa _ _ _ _ _ (@xD _ _ _ _ (@xa _ _ _ _ _ (@yd _ _ _ _ _ (@xa _ _ _ _ _ (@xm _ _ _ _) (@xa _ _ _ _ _ (@xf _ _ _ _) (@xa _ _ _ _ _ (@xau _ _ _ _ _ _ xaw (@xf _ _ _ _)) (@xa _ _ _ _ _ (@xf _ _ _ _) (@xc _) rfl) rfl) rfl) rfl)) (@xc _) rfl)) (@xa _ _ _ _ _ (@xD _ _ _ _ (@xa _ _ _ _ _ (@yd _ _ _ _ _ (@xa _ _ _ _ _ (@xm _ _ _ _) (@xa _ _ _ _ _ (@xf _ _ _ _) (@xa _ _ _ _ _ (@yd _ _ _ _ _ (@xc _)) (@xc _) rfl) rfl) rfl)) (@xc _) rfl)) (@xc _) rfl) rfl) rfl) rfl) rfl)) rfl (.inl rfl)) (xh (xu (i:=3) nd rfl (aR rfl) (xp (xbo T) (hr.mono (by decide)) (by rfl) T.xcb T.q1n.kp T.xca .nil xy (xa (yd (xa (xj xQ (xp (zS T) (hr.mono (by decide)) (by rfl) T.uk T.q0n.kp T.uj .nil xy (xa (cv 0) (xa xf xc))) xf) (xa (xj xQ (xp (zS T) (hr.mono (by decide)) (by rfl) T.uk T.q0n.kp T.uj .nil xy (xa (cv 0) (xa xf xc))) xf) (xa (xC yq (by rfl) T.q0S yL (xa (xq xx (cv 2) (xj xQ (cv 1) xf) (fun _ _=>rfl)) xc)) xc)))) xc))) (xi (xo (yb PySem.F.plainAttrs_str PySem.F.slot_str_join PySem.F.type_str_join yQ xm (xa (cv 3) xc)))))),?_⟩;walk_at"w";walk_at"ss";intro t1 ht1;generalize hUt1:upd H t1 _=H1;have sH1:=xb.of_eq ht1 hUt1;have et1:=xg hUt1;clear hUt1;walk_at"w";walk_at"ss";intro l1 hl1;generalize hUl1:upd H1 l1 _=H2;have sH2:=xb.of_eq hl1 hUl1;have el1:=xg hUl1;clear hUl1;walk_at"w";walk_at"ss";intro u2 hu2;generalize hUu2:upd H2 u2 _=H3;have sH3:=xb.of_eq hu2 hUu2;have eu2:=xg hUu2;clear hUu2;walk_at"w";walk_at"ss";intro t2 ht2;generalize hUt2:upd H3 t2 _=H4;have sH4:=xb.of_eq ht2 hUt2;have et2:=xg hUt2;clear hUt2;walk_at"w";walk_at"ss";intro l2 hl2;generalize hUl2:upd H4 l2 _=H5;have sH5:=xb.of_eq hl2 hUl2;have el2:=xg hUl2;clear hUl2;walk_at"w";walk_at"ss";intro t3 ht3;generalize hUt3:upd H5 t3 _=H6;have sH6:=xb.of_eq ht3 hUt3;have et3:=xg hUt3;clear hUt3;walk_at"w";walk_at"ss";intro l3 hl3;generalize hUl3:upd H6 l3 _=H7;have sH7:=xb.of_eq hl3 hUl3;have el3:=xg hUl3;clear hUl3;walk_at"w";walk_at"ss";intro t4 ht4;generalize hUt4:upd H7 t4 _=H8;have sH8:=xb.of_eq ht4 hUt4;have et4:=xg hUt4;clear hUt4;walk_at"w";walk_at"ss";intro l4 hl4;generalize hUl4:upd H8 l4 _=H9;have sH9:=xb.of_eq hl4 hUl4;have el4:=xg hUl4;clear hUl4;walk_at"w";walk_at"ss";intro u5 hu5;generalize hUu5:upd H9 u5 _=H10;have sH10:=xb.of_eq hu5 hUu5;have eu5:=xg hUu5;clear hUu5;walk_at"w";walk_at"ss";intro t5 ht5;generalize hUt5:upd H10 t5 _=H11;have sH11:=xb.of_eq ht5 hUt5;have et5:=xg hUt5;clear hUt5;walk_at"w";walk_at"ss";intro l5 hl5;generalize hUl5:upd H11 l5 _=H12;have sH12:=xb.of_eq hl5 hUl5;have el5:=xg hUl5;clear hUl5;walk_at"w";walk_at"ss";intro rl hrl;generalize hUrl:upd H12 rl _=H13;have sH13:=xb.of_eq hrl hUrl;have erl:=xg hUrl;clear hUrl;walk_at"w";have a12:=sH12.trans sH13;have a11:=sH11.trans a12;have a10:=sH10.trans a11;have a9:=sH9.trans a10;have a8:=sH8.trans a9;have a7:=sH7.trans a8;have a6:=sH6.trans a7;have a5:=sH5.trans a6;have a4:=sH4.trans a5;have a3:=sH3.trans a4;have a2:=sH2.trans a3;have a1:=sH1.trans a2;obtain⟨lk,tk,r,hat,elk,htk,hr⟩:∃lk tk r,atI [V.ref l1,V.ref l2,V.ref l3,V.ref l4,V.ref l5] (c%5)=some (.ref lk)∧H13 lk=some (.lst [.ref tk])∧TupAt K H13 tk r∧r∈ILL:=by
   obtain⟨k,ek,hk⟩:=yA c (n:=5) (by decide);rw[show c%5=(k:Int)from ek]
   match k,hk with
   |0,_=>exact⟨l1,t1,.take 0 0 0,rfl,a3.at el1,a2.at et1,by simp[ILL]⟩
   |1,_=>exact⟨l2,t2,.put (-1) [1],rfl,a6.at el2,⟨u2,a5.at et2,a4.at eu2⟩,by simp[ILL]⟩
   |2,_=>exact⟨l3,t3,.take (-1) 0 1,rfl,a8.at el3,a7.at et3,by simp[ILL]⟩
   |3,_=>exact⟨l4,t4,.take 0 (-1) 1,rfl,a10.at el4,a9.at et4,by simp[ILL]⟩
   |4,_=>exact⟨l5,t5,.put 0 [],rfl,sH13.at el5,⟨u5,a12.at et5,a11.at eu5⟩,by simp[ILL]⟩
  have hl13:=a1.seq hl;refine⟨l,ns,_,rfl,hl13,by decide,?_⟩;walk_at"w";walk_at"ss";refine⟨l,ns,_,rfl,hl13,by decide,?_⟩;walk_at"w";walk_at"ss";refine⟨rl,_,_,.ref lk,rfl,rfl,SqL.of erl,hat,?_⟩;walk_at"w";refine⟨lk,_,rfl,.inl ⟨SqL.of elk,?_⟩⟩;intro tt htt;generalize hUtt:upd H13 tt _=H14;have sH14:=xb.of_eq htt hUtt;have ett:=xg hUtt;clear hUtt;walk_at"w";walk_at"ss";intro p hp;generalize hUp:upd H14 p _=H15;have sH15:=xb.of_eq hp hUp;have ep:=xg hUp;clear hUp;walk_at"w";have bo:Sm (cellAt ns 0%301):=by
   have:=bI (cellAt ns 0) (b:=301) (by decide);have:=bt (cellAt ns 0) (b:=301) (by decide);unfold Sm;lia
  have bn:Sm (cellAt ns 1%301):=by
   have:=bI (cellAt ns 1) (b:=301) (by decide);have:=bt (cellAt ns 1) (b:=301) (by decide);unfold Sm;lia
  have hi:=xg3 hr;have pw:Pw (cellAt ns 0%301) (cellAt ns 1%301) [r]:=⟨bo,bn,by simp,fun x hx=>by rw[aw.mp hx];exact hi.1⟩;have pap:zy K H15 p (cellAt ns 0%301) (cellAt ns 1%301) [r]:=⟨tt,[tk],ep,sH15.at ett,.cons (htk.same (sH14.trans sH15)) .nil⟩;have nt:=xh0 hr pw;have lo:=xd8 pw (fun x hx=>by rw[aw.mp hx];exact hi.2.1);have tok:=(uo (gs:=xJ (lns (cellAt ns 0%301) (cellAt ns 1%301) [r])) (by unfold xJ;simp) (by rw[vO];unfold lns;simp) lo).1;have okl:=pw.lns;have ll:(lns (cellAt ns 0%301) (cellAt ns 1%301) [r]).length=2:=by unfold lns;simp
  refine⟨p,_,_,[r],rfl,pap,pw,fun sl H16 s16 es=>?_⟩;walk_at"w";refine aY rfl ?_;walk_at"w";have h1:=uA okl (by lia);have h2:=vo okl (by lia);refine⟨_,sl,xJ (lns (cellAt ns 0%301) (cellAt ns 1%301) [r]),rfl,rfl,SqL.of es,aO h1 (by rw[ag];decide),?_,?_⟩
  ·rw[xP];exact aO h2 (by rw[ag];decide)
  rw[xP];exact q _ H16 (a1.trans (sH14.trans (sH15.trans s16))) tok nt
end
section
variable {P:aF} {w:World} {K:ah} {mg:Str→Option Value} {base:Heap} {a:Adr}
def xh1(o n:Int)(rs:List xk):bq:=.tuple [.int o,.int n,.tuple (rs.map xk.dat)]
theorem zy.rp{H:Hp}{p:Addr}{o n:Int}{rs:List xk}(h:zy K H p o n rs):Rp K H (.ref p) (xh1 o n rs):=by
 obtain⟨t,ts,h1,h2,h3⟩:=h;exact .tup (SqT.of h1) (.cons (.int _) (.cons (.int _) (.cons (.tup (SqT.of h2) (xeX h3)) .nil)))
theorem xeA(o n:Int)(rs:List xk):c8 (xh1 o n rs)=true:=by
 unfold c8 xh1;have h1:=xdP rs;have h2:=xbS rs;have e1:cq (.tuple [.int o,.int n,.tuple (rs.map xk.dat)])=true:=by
  simp[cq,cS,h1]
 have e2:eA (.tuple [.int o,.int n,.tuple (rs.map xk.dat)])≤64:=by
  simp[eA,dr];lia
 rw[e1,decide_eq_true e2];rfl
def xd9(K:ah):Sp:=fun vs H Q _=>∃(l:Addr) (ns:List Int),vs=[.ref l]∧SqL K H l (ns.map V.int)∧ns.length≤63∧∀H',Q (.bl true) H'
theorem xid(c:Int):Sm (c%301):=by
 have:=bI c (b:=301) (by decide);have:=bt c (b:=301) (by decide);unfold Sm;lia
theorem xi7{o n o' n':Int}{rs rs':List xk}(h:Pok o n rs)(h':Pok o' n' rs')(e:zl (lns o' n' rs')=zl (lns o n rs)):o'=o∧n'=n∧rs'=rs:=(xd1 h' e).uniq (xd1 h rfl)
theorem xg4:LO (ai ""):=⟨fun c hc=>(by cases hc),by decide,by decide⟩
theorem xg5:TOk (ai "")∧¬xbm (ai ""):=by
 have h:∀z∈[ai ""],LO z:=fun z hz=>by rw[aw.mp hz];exact xg4
 have e:aZ ⟨#[10]⟩ [ai ""]=ai "":=yG rfl;have h1:=(uo (by simp) (by decide) h).1;have h2:=jx (by simp) h;rw[e]at h1 h2;refine⟨h1,fun z=>?_⟩;have:=xcL (h2.mp z);exact absurd this (by decide)
theorem xg6:TOk (ai "\n")∧¬xbm (ai "\n"):=by
 have h:∀z∈[ai "",ai ""],LO z:=fun z hz=>by
  simp only[ax,bS,or_false,or_self]at hz;rw[hz];exact xg4
 have e:aZ ⟨#[10]⟩ [ai "",ai ""]=ai "\n":=yG rfl;have h1:=(uo (by simp) (by decide) h).1;have h2:=jx (by simp) h;rw[e]at h1 h2;refine⟨h1,fun z=>?_⟩;obtain⟨o,n,rs,ok,q⟩:=h2.mp z;have t:=xb3 ok;rw[q]at t;have t0:=t.2 0 (ai "") _ rfl rfl;have es:PySem.Txt.split (ai "") ⟨#[32]⟩=[ai ""]:=by
  have:=zk (c:=32) (ss:=[ai ""]) (by simp) (fun p hp=>by rw[aw.mp hp];exact(by decide));rw[show aZ ⟨#[32]⟩ [ai ""]=ai "" from yG rfl]at this;exact this
 rw[es]at t0;have:=(vf.facts t0).a.mp rfl;exact absurd this (by decide)
theorem xj1(T:Txt w K mg a):xA P w K mg base CX0 10 a.q1V a.xfD ["_law_script"] (xd9 K):=by
 refine T.xc7.ok xgL (fun vs H Q E h=>?_) (fun cdv A outer s H vs Q E hr h=>?_)
 ·obtain⟨l,ns,rfl,_⟩:=h;rfl
 ·obtain⟨l,ns,rfl,hl,hlen,fin⟩:=h;have nd:=xgL.nd;refine⟨_,(xh (xu (i:=1) nd rfl (aR rfl) (yd (xa (xj xQ (xp (zS T) (hr.mono (by decide)) (by rfl) T.uk T.q0n.kp T.uj .nil xy (xa (cv 0) (xa xf xc))) xf) (xa (xj xQ (xp (zS T) (hr.mono (by decide)) (by rfl) T.uk T.q0n.kp T.uj .nil xy (xa (cv 0) (xa xf xc))) xf) (xa (xp (xiZ T) (hr.mono (by decide)) (by rfl) T.xjP T.q1P.kp T.xjO .nil xy (xa (cv 0) xc)) xc)))))
  (xh (xu (i:=2) nd rfl (aR rfl) (xp (xbo T) (hr.mono (by decide)) (by rfl) T.xcb T.q1n.kp T.xca .nil xy (xa (cv 1) xc)))
  (xh (xI (xv (xbD hr.units) (xp (uw T) (hr.mono (by decide)) (by rfl) T.va T.q0k.kp T.uZ .nil xh9 (xa (yb PySem.F.plainAttrs_str PySem.F.slot_str_join PySem.F.type_str_join yQ xm (xa (cv 2) xc)) xc)) (cv 1)) (xi (xo vi)) xB)
  (xh (xu (i:=3) nd rfl (aR rfl) (xp (zS T) (hr.mono (by decide)) (by rfl) T.uk T.q0n.kp T.uj .nil xy (xa (cv 0) (xa xf xc))))
  (xh (xI (uJ (yY (xp (jw T) (hr.mono (by decide)) (by rfl) T.xai T.q0H.kp T.xah .nil xy (xa (xp (xj0 T) (hr.mono (by decide)) (by rfl) T.xks T.q13.kp T.xkr .nil xy (xa (cv 0) (xa (xj yg (cv 3) xf) xc))) xc)))) (xi (xo vi)) xB)
  (xh (xI (xv zv (xj xQ (cv 3) xf) xf) (xi (xo (xp (jw T) (hr.mono (by decide)) (by rfl) T.xai T.q0H.kp T.xah .nil xy (xa (xq xx (xD (xa zI (xa xf (xa (cv 2) (xa vi (xa xm (xa xm xc))))))) (xj xQ (xj yg (cv 3) xf) xf) (fun _ _=>rfl)) xc)))) xB)
  (xh (xu (i:=4) nd rfl (aR rfl) (xq xx (xD (xa (xp (xfR T) (hr.mono (by decide)) (by rfl) T.xgH T.q1e.kp T.xgG .nil xy (xa (cv 2) (xa (xj yg (cv 3) xf) xc))) (xa (xp (xgY T) (hr.mono (by decide)) (by rfl) T.xhM T.q1z.kp T.xhL .nil xy (xa (cv 2) (xa (xj yg (cv 3) xf) xc))) xc))) (xC xf4 (by rfl) T.q1Z vI (xa (zq jN (xj xQ (cv 3) xf) xf) xc)) (fun _ _=>rfl)))
  (xh (xI (uJ (yY (xp (xi6 T) (hr.mono (by decide)) (by rfl) T.xjR T.q1Q.kp T.xjQ .nil xy (xa (cv 4) xc)))) (xi (xo (xp (jw T) (hr.mono (by decide)) (by rfl) T.xai T.q0H.kp T.xah .nil xy (xa (yb PySem.F.plainAttrs_str PySem.F.slot_str_join PySem.F.type_str_join yQ xm (xa (cv 4) xc)) xc)))) xB)
  (xi (xo (zq zL (yb PySem.F.plainAttrs_str PySem.F.slot_str_join PySem.F.type_str_join yQ xm (xa (xp (xbo T) (hr.mono (by decide)) (by rfl) T.xcb T.q1n.kp T.xca .nil xy (xa (xp (uw T) (hr.mono (by decide)) (by rfl) T.va T.q0k.kp T.uZ .nil xh9 (xa (yb PySem.F.plainAttrs_str PySem.F.slot_str_join PySem.F.type_str_join yQ xm (xa (cv 4) xc)) xc)) xc)) xc)) (yb PySem.F.plainAttrs_str PySem.F.slot_str_join PySem.F.type_str_join yQ xm (xa (cv 4) xc))))))))))))),?_⟩
  walk_at"w";refine⟨l,ns,_,rfl,hl,by decide,?_⟩;walk_at"w";walk_at"ss";refine⟨l,ns,_,rfl,hl,by decide,?_⟩;walk_at"w";walk_at"ss";refine⟨l,ns,rfl,hl,hlen,fun t ts rs H1 s1 et hts few hok=>?_⟩;walk_at"w";walk_at"ss";intro p hp;generalize hUp:upd H1 p _=H2;have sH2:=xb.of_eq hp hUp;have ep:=xg hUp;clear hUp;walk_at"w";have bo:=xid (cellAt ns 0);have bn:=xid (cellAt ns 1)
  replace ep:H2 p=some (.tup [.int (cellAt ns 0%301),.int (cellAt ns 1%301),.ref t]):=ep
  generalize cellAt ns 0%301=o at bo ep;generalize cellAt ns 1%301=n at bn ep;have pok:Pok o n rs:=⟨⟨bo,bn,by lia,fun r hr=>(hok r hr).2.1⟩,fun r hr=>(hok r hr).1⟩;have h7:∀r∈rs,r.ln.ns.length≤7:=fun r hr=>(hok r hr).2.2;have pap:zy K H2 p o n rs:=⟨t,ts,ep,sH2.at et,L2.Paired.imp' (fun _ _ z=>z.same sH2) hts⟩;have okl:=pok.lns;have ll:(lns o n rs).length=rs.length+1:=by unfold lns;simp
  have hlines:=xcI pok.toPw h7;have lo:=xd8 pok.toPw h7;have hrn:=vO (lns o n rs);refine⟨p,o,n,rs,rfl,pap,pok.toPw,fun sl H3 s3 es=>?_⟩;walk_at"w";refine aY rfl ?_;walk_at"w";have h1:=aO (uA okl (by lia)) (by rw[ag];decide:54726≤ay);have h2:=aO (vo okl (by lia)) (by rw[ag];decide:54726≤ay);refine⟨_,sl,xJ (lns o n rs),rfl,rfl,SqL.of es,h1,by rw[xP];exact h2,?_⟩;rw[xP];have tok:=(uo (gs:=xJ (lns o n rs)) (by unfold xJ;simp) (by rw[hrn];lia) lo).1;walk_at"w";refine⟨_,rfl,.inr ⟨_,rfl,tok,fun o' n' rs' ok' e' p' H4 s4 pap'=>?_,fun hn=>absurd ⟨o,n,rs,pok,rfl⟩ hn⟩⟩;obtain⟨rfl,rfl,rfl⟩:=xi7 pok ok' e';walk_at"w";refine xht pap'.rp (pap.same (s3.trans s4)).rp (xeA _ _ _) ?_;walk_at"w";refine⟨by walk_at"no",fun _=>?_⟩;have hl4:=((s1.trans sH2).trans (s3.trans s4)).seq hl;walk_at"w";refine⟨l,ns,_,rfl,hl4,by decide,?_⟩;walk_at"w";generalize cellAt ns 2=c;walk_at"ss";refine⟨l,ns,_,rfl,hl4,fun z H5 s5 tz nz=>?_⟩;walk_at"w";refine⟨_,rfl,.inr ⟨z,rfl,tz,nz⟩,fun H6 s6=>?_⟩;walk_at"w";refine⟨by walk_at"no",fun _=>?_⟩;have es6:=(s4.trans (s5.trans s6)).at es;walk_at"w";walk_at"ss";refine⟨fun b=>?_,fun b=>?_⟩
  ·walk_at"w";walk_at"ss";intro dl hdl;generalize hUdl:upd H6 dl _=H7;have sH7:=xb.of_eq hdl hUdl;have edl:=xg hUdl;clear hUdl;walk_at"w";walk_at"ss";obtain⟨v,hat,hv⟩:∃v,atI [V.non,V.int 7,V.ref sl,V.bl true,V.str (ai ""),V.str (ai "\n")] (c / 7%6)=some v∧xjY K H7 v:=by
    obtain⟨k,ek,hk⟩:=yA (c / 7) (n:=6) (by decide);rw[show c / 7%6=(k:Int)from ek]
    match k,hk with
    |0,_=>exact⟨_,rfl,.inl ⟨_,.non,rfl⟩⟩
    |1,_=>exact⟨_,rfl,.inl ⟨_,.int _,rfl⟩⟩
    |2,_=>exact⟨_,rfl,.inl ⟨_,.lst (sH7.at es6),rfl⟩⟩
    |3,_=>exact⟨_,rfl,.inl ⟨_,.bl _,rfl⟩⟩
    |4,_=>exact⟨_,rfl,.inr ⟨_,rfl,xg5.1,xg5.2⟩⟩
    |5,_=>exact⟨_,rfl,.inr ⟨_,rfl,xg6.1,xg6.2⟩⟩
   refine⟨dl,_,_,v,rfl,rfl,SqL.of edl,hat,?_⟩;walk_at"w";refine⟨v,rfl,hv,fun H8 s8=>?_⟩;exact fin H8
  ·walk_at"w";walk_at"ss";refine⟨sl,_,_,rfl,es6,by lia,by lia,hlines,fun g1 gs1 H7 s7 eg1 hn1 hb1 hlo1=>?_⟩;walk_at"w";walk_at"ss";refine⟨sl,_,_,rfl,s7.at es6,by lia,by lia,hlines,fun g2 gs2 H8 s8 eg2 hn2 hb2 hlo2=>?_⟩;walk_at"w";walk_at"ss";intro dl hdl;generalize hUdl:upd H8 dl _=H9;have sH9:=xb.of_eq hdl hUdl;have edl:=xg hUdl;clear hUdl;walk_at"w";walk_at"ss";refine .inr ⟨_,rfl,?_⟩;walk_at"w";obtain⟨g,gs,hat,eg,hne,h23,hlo⟩:∃g gs,atI [V.ref g1,V.ref g2] (if decide (3<c%7)then 1 else 0)=some (.ref g)∧H9 g=some (.lst (gs.map V.str))∧gs≠[]∧gs.length≤23∧∀z∈gs,LO z:=by
    cases decide (3<c%7)with
    |true=>exact⟨g2,gs2,rfl,sH9.at eg2,hn2,hb2,hlo2⟩
    |false=>exact⟨g1,gs1,rfl,(s8.trans sH9).at eg1,hn1,hb1,hlo1⟩
   refine⟨dl,_,_,.ref g,rfl,rfl,SqL.of edl,hat,?_⟩;walk_at"w";obtain⟨htk,hsp⟩:=uo hne h23 hlo;have hiff:=jx hne hlo;have hj0:=vX (d:=10) (B:=2000) gs fun p hp=>(hlo p hp).len;have hj1:uO ⟨#[10]⟩ gs≤ay:=by
    have:gs.length*2001≤23*2001:=bF _ h23;rw[ag];lia
   have hj2:(aZ ⟨#[10]⟩ gs).length≤ay:=by have:=htk.1;lia
   refine⟨g,gs,rfl,eg,hne,h23,hlo,fun bb H10 s10 hbb=>?_⟩;walk_at"w";cases bb with
   |false=>
    walk_at"w";refine⟨fun _=>?_,by walk_at"no"⟩;walk_at"w";refine aY rfl ?_;walk_at"w";refine⟨_,g,gs,rfl,rfl,SqL.of (s10.at eg),hj1,by rw[xP];exact hj2,?_⟩;rw[xP];walk_at"w";refine⟨_,rfl,.inr ⟨_,rfl,htk,fun z=>?_⟩,fun H11 s11=>?_⟩
    ·have:=hbb.mpr (hiff.mp z);cases this
    ·exact fin H11
   |true=>
    walk_at"w";refine⟨by walk_at"no",fun _=>?_⟩;have tx:=hbb.mp rfl;walk_at"w";refine aY rfl ?_;walk_at"w";refine aY rfl ?_;walk_at"w";refine⟨_,g,gs,rfl,rfl,SqL.of (s10.at eg),hj1,by rw[xP];exact hj2,?_⟩;rw[xP];walk_at"w";refine⟨_,rfl,.inr ⟨_,rfl,htk,fun o' n' rs' ok' e' p' H11 s11 pap'=>?_,fun hn=>absurd (hiff.mpr tx) hn⟩⟩;walk_at"w";refine⟨p',o',n',rs',rfl,pap',ok'.toPw,fun sl2 H12 s12 es2=>?_⟩;walk_at"w";have ll2:(lns o' n' rs').length≤41:=by unfold lns;have:=ok'.few;simp;lia
    have h1':=aO (uA ok'.lns ll2) (by rw[ag];decide:54726≤ay);have h2':=aO (vo ok'.lns ll2) (by rw[ag];decide:54726≤ay);refine⟨_,sl2,xJ (lns o' n' rs'),rfl,rfl,SqL.of es2,h1',by rw[xP];exact h2',?_⟩;rw[xP];walk_at"w";refine aY rfl ?_;walk_at"w";refine⟨_,g,gs,rfl,rfl,SqL.of ((s10.trans (s11.trans s12)).at eg),hj1,by rw[xP];exact hj2,?_⟩;rw[xP];walk_at"w";have e9:decide (aZ (ai "\n") (xJ (lns o' n' rs'))=aZ (ai "\n") gs)=true:=decide_eq_true e';show Q (.bl (decide (aZ (ai "\n") (xJ (lns o' n' rs'))=aZ (ai "\n") gs))) H12;rw[e9];exact fin H12
end
abbrev NI(K:ah)(x:Str)(f:Addr):Prop:=ez K bM x=some (some (.ref f))
abbrev NN(K:ah)(x:Str):Prop:=ez K bM x=some none
def FL(K:ah)(x q:Str)(st:Stmt)(f:Addr):Prop:=∃fd,Fun K x q st f fd
theorem yB{n:Nat}{us:List Value}(h:us.length=n+1):∃u r,us=u::r∧r.length=n:=by
 cases us with
 |nil=>cases h
 |cons u r=>exact⟨u,r,rfl,Nat.succ.inj h⟩
theorem xaC{us:List Value}(h:us.length=0):us=[]:=eJ.mp h
theorem bn1{K:ah}{x q:Str}{st:Stmt}{f:Addr}{fd:aK}{p1:Str}(F:Fun K x q st f fd)(h:∀(kV doc pm:Value) (an:Option Addr) (cdv ct u1:Value),fO (eP x q (zi st) (yr st) (xl st) .none kV doc pm an cdv ct) ⟨[u1],[]⟩=pure [(p1,u1)]:=by intros;exact rfl):Binds K fd [p1] []:=by
 refine F.binds fun kV doc pm an cdv ct us hl=>?_;obtain⟨u1,r1,rfl,k1⟩:=yB hl;obtain rfl:=xaC k1;exact h kV doc pm an cdv ct u1
theorem bn2{K:ah}{x q:Str}{st:Stmt}{f:Addr}{fd:aK}{p1 p2:Str}(F:Fun K x q st f fd)(h:∀(kV doc pm:Value) (an:Option Addr) (cdv ct u1 u2:Value),fO (eP x q (zi st) (yr st) (xl st) .none kV doc pm an cdv ct) ⟨[u1,u2],[]⟩=pure [(p1,u1),(p2,u2)]:=by intros;exact rfl):Binds K fd [p1,p2] []:=by
 refine F.binds fun kV doc pm an cdv ct us hl=>?_;obtain⟨u1,r1,rfl,k1⟩:=yB hl;obtain⟨u2,r2,rfl,k2⟩:=yB k1;obtain rfl:=xaC k2;exact h kV doc pm an cdv ct u1 u2
theorem bn3{K:ah}{x q:Str}{st:Stmt}{f:Addr}{fd:aK}{p1 p2 p3:Str}(F:Fun K x q st f fd)(h:∀(kV doc pm:Value) (an:Option Addr) (cdv ct u1 u2 u3:Value),fO (eP x q (zi st) (yr st) (xl st) .none kV doc pm an cdv ct) ⟨[u1,u2,u3],[]⟩=pure [(p1,u1),(p2,u2),(p3,u3)]:=by intros;exact rfl):Binds K fd [p1,p2,p3] []:=by
 refine F.binds fun kV doc pm an cdv ct us hl=>?_;obtain⟨u1,r1,rfl,k1⟩:=yB hl;obtain⟨u2,r2,rfl,k2⟩:=yB k1;obtain⟨u3,r3,rfl,k3⟩:=yB k2;obtain rfl:=xaC k3;exact h kV doc pm an cdv ct u1 u2 u3
theorem bn4{K:ah}{x q:Str}{st:Stmt}{f:Addr}{fd:aK}{p1 p2 p3 p4:Str}(F:Fun K x q st f fd)(h:∀(kV doc pm:Value) (an:Option Addr) (cdv ct u1 u2 u3 u4:Value),fO (eP x q (zi st) (yr st) (xl st) .none kV doc pm an cdv ct) ⟨[u1,u2,u3,u4],[]⟩=pure [(p1,u1),(p2,u2),(p3,u3),(p4,u4)]:=by intros;exact rfl):Binds K fd [p1,p2,p3,p4] []:=by
 refine F.binds fun kV doc pm an cdv ct us hl=>?_;obtain⟨u1,r1,rfl,k1⟩:=yB hl;obtain⟨u2,r2,rfl,k2⟩:=yB k1;obtain⟨u3,r3,rfl,k3⟩:=yB k2;obtain⟨u4,r4,rfl,k4⟩:=yB k3;obtain rfl:=xaC k4;exact h kV doc pm an cdv ct u1 u2 u3 u4
theorem xj2{l:W.OpenLaw}{w:World}{K:ah}{h:Heap}{mg:Str→Option Value}{fa:Addr}{q01 q0D q0u q0v q0E q0F q1s q0w q0J q0K q06 q0j q0T q0x q0U q07 q0y q1t q0z q0V q1u q0h q0p q0q q08 q1E q1L q1v q1M q1F q09 q1w q1a q1N q1b q12 q1V q1i q0f q0l q0L q0W q0a q0b q0i:Addr}{q1j:Tok}{q0R:Addr}{q2d:Array DictEntry}{q2L:Nat}{q2t q2u q2v:Tok}{q3g q3h:Option Addr}{q3i:Array (Option Value)}{q3j q3k q3l q3m q20 q3n:Value}(X:K.In h)(G:h.Ns bM mg)(hfa:mg "law"=some (.ref fa))
  (q21:NI K "Row" q1i)
  (q2W:NI K "Take" q0f)
  (q22:NI K "Put" q0l)
  (q2D:NI K "Faulty" q0L)
  (q2E:NI K "NoLine" q0W)
  (q2w:NI K "NoPaper" q0a)
  (q2M:NI K "NoRow" q0b)
  (q2l:NI K "RoomError" q0i)
  (q1h:W.excIn K q0a L2.xfu "ValueError.__new__"=true)
  (q1R:dz K (.ref q0a) (.ref q0b)=some false)
  (q0t:dz K (.ref q0a) (.ref q0i)=some true)
  (q0o:bK K (.ref q0a) (.type "ValueError")=some true)
  (q0g:xa6 K q0a)
  (q2b:W.excIn K q0b L2.xfu "ValueError.__new__"=true)
  (q1p:dz K (.ref q0b) (.ref q0b)=some true)
  (q1J:dz K (.ref q0b) (.ref q0i)=some true)
  (q1D:bK K (.ref q0b) (.type "ValueError")=some true)
  (q2j:xa6 K q0b)
  (q15:W.mroIn K q0b (.type "BaseException")=some true)
  (q1S:W.mroIn K q0i (.type "BaseException")=some true)
  (q2Z:cj K (.ref q0L) "__init__"=some (some (.ref q01)))
  (q02:FL K "__init__" "Faulty.__init__" jA q01)
  (q28:cj K (.ref q1i) "__init__"=some (some (.ref q0D)))
  (q1k:FL K "__init__" "Row.__init__" ja q0D)
  (q26:cj K (.ref q0f) "__init__"=some (some (.ref q0u)))
  (q04:FL K "__init__" "Take.__init__" vt q0u)
  (q27:cj K (.ref q0f) "told"=some (some (.ref q0v)))
  (q05:FL K "told" "Take.told" vv q0v)
  (q29:cj K (.ref q0l) "__init__"=some (some (.ref q0E)))
  (q1l:FL K "__init__" "Put.__init__" jb q0E)
  (q3a:cj K (.ref q0l) "told"=some (some (.ref q0F)))
  (q1m:FL K "told" "Put.told" jc q0F)
  (q2N:NI K "row_of" q1s)
  (q0M:FL K "row_of" "row_of" xa7 q1s)
  (q2m:NI K "tells_take" q0w)
  (q0A:FL K "tells_take" "tells_take" uR q0w)
  (q2q:NI K "tells_put" q0J)
  (q0N:FL K "tells_put" "tells_put" vw q0J)
  (q2r:NI K "are_signs" q0K)
  (q0O:FL K "are_signs" "are_signs" vx q0K)
  (q2F:NI K "is_sign" q06)
  (q1c:FL K "is_sign" "is_sign" jV q06)
  (q18:NI K "is_whole_from" q0j)
  (q0d:FL K "is_whole_from" "is_whole_from" zP q0j)
  (q2x:NI K "is_whole" q0T)
  (q0G:FL K "is_whole" "is_whole" jd q0T)
  (q2n:NI K "paper_text" q0x)
  (q0B:FL K "paper_text" "paper_text" uS q0x)
  (q2y:NI K "lines_of" q0U)
  (q0X:FL K "lines_of" "lines_of" je q0U)
  (q2G:NI K "line_of" q07)
  (q1d:FL K "line_of" "line_of" jW q07)
  (q2o:NI K "numbers_in" q0y)
  (q0C:FL K "numbers_in" "numbers_in" uT q0y)
  (q2O:NI K "sum_of" q1t)
  (q1x:FL K "sum_of" "sum_of" xa8 q1t)
  (q2p:NI K "read_paper" q0z)
  (q0k:FL K "read_paper" "read_paper" uU q0z)
  (q2z:NI K "paper_in" q0V)
  (q0Y:FL K "paper_in" "paper_in" jf q0V)
  (q2P:NI K "row_in" q1u)
  (q1y:FL K "row_in" "row_in" xa9 q1u)
  (q16:NI K "numbers_behind" q0h)
  (q0e:FL K "numbers_behind" "numbers_behind" zA q0h)
  (q2e:NI K "read_number" q0p)
  (q0r:FL K "read_number" "read_number" uq q0p)
  (q2f:NI K "are_figures" q0q)
  (q0s:FL K "are_figures" "are_figures" ur q0q)
  (q2H:NI K "_law_cell_at" q08)
  (q0n:FL K "_law_cell_at" "_law_cell_at" jX q08)
  (q2X:NI K "_law_mixed" q1E)
  (q1A:FL K "_law_mixed" "_law_mixed" xb6 q1E)
  (q23:NI K "_law_sign" q1L)
  (q1O:FL K "_law_sign" "_law_sign" xdA q1L)
  (q2Q:NI K "_law_number" q1v)
  (q0Z:FL K "_law_number" "_law_number" xba q1v)
  (q24:NI K "_law_rows" q1M)
  (q1P:FL K "_law_rows" "_law_rows" xdB q1M)
  (q2Y:NI K "_law_shown" q1F)
  (q1n:FL K "_law_shown" "_law_shown" xb7 q1F)
  (q2I:NI K "_law_by_word" q09)
  (q1e:FL K "_law_by_word" "_law_by_word" jY q09)
  (q2R:NI K "_law_by_row" q1w)
  (q1z:FL K "_law_by_row" "_law_by_row" xbb q1w)
  (q2J:NI K "_law_numbers" q1a)
  (q1f:FL K "_law_numbers" "_law_numbers" jZ q1a)
  (q25:NI K "_law_good" q1N)
  (q1Q:FL K "_law_good" "_law_good" xdC q1N)
  (q2K:NI K "_law_refused" q1b)
  (q0H:FL K "_law_refused" "_law_refused" xaa q1b)
  (q3b:NI K "_law_ill" q12)
  (q13:FL K "_law_ill" "_law_ill" xfB q12)
  (q3c:NI K "law" q1V)
  (q3d:K.lookup q1V=some ⟨q3j,q3g,.func (eP "law" "law" (zi xaA) (yr xaA) (xl xaA) .none q3k q3l q3m q3h q20 q3n),q3i⟩)
  (q3e:W.codeIn K q20 "law"=true)
  (q3f:dH K (.ref q1V)=true)
  (q2V:Cls K q1i)
  (q14:xU K q1i "count")
  (q2c:xU K q1i "to")
  (q1q:Cls K q0f)
  (q03:xU K q0f "count")
  (q1o:xU K q0f "source")
  (q1K:xU K q0f "to")
  (q2a:Mk K q0f q0u)
  (q1G:Cls K q0l)
  (q1B:xU K q0l "count")
  (q1g:xU K q0l "signs")
  (q1W:xU K q0l "to")
  (q2i:Mk K q0l q0E)
  (q1H:Meth K q0l "told" q0F)
  (q1C:Meth K q0f "told" q0v)
  (q1I:xhs K q1i "__init__" q0D)
  (q0P:bK K (.ref q0a) (.ref q0L)=some false)
  (q0Q:bK K (.ref q0a) (.ref q0W)=some false)
  (q0I:bK K (.ref q0a) (.ref q0a)=some true)
  (q00:bK K (.ref q0a) (.ref q0b)=some false)
  (q1X:bK K (.ref q0b) (.ref q0L)=some false)
  (q1Y:bK K (.ref q0b) (.ref q0W)=some false)
  (q1T:bK K (.ref q0b) (.ref q0a)=some false)
  (q10:bK K (.ref q0b) (.ref q0b)=some true)
  (q19:ez K bM "MOST_FIGURES"=some (some (.int 60 q1j)))
  (q2S:NI K "WORDS" q0R)
  (q2T:K.lookup q0R=some ⟨.type "dict",none,.dict q2d q2L,#[]⟩)
  (q2U:W.KeysLit w.params q2d.toList)
  (q2A:ez K q0R "paper"=some (some (.int 1 q2t)))
  (q2B:ez K q0R "take"=some (some (.int 2 q2u)))
  (q2C:ez K q0R "put"=some (some (.int 3 q2v)))
  (q1U:NN K "ValueError")
  (q2g:NN K "abs")
  (q2h:NN K "all")
  (q2k:NN K "bool")
  (q1Z:NN K "int")
  (q0c:NN K "isinstance")
  (q0m:NN K "len")
  (q17:NN K "list")
  (q2s:NN K "min")
  (q11:NN K "range")
  (q1r:NN K "str")
  (q0S:NN K "tuple")
  :∃fd:aK,(∀(s:ae) (v:Value),gd s fd ⟨[v],[]⟩ [("_law_script",v)])∧∀base:Heap,K.In base→base.Ns bM mg→xA l.prog w K mg base CX0 10 fa fd ["_law_script"] (xd9 K):=by
 have e:=hfa.symm.trans (W.mg_of X G q3c);have e2:q1V=fa:=by injection e with e;injection e with e;exact e.symm
 subst e2;obtain⟨_,q02⟩:=q02;obtain⟨_,q1k⟩:=q1k;obtain⟨_,q04⟩:=q04;obtain⟨_,q05⟩:=q05;obtain⟨_,q1l⟩:=q1l;obtain⟨_,q1m⟩:=q1m;obtain⟨_,q0M⟩:=q0M;obtain⟨_,q0A⟩:=q0A;obtain⟨_,q0N⟩:=q0N;obtain⟨_,q0O⟩:=q0O;obtain⟨_,q1c⟩:=q1c;obtain⟨_,q0d⟩:=q0d;obtain⟨_,q0G⟩:=q0G;obtain⟨_,q0B⟩:=q0B;obtain⟨_,q0X⟩:=q0X;obtain⟨_,q1d⟩:=q1d;obtain⟨_,q0C⟩:=q0C;obtain⟨_,q1x⟩:=q1x;obtain⟨_,q0k⟩:=q0k;obtain⟨_,q0Y⟩:=q0Y;obtain⟨_,q1y⟩:=q1y;obtain⟨_,q0e⟩:=q0e;obtain⟨_,q0r⟩:=q0r;obtain⟨_,q0s⟩:=q0s;obtain⟨_,q0n⟩:=q0n;obtain⟨_,q1A⟩:=q1A;obtain⟨_,q1O⟩:=q1O;obtain⟨_,q0Z⟩:=q0Z;obtain⟨_,q1P⟩:=q1P;obtain⟨_,q1n⟩:=q1n;obtain⟨_,q1e⟩:=q1e;obtain⟨_,q1z⟩:=q1z;obtain⟨_,q1f⟩:=q1f;obtain⟨_,q1Q⟩:=q1Q;obtain⟨_,q0H⟩:=q0H;obtain⟨_,q13⟩:=q13;have xc7:=xgh (st:=xaA) q3d q3e q3f;have g {x v} (q:ez K bM x=some (some v)):=W.mg_of X G q;have g0 {x} (q:ez K bM x=some none):=W.mg_none_of X G q;have T:Txt w K mg ⟨q01,_,q0D,_,q0u,_,q0v,_,q0E,_,q0F,_,q1s,_,q0w,_,q0J,_,q0K,_,q06,_,q0j,_,q0T,_,q0x,_,q0U,_,q07,_,q0y,_,q1t,_,q0z,_,q0V,_,q1u,_,q0h,_,q0p,_,q0q,_,q08,_,q1E,_,q1L,_,q1v,_,q1M,_,q1F,_,q09,_,q1w,_,q1a,_,q1N,_,q1b,_,q12,_,q1V,_,q1i,q0f,q0l,q0L,q0W,q0a,q0b,q0i,q1j,q0R⟩:=⟨q02,bn2 q02,q1k,bn2 q1k,q04,bn4 q04,q05,bn1 q05,q1l,bn3 q1l,q1m,bn1 q1m,q0M,bn1 q0M,g q2N,q0A,bn1 q0A,g q2m,q0N,bn1 q0N,g q2q,q0O,bn1 q0O,g q2r,q1c,bn1 q1c,g q2F,q0d,bn2 q0d,g q18,q0G,bn1 q0G,g q2x,q0B,bn1 q0B,g q2n,q0X,bn1 q0X,g q2y,q1d,bn1 q1d,g q2G,q0C,bn1 q0C,g q2o,q1x,bn1 q1x,g q2O,q0k,bn1 q0k,g q2p,q0Y,bn1 q0Y,g q2z,q1y,bn1 q1y,g q2P,q0e,bn1 q0e,g q16,q0r,bn1 q0r,g q2e,q0s,bn1 q0s,g q2f,q0n,bn2 q0n,g q2H,q1A,bn2 q1A,g q2X,q1O,bn2 q1O,g q23,q0Z,bn2 q0Z,g q2Q,q1P,bn1 q1P,g q24,q1n,bn1 q1n,g q2Y,q1e,bn2 q1e,g q2I,q1z,bn2 q1z,g q2R,q1f,bn1 q1f,g q2J,q1Q,bn1 q1Q,g q25,q0H,bn1 q0H,g q2K,q13,bn2 q13,g q3b,xc7,bn1 xc7,g q21,q2V,q14,q2c,g q2W,q1q,q03,q1o,q1K,q2a,g q22,q1G,q1B,q1g,q1W,q2i,g q2D,g q2E,g q2w,g q2M,g q2l,q1h,q1R,q0t,q0o,q0g,q2b,q1p,q1J,q1D,q2j,⟨q15⟩,⟨q1S⟩,q0P,q0Q,q0I,q00,q1X,q1Y,q1T,q10,g q19,g q2S,⟨⟨_,_,q2T,q2U⟩,(xb5 q2A (xb5 q2B (xb5 q2C (fun _ _ z=>nomatch z))))⟩,q1H,q1C,q1I,g0 q1U,g0 q2g,g0 q2h,g0 q2k,g0 q1Z,g0 q0c,g0 q0m,g0 q17,g0 q2s,g0 q11,g0 q1r,g0 q0S⟩;exact⟨_,fun s v=>.of_eq rfl,fun base _ _=>xj1 T⟩
end K63
open PySem PySem.W PyProof.Rows
namespace PySem.W.Fast
theorem tw11126098460013697376:True:=trivial
theorem tw7287491779314957569:True:=trivial
theorem tw1240512023307158305:True:=trivial
theorem tw11661750159082392259:True:=trivial
theorem tw2561529925042363299:True:=trivial
theorem tw11744425246903265766:True:=trivial
theorem tw7123931631641106151:True:=trivial
theorem tw10041617002263581224:True:=trivial
theorem tw9803256330265068073:True:=trivial
theorem tw16392348647923431468:True:=trivial
theorem tw3450008954100683821:True:=trivial
theorem tw985445550012799309:True:=trivial
theorem tw9520046891157033230:True:=trivial
theorem tw13289209566443836079:True:=trivial
theorem tw335823761691314384:True:=trivial
theorem tw10306722508613836176:True:=trivial
theorem tw9600040429706048018:True:=trivial
theorem tw5116396574017338164:True:=trivial
theorem tw13998536431604289524:True:=trivial
theorem tw9298249297711103061:True:=trivial
theorem tw12941563450277931381:True:=trivial
theorem tw455307942165435765:True:=trivial
theorem tw975091655486587126:True:=trivial
theorem tw17205040890195306552:True:=trivial
theorem tw16177407766568740025:True:=trivial
theorem tw8589369526972035354:True:=trivial
theorem tw18409743513360873279:True:=trivial
theorem tw1782250269364329932:True:=trivial
theorem tw967354891810492560:True:=trivial
theorem tw2976185046074649157:True:=trivial
theorem tw9956719746210606223:True:=trivial
theorem tw4065925869502586809:True:=trivial
theorem tw4362325969981127663:True:=trivial
theorem tw12906546022659369599:True:=trivial
theorem tw7068593274020832842:True:=trivial
theorem tw12877782658036841613:True:=trivial
theorem tw3414670693759252604:True:=trivial
theorem tw9504253376298433205:True:=trivial
theorem tw12451912035284968357:True:=trivial
theorem tw15973985130778004475:True:=trivial
theorem tw4431628625495979720:True:=trivial
theorem tw14208959938702781281:True:=trivial
theorem tw10806071760825062713:True:=trivial
theorem tw1469283852081075796:True:=trivial
theorem tw4133769142887865096:True:=trivial
theorem tw10267771426240194424:True:=trivial
theorem tw7635698301336226904:True:=trivial
theorem tw261952838808262342:True:=trivial
theorem tw7019159014832768885:True:=trivial
theorem tw3608593808653013251:True:=trivial
theorem tw10042800296662273395:True:=trivial
theorem tw17540245591593466419:True:=trivial
theorem tw968700563290738421:True:=trivial
theorem tw17473084992323118485:True:=trivial
theorem tw11999525516394619797:True:=trivial
theorem tw9617367783201830990:True:=trivial
theorem tw10252705854765897717:True:=trivial
theorem tw10968035635777651232:True:=trivial
theorem tw7481551210217700727:True:=trivial
theorem tw13671424461965961704:True:=trivial
theorem tw6815953545427188654:True:=trivial
theorem tw10007044210838450302:True:=trivial
theorem tw16373195557902265597:True:=trivial
theorem tw13093936141265158804:True:=trivial
theorem tw17426867929318700576:True:=trivial
theorem tw17449611327651666945:True:=trivial
theorem tw18040396609218998363:True:=trivial
theorem tw4649318299049937582:True:=trivial
theorem tw6958263947294018026:True:=trivial
theorem tw16686578231519841269:True:=trivial
theorem tw3953347784767133858:True:=trivial
theorem tw3766006915596666838:True:=trivial
theorem tw17265089586011152137:True:=trivial
theorem tw1454087363382635397:True:=trivial
theorem tw482441926197282994:True:=trivial
theorem tw9825274538839638707:True:=trivial
theorem tw10051616267250533519:True:=trivial
theorem tw8205215400854575200:True:=trivial
theorem tw3838381660357304905:True:=trivial
theorem tw636554411312607214:True:=trivial
theorem tw12401797096849362743:True:=trivial
theorem tw11075959955708112096:True:=trivial
theorem tw8959995791790140706:True:=trivial
theorem tw9609792051133688460:True:=trivial
theorem tw500565189706363033:True:=trivial
theorem tw12065670146980307207:True:=trivial
theorem tw2439480755107618041:True:=trivial
theorem tw8222607322995424736:True:=trivial
theorem tw13165695086471773829:True:=trivial
theorem tw10492243650078015806:True:=trivial
theorem tw2924081800397034709:True:=trivial
theorem tw5173651186150404702:True:=trivial
theorem tw16965195804643218059:True:=trivial
theorem tw17358699263084411191:True:=trivial
theorem tw11551925879411627546:True:=trivial
theorem tw2168306349120628098:True:=trivial
theorem tw11340333532615275319:True:=trivial
theorem tw4057887327539524481:True:=trivial
theorem tw6263827449721878686:True:=trivial
theorem tw11309516060898846935:True:=trivial
theorem tw1521994703980515776:True:=trivial
theorem tw10341774429874449811:True:=trivial
theorem tw9964622347447288008:True:=trivial
theorem tw11825465950467929754:True:=trivial
theorem tw14917094510874186517:True:=trivial
theorem tw11718733049337027054:True:=trivial
theorem tw6947652376650826601:True:=trivial
theorem tw10975030346984808436:True:=trivial
theorem tw2450421781137233632:True:=trivial
theorem tw5217091113561317661:True:=trivial
theorem tw3449177121317803632:True:=trivial
theorem tw9330526754249242250:True:=trivial
theorem tw5939377508382198587:True:=trivial
theorem tw7818634934885630245:True:=trivial
theorem tw632856708294862617:True:=trivial
theorem tw11923351669658577939:True:=trivial
theorem tw15032068339263088733:True:=trivial
theorem tw18198614613119664528:True:=trivial
theorem tw8952079361255794555:True:=trivial
theorem tw5953783843749765628:True:=trivial
theorem tw13091916021426887097:True:=trivial
theorem tw12736827979468608089:True:=trivial
theorem tw2237695640918576016:True:=trivial
theorem tw1432555341675141992:True:=trivial
theorem tw11897976463792705366:True:=trivial
theorem tw15963251518959219922:True:=trivial
theorem tw2285732164217085949:True:=trivial
theorem tw2914764498725565219:True:=trivial
theorem tw5385414296506133934:True:=trivial
theorem tw805167621569661894:True:=trivial
theorem tw13306323450029238519:True:=trivial
theorem tw1781330887274926611:True:=trivial
theorem tw3916724865281726124:True:=trivial
theorem tw5745878364001400542:True:=trivial
theorem tw16819433426316398697:True:=trivial
theorem tw1916545788612370153:True:=trivial
theorem tw5728283675748932165:True:=trivial
theorem tw7125801683414776241:True:=trivial
theorem tw9626770752969337315:True:=trivial
theorem tw11512446438765422669:True:=trivial
theorem tw12340490663758358422:True:=trivial
theorem tw14033372604826096293:True:=trivial
theorem tw1924804920783525168:True:=trivial
theorem tw313961161071595240:True:=trivial
theorem tw7271613105918289984:True:=trivial
theorem tw7200613963276167176:True:=trivial
theorem tw759980698562494055:True:=trivial
theorem tw6287431748930830257:True:=trivial
theorem tw8718402308783113860:True:=trivial
theorem tw4782131411212921630:True:=trivial
theorem tw1250506991014048357:True:=trivial
theorem tw9734805270938629528:True:=trivial
theorem tw17856158909722422730:True:=trivial
theorem tw15746942973705505214:True:=trivial
theorem tw3061101107231737496:True:=trivial
theorem tw10351298682788302146:True:=trivial
theorem tw11211237015573246403:True:=trivial
theorem tw566077122736437193:True:=trivial
theorem tw6971153103186256062:True:=trivial
theorem tw7369478875527349573:True:=trivial
theorem tw965797550189288783:True:=trivial
theorem tw9382787956956884760:True:=trivial
theorem tw12839055631624609834:True:=trivial
theorem tw4414784455953241256:True:=trivial
theorem tw7724824291434330720:True:=trivial
theorem tw9672096303046489094:True:=trivial
theorem tw7918726332941043030:True:=trivial
theorem tw14035939937122473376:True:=trivial
theorem tw16780900652731280647:True:=trivial
theorem tw7819130833657983849:True:=trivial
theorem tw8938969226851821056:True:=trivial
theorem tw6593351918873246211:True:=trivial
theorem tw14436999847037583363:True:=trivial
theorem tw13200807908205818659:True:=trivial
theorem tw17140446077345348401:True:=trivial
end PySem.W.Fast
set_option maxRecDepth 100000 in
set_option maxHeartbeats 0 in
theorem PySem.Challenge.cw_oneroom_k63_texts_of_no_paper_holds : PySem.Challenge.rw_oneroom_k63_texts_of_no_paper.Holds := by
 w_on;o_law;k_head;(case hw=>w_witness2)
 k_fill
 refine L2.xhn (l:=PySem.Challenge.rw_oneroom_k63_texts_of_no_paper) (n:=63) (k:=10) (x:="_law_script") (CX:=L2.CX0) (sp:=K63.xd9) rfl (by decide) rfl ⟨rfl,by decide,by decide⟩ (fun w h Y=>PySem.W.kIn_of Y) ?F ?S ?C
 case F=>
  intro w mg fa h KX G hmg
  refine' K63.xj2 KX G hmg ?_ ?_ ?_ ?_ ?_ ?_ ?_ ?_ ?_ ?_ ?_ ?_ ?_ ?_ ?_ ?_ ?_ ?_ ?_ ?_ ?_ ?_ ?_ ?_ ?_ ?_ ?_ ?_ ?_ ?_ ?_ ?_ ?_ ?_ ?_ ?_ ?_ ?_ ?_ ?_ ?_ ?_ ?_ ?_ ?_ ?_ ?_ ?_ ?_ ?_ ?_ ?_ ?_ ?_ ?_ ?_ ?_ ?_ ?_ ?_ ?_ ?_ ?_ ?_ ?_ ?_ ?_ ?_ ?_ ?_ ?_ ?_ ?_ ?_ ?_ ?_ ?_ ?_ ?_ ?_ ?_ ?_ ?_ ?_ ?_ ?_ ?_ ?_ ?_ ?_ ?_ ?_ ?_ ?_ ?_ ?_ ?_ ?_ ?_ ?_ ?_ ?_ ?_ ?_ ?_ ?_ ?_ ?_ ?_ ?_ ?_ ?_ ?_ ?_ ?_ ?_ ?_ ?_ ?_ ?_ ?_ ?_ ?_ ?_ ?_ ?_ ?_ ?_ ?_ ?_ ?_ ?_ ?_ ?_ ?_ ?_ ?_ ?_ ?_
  iterate 2 all_goals first|(show(_:Prop);first|exact⟨_,L2.xgh (by k_is) (by k_is) (by k_is)⟩|exact L2.tabK_of (by kernel_rfl)|exact⟨⟨_,_,rfl,rfl⟩,⟨_,_,rfl,rfl⟩,⟨_,_,rfl,rfl⟩,True.intro⟩|exact⟨by k_is,by k_is,by k_is⟩|exact⟨by k_is,by k_is,by k_is,by k_is⟩|exact⟨by kernel_rfl,by kernel_rfl,by kernel_rfl,by kernel_rfl,by kernel_rfl,by kernel_rfl⟩|exact⟨by kernel_rfl,by kernel_rfl,by kernel_rfl,by kernel_rfl,by kernel_rfl,by kernel_rfl,by kernel_rfl,by kernel_rfl⟩|k_is|(show _=_;k_is)|kernel_rfl)|skip
 case S=>exact fun K H a ns hl hO hS=>⟨a,ns,rfl,hS,hl,fun _=>rfl⟩
 case C=>exact fun _ _ _ _ z=>z
#print axioms PySem.Challenge.cw_oneroom_k63_texts_of_no_paper_holds
