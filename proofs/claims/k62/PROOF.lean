import PyProof.Rows.All
import Wide.All
import OpenK.AllK
import Wide.FinOn
import Lean
import PyProof.EqAt
import PyProof.EqKinds
import PyProof.TupleCall
import PySem.Challenge.RW_oneroom_k62_papers_shown
set_option Elab.async false
set_option linter.all false
set_option maxRecDepth 100000
open And renaming intro→a6
open Array renaming length_toList→bF,toArray_toList→dB,size_append→dY
open Bool renaming false_ne_true→aq,and_eq_true→bR,eq_iff_iff→bZ
open False renaming elim→aJ
open ForInStep renaming yield→bH
open Int renaming emod_lt_of_pos→aO,emod_nonneg→aY,toNat_of_nonneg→cH,toNat→dn
open List renaming length_map→ab,size_toArray→ag,mem_cons_of_mem→av,length_cons→aw,getElem?_map→ay,mem_of_getElem?→aA,mem_cons→aC,mem_append_right→aK,take_succ→aL,map_append→aP,take_length→aR,mem_cons_self→aU,length_append→aV,getElem?_eq_some_iff→aW,take_of_length_le→aZ,lookup_cons→a0,getElem?_eq_getElem→a5,map_cons→bb,mem_append→bf,replicate→bo,length_take→bp,mem_singleton→br,all_eq_true→bD,not_mem_nil→bE,mem_map→bM,getElem?_set_ne→bQ,lookup→bW,getElem_mem→cm,length_singleton→cw,nodup_cons→cC,filterMap_cons→cG,map_eq_nil_iff→cI,length_pos_iff→cJ,flatMap_append→cK,getElem?_append_left→cU,length_drop→de,length_eq_zero_iff→dh,getElem?_cons_succ→di,of_mem_zip→dm,getElem?_set_self→dq,drop_zero→dw,range→dy,mem_append_left→dz,drop_succ_cons→dG,mem_filterMap→dN,filter_append→dR,map_replicate→dS,map_map→dU,length→d0
open Nat renaming le_refl→aj,lt_of_lt_of_le→ao,le_trans→ax,ne_of_lt→aM,lt_irrefl→bj,zero_le→bq,mul_le_mul_right→bU,le_of_lt→cY
open Ne renaming symm→bV
open Option renaming map_eq_some_iff→aD,getD_none→d4
open Option.some renaming inj→ba,injEq→dW
open Or renaming inl→aB
open PyProof.Rows renaming slot_tuple_getitem→bG,callWith_type1→bO,AllBare→cq,envOfC→cN,subscriptTail→dD
open PySem renaming Shared→aa,sizeLine_eq→af,wpAny_bind→ai,sizeLine→ak,FuncData→au,wpAny_pure→az,starEach→aE,Program→aF,Around→aH,wpAny_mono→aN,bootBuiltins→aQ,compareOp→aS,mainGlobals→aX,binaryOp→bc,NameKind→bu,wpAny_newObj_type→bJ,wpAny_truthy_bool→bK,backTo→bL,call_meets→bS,sliceBounds→bX,wpAny_passesOwn→bY,wpAny_Call_Name_kw→b5,builtinsNs→b7,typeIs_str→b9,foldedSetIterable→cc,PyData→cg,strIterType→cj,behindInMarks→ck,codeAny→cu,wpAny_execs_nil→cy,assignEach→cz,letOwnedTupleGo→cA,callerA→cM,attributeBase→cQ,wpAny_assign_Name→cS,getItem→cX,assign→cZ,bindArgs→c7,codeAny_mono→c8,IsPart→c9,wpAny_comprehension_free→df,swapsWith→dk,keywordEach→dr,subscripted→dt,BindsTo→dv
open PySem.Around renaming under→dO
open PySem.Builtin.List renaming listTooLong→bh
open PySem.Builtin.Range renaming rangeSize→a8
open PySem.Builtin.Slice renaming slicePlaces→bz,sliceAdjust→b2,sliceApplied→cR
open PySem.Builtin.Str renaming occurrences→a7,strKind→dF,subAt→dX
open PySem.Builtin.Tuple renaming tupleExact→bC
open PySem.Calls renaming Name_function_global→cP,Constant_str→dM
open PySem.Code renaming isFrame→dP
open PySem.F renaming args_str_split_2→cO,entry_str_split→cT,slot_str_split→dg
open PySem.Heap renaming get?_push_of_some→ah,lt_size→ar,get?_push_size→aG,size_push→du,SameBut→dJ
open PySem.NameKind renaming free→bw,cell→dE
open PySem.PassesOwn renaming never→bt
open PySem.PyData renaming canLayAll0→bx,depthAll→bI,canLay0→cb,int→cD,depth→cF,eqv→d5
open PySem.SeqAt renaming shaped→cE
open PySem.SeqAt.EqAt renaming int_str→dH,str_int→dI
open PySem.Str renaming ofString→aI,join→a9,empty→bN,length→bT
open PySem.Value renaming ref→aT,bool→bP,str→cn,none→cx,int→dj,float→dZ
open PySem.W renaming Frag→ae,findIn→bg,emptyDict→bA,kia_one→bB,instObj→b4,nsIn→b6,fnOf→cf,keepIn→cL,plainGet→dA,plainGet_of→dC,callWith_K→dQ
open Sum renaming inl→cV,inr→cW
open True renaming intro→b8
namespace L2
open PySem PySem.Spec PyProof.Rows
abbrev Key:=Sum Int Str
def xem:Key→Value→Bool
 | .inl k,v=>Value.isInt k v
 | .inr x,v=>Value.isStrOf x v
def xgm(w:World):Key→Int
 | .inl k=>hashInt k
 | .inr x=>hashStr w x
theorem xK:∀{k:Key} {v:Value},xem k v=true→(∃i t,k=cV i∧v=dj i t)∨(∃x t,k=cW x∧v=cn x t)
 | .inl i,v,h=>by
  obtain⟨t,e⟩:=Value.isInt_shape (k:=i) (v:=v) h;exact .inl ⟨i,t,rfl,e⟩
 | .inr x,v,h=>by
  obtain⟨t,e⟩:=Value.isStrOf_shape (x:=x) (v:=v) h;exact .inr ⟨x,t,rfl,e⟩
theorem xfa(a b:Int):decide ((cV a:Key)=cV b)=(a==b):=by
 by_cases e:a=b
 ·subst e;simp
 ·have h:¬(cV a:Key)=cV b:=fun q=>e (Sum.inl.inj q);rw[decide_eq_false h];exact(beq_eq_false_iff_ne.mpr e).symm
theorem xfb(a b:Str):decide ((cW a:Key)=cW b)=decide (a=b):=by
 by_cases e:a=b
 ·subst e;simp
 ·have h:¬(cW a:Key)=cW b:=fun q=>e (Sum.inr.inj q);rw[decide_eq_false h,decide_eq_false e]
theorem xfc(a:Int)(b:Str):decide ((cV a:Key)=cW b)=false:=decide_eq_false (fun q=>nomatch q)
theorem xfd(a:Str)(b:Int):decide ((cW a:Key)=cV b)=false:=decide_eq_false (fun q=>nomatch q)
def xb5(prog:aF)(w:World):PySem.KeyKind prog w Key where
 is:=xem
 hash:=xgm w
 inj:=fun v a b ha hb=>by
  rcases xK ha with⟨i,t,rfl,rfl⟩|⟨x,t,rfl,rfl⟩
  ·rcases xK hb with⟨j,u,rfl,e⟩|⟨y,u,rfl,e⟩
   ·injection e with e1 _;rw[e1]
   ·exact nomatch e
  ·rcases xK hb with⟨j,u,rfl,e⟩|⟨y,u,rfl,e⟩
   ·exact nomatch e
   ·injection e with e1 _;rw[e1]
 byValue:=fun k v h=>by
  rcases xK h with⟨i,t,rfl,rfl⟩|⟨x,t,rfl,rfl⟩<;> rfl
 pyHash:=fun hv h=>by
  rcases xK hv with⟨i,t,rfl,rfl⟩|⟨x,t,rfl,rfl⟩
  ·exact wpAny_pyHash_int h
  ·exact wpAny_pyHash_str h
 eqBool:=fun hu hv h=>by
  rcases xK hu with⟨i,t,rfl,rfl⟩|⟨x,t,rfl,rfl⟩
  ·rcases xK hv with⟨j,u,rfl,rfl⟩|⟨y,u,rfl,rfl⟩
   ·rw[xfa]at h;exact wpAny_eqBool_int h
   ·rw[xfc]at h;exact dH i t y u _ _ _ _ h
  ·rcases xK hv with⟨j,u,rfl,rfl⟩|⟨y,u,rfl,rfl⟩
   ·rw[xfd]at h;exact dI x t j u _ _ _ _ h
   ·rw[xfb]at h;exact wpAny_eqBool_str h
 «strs»:=fun k x t v h=>by
  rcases xK h with⟨i,u,rfl,e⟩|⟨y,u,rfl,e⟩
  ·exact nomatch e
  ·injection e with e1 _;subst e1;cases v<;> rfl
end L2
namespace L2
open PySem PySem.Spec PyProof.Rows
inductive V where
 |non|bl (b:Bool)|int (i:Int)|str (x:Str)|byt (b:Array UInt8)|flt (b:UInt64)|ref (a:Addr)|ty (n:String)
 deriving DecidableEq
def RelV:V→Value→Prop
 | .non,u=>u=cx
 | .bl b,u=>u=bP b
 | .int i,u=>∃t,u=dj i t
 | .str x,u=>∃t,u=cn x t
 | .byt b,u=>∃t,u=Value.bytes b t
 | .flt b,u=>∃t,u=dZ b t
 | .ref a,u=>u=aT a
 | .ty n,u=>u=Value.type n
theorem RelV.fn{x y:V}{u:Value}(a:RelV x u)(b:RelV y u):x=y:=by
 cases x<;> simp only[RelV]at a<;> (first|subst a|(obtain⟨_,rfl⟩:=a))<;> cases y<;> simp only[RelV]at b<;> first|rfl|(cases b;done)|(cases b;rfl)|(obtain⟨_,b⟩:=b;cases b;done)|(obtain⟨_,b⟩:=b;cases b;rfl)
abbrev Vals:List V→List Value→Prop:=Paired RelV
theorem Vals.length{xs:List V}{us:List Value}(r:Vals xs us):xs.length=us.length:=Paired.length r
theorem Vals.get:∀{xs:List V} {us:List Value} {i:Nat} {x:V},Vals xs us→xs[i]? =some x→∃u,us[i]? =some u∧RelV x u
 |_,_,_,_,.nil,e=>by simp at e
 |_,_,0,_,.cons r _,e=>by simp at e;subst e;exact⟨_,rfl,r⟩
 |_,_,i+1,x,.cons _ t,e=>by
  obtain⟨u,h1,h2⟩:=Vals.get (i:=i) (x:=x) t (by simpa using e);exact⟨u,by simpa using h1,h2⟩
theorem Vals.append:∀{xs ys:List V} {us ws:List Value},Vals xs us→Vals ys ws→Vals (xs++ys) (us++ws)
 |_,_,_,_,.nil,s=>s
 |_,_,_,_,.cons r t,s=>.cons r (Vals.append t s)
theorem Vals.take:∀{xs:List V} {us:List Value} (n:Nat),Vals xs us→Vals (xs.take n) (us.take n)
 |_,_,0,_=>.nil
 |_,_,_+1,.nil=>.nil
 |_,_,n+1,.cons r t=>.cons r (Vals.take n t)
theorem Vals.drop:∀{xs:List V} {us:List Value} (n:Nat),Vals xs us→Vals (xs.drop n) (us.drop n)
 |_,_,0,r=>r
 |_,_,_+1,.nil=>.nil
 |_,_,n+1,.cons _ t=>Vals.drop n t
def zT:Option V→Option Value→Prop
 |some v,some u=>RelV v u
 |none,none=>True
 |_,_=>False
def KV{κ:Type}:List (κ×V)→List (κ×Value)→Prop:=Paired fun(p:κ×V) (q:κ×Value)=>p.1=q.1∧RelV p.2 q.2
def kV:Key→V
 | .inl i=>.int i
 | .inr x=>.str x
inductive HO where
 |lst (xs:List V)
 |tup (xs:List V)
 |dK (kvs:List (Key×V))|dT (kvs:List (List Key×V))
 |set (S:Int→Bool) (n:Nat)
 |ins (C dx:Addr) (fs:List (Str×V))
 |own (x:Addr)
 |xd (fs:List (Str×V))
 |met (f x:Addr)
 |rng (lo hi:Int)
 |frz (o:Obj) (u:HO)
 |tbl (qs:List (Pos×Str))
 |cel (v:Option V)
 |ext (φ:Heap→Prop)
abbrev Hp:=Addr→Option HO
def upd(H:Hp)(a:Addr)(o:HO):Hp:=fun b=>if b=a then some o else H b
theorem xl{H:Hp}{a:Addr}{o:HO}:upd H a o a=some o:=by unfold upd;rw[if_pos rfl]
theorem xA{H:Hp}{a b:Addr}{o:HO}(h:b≠a):upd H a o b=H b:=by unfold upd;rw[if_neg h]
theorem yT{H:Hp}{a:Addr}{o u:HO}:upd (upd H a o) a u=upd H a u:=by
 funext b;unfold upd;split<;> rfl
theorem vw{H:Hp}{a b:Addr}{o u:HO}(h:H a=some o)(h':H b=some u)(d:o≠u):a≠b:=by
 intro e;subst e;rw[h]at h';exact d (ba h')
theorem yL{H:Hp}{a b:Addr}{o:HO}(h:H a=some o)(h':H b=none):a≠b:=by
 intro e;subst e;rw[h]at h';cases h'
section
variable (P:aF) (w:World)
def xM(H:Hp)(h:Heap)(a:Addr):HO→Prop
 | .lst xs=>xs.length≤ak∧∃(its:List Value) (n:Nat),Vals xs its∧h.get? a=some {cls:=.type "list",data:=.seq its.toArray n}
 | .tup xs=>xs.length≤ak∧∃its:List Value,Vals xs its∧IsTup h a its.toArray
 | .dK kvs=>kvs.length≤ak∧(a==sysModules)=false∧∃vs,KV kvs vs∧h.DictOf (xb5 P w) a vs
 | .dT kvs=>kvs.length≤ak∧(a==sysModules)=false∧∃xs:List (List Key×Addr×Value),
   Paired (fun(p:List Key×V) (q:List Key×Addr×Value)=>p.1=q.1∧H q.2.1=some (.tup (p.1.map kV))∧RelV p.2 q.2.2) kvs xs∧
   ∃o es ep,h.get? a=some o∧o.ExactDict∧o.data= .dict es ep∧es.toList=xs.map (entryOfKey (tupleKind (xb5 P w)))∧(xs.map (·.1)).Nodup
 | .set S n=>h.SetOf (intKind P w) a S n
 | .ins C dx fs=>H dx=some (.own a)∧fs.length≤1000∧dx≠a∧h.get? a=some (b4 C dx)∧
   ∃mA,h.Ns1 dx mA∧(∀f,zT (fs.lookup f) (mA f))∧PySem.Within mA (fs.map (·.1))
 | .own _=>∃o,h.get? a=some o
 | .xd fs=>∃mA,h.Ns1 a mA∧∀f,zT (fs.lookup f) (mA f)
 | .rng lo hi=>∃t u v,h.get? a=some {cls:=.type "range",data:=.fields #[.int lo t,.int hi u,.int 1 v]}
 | .frz o u=>h.get? a=some o∧xM H h a u
 | .tbl qs=>∃ps:Array Value,h.get? a=some {cls:=.none,data:=.fields ps}∧TriplesOk ps.toList∧∀pos q,(pos,q)∈qs→
   codeAmong pos ps.toList=none∨∃c o u vs t,codeAmong pos ps.toList=some (.ref c)∧H c=some (.frz o u)∧o.data= .fields vs∧vs[1]? =some (.str q t)
 | .cel v=>∃u,h.IsCell a u∧∀x,v=some x→∃y,u=some y∧RelV x y
 | .met f x=>h.get? a=some (W.methodObj (.ref f) (.ref x))
 | .ext φ=>φ h∧(∃o,h.get? a=some o)∧∀h1 h2:Heap,φ h1→(∀o,h1.get? a=some o→h2.get? a=some o)→φ h2
def HOk(H:Hp)(h:Heap):Prop:=∀a o,H a=some o→xM P w H h a o
end
section
variable {P:aF} {w:World} {H H':Hp} {h h':Heap} {a:Addr} {o:HO}
def xfe:HO→Prop
 | .tup _=>True
 | .frz _ _=>True
 |_=>False
def Fix:HO→Prop
 | .tup _=>True
 | .frz _ _=>True
 | .tbl _=>True
 | .cel _=>True
 |_=>False
theorem xM.lt(x:xM P w H h a o):a<h.objs.size:=by
 cases o with
 |lst xs=>obtain⟨_,_,_,_,e⟩:=x;exact ar e
 |tup xs=>obtain⟨_,_,_,p⟩:=x;exact p.lt
 |dK kvs=>obtain⟨_,_,_,_,o,_,_,e,_⟩:=x;exact ar e
 |dT kvs=>obtain⟨_,_,_,_,o,_,_,e,_⟩:=x;exact ar e
 |set S n=>obtain⟨o,_,_,_,e,_⟩:=x;exact ar e
 |ins C dx fs=>obtain⟨_,_,_,e,_⟩:=x;exact ar e
 |own y=>obtain⟨_,e⟩:=x;exact ar e
 |xd fs=>obtain⟨_,⟨_,_,_,e,_⟩,_⟩:=x;exact ar e
 |rng lo hi=>obtain⟨_,_,_,e⟩:=x;exact ar e
 |frz ob u=>obtain⟨e,_⟩:=x;exact ar e
 |tbl qs=>obtain⟨_,e,_⟩:=x;exact ar e
 |cel v=>obtain⟨_,⟨_,e,_⟩,_⟩:=x;exact ar e
 |met f y=>exact ar (show h.get? a=some _ from x)
 |ext φ=>obtain⟨_,⟨_,e⟩,_⟩:=x;exact ar e
theorem Paired.mapP{α β:Type}{F G:α→β→Prop}:∀{l₁:List α} {l₂:List β},Paired F l₁ l₂→(∀a b,F a b→G a b)→Paired G l₁ l₂
 |_,_,.nil,_=>.nil
 |_,_,.cons r t,f=>.cons (f _ _ r) (Paired.mapP t f)
theorem Paired.imp'{α β:Type}{F G:α→β→Prop}(f:∀a b,F a b→G a b){l₁:List α}{l₂:List β}(r:Paired F l₁ l₂):Paired G l₁ l₂:=Paired.mapP r f
theorem xM.stay(x:xM P w H h a o)(k:∀b u,(b=a∨H b=some (.own a))→h.get? b=some u→h'.get? b=some u)
  (ho:∀b,H b=some (.own a)→H' b=some (.own a)) (ht:∀b u,H b=some u→xfe u→H' b=some u):xM P w H' h' a o:=by
 induction o with
 |lst xs=>obtain⟨z,its,n,r,e⟩:=x;exact⟨z,its,n,r,k _ _ (.inl rfl) e⟩
 |tup xs=>obtain⟨z,its,r,ob,e,c⟩:=x;exact⟨z,its,r,ob,k _ _ (.inl rfl) e,c⟩
 |dK kvs=>obtain⟨z,y,vs,r,ob,es,ep,e,c⟩:=x;exact⟨z,y,vs,r,ob,es,ep,k _ _ (.inl rfl) e,c⟩
 |dT kvs=>
  obtain⟨z,y,xs,r,ob,es,ep,e,c⟩:=x;exact⟨z,y,xs,Paired.mapP r fun p q z=>⟨z.1,ht _ _ z.2.1 trivial,z.2.2⟩,ob,es,ep,k _ _ (.inl rfl) e,c⟩
 |set S n=>obtain⟨ob,es,ep,t,e,c⟩:=x;exact⟨ob,es,ep,t,k _ _ (.inl rfl) e,c⟩
 |ins C dx fs=>
  obtain⟨d,z,ne,e,mA,⟨od,es,ep,e2,c⟩,r⟩:=x;exact⟨ho _ d,z,ne,k _ _ (.inl rfl) e,mA,⟨od,es,ep,k _ _ (.inr d) e2,c⟩,r⟩
 |own y=>obtain⟨ob,e⟩:=x;exact⟨ob,k _ _ (.inl rfl) e⟩
 |xd fs=>obtain⟨mA,⟨od,es,ep,e,c⟩,r⟩:=x;exact⟨mA,⟨od,es,ep,k _ _ (.inl rfl) e,c⟩,r⟩
 |rng lo hi=>obtain⟨t,u,v,e⟩:=x;exact⟨t,u,v,k _ _ (.inl rfl) e⟩
 |frz ob u ih=>obtain⟨e,q⟩:=x;exact⟨k _ _ (.inl rfl) e,ih q⟩
 |tbl qs=>
  obtain⟨ps,e,tr,r⟩:=x;refine⟨ps,k _ _ (.inl rfl) e,tr,fun pos q m=>?_⟩;rcases r pos q m with z|⟨c,ob,u,vs,t,z1,z2,z3⟩
  ·exact .inl z
  ·exact .inr ⟨c,ob,u,vs,t,z1,ht _ _ z2 trivial,z3⟩
 |cel v=>obtain⟨u,⟨ob,e,d⟩,r⟩:=x;exact⟨u,⟨ob,k _ _ (.inl rfl) e,d⟩,r⟩
 |met f y=>
  have e:h.get? a=some (W.methodObj (.ref f) (.ref y)):=x;show h'.get? a=some (W.methodObj (.ref f) (.ref y));exact k a _ (.inl rfl) e
 |ext φ=>obtain⟨p,⟨o,e⟩,st⟩:=x;exact⟨st _ _ p fun o q=>k _ _ (.inl rfl) q,⟨o,k _ _ (.inl rfl) e⟩,st⟩
theorem HOk.lt(x:HOk P w H h)(e:H a=some o):a<h.objs.size:=(x a o e).lt
theorem HOk.fresh(x:HOk P w H h)(e:h.objs.size≤a):H a=none:=by
 cases q:H a with
 |none=>rfl
 |some u=>exact absurd (ao (x.lt q) e) (bj _)
theorem HOk.kept(x:HOk P w H h)(k:∀b u,h.get? b=some u→h'.get? b=some u):HOk P w H h':=fun a o e=>
 (x a o e).stay (fun b u _ q=>k b u q) (fun _ q=>q) fun _ _ q _=>q
theorem HOk.laid(x:HOk P w H h)(k:∀b u,h.get? b=some u→h'.get? b=some u)(hp:h.objs.size≤a)(new:xM P w (upd H a o) h' a o):HOk P w (upd H a o) h':=fun b u e=>by
 have hn:=x.fresh hp
 by_cases hb:b=a
 ·subst hb;rw[xl]at e;cases e;exact new
 ·rw[xA hb]at e;exact(x b u e).stay (fun c v _ q=>k c v q) (fun c q=>by rw[xA (yL q hn)];exact q) fun c xs q _=>by rw[xA (yL q hn)];exact q
end
def Rd(H:Hp)(a:Addr)(u:HO):Prop:=H a=some u∨∃o,H a=some (.frz o u)
theorem Rd.ok{P:aF}{w:World}{H:Hp}{h:Heap}{a:Addr}{u:HO}(r:Rd H a u)(x:HOk P w H h):xM P w H h a u:=by
 rcases r with r|⟨o,r⟩
 ·exact x a u r
 ·obtain⟨_,q⟩:=x a _ r;exact q
def Mut:Option HO→Prop
 |some (.lst _)=>True
 |some (.dK _)=>True
 |some (.dT _)=>True
 |some (.set _ _)=>True
 |some (.ins _ _ _)=>True
 |some (.ext _)=>True
 |_=>False
section
variable {P:aF} {w:World} {H:Hp} {h h':Heap} {x e:Addr} {o':HO}
theorem HOk.write(ok:HOk P w H h)(mu:Mut (H x))(he:e=x∨H e=some (.own x))(k:∀b u,b≠e→h.get? b=some u→h'.get? b=some u)(heo:∃u,h'.get? e=some u)
  (new:xM P w (upd H x o') h' x o'):HOk P w (upd H x o') h':=fun b u q=>by
 have nown:∀c y,H c=some (.own y)→c≠x:=fun c y r z=>by subst z;rw[r]at mu;exact mu
 have ntup:∀c u,H c=some u→xfe u→c≠x:=fun c u r hf z=>by
  subst z;rw[r]at mu;cases u<;> first|exact mu|exact hf
 by_cases hb:b=x
 ·subst hb;rw[xl]at q;cases q;exact new
 ·rw[xA hb]at q
  by_cases hbe:b=e
  ·have q':H b=some (.own x):=by
    rcases he with z|z
    ·exact absurd (hbe.trans z) hb
    ·rw[hbe];exact z
   rw[q]at q';cases q';obtain⟨v,hv⟩:=heo;exact⟨v,by rw[hbe];exact hv⟩
  ·refine(ok b u q).stay (fun c v hc r=>k c v ?_ r) (fun c r=>by rw[xA (nown c b r)];exact r) fun c xs r hf=>by rw[xA (ntup c xs r hf)];exact r
   rcases hc with rfl|hc
   ·exact hbe
   ·rintro rfl;rcases he with z|z
    ·exact nown c b hc z
    ·rw[hc]at z;cases z;exact hb rfl
end
structure Un(fs ex:List Addr)(H H':Hp)(h h':Heap):Prop where
 keep:∀b o,h.get? b=some o→H b=none→b∉fs→b∉ex→h'.get? b=some o
 slot:∀b o,h.get? b=some o→H b=none→b∈fs→b∉ex→∃sl,h'.get? b=some {o with slots:=sl}
 free:∀b o,h.get? b=some o→H b=none→b∉ex→H' b=none
 there:∀b o,h.get? b=some o→b∉ex→∃o',h'.get? b=some o'
 fix:∀b u,H b=some u→Fix u→H' b=some u
section
variable {fs fs' ex ex':List Addr} {H H1 H2:Hp} {h h1 h2 h':Heap} {a x e:Addr} {o:HO}
theorem Un.any(u:Un fs ex H H1 h h1){b:Addr}{ob:Obj}(q:h.get? b=some ob)(n:H b=none)(hx:b∉ex):∃sl,h1.get? b=some {ob with slots:=sl}:=by
 by_cases hb:b∈fs
 ·exact u.slot b ob q n hb hx
 ·exact⟨ob.slots,u.keep b ob q n hb hx⟩
theorem Un.kept(k:∀b u,h.get? b=some u→h'.get? b=some u):Un fs ex H H h h':=
 ⟨fun b ob q _ _ _=>k b ob q,fun b ob q _ _ _=>⟨ob.slots,k b ob q⟩,fun _ _ _ n _=>n,fun b ob q _=>⟨ob,k b ob q⟩,fun _ _ q _=>q⟩
theorem Un.refl:Un fs ex H H h h:=Un.kept fun _ _ q=>q
theorem Un.laid(k:∀b u,h.get? b=some u→h'.get? b=some u)(hp:h.objs.size≤a)(hn:H a=none):Un fs ex H (upd H a o) h h' where
 keep:=fun b u q _ _ _=>k b u q
 slot:=fun b u q _ _ _=>⟨u.slots,k b u q⟩
 free:=fun b u q n _=>by rw[xA (aM (ao (ar q) hp))];exact n
 there:=fun b u q _=>⟨u,k b u q⟩
 fix:=fun b u q _=>by rw[xA (yL q hn)];exact q
theorem Un.write(mu:Mut (H x))(he:e=x∨H e=some (.own x))(k:∀b u,b≠e→h.get? b=some u→h'.get? b=some u)(heo:∃u,h'.get? e=some u):Un fs ex H (upd H x o) h h':=by
 have hx:∀b,H b=none→b≠x:=fun b n z=>by subst z;rw[n]at mu;exact mu
 have hb:∀b,H b=none→b≠e:=fun b n z=>by
  subst z;rcases he with r|r
  ·exact hx b n r
  ·rw[n]at r;cases r
 have hm:∀b u,H b=some u→¬Mut (some u)→b≠x:=fun b u q nm z=>by subst z;rw[q]at mu;exact nm mu
 refine⟨fun b u q n _ _=>k b u (hb b n) q,fun b u q n _ _=>⟨u.slots,k b u (hb b n) q⟩,fun b u q n _=>by rw[xA (hx b n)];exact n,fun b u q _=>?_,
  fun b u q hf=>by rw[xA (hm b _ q fun z=>by cases u<;> first|exact z|exact hf)];exact q⟩
 by_cases hbe:b=e
 ·subst hbe;exact heo
 ·exact⟨u,k b u hbe q⟩
end
def trk(h:Heap)(H:Hp):List Addr:=(dy h.objs.size).filter fun a=>(H a).isSome
def um(h:Heap)(H:Hp):Heap:=W.hideAll h (trk h H)
theorem xcX(h:Heap)(H:Hp):(um h H).objs.size=h.objs.size:=W.hideAll_size _ _
theorem xdJ{h:Heap}{H:Hp}{b:Addr}{o:Obj}(e:h.get? b=some o)(n:H b=none):(um h H).get? b=some o:=
 W.hideAll_get _ e fun hm=>by
  have q:(H b).isSome=true:=(List.mem_filter.mp hm).2;rw[n]at q;simp at q
theorem xev{h:Heap}{H:Hp}{b:Addr}{o:Obj}(e:(um h H).get? b=some o):h.get? b=some o∧H b=none:=by
 have e':h.get? b=some o:=W.of_hideAll (trk h H) e;refine⟨e',?_⟩;cases q:H b with
 |none=>rfl
 |some x=>
  have hm:b∈trk h H:=List.mem_filter.mpr ⟨List.mem_range.mpr (ar e'),by simp[q]⟩;have z:(um h H).get? b=none:=W.hideAll_none (trk h H) hm;rw[z]at e;cases e
end L2
namespace L2
open PySem PySem.Spec PyProof.Rows
structure Mod(K:ae)(mg:Str→Option Value)(base:Heap):Prop where
 kin:K.In base
 glob:base.Ns aX mg
 blt:∃mb,base.Ns b7 mb∧∀x:Str,x≠"__name__"→mb x=aQ x
 nolimit:base.NoLimit
 bm:∃b o,mg "__builtins__"=some (.ref b)∧b≠b7∧base.get? b=some o∧o.cls= .type "module"∧o.dict=some b7∧o.data= .plain
structure Cx where
 prog:aF
 w:World
 K:ae
 mg:Str→Option Value
 base:Heap
 A:aH
 N:List Str
 s₀:aa
 H₀:Hp
 env:Env
 outer:List Env
 stack:List Env
 ex:List Addr
 fn:Str→Bool
 calm:Bool
 pn:List (Addr×Obj)
 xe:Value→aa→Prop
 cp:Str→Bool
def frs(l:List Env):List Addr:=l.filterMap (·.frame)
abbrev Cx.fs(X:Cx):List Addr:=frs X.outer
def Vis(sc:Scope)(x:Str):Prop:=sc.names.lookup x=some .local∨sc.names.lookup x=some .cell∨sc.names.lookup x=some .free
def Loc(sc:Scope)(x:Str):Prop:=sc.names.lookup x=some .local∨sc.names.lookup x=some .cell
def Look(env:Env)(h:Heap)(m:Str→Option Value)(x:Str)(u:Value):Prop:=
 (env.kindOf x=some .local∧m x=some u)∨((env.kindOf x=some .cell∨env.kindOf x=some .free)∧∃c,env.cells.lookup x=some c∧h.IsCell c (some u))
structure Cx.Ok(X:Cx):Prop where
 mod:Mod X.K X.mg X.base
 kind:X.env.scope.kind= .function
 glob:X.env.globals=aX
 blt:X.env.builtins=b7
 above:X.s₀.heap.objs.size≤X.env.locals
 inj:∀x y c,X.env.cells.lookup x=some c→X.env.cells.lookup y=some c→x=y
 has:∀x,(X.env.kindOf x=some .cell∨X.env.kindOf x=some .free)→∃c,X.env.cells.lookup x=some c
 cab:∀x c,X.fn x=true→X.env.cells.lookup x=some c→X.s₀.heap.objs.size≤c
 hd:X.calm=true→X.A.handled=none
 frames:X.A.frames=some X.stack
 stk:X.stack=X.outer∨(X.stack=X.env::X.outer∧X.env.frame=some X.env.locals)
 exf:∀b∈X.ex,b≠X.env.locals∧∀x c,X.env.cells.lookup x=some c→c≠b
 bs:∀b o,X.base.get? b=some o→X.s₀.heap.get? b=some o∧X.H₀ b=none
 bsz:X.base.objs.size≤X.s₀.heap.objs.size
 noex:∀b o,X.base.get? b=some o→b∉X.ex
 exfs:∀b∈X.ex,b∉X.fs
 funs:X.s₀.heap.FunFrames X.base X.outer
 frf:∀b∈X.fs,X.H₀ b=none
 cab2:∀x c,X.cp x=true→X.env.cells.lookup x=some c→X.s₀.heap.objs.size≤c
 hz:∀b,X.s₀.heap.objs.size≤b→X.H₀ b=none
structure Inv(X:Cx)(pins:List (Addr×Obj))(σ:List (Option V))(H:Hp)(s:aa):Prop where
 ok:X.Ok
 os:s.os=X.s₀.os
 bare:cq s.gens
 base:Un X.fs X.ex X.H₀ H X.s₀.heap s.heap
 loc:∃m,s.heap.Ns X.env.locals m∧∀(i:Nat) (x:Str) (v:V),X.N[i]? =some x→σ[i]? =some (some v)→Vis X.env.scope x→∃u,RelV v u∧Look X.env s.heap m x u
 cell:∀x c,X.env.cells.lookup x=some c→∃v,s.heap.IsCell c v
 free:H X.env.locals=none
 freeC:∀x c,X.env.cells.lookup x=some c→H c=none∨(X.fn x=false∧∃o,H c=some (.cel o)∧(o=none→∀(i:Nat) v,X.N[i]? =some x→(X.env.kindOf x=some .cell∨X.env.kindOf x=some .free)→σ[i]?≠some (some v)))
 pin:∀p∈X.pn++pins,s.heap.get? p.1=some p.2∧H p.1=none∧p.1≠X.env.locals∧p.1∉X.fs∧∀v,p.2.data≠.cell v
 hok:HOk X.prog X.w H s.heap
 len:σ.length=X.N.length
section
variable {X:Cx} {pins:List (Addr×Obj)} {σ:List (Option V)} {H H':Hp} {s:aa} {h':Heap}
theorem Cx.Ok.nofr(ok:X.Ok){b:Addr}{o:Obj}(e:X.base.get? b=some o):b∉X.fs:=fun hb=>by
 have:=(ok.funs.mem hb).1;rw[e]at this;cases this
theorem Inv.bs(I:Inv X pins σ H s):∀b o,X.base.get? b=some o→s.heap.get? b=some o∧H b=none:=fun b o e=>
 ⟨I.base.keep b o (I.ok.bs b o e).1 (I.ok.bs b o e).2 (I.ok.nofr e) (I.ok.noex b o e),I.base.free b o (I.ok.bs b o e).1 (I.ok.bs b o e).2 (I.ok.noex b o e)⟩
theorem Inv.bk(I:Inv X pins σ H s):∀b o,X.base.get? b=some o→s.heap.get? b=some o:=fun b o e=>(I.bs b o e).1
theorem Inv.mod(I:Inv X pins σ H s):Mod X.K X.mg X.base:=I.ok.mod
theorem Inv.kIn(I:Inv X pins σ H s):X.K.In s.heap:=I.ok.mod.kin.keeps I.bk
theorem Inv.lt(I:Inv X pins σ H s):X.env.locals<s.heap.objs.size:=let⟨_,hn,_⟩:=I.loc;hn.lt
theorem Inv.sz(I:Inv X pins σ H s):X.s₀.heap.objs.size≤s.heap.objs.size:=ax I.ok.above (cY I.lt)
theorem Inv.nofs(I:Inv X pins σ H s){a:Addr}(h:s.heap.objs.size≤a):a∉X.fs:=fun hb=>by
 obtain⟨_,o,ho,_⟩:=I.ok.funs.mem hb;exact absurd (ao (ar ho) (ax I.sz h)) (bj _)
theorem Inv.cne(I:Inv X pins σ H s):∀x c,X.env.cells.lookup x=some c→c≠X.env.locals:=fun x c e z=>by
 obtain⟨v,o,ho,hd⟩:=I.cell x c e;obtain⟨m,⟨o',es,ep,ho',hd',_⟩,_⟩:=I.loc;rw[z,ho']at ho;cases ho;rw[hd']at hd;cases hd
theorem Inv.funs(I:Inv X pins σ H s):s.heap.FunFrames X.base X.outer:=by
 have all:∀(l:List Env),(∀b∈frs l,b∈X.fs)→X.s₀.heap.FunFrames X.base l→s.heap.FunFrames X.base l:=by
  intro l
  induction l with
  |nil=>intro _ _;trivial
  |cons env r ih=>
   intro hs hl;obtain⟨hk,⟨L,o,hf,hn,ho,hd⟩,hr⟩:=hl;have hL:L∈X.fs:=hs L (by unfold frs;rw[cG,hf];exact aU);obtain⟨sl,e⟩:=I.base.slot L o ho (I.ok.frf L hL) hL fun z=>I.ok.exfs L z hL;exact⟨hk,⟨L,_,hf,hn,e,hd⟩,ih (fun b hb=>hs b (by unfold frs;rw[cG,hf];exact av _ hb)) hr⟩
 exact all X.outer (fun _ hb=>hb) I.ok.funs
theorem Inv.stack(I:Inv X pins σ H s):s.heap.FunFrames X.base X.stack:=by
 rcases I.ok.stk with e|⟨e,hf⟩
 ·rw[e];exact I.funs
 ·rw[e];obtain⟨m,hn,_⟩:=I.loc;refine .cons (by rw[I.ok.kind];decide) hf hn ?_ I.funs;exact Heap.get?_none_of_le (ax I.ok.bsz I.ok.above)
theorem Inv.stkSub(I:Inv X pins σ H s):∀b∈frs X.stack,b∈X.env.locals::X.fs:=fun b hb=>by
 rcases I.ok.stk with e|⟨e,hf⟩
 ·rw[e]at hb;exact av _ hb
 ·rw[e]at hb;unfold frs at hb;rw[cG,hf]at hb;exact hb
theorem Inv.stkFree(I:Inv X pins σ H s):∀b∈frs X.stack,H b=none:=fun b hb=>by
 rcases aC.mp (I.stkSub b hb)with e|hb
 ·rw[e];exact I.free
 ·obtain⟨_,o,ho,_⟩:=I.ok.funs.mem hb;exact I.base.free b o ho (I.ok.frf b hb) fun z=>I.ok.exfs b z hb
theorem Inv.step{g':Array GenState}{t':Nat}{d':Drawn}{ch:List Addr}(I:Inv X pins σ H s)
  (hch:∀b∈ch,(b∈X.ex∨X.s₀.heap.objs.size≤b)∧b≠X.env.locals∧(∀x c,X.env.cells.lookup x=some c→c≠b)∧∀p∈X.pn++pins,p.1≠b)
  (keep:∀b o,b≠X.env.locals→b∉X.fs→b∉ch→s.heap.get? b=some o→H b=none→h'.get? b=some o)
  (slot:∀b o,b≠X.env.locals→b∈X.fs→b∉ch→s.heap.get? b=some o→H b=none→∃sl,h'.get? b=some {o with slots:=sl}) (free:∀b o,b∉ch→s.heap.get? b=some o→H b=none→H' b=none)
  (there:∀b o,b∉ch→s.heap.get? b=some o→∃o',h'.get? b=some o')
  (fix:∀b u,H b=some u→Fix u→H' b=some u)
  (ns:∀m,s.heap.Ns X.env.locals m→h'.Ns X.env.locals m) (hok:HOk X.prog X.w H' h') (hg:cq g'):
  Inv X pins σ H' {s with heap:=h',gens:=g',drawn:=d',toks:=t'}:=by
 have neL:∀b o,X.s₀.heap.get? b=some o→b≠X.env.locals:=fun b o e=>aM (ao (ar e) I.ok.above);have neC:∀b o,X.s₀.heap.get? b=some o→b∉X.ex→b∉ch:=fun b o e hx hb=>by
  rcases(hch b hb).1 with z|z
  ·exact hx z
  ·exact absurd (ao (ar e) z) (bj _)
 have cellK:∀x c,X.env.cells.lookup x=some c→H c=none→∀v,s.heap.IsCell c v→h'.IsCell c v:=fun x c e hn v ⟨o,ho,hd⟩=>by
  have nch:c∉ch:=fun z=>(hch c z).2.2.1 x c e rfl
  by_cases hc:c∈X.fs
  ·obtain⟨sl,q⟩:=slot c o (I.cne x c e) hc nch ho hn;exact⟨_,q,hd⟩
  ·exact⟨o,keep c o (I.cne x c e) hc nch ho hn,hd⟩
 refine⟨I.ok,I.os,hg,⟨fun b o e n hb hx=>?_,fun b o e n hb hx=>?_,fun b o e n hx=>?_,fun b o e hx=>?_,fun b u e f=>fix b u (I.base.fix b u e f) f⟩,?_,fun x c e=>?_,?_,fun x c e=>?_,fun p hp=>?_,hok,I.len⟩
 ·exact keep b o (neL b o e) hb (neC b o e hx) (I.base.keep b o e n hb hx) (I.base.free b o e n hx)
 ·obtain⟨sl,e1⟩:=I.base.slot b o e n hb hx;obtain⟨sl',e2⟩:=slot b _ (neL b o e) hb (neC b o e hx) e1 (I.base.free b o e n hx);exact⟨sl',e2⟩
 ·obtain⟨o',e1⟩:=I.base.there b o e hx;exact free b o' (neC b o e hx) e1 (I.base.free b o e n hx)
 ·obtain⟨o',e1⟩:=I.base.there b o e hx;exact there b o' (neC b o e hx) e1
 ·obtain⟨m,hn,hl⟩:=I.loc;refine⟨m,ns m hn,fun i x v e1 e2 e3=>?_⟩;obtain⟨u,r,l⟩:=hl i x v e1 e2 e3;rcases l with l|⟨k,c,e,z⟩
  ·exact⟨u,r,.inl l⟩
  ·rcases I.freeC x c e with hn'|⟨_,o,ho,hno⟩
   ·exact⟨u,r,.inr ⟨k,c,e,cellK x c e hn' _ z⟩⟩
   ·cases o with
    |none=>exact absurd e2 (hno rfl i v e1 k)
    |some v'=>
     obtain⟨y,hy,hr⟩:=I.hok c _ ho;obtain⟨y',hy',hr'⟩:=hok c _ (fix c _ ho trivial);obtain⟨y2,rfl,r2⟩:=hr v' rfl;obtain⟨y3,rfl,r3⟩:=hr' v' rfl;have:v=v':=RelV.fn r (by
      obtain⟨o1,q1,q2⟩:=z;obtain⟨o2,q3,q4⟩:=hy;rw[q1]at q3;cases q3;rw[q2]at q4;cases q4;exact r2)
     subst this;exact⟨y3,r3,.inr ⟨k,c,e,hy'⟩⟩
 ·rcases I.freeC x c e with hn'|⟨_,o,ho,_⟩
  ·obtain⟨v,z⟩:=I.cell x c e;exact⟨v,cellK x c e hn' v z⟩
  ·obtain⟨y',hy',_⟩:=hok c _ (fix c _ ho trivial);exact⟨y',hy'⟩
 ·obtain⟨m,⟨o,_,_,ho,_⟩,_⟩:=I.loc;exact free _ o (fun z=>(hch _ z).2.1 rfl) ho I.free
 ·rcases I.freeC x c e with hn'|⟨hf,o,ho,hno⟩
  ·obtain⟨v,o,ho,hd⟩:=I.cell x c e;exact .inl (free c o (fun z=>(hch c z).2.2.1 x c e rfl) ho hn')
  ·exact .inr ⟨hf,o,fix c _ ho trivial,hno⟩
 ·obtain⟨e,n,ne,nf,d⟩:=I.pin p hp;have nch:p.1∉ch:=fun z=>(hch p.1 z).2.2.2 p hp rfl;exact⟨keep p.1 p.2 ne nf nch e n,free p.1 p.2 nch e n,ne,nf,d⟩
theorem Inv.un{t':Nat}(I:Inv X pins σ H s)(u:Un X.fs [] H H' s.heap h')(hok:HOk X.prog X.w H' h'):Inv X pins σ H' {s with heap:=h',toks:=t'}:=by
 obtain⟨m,⟨o,es,ep,ho,r⟩,_⟩:=id I.loc;obtain⟨sl,hL⟩:=u.any ho I.free (by simp);exact I.step (g':=s.gens) (d':=s.drawn) (ch:=[]) (fun _ z=>nomatch z) (fun b o _ hb _ e n=>u.keep b o e n hb (by simp)) (fun b o _ hb _ e n=>u.slot b o e n hb (by simp)) (fun b o _ e n=>u.free b o e n (by simp)) (fun b o _ e=>u.there b o e (by simp)) u.fix (fun m' hm=>by
  obtain⟨o',es',ep',ho',r'⟩:=hm;rw[ho]at ho';cases ho';exact⟨_,es',ep',hL,r'⟩) hok I.bare
theorem Inv.call{g':Array GenState}{t':Nat}{d':Drawn}{ch:List Addr}(I:Inv X pins σ H s)(u:Un (frs X.stack) ch H H' s.heap h')(hok:HOk X.prog X.w H' h')(hg:cq g')
  (hch:∀b∈ch,(b∈X.ex∨X.s₀.heap.objs.size≤b)∧b≠X.env.locals∧(∀x c,X.env.cells.lookup x=some c→c≠b)∧∀p∈X.pn++pins,p.1≠b):
  Inv X pins σ H' {s with heap:=h',gens:=g',drawn:=d',toks:=t'}:=by
 obtain⟨m,⟨o,es,ep,ho,r⟩,_⟩:=id I.loc;obtain⟨sl,hL⟩:=u.any ho I.free fun z=>(hch _ z).2.1 rfl;exact I.step (ch:=ch) hch (fun b o hL hb hc e n=>u.keep b o e n (fun z=>(aC.mp (I.stkSub b z)).elim hL hb) hc) (fun b o _ _ hc e n=>u.any e n hc) (fun b o hc e n=>u.free b o e n hc) (fun b o hc e=>u.there b o e hc) u.fix (fun m' hm=>by
  obtain⟨o',es',ep',ho',r'⟩:=hm;rw[ho]at ho';cases ho';exact⟨_,es',ep',hL,r'⟩) hok hg
theorem Inv.turned{t':Nat}{it:Addr}(I:Inv X pins σ H s)(k:∀b o,b≠it→s.heap.get? b=some o→h'.get? b=some o)(hn:H it=none)(hL:it≠X.env.locals)
  (h1:it∈X.ex∨X.s₀.heap.objs.size≤it) (h2:∀x c,X.env.cells.lookup x=some c→c≠it) (h3:∀p∈X.pn++pins,p.1≠it):Inv X pins σ H {s with heap:=h',toks:=t'}:=by
 have nit:∀b u,H b=some u→b≠it:=fun b u e z=>by rw[z,hn]at e;cases e
 refine I.step (g':=s.gens) (d':=s.drawn) (ch:=[it]) (fun b hb=>?_) (fun b o _ _ hc e _=>k b o (fun z=>hc (by simp[z])) e) (fun b o _ _ hc e _=>⟨o.slots,k b o (fun z=>hc (by simp[z])) e⟩) (fun _ _ _ _ n=>n)
  (fun b o hc e=>⟨o,k b o (fun z=>hc (by simp[z])) e⟩) (fun _ _ e _=>e) (fun m hm=>?_) (fun b u e=>?_) I.bare
 ·have e:b=it:=by simpa using hb
  subst e;exact⟨h1,hL,h2,h3⟩
 ·obtain⟨o,es,ep,ho,r⟩:=hm;exact⟨o,es,ep,k _ o (bV hL) ho,r⟩
 ·refine(I.hok b u e).stay (fun c v hc q=>k c v ?_ q) (fun _ q=>q) fun _ _ q _=>q;rcases hc with z|z
  ·rw[z];exact nit b u e
  ·exact nit c _ z
theorem Inv.tok(I:Inv X pins σ H s)(t:Nat):Inv X pins σ H {s with toks:=t}:=I.un (h':=s.heap) (t':=t) Un.refl I.hok
theorem Inv.kept{t':Nat}(I:Inv X pins σ H s)(k:∀b u,s.heap.get? b=some u→h'.get? b=some u):Inv X pins σ H {s with heap:=h',toks:=t'}:=I.un (Un.kept k) (I.hok.kept k)
theorem Inv.laid{a:Addr}{o:HO}{t':Nat}(I:Inv X pins σ H s)(k:∀b u,s.heap.get? b=some u→h'.get? b=some u)(hp:s.heap.objs.size≤a)(new:xM X.prog X.w (upd H a o) h' a o):
  Inv X pins σ (upd H a o) {s with heap:=h',toks:=t'}:=I.un (Un.laid k hp (I.hok.fresh hp)) (I.hok.laid k hp new)
theorem Inv.write{x e:Addr}{o:HO}{t':Nat}(I:Inv X pins σ H s)(mu:Mut (H x))(he:e=x∨H e=some (.own x))(k:∀b u,b≠e→s.heap.get? b=some u→h'.get? b=some u)(heo:∃u,h'.get? e=some u)
  (new:xM X.prog X.w (upd H x o) h' x o):Inv X pins σ (upd H x o) {s with heap:=h',toks:=t'}:=I.un (Un.write mu he k heo) (I.hok.write mu he k heo new)
theorem Inv.weak{σ':List (Option V)}(I:Inv X pins σ H s)(hl:σ'.length=σ.length)(w:∀(i:Nat) v,σ'[i]? =some (some v)→σ[i]? =some (some v)):Inv X pins σ' H s:=
 ⟨I.ok,I.os,I.bare,I.base,let⟨m,hn,hl'⟩:=I.loc;⟨m,hn,fun i x v e1 e2 e3=>hl' i x v e1 (w i v e2) e3⟩,I.cell,I.free,fun x c e=>(I.freeC x c e).imp id fun⟨hf,o,ho,hno⟩=>⟨hf,o,ho,fun z i v e1 k e2=>hno z i v e1 k (w i v e2)⟩,I.pin,I.hok,hl.trans I.len⟩
theorem Inv.pins_of{pins':List (Addr×Obj)}(I:Inv X pins σ H s)(h:∀p∈pins',s.heap.get? p.1=some p.2∧H p.1=none∧p.1≠X.env.locals∧p.1∉X.fs∧∀v,p.2.data≠.cell v):Inv X pins' σ H s:=
 ⟨I.ok,I.os,I.bare,I.base,I.loc,I.cell,I.free,I.freeC,fun p hp=>(bf.mp hp).elim (fun z=>I.pin p (dz _ z)) (h p),I.hok,I.len⟩
theorem xa7{N:List Str}(hN:N.Nodup){i j:Nat}{x:Str}(a:N[i]? =some x)(b:N[j]? =some x):i=j:=by
 obtain⟨h1,e1⟩:=aW.mp a;obtain⟨h2,e2⟩:=aW.mp b;exact(List.getElem_inj hN).mp (e1.trans e2.symm)
theorem xap{M:Model}{A:aH}{E:Value→aa→Prop}{i:Nat}{x:Str}{v:V}{u:Value}{Q:Unit→aa→Prop}(I:Inv X pins σ H s)(hN:X.N.Nodup)(hi:X.N[i]? =some x)(hx:Loc X.env.scope x)(r:RelV v u)
  (h:∀s',Inv X pins (σ.set i (some v)) H s'→(∃a,dJ a s.heap s'.heap∧(a=X.env.locals∨X.env.cells.lookup x=some a))→Q () s') (hf:X.fn x=true∨X.env.scope.names.lookup x=some .local:=by first|exact .inl rfl|exact .inr rfl|assumption):wpAny M A (storeName X.env x u) Q E s:=by
 obtain⟨m,hn,hl⟩:=id I.loc;have hcls:(X.env.scope.kind== .class||(X.env.scope.kind== .module&&X.env.locals != X.env.globals))=false:=by rw[I.ok.kind];rfl
 have hiσ:i<σ.length:=by rw[I.len];exact(aW.mp hi).1
 have cne:=I.cne;have tracked:∀{a:Addr} {h':Heap},(∃o,s.heap.get? a=some o∧H a=none)→dJ a s.heap h'→HOk X.prog X.w H h':=fun{a h'} ha hs b ob e=>by
  obtain⟨_,_,hfree⟩:=ha;refine(I.hok b ob e).stay (fun c w' hc q=>(hs.2 c ?_).trans q) (fun _ q=>q) fun _ _ q _=>q;rintro rfl;rcases hc with rfl|hc
  ·rw[hfree]at e;cases e
  ·rw[hfree]at hc;cases hc
 rcases hx with hk|hk
 ·refine wpAny_storeName_local hk hn (fun h' hn' hs=>?_) hcls;obtain⟨oL,_,_,hoL,_⟩:=id hn;refine h _ ⟨I.ok,I.os,I.bare,⟨fun b o e n hb hx=>?_,fun b o e n hb hx=>?_,I.base.free,fun b o e hx=>?_,I.base.fix⟩,⟨_,hn',fun j y v' e1 e2 e3=>?_⟩,fun y c e=>?_,I.free,fun y c e=>?_,fun p hp=>?_,tracked ⟨oL,hoL,I.free⟩ hs,by simpa using I.len⟩ ⟨_,hs,.inl rfl⟩
  ·exact(hs.2 b (aM (ao (ar e) I.ok.above))).trans (I.base.keep b o e n hb hx)
  ·obtain⟨sl,e1⟩:=I.base.slot b o e n hb hx;exact⟨sl,(hs.2 b (aM (ao (ar e) I.ok.above))).trans e1⟩
  ·obtain⟨o',e1⟩:=I.base.there b o e hx;exact⟨o',(hs.2 b (aM (ao (ar e) I.ok.above))).trans e1⟩
  ·by_cases hj:j=i
   ·subst hj;rw[hi]at e1;cases e1;rw[dq hiσ]at e2;cases e2;exact⟨u,r,.inl ⟨hk,by simp⟩⟩
   ·rw[bQ (bV hj)]at e2;obtain⟨u',r',q⟩:=hl j y v' e1 e2 e3;refine⟨u',r',?_⟩;rcases q with⟨k,e⟩|⟨k,c,e,z⟩
    ·refine .inl ⟨k,?_⟩;have:y≠x:=fun e=>hj (xa7 hN e1 (e▸hi));simp[this,e]
    ·exact .inr ⟨k,c,e,z.sameBut hs (cne y c e)⟩
  ·obtain⟨w',z⟩:=I.cell y c e;exact⟨w',z.sameBut hs (cne y c e)⟩
  ·refine(I.freeC y c e).imp id fun⟨hf',o',ho',hno⟩=>⟨hf',o',ho',fun z j v' e1 k e2=>?_⟩
   by_cases hj:j=i
   ·subst hj;rw[hi]at e1;cases e1;have hk':X.env.kindOf x=some .local:=hk;rw[hk']at k;rcases k with k|k<;> cases k
   ·rw[bQ (bV hj)]at e2;exact hno z j v' e1 k e2
  ·obtain⟨e,n,ne,nf,d⟩:=I.pin p hp;exact⟨(hs.2 p.1 ne).trans e,n,ne,nf,d⟩
 ·have hfn:X.fn x=true:=by
   rcases hf with z|z
   ·exact z
   ·rw[z]at hk;cases hk
  obtain⟨c,hc⟩:=I.ok.has x (.inl hk);have hHc:H c=none:=by
   rcases I.freeC x c hc with z|⟨z,_⟩
   ·exact z
   ·rw[hfn]at z;cases z
  obtain⟨w',z⟩:=I.cell x c hc;refine wpAny_storeName_cell I.ok.kind hk hc z (fun h' hc' hs=>?_);obtain⟨oc,hoc,hocd⟩:=id z;refine h {s with heap:=h'} ⟨I.ok,I.os,I.bare,⟨fun b o e n hb hx=>?_,fun b o e n hb hx=>?_,I.base.free,fun b o e hx=>?_,I.base.fix⟩,⟨m,hn.sameBut hs (bV (cne x c hc)),fun j y v' e1 e2 e3=>?_⟩,fun y c' e=>?_,I.free,fun y c' e=>?_,fun p hp=>?_,tracked ⟨oc,hoc,hHc⟩ hs,by simpa using I.len⟩ ⟨c,hs,.inr hc⟩
  ·exact(hs.2 b (aM (ao (ar e) (I.ok.cab x c hfn hc)))).trans (I.base.keep b o e n hb hx)
  ·obtain⟨sl,e1⟩:=I.base.slot b o e n hb hx;exact⟨sl,(hs.2 b (aM (ao (ar e) (I.ok.cab x c hfn hc)))).trans e1⟩
  ·obtain⟨o',e1⟩:=I.base.there b o e hx;exact⟨o',(hs.2 b (aM (ao (ar e) (I.ok.cab x c hfn hc)))).trans e1⟩
  ·by_cases hj:j=i
   ·subst hj;rw[hi]at e1;cases e1;rw[dq hiσ]at e2;cases e2;exact⟨u,r,.inr ⟨.inl hk,c,hc,hc'⟩⟩
   ·rw[bQ (bV hj)]at e2;obtain⟨u',r',q⟩:=hl j y v' e1 e2 e3;refine⟨u',r',?_⟩;rcases q with q|⟨k,c',e,z'⟩
    ·exact .inl q
    ·refine .inr ⟨k,c',e,z'.sameBut hs ?_⟩;rintro rfl;exact hj (xa7 hN e1 (I.ok.inj _ _ _ e hc▸hi))
  ·by_cases hcc:c'=c
   ·subst hcc;exact⟨_,hc'⟩
   ·obtain⟨w2,z2⟩:=I.cell y c' e;exact⟨w2,z2.sameBut hs hcc⟩
  ·refine(I.freeC y c' e).imp id fun⟨hf',o',ho',hno⟩=>⟨hf',o',ho',fun z j v' e1 k e2=>?_⟩
   by_cases hj:j=i
   ·subst hj;rw[hi]at e1;cases e1;rw[hfn]at hf';cases hf'
   ·rw[bQ (bV hj)]at e2;exact hno z j v' e1 k e2
  ·obtain⟨e,n,ne,nf,d⟩:=I.pin p hp;refine⟨(hs.2 p.1 ?_).trans e,n,ne,nf,d⟩;intro q;rw[q,hoc]at e;have q':oc=p.2:=ba e;exact d w' (by rw[←q'];exact hocd)
theorem vW{M:Model}{A:aH}{E:Value→aa→Prop}{i:Nat}{x:Str}{v:V}{u:Value}{Q:Unit→aa→Prop}(I:Inv X pins σ H s)(hN:X.N.Nodup)(hi:X.N[i]? =some x)(hx:Loc X.env.scope x)(r:RelV v u)
  (h:∀s',Inv X pins (σ.set i (some v)) H s'→Q () s') (hf:X.fn x=true∨X.env.scope.names.lookup x=some .local:=by first|exact .inl rfl|exact .inr rfl|assumption):wpAny M A (storeName X.env x u) Q E s:=
 xap I hN hi hx r (fun s' I' _=>h s' I') hf
theorem Inv.call'{s':aa}{ch:List Addr}(I:Inv X pins σ H s)(ho:s'.os=s.os)(u:Un (frs X.stack) ch H H' s.heap s'.heap)(hok:HOk X.prog X.w H' s'.heap)(hg:cq s'.gens)
  (hch:∀b∈ch,(b∈X.ex∨X.s₀.heap.objs.size≤b)∧b≠X.env.locals∧(∀x c,X.env.cells.lookup x=some c→c≠b)∧∀p∈X.pn++pins,p.1≠b):Inv X pins σ H' s':=by
 obtain⟨h',g',d',t',o'⟩:=s';have e:o'=s.os:=ho;subst e;exact I.call (g':=g') (t':=t') (d':=d') u hok hg hch
end
abbrev XK:=Value→Option Addr→Hp→Prop
abbrev St:=List (Option V)
abbrev VK:=V→Hp→Prop
abbrev TE:=St→Hp→VK→Prop
abbrev TT:=St→Hp→(Bool→Hp→Prop)→Prop
abbrev TA:=St→Hp→(List V→Hp→Prop)→Prop
structure Ends where
 nx:St→Hp→Prop
 rt:VK
 bk:St→Hp→Prop:=fun _ _=>False
 ct:St→Hp→Prop:=fun _ _=>False
abbrev TS:=Ends→St→Hp→Prop
def EP(X:Cx)(pins:List (Addr×Obj))(σ:St)(Q:VK)(u:Value)(s':aa):Prop:=∃v H',Inv X pins σ H' s'∧RelV v u∧Q v H'
def TP(X:Cx)(pins:List (Addr×Obj))(σ:St)(Q:Bool→Hp→Prop)(b:Bool)(s':aa):Prop:=∃H',Inv X pins σ H' s'∧Q b H'
def AP(X:Cx)(pins:List (Addr×Obj))(σ:St)(Q:List V→Hp→Prop)(us:List Value)(s':aa):Prop:=∃vs H',Inv X pins σ H' s'∧Vals vs us∧Q vs H'
def SP(X:Cx)(pins:List (Addr×Obj))(D:Ends)(f:Flow)(s':aa):Prop:=
 match f with
 | .next=>∃σ' H',Inv X pins σ' H' s'∧D.nx σ' H'
 | .brk=>∃σ' H',Inv X pins σ' H' s'∧D.bk σ' H'
 | .cont=>∃σ' H',Inv X pins σ' H' s'∧D.ct σ' H'
 | .ret u=>∃v σ' H',Inv X pins σ' H' s'∧RelV v u∧D.rt v H'
def PE(X:Cx)(e:Expr)(t:TE):Prop:=
 ∀(pins:List (Addr×Obj)) (s:aa) (σ:St) (H:Hp) (Q:VK),Inv X pins σ H s→t σ H Q→wpAny (model X.prog X.w) X.A (eval e X.env) (EP X pins σ Q) X.xe s
def PT(X:Cx)(e:Expr)(t:TT):Prop:=
 ∀(pins:List (Addr×Obj)) (s:aa) (σ:St) (H:Hp) (Q:Bool→Hp→Prop),Inv X pins σ H s→t σ H Q→wpAny (model X.prog X.w) X.A (isTrue e X.env (eval e X.env)) (TP X pins σ Q) X.xe s
def PW(X:Cx)(e:Expr)(t:TT):Prop:=
 ∀(whole:Sem Value) (pins:List (Addr×Obj)) (s:aa) (σ:St) (H:Hp) (Q:Bool→Hp→Prop),Inv X pins σ H s→t σ H Q→wpAny (model X.prog X.w) X.A (isTrue e X.env whole) (TP X pins σ Q) X.xe s
theorem PW.pt{X:Cx}{e:Expr}{t:TT}(h:PW X e t):PT X e t:=h _
def PA(X:Cx)(es:List Expr)(t:TA):Prop:=
 ∀(pos:Pos) (pins:List (Addr×Obj)) (s:aa) (σ:St) (H:Hp) (Q:List V→Hp→Prop),Inv X pins σ H s→t σ H Q→wpAny (model X.prog X.w) X.A (spliced (bL pos (aE es X.env))) (AP X pins σ Q) X.xe s
def PS(X:Cx)(st:Stmt)(t:TS):Prop:=
 ∀(pins:List (Addr×Obj)) (s:aa) (σ:St) (H:Hp) (D:Ends),Inv X pins σ H s→t D σ H→wpAny (model X.prog X.w) X.A (exec st X.env) (SP X pins D) X.xe s
def PSs(X:Cx)(st:List Stmt)(t:TS):Prop:=
 ∀(pins:List (Addr×Obj)) (s:aa) (σ:St) (H:Hp) (D:Ends),Inv X pins σ H s→t D σ H→wpAny (model X.prog X.w) X.A (execs st X.env) (SP X pins D) X.xe s
theorem thn{α:Type}{t:Sem α}{Q Q':α→aa→Prop}{M:Model}{A:aH}{E:Value→aa→Prop}{s:aa}(h:wpAny M A t Q E s)(hQ:∀a s,Q a s→Q' a s):wpAny M A t Q' E s:=aN h hQ fun _ _ x=>x
end L2
namespace L2
open PySem PySem.Spec PyProof.Rows
section
variable {X:Cx}
def xff(i:Nat):TE:=fun σ H Q=>∃v,σ[i]? =some (some v)∧Q v H
def tC(v:V):TE:=fun _ H Q=>Q v H
theorem xfg{i:Nat}{x:Str}{pos:Pos}(hN:X.N[i]? =some x)(hv:Vis X.env.scope x)(hd:(x==("__debug__":Str))=false:=by decide)(hcd:(x==("__classdict__":Str))=false:=by decide):PE X (.Name x pos) (xff i):=by
 intro pins s σ H Q I h;obtain⟨v,e,h⟩:=h;obtain⟨m,hn,hl⟩:=I.loc;obtain⟨u,r,l⟩:=hl i x v hN e hv;have fin:EP X pins σ Q u s:=⟨v,H,I,r,h⟩;rcases l with⟨hk,hm⟩|⟨hk,c,hc,hcell⟩
 ·exact wpAny_Name (wpAny_loadName_local I.ok.kind hk hn hm fin) hd
 ·rcases hk with hk|hk
  ·exact wpAny_Name (wpAny_loadName_cell I.ok.kind hk hc hcell fin) hd
  ·exact wpAny_Name (wpAny_loadName_free I.ok.kind hk hc hcell fin hcd) hd
theorem xc{i j pos}:PE X (.Constant (.int i) j pos) (tC (.int i)):=fun _ _ _ H _ I h=>wpAny_Constant_int ⟨.int i,H,I.tok _,⟨_,rfl⟩,h⟩
theorem vx{b j pos}:PE X (.Constant (.bool b) j pos) (tC (.bl b)):=fun _ _ _ H _ I h=>Constant_bool ⟨.bl b,H,I,rfl,h⟩
theorem xa8{j pos}:PE X (.Constant .none j pos) (tC .non):=fun _ _ _ H _ I h=>Constant_none ⟨.non,H,I,rfl,h⟩
theorem xC{x j pos}:PE X (.Constant (.str x) j pos) (tC (.str x)):=fun _ _ _ H _ I h=>dM ⟨.str x,H,I.tok _,⟨_,rfl⟩,h⟩
def Gl(X:Cx)(x:Str):Prop:=X.env.kindOf x=some .globalImplicit
theorem vy{E:Value→aa→Prop}{pins:List (Addr×Obj)}{s:aa}{σ:St}{H:Hp}{x:Str}{u:Value}{pos:Pos}{Q:Value→aa→Prop}(I:Inv X pins σ H s)(hg:Gl X x)(hm:X.mg x=some u)(h:Q u s)
  (hd:(x==("__debug__":Str))=false:=by decide):wpAny (model X.prog X.w) X.A (eval (.Name x pos) X.env) Q E s:=
 cP I.ok.kind hg (Calls.loadGlobal_global (by rw[I.ok.glob];exact I.mod.glob.keeps I.bk) hm h) hd
theorem uQ{E:Value→aa→Prop}{pins:List (Addr×Obj)}{s:aa}{σ:St}{H:Hp}{x:Str}{u:Value}{pos:Pos}{Q:Value→aa→Prop}(I:Inv X pins σ H s)(hg:Gl X x)(hm:X.mg x=none)(hv:aQ x=some u)(h:Q u s)
  (hn:x≠"__name__":=by decide) (hd:(x==("__debug__":Str))=false:=by decide):wpAny (model X.prog X.w) X.A (eval (.Name x pos) X.env) Q E s:=by
 obtain⟨mb,h1,h2⟩:=I.mod.blt;exact cP I.ok.kind hg (Calls.loadGlobal_builtin (by rw[I.ok.glob];exact I.mod.glob.keeps I.bk) hm (by rw[I.ok.blt];exact h1.keeps I.bk) ((h2 x hn).trans hv) h) hd
theorem xb6{x:Str}{v:V}{u:Value}{pos:Pos}(hg:Gl X x)(hm:X.mg x=some u)(r:RelV v u)(hd:(x==("__debug__":Str))=false:=by decide):PE X (.Name x pos) (tC v):=
 fun _ _ _ H _ I h=>vy I hg hm ⟨v,H,I,r,h⟩ hd
theorem xV{x:Str}{v:V}{u:Value}{pos:Pos}(hg:Gl X x)(hm:X.mg x=none)(hv:aQ x=some u)(r:RelV v u)(hn:x≠"__name__":=by decide)(hd:(x==("__debug__":Str))=false:=by decide):PE X (.Name x pos) (tC v):=
 fun _ _ _ H _ I h=>uQ I hg hm hv ⟨v,H,I,r,h⟩ hn hd
variable {a b:Expr} {ta tb:TE} {pos:Pos}
variable {tA tB':TT} {rest:List Expr}
def xgn(t:TT):TT:=fun σ H Q=>t σ H fun c H1=>Q (!c) H1
theorem uR(ha:PT X a tA):PW X (.BoolOp .Or [a] pos) tA:=by
 intro wh pins s σ H Q I h;refine isTrue_or (thn (ha pins s σ H Q I h) fun c s1 e=>?_);cases c with
 |false=>exact isTrue_or_nil e
 |true=>exact e
theorem yA(ha:PT X a tA):PT X (.UnaryOp .Not a pos) (xgn tA):=by
 intro pins s σ H Q I h;exact isTrue_not (ha pins s σ H (fun c H1=>Q (!c) H1) I h)
theorem zu{op}{t:TE}(h:PE X a t):PE X (.BoolOp op [a] pos) t:=fun pins s σ H Q I hw=>BoolOp_one (h pins s σ H Q I hw)
end
end L2
namespace L2
open PySem PySem.Spec PyProof.Rows
def SqL(K:ae)(H:Hp)(a:Addr)(xs:List V):Prop:=
 Rd H a (.lst xs)∨
  ∃(o:Obj) (its:Array Value) (n:Nat),K.lookup a=some o∧o.cls= .type "list"∧o.dict=none∧o.data= .seq its n∧its.size≤ak∧Vals xs its.toList
def SqT(K:ae)(H:Hp)(a:Addr)(xs:List V):Prop:=
 Rd H a (.tup xs)∨
  ∃(o:Obj) (its:Array Value) (n:Nat),K.lookup a=some o∧o.cls= .type "tuple"∧o.data= .seq its n∧its.size≤ak∧Vals xs its.toList
def xgo:Value→Option V
 | .none=>some .non
 | .bool b=>some (.bl b)
 | .int i _=>some (.int i)
 | .str x _=>some (.str x)
 | .bytes b _=>some (.byt b)
 | .float b _=>some (.flt b)
 | .ref a=>some (.ref a)
 | .type n=>some (.ty n)
 |_=>none
theorem RelV.abs{x:V}{u:Value}(r:RelV x u):xgo u=some x:=by
 cases x with
 |non=>cases r;rfl
 |bl _=>cases r;rfl
 |int _=>obtain⟨t,rfl⟩:=r;rfl
 |str _=>obtain⟨t,rfl⟩:=r;rfl
 |byt _=>obtain⟨t,rfl⟩:=r;rfl
 |flt _=>obtain⟨t,rfl⟩:=r;rfl
 |ref _=>cases r;rfl
 |ty _=>cases r;rfl
theorem RelV.inj{x y:V}{u:Value}(r:RelV x u)(q:RelV y u):x=y:=ba (r.abs.symm.trans q.abs)
theorem Vals.inj:∀{xs ys:List V} {us:List Value},Vals xs us→Vals ys us→xs=ys
 |_,_,_,.nil,.nil=>rfl
 |_,_,_,.cons r t,.cons r' t'=>by rw[r.inj r',Vals.inj t t']
section
variable {X:Cx} {pins:List (Addr×Obj)} {σ:St} {H:Hp} {s:aa} {a:Addr} {xs ys:List V}
theorem SqL.of{K:ae}(h:H a=some (.lst xs)):SqL K H a xs:=.inl (.inl h)
theorem SqT.of{K:ae}(h:H a=some (.tup xs)):SqT K H a xs:=.inl (.inl h)
theorem Inv.list(I:Inv X pins σ H s)(h:SqL X.K H a xs):∃its:List Value,Vals xs its∧PlainL s.heap a its.toArray∧xs.length≤ak:=by
 rcases h with h|⟨o,its,n,hk,hc,hd,hs,hz,r⟩
 ·obtain⟨z,its,n,r,e⟩:=h.ok I.hok;exact⟨its,r,⟨_,n,e,rfl,rfl,rfl⟩,z⟩
 ·refine⟨its.toList,r,⟨o,n,I.kIn a o hk,hc,hd,by simpa using hs⟩,?_⟩;have e:=r.length;simp only[bF]at e;lia
theorem Inv.tuple(I:Inv X pins σ H s)(h:SqT X.K H a xs):∃its:List Value,Vals xs its∧IsTup s.heap a its.toArray∧xs.length≤ak:=by
 rcases h with h|⟨o,its,n,hk,hc,hs,hz,r⟩
 ·obtain⟨z,its,r,p⟩:=h.ok I.hok;exact⟨its,r,p,z⟩
 ·refine⟨its.toList,r,⟨o,I.kIn a o hk,hc,n,by simpa using hs⟩,?_⟩;have e:=r.length;simp only[bF]at e;lia
theorem Inv.list_inj(I:Inv X pins σ H s)(h:SqL X.K H a xs)(h':SqL X.K H a ys):xs=ys:=by
 obtain⟨its,r,⟨o,n,e,_,_,d⟩,_⟩:=I.list h;obtain⟨its',r',⟨o',n',e',_,_,d'⟩,_⟩:=I.list h';rw[e]at e';cases e';rw[d]at d';injection d' with d1 _;have:its=its':=by simpa using congrArg Array.toList d1
 subst this;exact r.inj r'
theorem Inv.tuple_inj(I:Inv X pins σ H s)(h:SqT X.K H a xs)(h':SqT X.K H a ys):xs=ys:=by
 obtain⟨its,r,⟨o,e,_,n,d⟩,_⟩:=I.tuple h;obtain⟨its',r',⟨o',e',_,n',d'⟩,_⟩:=I.tuple h';rw[e]at e';cases e';rw[d]at d';injection d' with d1 _;have:its=its':=by simpa using congrArg Array.toList d1
 subst this;exact r.inj r'
end
abbrev Cx.wish(X:Cx)(E:Value→aa→Prop):Cx:={X with xe:=E}
abbrev Cx.nox(X:Cx):Cx:=X.wish fun _ _=>False
theorem Cx.Ok.wish{X:Cx}(ok:X.Ok)(E:Value→aa→Prop):(X.wish E).Ok:=
 ⟨ok.mod,ok.kind,ok.glob,ok.blt,ok.above,ok.inj,ok.has,ok.cab,ok.hd,ok.frames,ok.stk,ok.exf,ok.bs,ok.bsz,ok.noex,ok.exfs,ok.funs,ok.frf,ok.cab2,ok.hz⟩
theorem Cx.Ok.unwish{X:Cx}{E:Value→aa→Prop}(ok:(X.wish E).Ok):X.Ok:=
 ⟨ok.mod,ok.kind,ok.glob,ok.blt,ok.above,ok.inj,ok.has,ok.cab,ok.hd,ok.frames,ok.stk,ok.exf,ok.bs,ok.bsz,ok.noex,ok.exfs,ok.funs,ok.frf,ok.cab2,ok.hz⟩
section
variable {X:Cx} {pins:List (Addr×Obj)} {σ:St} {H:Hp} {s:aa} {E:Value→aa→Prop}
theorem Inv.wish(I:Inv X pins σ H s)(E:Value→aa→Prop):Inv (X.wish E) pins σ H s:=⟨I.ok.wish E,I.os,I.bare,I.base,I.loc,I.cell,I.free,I.freeC,I.pin,I.hok,I.len⟩
theorem Inv.unwish(I:Inv (X.wish E) pins σ H s):Inv X pins σ H s:=⟨I.ok.unwish,I.os,I.bare,I.base,I.loc,I.cell,I.free,I.freeC,I.pin,I.hok,I.len⟩
theorem SP.unwish{D:Ends}{f:Flow}{s':aa}(h:SP (X.wish E) pins D f s'):SP X pins D f s':=by
 cases f with
 |next=>obtain⟨σ',H',I,q⟩:=h;exact⟨σ',H',I.unwish,q⟩
 |brk=>obtain⟨σ',H',I,q⟩:=h;exact⟨σ',H',I.unwish,q⟩
 |cont=>obtain⟨σ',H',I,q⟩:=h;exact⟨σ',H',I.unwish,q⟩
 |ret u=>obtain⟨v,σ',H',I,r,q⟩:=h;exact⟨v,σ',H',I.unwish,r,q⟩
theorem PSs.nox{st:List Stmt}{t:TS}(h:PSs X.nox st t):PSs X st t:=fun pins s σ H D I hw=>
 aN (h pins s σ H D (I.wish _) hw) (fun _ _ q=>q.unwish) fun _ _ z=>aJ z
end
section
variable {X:Cx} {st:Stmt} {rest:List Stmt} {t u:TS} {e:Expr} {te:TE} {pos:Pos}
def xfX:TS:=fun D σ H=>D.nx σ H
def xgp(t u:TS):TS:=fun D σ H=>t {D with nx:=u D} σ H
theorem xE:PSs X [] xfX:=fun _ _ σ H _ I h=>cy ⟨σ,H,I,h⟩
theorem xg(h1:PS X st t)(h2:PSs X rest u):PSs X (st::rest) (xgp t u):=by
 intro pins s σ H D I h;refine wpAny_execs_cons (thn (h1 pins s σ H {D with nx:=u D} I h) fun f s1 q=>?_);cases f with
 |next=>
  obtain⟨σ',H',I',q⟩:=q;exact h2 pins s1 σ' H' D I' q
 |ret v=>exact q
 |brk=>exact q
 |cont=>exact q
theorem xh(h1:PS X st t):PSs X [st] t:=by
 intro pins s σ H D I h;refine wpAny_execs_cons (thn (h1 pins s σ H D I h) fun f s1 q=>?_);cases f with
 |next=>exact cy q
 |ret v=>exact q
 |brk=>exact q
 |cont=>exact q
theorem Inv.quiet{pins:List (Addr×Obj)}{σ:St}{H:Hp}{s:aa}(I:Inv X pins σ H s):interactive X.env=false:=by simp[interactive,I.ok.kind]
def xfY(te:TE):TS:=fun D σ H=>te σ H fun _ H1=>D.nx σ H1
theorem yt(he:PE X e te)(hs:dk e none pos.line X.env=pure false:=by rfl):PS X (.Expr e pos) (xfY te):=by
 intro pins s σ H D I h;exact wpAny_Expr_any (thn (he pins s σ H _ I h) fun v s1 ⟨x,H1,I1,r1,q1⟩=>⟨σ,H1,I1,q1⟩) I.quiet hs
def xgq(te:TE):TS:=fun D σ H=>te σ H D.rt
theorem xn(he:PE X e te):PS X (.Return (some e) pos) (xgq te):=by
 intro pins s σ H D I h;exact wpAny_Return_some (thn (he pins s σ H _ I h) fun v s1 ⟨x,H1,I1,r1,q1⟩=>⟨x,σ,H1,I1,r1,q1⟩)
end
abbrev TG:=V→St→Hp→(St→Hp→Prop)→Prop
abbrev TGs:=List V→St→Hp→(St→Hp→Prop)→Prop
def PG(X:Cx)(target:Expr)(t:TG):Prop:=
 ∀(pins:List (Addr×Obj)) (s:aa) (σ:St) (H:Hp) (v:V) (u:Value) (Q:St→Hp→Prop),Inv X pins σ H s→RelV v u→t v σ H Q→
  wpAny (model X.prog X.w) X.A (cZ target X.env u) (fun _ s'=>∃σ' H',Inv X pins σ' H' s'∧Q σ' H') X.xe s
def PGs(X:Cx)(ts:List Expr)(t:TGs):Prop:=
 ∀(pins:List (Addr×Obj)) (s:aa) (σ:St) (H:Hp) (vs:List V) (us:List Value) (Q:St→Hp→Prop),Inv X pins σ H s→Vals vs us→t vs σ H Q→
  wpAny (model X.prog X.w) X.A (assignInOrder ((cz ts X.env).map (·.2)) us) (fun _ s'=>∃σ' H',Inv X pins σ' H' s'∧Q σ' H') X.xe s
section
variable {X:Cx} {pos:Pos}
def jy(i:Nat):TG:=fun v σ H Q=>Q (σ.set i (some v)) H
theorem yf{i:Nat}{x:Str}(hN:X.N.Nodup)(hi:X.N[i]? =some x)(hx:Loc X.env.scope x)(hf:X.fn x=true∨X.env.scope.names.lookup x=some .local:=by first|exact .inl rfl|exact .inr rfl|assumption):PG X (.Name x pos) (jy i):=by
 intro pins s σ H v u Q I r h;exact cS (vW I hN hi hx r (fun s' I'=>⟨_,H,I',h⟩) hf)
def xgr:TGs:=fun vs σ H Q=>vs=[]∧Q σ H
def xfZ(t:TG)(u:TGs):TGs:=fun vs σ H Q=>∃v r,vs=v::r∧t v σ H fun σ' H'=>u r σ' H' Q
theorem xew:PGs X [] xgr:=by
 intro pins s σ H vs us Q I r h;obtain⟨e,h⟩:=h;subst e;cases r;exact assignInOrder_nil ⟨σ,H,I,h⟩
theorem vX{e:Expr}{es:List Expr}{t:TG}{u:TGs}(h1:PG X e t)(h2:PGs X es u)
  (hs:(cz (e::es) X.env).map (·.2)=cZ e X.env::(cz es X.env).map (·.2):=by rfl):PGs X (e::es) (xfZ t u):=by
 intro pins s σ H vs us Q I r h;obtain⟨v,vr,e1,h⟩:=h;subst e1;cases r with
 |cons r rr=>
  rw[hs];refine assignInOrder_cons (thn (h1 pins s σ H _ _ _ I r h) fun _ s1 ⟨σ1,H1,I1,q1⟩=>?_);exact h2 pins s1 σ1 H1 _ _ Q I1 rr q1
def xgs(K:ae)(n:Nat)(t:TGs):TG:=fun v σ H Q=>∃a xs,v= .ref a∧SqT K H a xs∧xs.length=n∧t xs σ H Q
theorem xfh{es:List Expr}{k:Nat}{t:TGs}{n:Nat}(hc:X.calm=true)(h:PGs X es t)
  (hn:(cz es X.env).length=n:=by rfl) (hst:(cz es X.env).findIdx? (·.1)=none:=by rfl):PG X (.Tuple es k pos) (xgs X.K n t):=by
 intro pins s σ H v u Q I r hw;obtain⟨a,xs,e1,hq,hl,hw⟩:=hw;subst e1;cases r;obtain⟨its,rv,ht,hz⟩:=I.tuple hq;refine assign_Tuple_tuple (I.ok.hd hc) ht (by simp[hn,←hl,rv.length]) hst fun h' hx=>?_;have I1:Inv X pins σ H {s with heap:=h'}:=I.kept (t':=s.toks) fun b o e=>hx b o (aM (ar e)) e;exact h pins _ σ H xs _ Q I1 (by simpa using rv) hw
def vY(te:TE)(g:TG):TS:=fun D σ H=>te σ H fun x H1=>g x σ H1 D.nx
theorem xfi{tg e:Expr}{te:TE}{g:TG}(he:PE X e te)(hg:PG X tg g)(hs:swapsWithSole [tg] e pos.line X.env=pure false:=by rfl)(hw:swappedStores [tg] e X.env=pure none:=by rfl)
  (h1:(cz [tg] X.env).map (·.2)=[cZ tg X.env]:=by rfl):PS X (.Assign [tg] e pos) (vY te g):=by
 intro pins s σ H D I h;refine wpAny_Assign_stores (thn (he pins s σ H _ I h) fun v s1 ⟨x,H1,I1,r1,q1⟩=>?_) hs hw;rw[h1];exact thn (hg pins s1 σ H1 x v _ I1 r1 q1) fun _ s2 q=>q
theorem xr{i:Nat}{x:Str}{e:Expr}{te:TE}{pos':Pos}(hN:X.N.Nodup)(hi:X.N[i]? =some x)(hx:Loc X.env.scope x)(he:PE X e te)(hs:dk e (some (.Name x pos')) pos.line X.env=pure false:=by rfl)(hf:X.fn x=true∨X.env.scope.names.lookup x=some .local:=by first|exact .inl rfl|exact .inr rfl|assumption):
  PS X (.Assign [.Name x pos'] e pos) (vY te (jy i)):=by
 intro pins s σ H D I h;refine wpAny_Assign_Name (thn (he pins s σ H _ I h) fun v s1 ⟨y,H1,I1,r1,q1⟩=>?_) hs;exact vW I1 hN hi hx r1 (fun s2 I2=>⟨_,H1,I2,q1⟩) hf
end
section
variable {X:Cx} {pos:Pos}
end
structure It where
 go:Nat→Hp→Prop
 yld:Nat→Hp→V→Hp→Prop
 stop:Nat→Hp→Prop
def zU(X:Cx)(pins:List (Addr×Obj))(H:Hp)(b:Addr):Prop:=
 H b=none∧b≠X.env.locals∧b∉X.fs∧(b∈X.ex∨X.s₀.heap.objs.size≤b)∧(∀x c,X.env.cells.lookup x=some c→c≠b)∧∀p∈X.pn++pins,p.1≠b
theorem Inv.fpOk{X:Cx}{pins:List (Addr×Obj)}{σ:St}{H H':Hp}{s:aa}{b:Addr}(I:Inv X pins σ H s)(hb:s.heap.objs.size≤b)(hn:H' b=none):zU X pins H' b:=by
 refine⟨hn,Nat.ne_of_gt (ao I.lt hb),I.nofs hb,.inr (ax I.sz hb),fun x c e z=>?_,fun p hp z=>?_⟩
 ·obtain⟨v,q⟩:=I.cell x c e;exact absurd (ao q.lt (by rw[z];exact hb)) (bj _)
 ·exact absurd (ao (ar (I.pin p hp).1) (by rw[z];exact hb)) (bj _)
structure Turn(P:aF)(w:World)(K:ae)(tg:Expr)(J:It)(fp:List Addr)(it:Addr)(tn:Nat→Heap→Prop):Prop where
 mem:it∈fp
 obj:∀i h,tn i h→∀b∈fp,∃o,h.get? b=some o∧∀v,o.data≠.cell v
 keep:∀i h h',tn i h→(∀b∈fp,∀o,h.get? b=some o→h'.get? b=some o)→tn i h'
 item:∀(X:Cx),X.prog=P→X.w=w→X.K=K→X.calm=true→∀(i:Nat) (pins:List (Addr×Obj)) (s:aa) (σ:St) (H:Hp) (E:Value→aa→Prop),Inv X pins σ H s→(∀b∈fp,zU X pins H b)→tn i s.heap→J.go i H→
  wpAny (model P w) X.A (pyNext (.ref it)) (fun r s1=>∃u,r=some u∧
   wpAny (model P w) X.A (cA tg (.ref it) u) (fun _ s2=>∃x H',Inv X pins σ H' s2∧RelV x u∧J.yld i H x H'∧tn (i+1) s2.heap∧∀b∈fp,H' b=none) E s1) E s
 done:∀(X:Cx),X.prog=P→X.w=w→X.K=K→X.calm=true→∀(i:Nat) (pins:List (Addr×Obj)) (s:aa) (σ:St) (H:Hp) (E:Value→aa→Prop),Inv X pins σ H s→(∀b∈fp,zU X pins H b)→tn i s.heap→J.stop i H→
  wpAny (model P w) X.A (pyNext (.ref it)) (fun r s1=>r=none∧Inv X pins σ H s1) E s
 self:∀(A:aH) (i:Nat) (s:aa) (Q:Value→aa→Prop) (E:Value→aa→Prop),tn i s.heap→Q (.ref it) s→wpAny (model P w) A (pyIter (.ref it)) Q E s
abbrev TI:=St→Hp→(It→Hp→Prop)→Prop
def PIE(X:Cx)(pins:List (Addr×Obj))(σ:St)(tg:Expr)(R:It→Hp→Prop)(itv:Value)(s2:aa):Prop:=
 ∃(it:Addr) (fp:List Addr) (tn:Nat→Heap→Prop) (J:It) (H':Hp),itv= .ref it∧Inv X pins σ H' s2∧Turn X.prog X.w X.K tg J fp it tn∧tn 0 s2.heap∧(∀b∈fp,zU X pins H' b)∧R J H'
def PI(X:Cx)(tg iter:Expr)(wi:TI):Prop:=
 ∀(pins:List (Addr×Obj)) (s:aa) (σ:St) (H:Hp) (R:It→Hp→Prop),Inv X pins σ H s→wi σ H R→
  wpAny (model X.prog X.w) X.A (eval iter X.env) (fun v s1=>wpAny (model X.prog X.w) X.A (pyIter v) (PIE X pins σ tg R) X.xe s1) X.xe s
theorem jz{M:Model}{A:aH}{E:Value→aa→Prop}{s:aa}{tg:Expr}{it:Addr}{u:Value}{o:Obj}{n:String}{vs:Array Value}{Q:Unit→aa→Prop}(ho:s.heap.get? it=some o)(hc:o.cls= .type n)(hd:o.data= .fields vs)
  (hn:["enumerate","zip","dict_itemiterator","dict_reverseitemiterator","odict_iterator","itertools.zip_longest","itertools.pairwise"].contains n=false) (hQ:Q () s):wpAny M A (cA tg (.ref it) u) Q E s:=by
 unfold cA;cases tg<;> first
  |exact az hQ
  |(cases u<;> first
    |exact az hQ
    |(refine ai (wpAny_load ho ?_)
      rw[hc,hd];show wpAny M A (if (["enumerate","zip","dict_itemiterator","dict_reverseitemiterator","odict_iterator","itertools.zip_longest","itertools.pairwise"].contains n&&vs[0]? ==some (rawInt _))=true then _ else _) Q E s;rw[if_neg (by intro h;rw[hn,Bool.false_and]at h;cases h)];exact az hQ))
def Itl(K:ae)(a:Addr):It:=
 ⟨fun i H=>∃xs x,SqL K H a xs∧xs[i]? =some x,fun i H x H'=>H'=H∧∀xs,SqL K H a xs→xs[i]? =some x,fun i H=>∃xs,SqL K H a xs∧xs.length≤i⟩
def Itt(K:ae)(a:Addr):It:=
 ⟨fun i H=>∃xs x,SqT K H a xs∧xs[i]? =some x,fun i H x H'=>H'=H∧∀xs,SqT K H a xs→xs[i]? =some x,fun i H=>∃xs,SqT K H a xs∧xs.length≤i⟩
theorem xcY{P:aF}{w:World}{K:ae}{tg:Expr}(a it:Addr):Turn P w K tg (Itl K a) [it] it (fun i h=>h.IsListIter it a i) where
 mem:=by simp
 obj:=fun i h st b hb=>by
  have e:b=it:=by simpa using hb
  subst e;obtain⟨o,e,c,d⟩:=st;exact⟨o,e,fun v z=>by rw[d]at z;cases z⟩
 keep:=fun i h h' st k=>st.at fun o e=>k it (by simp) o e
 item:=by
  intro X hP hw hK hc i pins s σ H E I hf st hg;subst hP hw hK;obtain⟨xs,x,hq,hx⟩:=hg;obtain⟨its,rv,p,hz⟩:=I.list hq;obtain⟨u,hu,ru⟩:=rv.get hx;obtain⟨f0,f1,f2,f3,f4,f5⟩:=hf it (by simp);refine wpAny_pyNext_list_item st p.isList (x:=u) (by simpa using hu) fun h' st' sb=>?_;have I1:Inv X pins σ H {s with heap:=h'}:=I.turned (t':=s.toks) (fun b o hb e=>(sb.2 b hb).trans e) f0 f1 f3 f4 f5;obtain⟨o,e,c,d⟩:=id st';exact⟨u,rfl,jz (s:={s with heap:=h'}) e c d (by decide) ⟨x,H,I1,ru,⟨rfl,fun ys hy=>by rw[I.list_inj hy hq];exact hx⟩,st',fun b hb=>(hf b hb).1⟩⟩
 done:=by
  intro X hP hw hK hc i pins s σ H E I hf st hg;subst hP hw hK;obtain⟨xs,hq,hx⟩:=hg;obtain⟨its,rv,p,hz⟩:=I.list hq;obtain⟨f0,f1,f2,f3,f4,f5⟩:=hf it (by simp);have hl:=rv.length;exact wpAny_pyNext_list_end (I.ok.hd hc) st p.isList (by simp;lia) fun h' eb=>⟨rfl,I.turned (t':=s.toks) (fun b o hb e=>eb b o hb e) f0 f1 f3 f4 f5⟩
 self:=fun _ _ _ _ _ st h=>wpAny_pyIter_listiter st h
theorem xcq{P:aF}{w:World}{K:ae}{tg:Expr}(a it:Addr):Turn P w K tg (Itt K a) [it] it (fun i h=>h.IsTupleIter it a i) where
 mem:=by simp
 obj:=fun i h st b hb=>by
  have e:b=it:=by simpa using hb
  subst e;obtain⟨o,e,c,d⟩:=st;exact⟨o,e,fun v z=>by rw[d]at z;cases z⟩
 keep:=fun i h h' st k=>st.at fun o e=>k it (by simp) o e
 item:=by
  intro X hP hw hK hc i pins s σ H E I hf st hg;subst hP hw hK;obtain⟨xs,x,hq,hx⟩:=hg;obtain⟨its,rv,p,hz⟩:=I.tuple hq;obtain⟨u,hu,ru⟩:=rv.get hx;obtain⟨f0,f1,f2,f3,f4,f5⟩:=hf it (by simp);refine wpAny_pyNext_tuple_item st (show s.heap.IsTuple a its.toArray from p) (x:=u) (by simpa using hu) fun h' st' sb=>?_;have I1:Inv X pins σ H {s with heap:=h'}:=I.turned (t':=s.toks) (fun b o hb e=>(sb.2 b hb).trans e) f0 f1 f3 f4 f5;obtain⟨o,e,c,d⟩:=id st';exact⟨u,rfl,jz (s:={s with heap:=h'}) e c d (by decide) ⟨x,H,I1,ru,⟨rfl,fun ys hy=>by rw[I.tuple_inj hy hq];exact hx⟩,st',fun b hb=>(hf b hb).1⟩⟩
 done:=by
  intro X hP hw hK hc i pins s σ H E I hf st hg;subst hP hw hK;obtain⟨xs,hq,hx⟩:=hg;obtain⟨its,rv,p,hz⟩:=I.tuple hq;obtain⟨f0,f1,f2,f3,f4,f5⟩:=hf it (by simp);have hl:=rv.length;exact wpAny_pyNext_tuple_end (I.ok.hd hc) st (show s.heap.IsTuple a its.toArray from p) (by simp;lia) fun h' eb=>⟨rfl,I.turned (t':=s.toks) (fun b o hb e=>eb b o hb e) f0 f1 f3 f4 f5⟩
 self:=fun _ _ _ _ _ st h=>wpAny_pyIter_tupleiter st h
end L2
namespace L2
open PySem PySem.Spec PyProof.Rows
section
variable {X:Cx} {tg:Expr}
def xf0(K:ae)(tl:TE):TI:=fun σ H R=>tl σ H fun x H1=>∃a,x= .ref a∧(∃xs,SqL K H1 a xs)∧R (Itl K a) H1
def xfj(K:ae)(tl:TE):TI:=fun σ H R=>tl σ H fun x H1=>∃a,x= .ref a∧(∃xs,SqT K H1 a xs)∧R (Itt K a) H1
theorem yu{l:Expr}{tl:TE}(hl:PE X l tl):PI X tg l (xf0 X.K tl):=by
 intro pins s σ H R I h;refine thn (hl pins s σ H _ I h) fun v s1 ⟨x,H1,I1,r1,q1⟩=>?_;obtain⟨a,e,⟨xs,hq⟩,q⟩:=q1;subst e;cases r1;obtain⟨its,rv,p,hz⟩:=I1.list hq;refine wpAny_pyIter_list p.isList ?_;refine⟨s1.heap.objs.size,[s1.heap.objs.size],_,_,H1,rfl,I1.kept (t':=s1.toks) fun b o e=>ah _ e,xcY a _,⟨_,aG _ rfl,rfl,rfl⟩,fun b hb=>?_,q⟩;have e:b=s1.heap.objs.size:=by simpa using hb
 subst e;exact I1.fpOk (aj _) (I1.hok.fresh (aj _))
theorem uS{l:Expr}{tl:TE}(hl:PE X l tl):PI X tg l (xfj X.K tl):=by
 intro pins s σ H R I h;refine thn (hl pins s σ H _ I h) fun v s1 ⟨x,H1,I1,r1,q1⟩=>?_;obtain⟨a,e,⟨xs,hq⟩,q⟩:=q1;subst e;cases r1;obtain⟨its,rv,p,hz⟩:=I1.tuple hq;refine wpAny_pyIter_tuple (show s1.heap.IsTuple a its.toArray from p) ?_;refine⟨s1.heap.objs.size,[s1.heap.objs.size],_,_,H1,rfl,I1.kept (t':=s1.toks) fun b o e=>ah _ e,xcq a _,⟨_,aG _ rfl,rfl,rfl⟩,fun b hb=>?_,q⟩;have e:b=s1.heap.objs.size:=by simpa using hb
 subst e;exact I1.fpOk (aj _) (I1.hok.fresh (aj _))
def xdK(wi:TI)(g:TG)(tb:TS):TS:=fun D σ H=>wi σ H fun J H1=>∃W:Nat→Nat→St→Hp→Prop,(∃m,W 0 m σ H1)∧∀i m σ H,W i m σ H→
 (J.stop i H∧D.nx σ H)∨(J.go i H∧∃N:St→Hp→Prop,(∀σ' H',N σ' H'→∃m',m'<m∧W (i+1) m' σ' H')∧∀x H',J.yld i H x H'→g x σ H' fun σ2 H2=>tb {D with nx:=N,ct:=N,bk:=D.nx} σ2 H2)
def zv(fp:List Addr)(h:Heap):List (Addr×Obj):=fp.filterMap fun b=>(h.get? b).map fun o=>(b,o)
theorem zl{fp:List Addr}{h:Heap}{b:Addr}{o:Obj}(hb:b∈fp)(e:h.get? b=some o):(b,o)∈zv fp h:=dN.mpr ⟨b,hb,by rw[e];rfl⟩
theorem xcZ{fp:List Addr}{h:Heap}{p:Addr×Obj}(hp:p∈zv fp h):p.1∈fp∧h.get? p.1=some p.2:=by
 obtain⟨b,hb,e⟩:=dN.mp hp;cases q:h.get? b with
 |none=>rw[q]at e;cases e
 |some o=>
  rw[q]at e;have e':(b,o)=p:=ba e;subst e';exact⟨hb,q⟩
theorem Inv.pinned{pins:List (Addr×Obj)}{σ:St}{H:Hp}{s:aa}{fp:List Addr}(I:Inv X pins σ H s)(hf:∀b∈fp,zU X pins H b)(ho:∀b∈fp,∃o,s.heap.get? b=some o∧∀v,o.data≠.cell v):Inv X (pins++zv fp s.heap) σ H s:=
 I.pins_of fun p hp=>(bf.mp hp).elim (fun z=>I.pin p (aK _ z)) fun z=>by
  obtain⟨hb,e⟩:=xcZ z;obtain⟨f0,f1,f2,_⟩:=hf p.1 hb;obtain⟨o,e',d⟩:=ho p.1 hb;rw[e]at e';cases e';exact⟨e,f0,f1,f2,d⟩
theorem Inv.unpinned{pins pl:List (Addr×Obj)}{σ:St}{H:Hp}{s:aa}(I:Inv X (pins++pl) σ H s):Inv X pins σ H s:=I.pins_of fun p hp=>I.pin p (aK _ (dz _ hp))
theorem xfk{iter:Expr}{body:List Stmt}{wi:TI}{g:TG}{tb:TS}{pos:Pos}(hp:PassesOwn (model X.prog X.w) X.A X.env X.xe)(hc:X.calm=true)(hi:PI X tg iter wi)(hg:PG X tg g)(hb:PSs X body tb)
  (hs:∀x,cc iter X.env x=pure x:=by intro _;rfl):PS X (.For tg iter body [] pos) (xdK wi g tb):=by
 intro pins s σ H D I h;refine wpAny_For (thn (hi pins s σ H _ I h) fun v s1 h1=>thn h1 fun itv s2 h2=>?_) hs;obtain⟨it,fp,tn,J,H2,e,I2,T,st2,f2,W,⟨m0,w0⟩,turn⟩:=h2;subst e
 -- what stays true of the iterator's objects through the loop
 have stat:∀{H':Hp},(∀b∈fp,H' b=none)→∀b∈fp,zU X pins H' b:=fun hn b hb=>⟨hn b hb,(f2 b hb).2⟩;refine codeAny_forLoop_any (fun n s'=>∃i σ' H',Inv X pins σ' H' s'∧tn i s'.heap∧(∀b∈fp,H' b=none)∧W i n σ' H') ?_ m0 ⟨0,σ,H2,I2,st2,fun b hb=>(f2 b hb).1,w0⟩;rintro n s3 ⟨i,σ3,H3,I3,st3,fr3,w3⟩;rcases turn i n σ3 H3 w3 with⟨stop,qn⟩|⟨go,N,hN,step⟩
 ·refine bY hp (thn (T.done X rfl rfl rfl hc i pins s3 σ3 H3 X.xe I3 (stat fr3) st3 stop) fun r s4 ⟨hr,I4⟩=>?_);subst hr;exact cy ⟨σ3,H3,I4,qn⟩
 ·refine bY hp (thn (T.item X rfl rfl rfl hc i pins s3 σ3 H3 X.xe I3 (stat fr3) st3 go) fun r s4 ⟨u,hr,h4⟩=>?_);subst hr;refine bY hp (thn h4 fun _ s5 ⟨x,H5,I5,r5,y5,st5,fr5⟩=>?_);have I5':=I5.pinned (stat fr5) (T.obj _ _ st5);refine bY hp (thn (hg _ s5 σ3 H5 x u _ I5' r5 (step x H5 y5)) fun _ s6 ⟨σ6,H6,I6,q6⟩=>?_);refine bY hp (thn (hb _ s6 σ6 H6 _ I6 q6) fun f s7 q7=>?_);have again:∀{σ7:St} {H7:Hp},Inv X (pins++zv fp s5.heap) σ7 H7 s7→N σ7 H7→∃m,m<n∧∃i σ' H',Inv X pins σ' H' s7∧tn i s7.heap∧(∀b∈fp,H' b=none)∧W i m σ' H':=fun{σ7 H7} I7 n7=>by
   obtain⟨m',hm,w7⟩:=hN σ7 H7 n7;refine⟨m',hm,i+1,σ7,H7,I7.unpinned,T.keep _ _ _ st5 fun b hb o e=>(I7.pin (b,o) (aK _ (aK _ (zl hb e)))).1,fun b hb=>?_,w7⟩;obtain⟨o,e,d⟩:=T.obj _ _ st5 b hb;exact(I7.pin (b,o) (aK _ (aK _ (zl hb e)))).2.1
  cases f with
  |next=>obtain⟨σ7,H7,I7,n7⟩:=q7;exact again I7 n7
  |cont=>obtain⟨σ7,H7,I7,n7⟩:=q7;exact again I7 n7
  |brk=>obtain⟨σ7,H7,I7,q7⟩:=q7;exact⟨σ7,H7,I7.unpinned,q7⟩
  |ret v=>obtain⟨x7,σ7,H7,I7,r7,q7⟩:=q7;exact⟨x7,σ7,H7,I7.unpinned,r7,q7⟩
end
theorem xdL{K:ae}{a:Addr}{xs:List V}{g:TG}{tb:TS}{D:Ends}{σ:St}{H:Hp}(Pv:Nat→St→Hp→Prop)(h0:Pv 0 σ H)(hl:∀i σ H,i≤xs.length→Pv i σ H→SqL K H a xs)
  (hs:∀i x σ H,xs[i]? =some x→Pv i σ H→g x σ H fun σ2 H2=>tb {D with nx:=Pv (i+1),ct:=Pv (i+1),bk:=D.nx} σ2 H2) (hd:∀σ H,Pv xs.length σ H→D.nx σ H):
  ∃W:Nat→Nat→St→Hp→Prop,(∃m,W 0 m σ H)∧∀i m σ H,W i m σ H→
   ((Itl K a).stop i H∧D.nx σ H)∨((Itl K a).go i H∧∃N:St→Hp→Prop,(∀σ' H',N σ' H'→∃m',m'<m∧W (i+1) m' σ' H')∧∀x H',(Itl K a).yld i H x H'→g x σ H' fun σ2 H2=>tb {D with nx:=N,ct:=N,bk:=D.nx} σ2 H2):=by
 refine⟨fun i m σ H=>m=xs.length - i∧i≤xs.length∧Pv i σ H,⟨xs.length,by simp,bq _,h0⟩,?_⟩;rintro i m σ H ⟨rfl,hi,p⟩;have q:=hl i σ H hi p
 by_cases hlt:i<xs.length
 ·refine .inr ⟨⟨xs,xs[i],q,by simp[hlt]⟩,Pv (i+1),fun σ' H' p'=>⟨xs.length - (i+1),by lia,rfl,hlt,p'⟩,fun x H' y=>?_⟩;obtain⟨e,y⟩:=y;subst e;exact hs i x σ _ (y xs q) p
 ·have e:i=xs.length:=by lia
  subst e;exact .inl ⟨⟨xs,q,aj _⟩,hd σ H p⟩
theorem xex{K:ae}{a:Addr}{xs:List V}{g:TG}{tb:TS}{D:Ends}{σ:St}{H:Hp}(Pv:Nat→St→Hp→Prop)(h0:Pv 0 σ H)(hl:∀i σ H,i≤xs.length→Pv i σ H→SqT K H a xs)
  (hs:∀i x σ H,xs[i]? =some x→Pv i σ H→g x σ H fun σ2 H2=>tb {D with nx:=Pv (i+1),ct:=Pv (i+1),bk:=D.nx} σ2 H2) (hd:∀σ H,Pv xs.length σ H→D.nx σ H):
  ∃W:Nat→Nat→St→Hp→Prop,(∃m,W 0 m σ H)∧∀i m σ H,W i m σ H→
   ((Itt K a).stop i H∧D.nx σ H)∨((Itt K a).go i H∧∃N:St→Hp→Prop,(∀σ' H',N σ' H'→∃m',m'<m∧W (i+1) m' σ' H')∧∀x H',(Itt K a).yld i H x H'→g x σ H' fun σ2 H2=>tb {D with nx:=N,ct:=N,bk:=D.nx} σ2 H2):=by
 refine⟨fun i m σ H=>m=xs.length - i∧i≤xs.length∧Pv i σ H,⟨xs.length,by simp,bq _,h0⟩,?_⟩;rintro i m σ H ⟨rfl,hi,p⟩;have q:=hl i σ H hi p
 by_cases hlt:i<xs.length
 ·refine .inr ⟨⟨xs,xs[i],q,by simp[hlt]⟩,Pv (i+1),fun σ' H' p'=>⟨xs.length - (i+1),by lia,rfl,hlt,p'⟩,fun x H' y=>?_⟩;obtain⟨e,y⟩:=y;subst e;exact hs i x σ _ (y xs q) p
 ·have e:i=xs.length:=by lia
  subst e;exact .inl ⟨⟨xs,q,aj _⟩,hd σ H p⟩
end L2
namespace L2
open PySem PySem.Spec PyProof.Rows
abbrev R2:=V→V→Hp→VK→Prop
def OpR(X:Cx)(f:Value→Value→Sem Value)(r:R2):Prop:=
 ∀(pins:List (Addr×Obj)) (s:aa) (σ:St) (H:Hp) (x y:V) (v u:Value) (Q:VK),Inv X pins σ H s→RelV x v→RelV y u→r x y H Q→
  wpAny (model X.prog X.w) X.A (f v u) (EP X pins σ Q) X.xe s
def UnR(X:Cx)(f:Value→Sem Value)(r:V→Hp→VK→Prop):Prop:=
 ∀(pins:List (Addr×Obj)) (s:aa) (σ:St) (H:Hp) (x:V) (v:Value) (Q:VK),Inv X pins σ H s→RelV x v→r x H Q→
  wpAny (model X.prog X.w) X.A (f v) (EP X pins σ Q) X.xe s
def xS(X:Cx)(f:Value)(r:List V→Hp→VK→Prop):Prop:=
 ∀(pins:List (Addr×Obj)) (s:aa) (σ:St) (H:Hp) (xs:List V) (us:List Value) (Q:VK),Inv X pins σ H s→Vals xs us→r xs H Q→
  wpAny (model X.prog X.w) X.A (call f us) (EP X pins σ Q) X.xe s
def tOp(r:R2)(ta tb:TE):TE:=fun σ H Q=>ta σ H fun x H1=>tb σ H1 fun y H2=>r x y H2 Q
def tUn(r:V→Hp→VK→Prop)(ta:TE):TE:=fun σ H Q=>ta σ H fun x H1=>r x H1 Q
def rI(C:Int→Int→Prop)(g:Int→Int→V):R2:=fun x y H Q=>∃i j,x= .int i∧y= .int j∧C i j∧Q (g i j) H
def rI0(g:Int→Int→V):R2:=fun x y H Q=>∃i j,x= .int i∧y= .int j∧Q (g i j) H
def rU(g:Int→V):V→Hp→VK→Prop:=fun x H Q=>∃i,x= .int i∧Q (g i) H
section
variable {X:Cx} {a b c:Expr} {ta tb tc:TE} {pos:Pos}
theorem xdM(ha:PE X a ta)(hb:PE X b tb){pins:List (Addr×Obj)}{s:aa}{σ:St}{H:Hp}{R:V→V→Hp→Prop}(I:Inv X pins σ H s)
  (h:ta σ H fun x H1=>tb σ H1 fun y H2=>R x y H2) {Q:Value→aa→Prop} {f:Value→Value→Sem Value}
  (hf:∀v u s2 x y H2,Inv X pins σ H2 s2→RelV x v→RelV y u→R x y H2→wpAny (model X.prog X.w) X.A (f v u) Q X.xe s2):
  wpAny (model X.prog X.w) X.A (eval a X.env) (fun v s₁=>wpAny (model X.prog X.w) X.A (eval b X.env) (fun u s₂=>wpAny (model X.prog X.w) X.A (f v u) Q X.xe s₂) X.xe s₁) X.xe s:=by
 refine thn (ha pins s σ H _ I h) fun v s1 ⟨x,H1,I1,r1,q1⟩=>?_;refine thn (hb pins s1 σ H1 _ I1 q1) fun u s2 ⟨y,H2,I2,r2,q2⟩=>?_;exact hf v u s2 x y H2 I2 r1 r2 q2
theorem xj{op:Operator}{r:R2}(ho:OpR X (bc op) r)(ha:PE X a ta)(hb:PE X b tb):PE X (.BinOp a op b pos) (tOp r ta tb):=by
 intro pins s σ H Q I h;exact wpAny_BinOp (xdM ha hb I h fun v u s2 x y H2 I2 rx ry q=>ho pins s2 σ H2 x y v u Q I2 rx ry q)
theorem xf1{op:UnaryOp}{r:V→Hp→VK→Prop}(ho:UnR X (unaryOp op) r)(ha:PE X a ta):PE X (.UnaryOp op a pos) (tUn r ta):=by
 intro pins s σ H Q I h;exact UnaryOp_ (thn (ha pins s σ H _ I h) fun v s1 ⟨x,H1,I1,r1,q1⟩=>ho pins s1 σ H1 x v Q I1 r1 q1)
theorem opI{f:Value→Value→Sem Value}{C:Int→Int→Prop}{g:Int→Int→Int}
  (rule:∀(i j:Int) (t u:Tok) (s:aa) (Q:Value→aa→Prop) (E:Value→aa→Prop),C i j→Q (.int (g i j) s.toks) {s with toks:=s.toks+1}→wpAny (model X.prog X.w) X.A (f (.int i t) (.int j u)) Q E s):
  OpR X f (rI C fun i j=>.int (g i j)):=by
 intro pins s σ H x y v u Q I rx ry h;obtain⟨i,j,rfl,rfl,hc,q⟩:=h;obtain⟨t,rfl⟩:=rx;obtain⟨t',rfl⟩:=ry;exact rule i j t t' s _ _ hc ⟨.int (g i j),H,I.tok _,⟨_,rfl⟩,q⟩
theorem xfl{f:Value→Value→Sem Value}{g:Int→Int→Int}
  (rule:∀(i j:Int) (t u:Tok) (s:aa) (Q:Value→aa→Prop) (E:Value→aa→Prop),Q (.int (g i j) s.toks) {s with toks:=s.toks+1}→wpAny (model X.prog X.w) X.A (f (.int i t) (.int j u)) Q E s):
  OpR X f (rI0 fun i j=>.int (g i j)):=by
 intro pins s σ H x y v u Q I rx ry h;obtain⟨i,j,rfl,rfl,q⟩:=h;obtain⟨t,rfl⟩:=rx;obtain⟨t',rfl⟩:=ry;exact rule i j t t' s _ _ ⟨.int (g i j),H,I.tok _,⟨_,rfl⟩,q⟩
theorem xdN{f:Value→Value→Sem Value}{g:Int→Int→Bool}
  (rule:∀(i j:Int) (t u:Tok) (s:aa) (Q:Value→aa→Prop) (E:Value→aa→Prop),Q (.bool (g i j)) s→wpAny (model X.prog X.w) X.A (f (.int i t) (.int j u)) Q E s):
  OpR X f (rI0 fun i j=>.bl (g i j)):=by
 intro pins s σ H x y v u Q I rx ry h;obtain⟨i,j,rfl,rfl,q⟩:=h;obtain⟨t,rfl⟩:=rx;obtain⟨t',rfl⟩:=ry;exact rule i j t t' s _ _ ⟨.bl (g i j),H,I,rfl,q⟩
def xfm(i j:Int):Prop:=0≤j∧j≤1000000∧i.natAbs<2^64
def xcr(i j:Int):Prop:=(-(2^64)<i∧i<2^64)∨(-(2^64)<j∧j<2^64)
theorem xcr.ok{i j:Int}(h:xcr i j):IntMulOk i j:=by
 rcases h with⟨h1,h2⟩|⟨h1,h2⟩
 ·exact .of_left (intBits_le_64 h1 h2)
 ·exact .of_right (intBits_le_64 h1 h2)
theorem xfn:OpR X (bc .Add) (rI0 fun i j=>.int (i+j)):=xfl fun _ _ _ _ _ _ _ q=>add_int q
theorem xfo:OpR X (bc .Sub) (rI0 fun i j=>.int (i - j)):=xfl fun _ _ _ _ _ _ _ q=>sub_int q
theorem xfp:OpR X (bc .Mult) (rI xcr fun i j=>.int (i*j)):=opI fun _ _ _ _ _ _ _ hc q=>mul_int q hc.ok
theorem xfq:OpR X (bc .Mod) (rI (fun _ j=>0<j) fun i j=>.int (i%j)):=opI fun i j _ _ _ _ _ hc q=>by
 have h1:(0:Int)<j:=hc;exact mod_int' (by lia) (by rw[Int.fmod_eq_emod_of_nonneg i (by lia)];exact q)
theorem xfr:OpR X (bc .Pow) (rI xfm fun i j=>.int (i^j.toNat)):=opI fun _ _ _ _ _ _ _ hc q=>pow_int_small hc.1 hc.2.1 hc.2.2 q
theorem unI{f:Value→Sem Value}{g:Int→Int}
  (rule:∀(i:Int) (t:Tok) (s:aa) (Q:Value→aa→Prop) (E:Value→aa→Prop),Q (.int (g i) s.toks) {s with toks:=s.toks+1}→wpAny (model X.prog X.w) X.A (f (.int i t)) Q E s):
  UnR X f (rU fun i=>.int (g i)):=by
 intro pins s σ H x v Q I rx h;obtain⟨i,rfl,q⟩:=h;obtain⟨t,rfl⟩:=rx;exact rule i t s _ _ ⟨.int (g i),H,I.tok _,⟨_,rfl⟩,q⟩
theorem xfs:UnR X (unaryOp .USub) (rU fun i=>.int (-i)):=unI fun _ _ _ _ _ q=>neg_int q
end
def xft:V→V→Bool
 | .non,.non=>true| .non,.int _=>true| .int _,.non=>true| .non,.bl _=>true| .bl _,.non=>true| .non,.str _=>true| .str _,.non=>true
 | .int _,.int _=>true| .bl _,.bl _=>true| .str _,.str _=>true| .byt _,.byt _=>true
 | .int _,.str _=>true| .str _,.int _=>true| .bl _,.str _=>true| .str _,.bl _=>true
 |_,_=>false
def rEq:R2:=fun x y H Q=>xft x y=true∧Q (.bl (decide (x=y))) H
def rNe:R2:=fun x y H Q=>xft x y=true∧Q (.bl (!decide (x=y))) H
theorem xb7{i j:Int}:decide (V.int i=V.int j)=(i==j):=by
 rw[bZ];simp
theorem xc0{i j:Bool}:decide (V.bl i=V.bl j)=(i==j):=by
 rw[bZ];simp
theorem xb8{i j:Str}:decide (V.str i=V.str j)=(i==j):=by
 rw[bZ];simp
theorem xb9{i j:Array UInt8}:decide (V.byt i=V.byt j)=(i.toList==j.toList):=by
 rw[bZ];cases i;cases j;simp
section
variable {X:Cx} {a b c:Expr} {ta tb tc:TE} {pos:Pos}
theorem xw{pins:List (Addr×Obj)}{σ:St}{H:Hp}{s:aa}{Q:VK}{k k':Bool}(I:Inv X pins σ H s)(q:Q (.bl k) H)(e:k=k'):EP X pins σ Q (.bool k') s:=by
 subst e;exact⟨.bl k,H,I,rfl,q⟩
theorem xen:OpR X (aS .Eq) rEq:=by
 intro pins s σ H x y v u Q I rx ry h;obtain⟨hs,q⟩:=h;cases x with
 |non=>
  cases rx;cases y with
  |non=>cases ry;exact PySem.EqNone.eq_none_none (xw I q (by simp))
  |bl j=>cases ry;exact PySem.EqNone.eq_none_bool (xw I q (by simp))
  |int j=>obtain⟨t',rfl⟩:=ry;exact PySem.EqNone.eq_none_int (xw I q (by simp))
  |str j=>obtain⟨t',rfl⟩:=ry;exact PySem.EqNone.eq_none_str (xw I q (by simp))
  |_=>exact absurd (show false=true from hs) aq
 |bl i=>
  cases rx;cases y with
  |non=>cases ry;exact PySem.EqNone.eq_bool_none (xw I q (by simp))
  |bl j=>cases ry;exact eq_bool (xw I q xc0)
  |str j=>obtain⟨t',rfl⟩:=ry;exact PySem.EqMixed.eq_bool_str (xw I q (by simp))
  |_=>exact absurd (show false=true from hs) aq
 |int i=>
  obtain⟨t,rfl⟩:=rx;cases y with
  |non=>cases ry;exact PySem.EqNone.eq_int_none (xw I q (by simp))
  |int j=>obtain⟨t',rfl⟩:=ry;exact eq_int (xw I q xb7)
  |str j=>obtain⟨t',rfl⟩:=ry;exact PySem.EqMixed.eq_int_str (xw I q (by simp))
  |_=>exact absurd (show false=true from hs) aq
 |str i=>
  obtain⟨t,rfl⟩:=rx;cases y with
  |non=>cases ry;exact PySem.EqNone.eq_str_none (xw I q (by simp))
  |bl j=>cases ry;exact PySem.EqMixed.eq_str_bool (xw I q (by simp))
  |int j=>obtain⟨t',rfl⟩:=ry;exact PySem.EqMixed.eq_str_int (xw I q (by simp))
  |str j=>obtain⟨t',rfl⟩:=ry;exact eq_str (xw I q xb8)
  |_=>exact absurd (show false=true from hs) aq
 |byt i=>
  obtain⟨t,rfl⟩:=rx;cases y with
  |byt j=>obtain⟨t',rfl⟩:=ry;exact W.eq_bytes (xw I q xb9)
  |_=>exact absurd (show false=true from hs) aq
 |_=>cases y<;> exact absurd (show false=true from hs) aq
theorem xeo:OpR X (aS .NotEq) rNe:=by
 intro pins s σ H x y v u Q I rx ry h;obtain⟨hs,q⟩:=h;cases x with
 |non=>
  cases rx;cases y with
  |non=>cases ry;exact PySem.EqNone.ne_none_none (xw I q (by simp))
  |bl j=>cases ry;exact PySem.EqNone.ne_none_bool (xw I q (by simp))
  |int j=>obtain⟨t',rfl⟩:=ry;exact PySem.EqNone.ne_none_int (xw I q (by simp))
  |str j=>obtain⟨t',rfl⟩:=ry;exact PySem.EqNone.ne_none_str (xw I q (by simp))
  |_=>exact absurd (show false=true from hs) aq
 |bl i=>
  cases rx;cases y with
  |non=>cases ry;exact PySem.EqNone.ne_bool_none (xw I q (by simp))
  |bl j=>cases ry;exact ne_bool (xw I q (congrArg not xc0))
  |str j=>obtain⟨t',rfl⟩:=ry;exact PySem.EqMixed.ne_bool_str (xw I q (by simp))
  |_=>exact absurd (show false=true from hs) aq
 |int i=>
  obtain⟨t,rfl⟩:=rx;cases y with
  |non=>cases ry;exact PySem.EqNone.ne_int_none (xw I q (by simp))
  |int j=>obtain⟨t',rfl⟩:=ry;exact ne_int (xw I q (congrArg not xb7))
  |str j=>obtain⟨t',rfl⟩:=ry;exact PySem.EqMixed.ne_int_str (xw I q (by simp))
  |_=>exact absurd (show false=true from hs) aq
 |str i=>
  obtain⟨t,rfl⟩:=rx;cases y with
  |non=>cases ry;exact PySem.EqNone.ne_str_none (xw I q (by simp))
  |bl j=>cases ry;exact PySem.EqMixed.ne_str_bool (xw I q (by simp))
  |int j=>obtain⟨t',rfl⟩:=ry;exact PySem.EqMixed.ne_str_int (xw I q (by simp))
  |str j=>obtain⟨t',rfl⟩:=ry;exact ne_str (xw I q (congrArg not xb8))
  |_=>exact absurd (show false=true from hs) aq
 |byt i=>
  obtain⟨t,rfl⟩:=rx;cases y with
  |byt j=>obtain⟨t',rfl⟩:=ry;exact W.ne_bytes (xw I q (congrArg not xb9))
  |_=>exact absurd (show false=true from hs) aq
 |_=>cases y<;> exact absurd (show false=true from hs) aq
theorem xf2:OpR X (aS .Lt) (rI0 fun i j=>.bl (decide (i<j))):=xdN fun _ _ _ _ _ _ _ q=>lt_int q
theorem xf3:OpR X (aS .Gt) (rI0 fun i j=>.bl (decide (j<i))):=xdN fun _ _ _ _ _ _ _ q=>gt_int q
theorem xf4:OpR X (aS .GtE) (rI0 fun i j=>.bl (decide (j≤i))):=xdN fun _ _ _ _ _ _ _ q=>ge_int q
theorem xc1:OpR X (aS .In) (fun x y H Q=>∃i j,x= .str i∧y= .str j∧Q (.bl (!(a7 j i 0 j.length 1).isEmpty)) H):=by
 intro pins s σ H x y v u Q I rx ry h;obtain⟨i,j,rfl,rfl,q⟩:=h;obtain⟨t,rfl⟩:=rx;obtain⟨t',rfl⟩:=ry;exact in_str (xw I q rfl)
theorem xc2(b:Expr){op:CmpOp}(h:op≠.In:=by decide)(h2:op≠.NotIn:=by decide):ck op b=false:=by
 have e1:(op==CmpOp.In)=false:=by cases op<;> first|rfl|exact absurd rfl h
 have e2:(op==CmpOp.NotIn)=false:=by cases op<;> first|rfl|exact absurd rfl h2
 cases b<;> simp[ck,e1,e2]
theorem xey{op:CmpOp}{r:R2}(ho:OpR X (aS op) r)(ha:PE X a ta)(hb:PE X b tb)(hm:ck op b=false):PE X (.Compare a [op] [b] pos) (tOp r ta tb):=by
 intro pins s σ H Q I h;exact wpAny_Compare1 (xdM ha hb I h fun v u s2 x y H2 I2 rx ry q=>ho pins s2 σ H2 x y v u Q I2 rx ry q) hm
theorem jA:(ak:Nat)<2^63:=by rw[af];decide
theorem zm:OpR X (bc .Add) (fun x y H Q=>∃i j,x= .str i∧y= .str j∧i.length+j.length≤ak∧Q (.str (i++j)) H):=by
 intro pins s σ H x y v u Q I rx ry h;obtain⟨i,j,rfl,rfl,hz,q⟩:=h;obtain⟨t,rfl⟩:=rx;obtain⟨t',rfl⟩:=ry;exact add_str (fun t' tk=>⟨.str (i++j),H,I.tok _,⟨_,rfl⟩,q⟩) hz
theorem vals1{x:V}{us:List Value}(r:Vals [x] us):∃u,us=[u]∧RelV x u:=by
 cases r with
 |cons r1 r2=>cases r2;exact⟨_,rfl,r1⟩
theorem vals2{x y:V}{us:List Value}(r:Vals [x,y] us):∃u w',us=[u,w']∧RelV x u∧RelV y w':=by
 cases r with
 |cons r1 r2=>
  cases r2 with
  |cons r3 r4=>cases r4;exact⟨_,_,rfl,r1,r3⟩
theorem xdO:xS X (.builtin "abs") (fun xs H Q=>∃i,xs=[.int i]∧Q (.int (if i<0 then -i else i)) H):=by
 intro pins s σ H xs us Q I r h;obtain⟨i,rfl,q⟩:=h;obtain⟨u,rfl,t,rfl⟩:=vals1 r;exact call_abs_int fun u tk=>⟨.int (if i<0 then -i else i),H,I.tok _,⟨_,rfl⟩,q⟩
theorem xc3(hc:X.calm=true):xS X (.builtin "min") (fun xs H Q=>∃i j,xs=[.int i,.int j]∧Q (.int (if j<i then j else i)) H):=by
 intro pins s σ H xs us Q I r h;obtain⟨i,j,rfl,q⟩:=h;obtain⟨u,w',rfl,⟨t,rfl⟩,⟨t',rfl⟩⟩:=vals2 r;refine min_two_ints (I.ok.hd hc) fun h' tk k=>⟨_,H,I.kept k,?_,q⟩
 by_cases hj:j<i
 ·rw[if_pos hj,if_pos hj];exact⟨_,rfl⟩
 ·rw[if_neg hj,if_neg hj];exact⟨_,rfl⟩
end
end L2
namespace L2
open PySem PySem.Spec PyProof.Rows
structure vZ(h:Heap)(x dx C:Addr)(mA:Str→Option Value):Prop where
 obj:h.get? x=some (b4 C dx)
 ns:h.Ns1 dx mA
 ne:dx≠x
theorem xc4{h:Heap}{dx:Addr}{mA:Str→Option Value}(n:h.Ns1 dx mA):∃od,h.get? dx=some od∧∀name,W.lookIn name od=some (mA name):=by
 obtain⟨o,es,ep,ho,hd,hk,_,hm⟩:=n;refine⟨o,ho,fun name=>?_⟩;have e:=hm name;unfold nsFind findBy at e;rw[←Array.find?_toList]at e;unfold W.lookIn;rw[hd];dsimp only
 split
 ·rename_i y q;rw[q]at e;exact congrArg some e
 ·rename_i q;rw[q]at e;have a:es.toList.any (·.refKey)=false:=by
   rw[List.any_eq_false];intro y hy;obtain⟨z,t,hkey⟩:=hk y (Array.mem_toList_iff.mp hy);simp[DictEntry.refKey,hkey]
  have a':¬es.toList.any (·.refKey)=true:=by rw[a];exact aq
  rw[if_neg a'];exact congrArg some e
theorem vZ.look{h:Heap}{x dx C:Addr}{mA:Str→Option Value}(I:vZ h x dx C mA):∃od,W.InstAt h x (b4 C dx) C (some od)∧∀name,W.lookIn name od=some (mA name):=
 let⟨od,ho,hl⟩:=xc4 I.ns
 ⟨od,⟨I.obj,rfl,rfl,ho⟩,hl⟩
section
variable {prog:aF} {w:World} {A:aH} {E:Value→aa→Prop} {s:aa} {K:ae} {x dx C f:Addr} {mA:Str→Option Value} {name:Str} {v:Value}
theorem get_map{expr:Bool}{Q:Value→aa→Prop}(X:K.In s.heap)(I:vZ s.heap x dx C mA)(hg:dA K C name=true)(hh:W.hasDictIn K C=true)
  (ha:bg K (.ref C) name=some none) (hv:mA name=some v) (hv':W.handedIn v=true) (h:Q v {s with toks:=s.toks+1}):
  wpAny (model prog w) A (getAttr (.ref x) name expr) Q E s:=by
 obtain⟨od,J,hl⟩:=I.look;exact W.get_value X J (dC hg).1 (W.findObj_own hh ha rfl (by rw[hl,hv])) hv' h
theorem xdP{pl:Sem Bool}{Q:Value×List Value→aa→Prop}(X:K.In s.heap)(I:vZ s.heap x dx C mA)(hg:dA K C name=true)
  (hf:bg K (.ref C) name=some (some (.ref f))) (ht:W.isFn K (.ref f)=true) (hv:mA name=none) (h:Q (.ref f,[.ref x]) s):
  wpAny (model prog w) A (getMethod (.ref x) name pl) Q E s:=by
 obtain⟨od,J,hl⟩:=I.look;exact W.method_fn X J (dC hg).1 (dC hg).2 hf (beq_iff_eq.mp ht) (by show(W.lookIn name od).map (·.isSome)=some false;rw[hl,hv];rfl) h
theorem xez{ns:List Str}{Q:Unit→aa→Prop}(X:K.In s.heap)(I:vZ s.heap x dx C mA)
  (hs:bg K (.ref C) "__setattr__"=some (some (.builtin "object.__setattr__"))) (hp:W.plainOver K C=true) (ht:W.takerIn K C name=some none) (hh:W.hasDictIn K C=true)
  (hw:PySem.Within mA ns) (hsz:ns.length≤ak)
  (h:∀h',vZ h' x dx C (fun y=>if y=name then some v else mA y)→dJ dx s.heap h'→Q () {s with heap:=h',toks:=s.toks+2}):
  wpAny (model prog w) A (setAttr (.ref x) name v) Q E s:=by
 obtain⟨od,J,hl⟩:=I.look;refine W.set_plain X J hs (W.osa_open (s:={s with toks:=s.toks+1}) (r:=none) X J hp ht fun b=>?_);obtain⟨cd,hc,hd'⟩:=W.any_some hh;have hx:s.heap.get? x=some ⟨.ref C,some dx,.plain,#[]⟩:=I.obj;refine ai (az (ai (ai (wpAny_loadPart hx (ai (W.Looks.here (s:={s with toks:=s.toks+1}) (W.looks_clsIn X hc) ?_))))));rw[hd'];refine az (a:=some dx) (ai (az (ai ?_)));refine wpAny_nsSet1 (s:={s with toks:=s.toks+1}) I.ns fun h' hn2 hs2=>?_;obtain⟨oD,esD,epD,hoD,hdD,hcD⟩:=hn2.count (PySem.Within.cons name v hw);refine ai (wpAny_lookBehind hoD (by rw[hdD];exact pastItsLine_dict (ax hcD (by rw[aw];lia))) ?_);exact az (h _ ⟨(hs2.2 _ (bV I.ne)).trans I.obj,hn2,I.ne⟩ hs2)
theorem xdQ{R:Result→aa→Prop}{vs:List Value}{kw:List (Str×Value)}(X:K.In s.heap)(hm:W.makesIn K C=true)
  (hi:bg K (.ref C) "__init__"=some (some (.ref f))) (hf:W.typeIn K (.ref f)=some (.type "function"))
  (h:cu (model prog w) (A.under (.builtin "type.__call__" ⟨.ref C::vs,kw⟩)) (.call (.ref f) ⟨.ref (s.heap.objs.size+1)::vs,kw⟩) (W.InitBack (s.heap.objs.size+1) R)
   {s with heap:=(s.heap.push bA).push (b4 C s.heap.objs.size)}):
  cu (model prog w) A (.call (.ref C) ⟨vs,kw⟩) R s:=by
 obtain⟨hh,g,d,t,os⟩:=s;exact W.make_core (W.makes_of X hm) (W.looks_findIn X hi) (fun self=>W.bind_fn X self hf) (.inl rfl) h
end
def ym(f:Str)(v:V):List (Str×V)→List (Str×V)
 |[]=>[(f,v)]
 |(g,x)::r=>if g=f then(g,v)::r else(g,x)::ym f v r
theorem vK(f g:Str)(v:V):∀fs:List (Str×V),(ym f v fs).lookup g=if g=f then some v else fs.lookup g
 |[]=>by
  show bW g [(f,v)]=_
  by_cases h:g=f
  ·have hb:(g==f)=true:=beq_iff_eq.mpr h;simp only[bW,hb,if_pos h]
  ·have hb:(g==f)=false:=beq_eq_false_iff_ne.mpr h;simp only[bW,hb,if_neg h]
 |(k,x)::r=>by
  have ih:=vK f g v r;rw[show ym f v ((k,x)::r)=(if k=f then(k,v)::r else(k,x)::ym f v r)from rfl]
  by_cases hk:k=f
  ·rw[if_pos hk]
   by_cases h:g=k
   ·have hb:(g==k)=true:=beq_iff_eq.mpr h;simp only[bW,hb,if_pos (h.trans hk)]
   ·have hb:(g==k)=false:=beq_eq_false_iff_ne.mpr h;simp only[bW,hb,if_neg (fun e:g=f=>h (e.trans hk.symm))]
  ·rw[if_neg hk]
   by_cases h:g=k
   ·have hb:(g==k)=true:=beq_iff_eq.mpr h;simp only[bW,hb,if_neg (fun e:g=f=>hk (h.symm.trans e))]
   ·have hb:(g==k)=false:=beq_eq_false_iff_ne.mpr h;simp only[bW,hb];exact ih
theorem uT(f:Str)(v:V):∀fs:List (Str×V),f∈(ym f v fs).map (·.1)∧∀g,g∈fs.map (·.1)→g∈(ym f v fs).map (·.1)
 |[]=>⟨by simp[ym],fun g h=>by simp at h⟩
 |(k,x)::r=>by
  obtain⟨i1,i2⟩:=uT f v r;rw[show ym f v ((k,x)::r)=(if k=f then(k,v)::r else(k,x)::ym f v r)from rfl]
  by_cases hk:k=f
  ·rw[if_pos hk];subst hk;exact⟨by simp,fun g h=>by simpa using h⟩
  ·rw[if_neg hk];refine⟨?_,fun g h=>?_⟩
   ·rw[bb];exact av _ i1
   ·rw[bb]at h⊢;rcases aC.mp h with e|e
    ·exact aC.mpr (.inl e)
    ·exact av _ (i2 g e)
theorem zV(f:Str)(v:V):∀fs:List (Str×V),(ym f v fs).length≤fs.length+1
 |[]=>by simp[ym]
 |(k,x)::r=>by
  have ih:=zV f v r;rw[show ym f v ((k,x)::r)=(if k=f then(k,v)::r else(k,x)::ym f v r)from rfl]
  by_cases hk:k=f
  ·rw[if_pos hk,aw,aw];lia
  ·rw[if_neg hk,aw,aw];lia
theorem zT.some_of{v:V}{o:Option Value}(r:zT (some v) o):∃u,o=some u∧RelV v u:=by
 cases o with
 |none=>exact(show False from r).elim
 |some u=>exact⟨u,rfl,r⟩
theorem zT.none_of{o:Option Value}(r:zT none o):o=none:=by
 cases o with
 |none=>rfl
 |some u=>exact(show False from r).elim
theorem xc5{v:V}{u:Value}(r:RelV v u):W.handedIn u=true:=by
 cases v with
 |non=>cases (show u=cx from r);rfl
 |bl b=>cases (show u=bP b from r);rfl
 |int i=>obtain⟨t,e⟩:=(show∃t,u=dj i t from r);cases e;rfl
 |str x=>obtain⟨t,e⟩:=(show∃t,u=cn x t from r);cases e;rfl
 |byt b=>obtain⟨t,e⟩:=(show∃t,u=Value.bytes b t from r);cases e;rfl
 |flt b=>obtain⟨t,e⟩:=(show∃t,u=dZ b t from r);cases e;rfl
 |ref a=>cases (show u=aT a from r);rfl
 |ty n=>cases (show u=Value.type n from r);rfl
section
variable {P:aF} {w:World} {H H':Hp} {h h':Heap} {a C dx:Addr} {fs fs':List (Str×V)}
theorem vz(hok:HOk P w H h)(e:H a=some (.ins C dx fs)):∃mA,vZ h a dx C mA∧(∀f,zT (fs.lookup f) (mA f))∧PySem.Within mA (fs.map (·.1))∧fs.length≤1000∧H dx=some (.own a):=by
 obtain⟨d,z,ne,ob,mA,n,r,q⟩:=(show xM P w H h a (.ins C dx fs)from hok a _ e);exact⟨mA,⟨ob,n,ne⟩,r,q,z,d⟩
end
structure Cls(K:ae)(C:Addr):Prop where
 pg:dA K C bN=true
 hd:W.hasDictIn K C=true
 po:W.plainOver K C=true
 sa:bg K (.ref C) "__setattr__"=some (some (.builtin "object.__setattr__"))
theorem Cls.get{K:ae}{C:Addr}(c:Cls K C)(f:Str):dA K C f=true:=c.pg
def xB(K:ae)(C:Addr)(f:Str):Prop:=bg K (.ref C) f=some none
theorem xB.taker{K:ae}{C:Addr}{f:Str}(n:xB K C f):W.takerIn K C f=some none:=by
 unfold W.takerIn;rw[show bg K (.ref C) f=some none from n];rfl
structure Meth(K:ae)(C:Addr)(m:Str)(f:Addr):Prop where
 at_:bg K (.ref C) m=some (some (.ref f))
 fn:W.isFn K (.ref f)=true
 kp:cL K (.ref f)=true
section
variable {X:Cx} {pins:List (Addr×Obj)} {σ:St} {H:Hp} {s:aa} {a C dx:Addr} {fs:List (Str×V)} {f:Str} {v:V} {A:aH} {E:Value→aa→Prop}
theorem xcs{b:Bool}{Q:Value→aa→Prop}(I:Inv X pins σ H s)(e:H a=some (.ins C dx fs))(c:Cls X.K C)(n:xB X.K C f)(l:fs.lookup f=some v)
  (h:∀u s',Inv X pins σ H s'→RelV v u→Q u s'):wpAny (model X.prog X.w) A (getAttr (.ref a) f b) Q E s:=by
 obtain⟨mA,O,r,_,_,_⟩:=vz I.hok e;obtain⟨u,hu,ru⟩:=zT.some_of (v:=v) (o:=mA f) (by rw[←l];exact r f);exact get_map I.kIn O (c.get f) c.hd n hu (xc5 ru) (h u _ (I.tok _) ru)
theorem xct{m:Str}{g:Addr}{pl:Sem Bool}{Q:Value×List Value→aa→Prop}(I:Inv X pins σ H s)(e:H a=some (.ins C dx fs))(c:Cls X.K C)(k:Meth X.K C m g)(l:fs.lookup m=none)
  (h:Q (.ref g,[.ref a]) s):wpAny (model X.prog X.w) A (getMethod (.ref a) m pl) Q E s:=by
 obtain⟨mA,O,r,_,_,_⟩:=vz I.hok e;have hn:mA m=none:=zT.none_of (by rw[←l];exact r m);exact xdP I.kIn O (c.get m) k.at_ k.fn hn h
theorem xcu{y:V}{u:Value}{Q:Unit→aa→Prop}(I:Inv X pins σ H s)(e:H a=some (.ins C dx fs))(c:Cls X.K C)(n:xB X.K C f)(hl:fs.length<1000)(ry:RelV y u)
  (h:∀s',Inv X pins σ (upd H a (.ins C dx (ym f y fs))) s'→Q () s'):wpAny (model X.prog X.w) A (setAttr (.ref a) f u) Q E s:=by
 obtain⟨mA,O,r,wi,_,ho⟩:=vz I.hok e;have hz:(fs.map (·.1)).length≤ak:=by rw[ab,af];lia
 refine xez I.kIn O c.sa c.po n.taker c.hd wi hz fun h' O' sb=>h _ ?_;have hd:∃o,h'.get? dx=some o:=let⟨o,_,_,e',_⟩:=O'.ns;⟨o,e'⟩
 refine I.write (x:=a) (e:=dx) (by rw[e];exact b8) (.inr ho) (fun b q hb z=>(sb.2 b hb).trans z) hd ?_;refine⟨by rw[xA O.ne];exact ho,?_,O.ne,O'.obj,_,O'.ns,fun g=>?_,fun g hg=>?_⟩
 ·have:=zV f y fs;lia
 ·show zT ((ym f y fs).lookup g) (if g=f then some u else mA g);rw[vK]
  by_cases q:g=f
  ·rw[if_pos q,if_pos q];exact ry
  ·rw[if_neg q,if_neg q];exact r g
 ·by_cases q:g=f
  ·rw[q];exact(uT f y fs).1
  ·refine(uT f y fs).2 g (wi g fun z=>hg ?_);show(if g=f then some u else mA g)=none;rw[if_neg q];exact z
theorem Inv.made(I:Inv X pins σ H s):Inv X pins σ (upd (upd H s.heap.objs.size (.own (s.heap.objs.size+1))) (s.heap.objs.size+1) (.ins C s.heap.objs.size []))
  {s with heap:=(s.heap.push bA).push (b4 C s.heap.objs.size)}:=by
 have e1:(s.heap.push bA).get? s.heap.objs.size=some bA:=aG s.heap rfl;have e2:((s.heap.push bA).push (b4 C s.heap.objs.size)).get? (s.heap.objs.size+1)=some (b4 C s.heap.objs.size):=by
  have:=aG (s.heap.push bA) (o:=b4 C s.heap.objs.size) rfl
  rwa [du]at this
 have e3:(s.heap.push bA).Ns s.heap.objs.size (fun _=>none):=⟨bA,#[],_,e1,rfl,(fun e he=>absurd he (by simp)),fun _=>rfl⟩;have I1:=I.laid (a:=s.heap.objs.size) (o:=.own (s.heap.objs.size+1)) (h':=s.heap.push bA) (t':=s.toks) (fun b u q=>ah _ q) (aj _) ⟨_,e1⟩;refine I1.laid (a:=s.heap.objs.size+1) (o:=.ins C s.heap.objs.size []) (t':=s.toks) (fun b u q=>ah _ q) (Nat.le_of_eq (du _ _)) ?_;have ne:s.heap.objs.size≠s.heap.objs.size+1:=aM (Nat.lt_succ_self _);refine⟨by rw[xA ne,xl],bq _,ne,e2,fun _=>none,(Heap.Ns1.of_empty e3).at fun o q=>ah _ q,fun _=>b8,fun y hy=>absurd rfl hy⟩
theorem xeA{prog:aF}{w:World}{env:Env}{e:Expr}{f:Str}{pos:Pos}{s:aa}{Q:Value→aa→Prop}(hb:cQ e f env (eval e env)=eval e env)
  (h:wpAny (model prog w) A (eval e env) (fun o s₁=>wpAny (model prog w) A (getAttr o f true) Q E s₁) E s):wpAny (model prog w) A (eval (.Attribute e f pos) env) Q E s:=
 Attribute_any_ h (by rw[arm_eval_Attribute,hb])
end
def xgt(K:ae)(ta:TE)(f:Str):TE:=fun σ H Q=>ta σ H fun x H1=>∃a C dx fs v,x= .ref a∧H1 a=some (.ins C dx fs)∧Cls K C∧xB K C f∧fs.lookup f=some v∧Q v H1
def xgu(K:ae)(ta tv:TE)(f:Str):TS:=fun D σ H=>tv σ H fun y H1=>ta σ H1 fun x H2=>∃a C dx fs,x= .ref a∧H2 a=some (.ins C dx fs)∧Cls K C∧xB K C f∧fs.length<1000∧
 D.nx σ (upd H2 a (.ins C dx (ym f y fs)))
section
variable {X:Cx} {o e value:Expr} {f:Str} {pos pos' tpos:Pos} {ta tv:TE}
theorem ue(he:PE X e ta)(hb:cQ e f X.env (eval e X.env)=eval e X.env):PE X (.Attribute e f pos) (xgt X.K ta f):=by
 intro pins s σ H Q I h;refine xeA hb (thn (he pins s σ H _ I h) fun u s1 ⟨x,H1,I1,rx,a,C,dx,fs,v,ex,ea,c,n,l,q⟩=>?_);subst ex;obtain rfl:u=aT a:=rx;exact xcs I1 ea c n l fun u' s2 I2 ru=>⟨v,H1,I2,ru,q⟩
theorem uf(ha:PE X o ta)(hv:PE X value tv)(hs:dk value (some (.Attribute o f pos')) pos.line X.env=pure false):PS X (.Assign [.Attribute o f pos'] value pos) (xgu X.K ta tv f):=by
 intro pins s σ H D I h;refine plainObj_wpAny_Assign_Attribute (thn (hv pins s σ H _ I h) fun u s1 ⟨y,H1,I1,ry,q⟩=>thn (ha pins s1 σ H1 _ I1 q) fun ov s2 ⟨x,H2,I2,rx,a,C,dx,fs,ex,ea,c,n,l,q2⟩=>?_) hs;subst ex;obtain rfl:ov=aT a:=rx;exact xcu I2 ea c n l ry fun s3 I3=>⟨σ,_,I3,q2⟩
end
section
variable {X:Cx} {pins:List (Addr×Obj)} {σ:St} {H:Hp} {s:aa} {A:aH} {E:Value→aa→Prop} {Q:Value→aa→Prop} {c:Value} {b:Bool}
inductive xJ(K:ae)(H:Hp):V→Value→Prop where
 |non:xJ K H .non (.type "NoneType")
 |bl (x:Bool):xJ K H (.bl x) (.type "bool")
 |int (i:Int):xJ K H (.int i) (.type "int")
 |str (x:Str):xJ K H (.str x) (.type "str")
 |flt (x:UInt64):xJ K H (.flt x) (.type "float")
 |lst {a:Addr} {xs:List V} (e:H a=some (.lst xs)):xJ K H (.ref a) (.type "list")
 |frz {a:Addr} {o:Obj} {xs:List V} (e:H a=some (.frz o (.lst xs))):xJ K H (.ref a) (.type "list")
 |tup {a:Addr} {xs:List V} (e:H a=some (.tup xs)):xJ K H (.ref a) (.type "tuple")
 |dK {a:Addr} {kvs:List (Key×V)} (e:H a=some (.dK kvs)):xJ K H (.ref a) (.type "dict")
 |dT {a:Addr} {kvs:List (List Key×V)} (e:H a=some (.dT kvs)):xJ K H (.ref a) (.type "dict")
 |ins {a C dx:Addr} {fs:List (Str×V)} (e:H a=some (.ins C dx fs)) (cl:Cls K C) (ha:bg K (.ref C) "__class__"=some (some (.builtin "object.__class__")))
   (hn:W.specialIn K (.builtin "object.__class__") "__get__"=some (some (.builtin "getset_descriptor.__get__"))) (htk:W.takesIn K (.builtin "object.__class__")=some true)
   (hm:W.mroIn K C (.type "object")=some true):xJ K H (.ref a) (.ref C)
theorem xc6{x:V}{u t:Value}(I:Inv X pins σ H s)(rx:RelV x u)(ty:xJ X.K H x t)(e:W.kitOne X.K t c=some b)(h:∀tk,Q (.bool b) {s with toks:=tk}):
  wpAny (model X.prog X.w) A (call (.builtin "isinstance") [u,c]) Q E s:=by
 cases ty with
 |non=>cases (show u=cx from rx);exact bB W.kitx_none I.kIn b8 e (fun z=>nomatch z) h
 |bl y=>cases (show u=bP y from rx);exact bB W.kitx_bool I.kIn b8 e (fun z=>nomatch z) h
 |int i=>obtain⟨t,q⟩:=(show∃t,u=dj i t from rx);cases q;exact bB W.kitx_int I.kIn b8 e (fun z=>nomatch z) h
 |str y=>obtain⟨t,q⟩:=(show∃t,u=cn y t from rx);cases q;exact bB W.kitx_str I.kIn b8 e (fun z=>nomatch z) h
 |flt y=>obtain⟨t,q⟩:=(show∃t,u=dZ y t from rx);cases q;exact bB W.kitx_float I.kIn b8 e (fun z=>nomatch z) h
 | @lst a xs ea=>
  cases (show u=aT a from rx);obtain⟨_,_,n,_,h1⟩:=(show xM X.prog X.w H s.heap a (.lst xs)from I.hok a _ ea);exact bB W.kitx_list I.kIn ⟨_,h1,rfl⟩ e (fun z=>nomatch z) h
 | @frz a ob xs ea=>
  cases (show u=aT a from rx);obtain⟨_,_,_,n,_,h1⟩:=(show xM X.prog X.w H s.heap a (.frz ob (.lst xs))from I.hok a _ ea);exact bB W.kitx_list I.kIn ⟨_,h1,rfl⟩ e (fun z=>nomatch z) h
 | @tup a xs ea=>
  cases (show u=aT a from rx);obtain⟨_,_,_,p⟩:=(show xM X.prog X.w H s.heap a (.tup xs)from I.hok a _ ea);obtain⟨o,h1,h2,_⟩:=p;exact bB W.kitx_tuple I.kIn ⟨o,h1,h2⟩ e (fun z=>nomatch z) h
 | @dK a kvs ea=>
  cases (show u=aT a from rx);obtain⟨_,_,vs,_,p⟩:=(show xM X.prog X.w H s.heap a (.dK kvs)from I.hok a _ ea);obtain⟨o,es,ep,h1,h2,_⟩:=p;exact bB W.kitx_dict I.kIn ⟨o,h1,h2.1⟩ e (fun z=>nomatch z) h
 | @dT a kvs ea=>
  cases (show u=aT a from rx);obtain⟨_,_,xs,_,o,es,ep,h1,h2,_⟩:=(show xM X.prog X.w H s.heap a (.dT kvs)from I.hok a _ ea);exact bB W.kitx_dict I.kIn ⟨o,h1,h2.1⟩ e (fun z=>nomatch z) h
 | @ins a C dx fs ea cl ha hn htk hm=>
  cases (show u=aT a from rx);obtain⟨mA,O,_⟩:=vz I.hok ea;obtain⟨od,J,_⟩:=O.look;exact bB (W.kitx_own (cl.get _) cl.hd ha hn htk hm) I.kIn J e (fun z=>nomatch z) h
end
end L2
namespace L2
open PySem PySem.Spec PyProof.Rows
structure xN(k:Nat)(A:aH):Prop where
 hd:A.handled=none
 dp:A.depth+3*k+5<recursionLimit
 un:A.units+16*k+200<cLine
theorem xN.mono{j k:Nat}{A:aH}(r:xN k A)(h:j≤k):xN j A:=⟨r.hd,by have:=r.dp;lia,by have:=r.un;lia⟩
theorem xN.deeper{k:Nat}{A:aH}(r:xN (k+1) A)(env:Env):xN k (A.deeper env):=
 ⟨r.hd,by have:=r.dp;show A.depth+1+3*k+5<_;lia,by have:=r.un;show A.units+3+16*k+200<_;lia⟩
theorem xcv{A:aH}{C:Addr}{us:List Value}{kw:List (Str×Value)}:(A.under (.builtin "type.__call__" ⟨.ref C::us,kw⟩)).depth=A.depth+1:=by
 first|rfl|simp[dO,Code.weight,Code.isCreation,Code.isGuard,Code.isCaller,Code.frames,dP,guardIds]
theorem xcw{A:aH}{C:Addr}{us:List Value}{kw:List (Str×Value)}:(A.under (.builtin "type.__call__" ⟨.ref C::us,kw⟩)).units=A.units+1:=by
 first|rfl|simp[dO,Code.cUnits,Code.frames,dP]
theorem xN.make{k:Nat}{A:aH}(r:xN (k+1) A)(C:Addr)(us:List Value)(kw:List (Str×Value)):xN k (A.under (.builtin "type.__call__" ⟨.ref C::us,kw⟩)):=
 ⟨r.hd,by have:=r.dp;rw[xcv];lia,by have:=r.un;rw[xcw];lia⟩
theorem xN.depth{k:Nat}{A:aH}(r:xN k A):A.depth<recursionLimit:=by have:=r.dp;lia
theorem xN.units{k:Nat}{A:aH}(r:xN k A):A.units+64<cLine:=by have:=r.un;lia
def xfu:TA:=fun _ H Q=>Q [] H
def xf5(ta:TE)(tr:TA):TA:=fun σ H Q=>ta σ H fun x H1=>tr σ H1 fun xs H2=>Q (x::xs) H2
section
variable {X:Cx} {e:Expr} {es:List Expr} {te:TE} {t:TA} {pos:Pos}
theorem xb:PA X [] xfu:=fun _ _ _ _ H Q I h=>Calls.spliced_nil ⟨[],H,I,.nil,h⟩
theorem xa(ha:PE X e te)(hr:PA X es t)(hs:aE (e::es) X.env=(false,eval e X.env)::aE es X.env:=by rfl):PA X (e::es) (xf5 te t):=by
 intro pos pins s σ H Q I h;rw[hs];show wpAny _ _ (spliced ((false,eval e X.env)::bL pos (aE es X.env))) _ _ s;refine Calls.spliced_cons (thn (ha pins s σ H _ I h) fun u s1 ⟨x,H1,I1,r1,q1⟩=>?_);exact thn (hr pos pins s1 σ H1 _ I1 q1) fun us s2 ⟨xs,H2,I2,r2,q2⟩=>⟨x::xs,H2,I2,.cons r1 r2,q2⟩
def xgv(t:TA):TE:=fun σ H Q=>t σ H fun xs H1=>xs.length≤ak∧∀p,H1 p=none→Q (.ref p) (upd H1 p (.tup xs))
def xgw(t:TA):TE:=fun σ H Q=>t σ H fun xs H1=>xs.length≤ak∧∀p,H1 p=none→Q (.ref p) (upd H1 p (.lst xs))
theorem yB{x1}(h:PA X es t):PE X (.Tuple es x1 pos) (xgv t):=by
 intro pins s σ H Q I hq;refine wpAny_Tuple_spliced (thn (h pos pins s σ H _ I hq) fun us s1 ⟨xs,H1,I1,r,z,q⟩=>⟨by rw[←r.length];exact z,?_⟩);have hf:H1 s1.heap.objs.size=none:=I1.hok.fresh (aj _);refine⟨.ref s1.heap.objs.size,upd H1 s1.heap.objs.size (.tup xs),I1.laid (t':=s1.toks) (fun b u e=>ah _ e) (aj _) ?_,rfl,q _ hf⟩;exact⟨z,us,r,⟨_,aG _ rfl,rfl,_,rfl⟩⟩
theorem xP(h:PA X es t):PE X (.List es pos) (xgw t):=by
 intro pins s σ H Q I hq;refine wpAny_List_spliced (thn (h pos pins s σ H _ I hq) fun us s1 ⟨xs,H1,I1,r,z,q⟩=>⟨by rw[←r.length];exact z,?_⟩);have hf:H1 s1.heap.objs.size=none:=I1.hok.fresh (aj _);refine⟨.ref s1.heap.objs.size,upd H1 s1.heap.objs.size (.lst xs),I1.laid (t':=s1.toks) (fun b u e=>ah _ e) (aj _) ?_,rfl,q _ hf⟩;exact⟨z,us,0,r,aG _ rfl⟩
end
abbrev Sp:=List V→Hp→VK→XK→Prop
abbrev CXT:=List Env→Hp→aa→XK→Value→aa→Prop
structure ja(P:aF)(w:World)(K:ae)(mg:Str→Option Value)(base:Heap)(A:aH)(outer:List Env)(s:aa)(H:Hp):Prop where
 frames:A.frames=some outer
 mod:Mod K mg base
 bs:∀b o,base.get? b=some o→s.heap.get? b=some o∧H b=none
 bsz:base.objs.size≤s.heap.objs.size
 funs:s.heap.FunFrames base outer
 frf:∀b∈frs outer,H b=none
 hok:HOk P w H s.heap
 bare:cq s.gens
def CE(outer:List Env)(P:aF)(w:World)(H:Hp)(s:aa)(Q:VK)(u:Value)(s':aa):Prop:=
 ∃v H',s'.os=s.os∧cq s'.gens∧Un (frs outer) [] H H' s.heap s'.heap∧HOk P w H' s'.heap∧RelV v u∧Q v H'
def CR(CX:CXT)(outer:List Env)(P:aF)(w:World)(H:Hp)(s:aa)(Q:VK)(E:XK)(r:Result)(s':aa):Prop:=
 match r with
 | .ok (.ret u)=>CE outer P w H s Q u s'
 | .ok _=>False
 | .error e=>CX outer H s E e s'
structure xx(P:aF)(w:World)(K:ae)(mg:Str→Option Value)(base:Heap)(CX:CXT)(k:Nat)(f:Addr)(fd:au)(ps:List Str)(sp:Sp):Prop where
 len:∀vs H Q E,sp vs H Q E→vs.length=ps.length
 run:∀(A:aH) (outer:List Env) (s:aa) (H:Hp) (args:Args) (us:List Value) (vs:List V) (Q:VK) (E:XK),xN k A→ja P w K mg base A outer s H→dv s fd args (ps.zip us)→Vals vs us→sp vs H Q E→
  cu (model P w) A (.call (.ref f) args) (CR CX outer P w H s Q E) s
theorem ja.make{P:aF}{w:World}{K:ae}{mg:Str→Option Value}{base:Heap}{A:aH}{outer:List Env}{s:aa}{H:Hp}(e:ja P w K mg base A outer s H)(C:Addr)(us:List Value)(kw:List (Str×Value)):
  ja P w K mg base (A.under (.builtin "type.__call__" ⟨.ref C::us,kw⟩)) outer s H:=⟨by first|exact e.frames|(simpa [dO,Code.envs,dP,pushEnvs]using e.frames),e.mod,e.bs,e.bsz,e.funs,e.frf,e.hok,e.bare⟩
section
variable {X:Cx} {pins:List (Addr×Obj)} {σ:St} {H:Hp} {s s':aa}
theorem Inv.env0(I:Inv X pins σ H s):ja X.prog X.w X.K X.mg X.base X.A X.stack s H:=
 ⟨I.ok.frames,I.ok.mod,I.bs,ax I.ok.bsz I.sz,I.stack,I.stkFree,I.hok,I.bare⟩
theorem Inv.after{Q:VK}{u:Value}(I:Inv X pins σ H s)(h:CE X.stack X.prog X.w H s Q u s'):EP X pins σ Q u s':=by
 obtain⟨v,H',os,bare,un,hok,r,q⟩:=h;obtain⟨hh,g,d,t,os'⟩:=s';obtain rfl:os'=s.os:=os;exact⟨v,H',I.call (h':=hh) (g':=g) (d':=d) (t':=t) (ch:=[]) un hok bare (fun b z=>absurd z (by simp)),r,q⟩
end
def xep(sp:Sp)(dvs:List V)(E:XK)(t:TA):TE:=fun σ H Q=>t σ H fun vs H1=>sp (vs++dvs) H1 Q E
def xf6(C:Addr)(m:Str)(sp:Sp)(dvs:List V)(E:XK)(ta:TE)(t:TA):TE:=fun σ H Q=>ta σ H fun x H1=>∃a dx fs,x= .ref a∧H1 a=some (.ins C dx fs)∧fs.lookup m=none∧
 t σ H1 fun vs H2=>sp (x::(vs++dvs)) H2 Q E
def xf7(C:Addr)(sp:Sp)(dvs:List V)(E:XK)(t:TA):TE:=fun σ H Q=>t σ H fun vs H1=>∀x dx,H1 x=none→H1 dx=none→dx≠x→
 sp (.ref x::(vs++dvs)) (upd (upd H1 dx (.own x)) x (.ins C dx [])) (fun v H2=>v= .non∧Q (.ref x) H2) E
def Binds(K:ae)(fd:au)(ps:List Str)(ds:List Value):Prop:=
 ∀(s:aa) (us:List Value),K.In s.heap→(us++ds).length=ps.length→dv s fd ⟨us,[]⟩ (ps.zip (us++ds))
theorem Binds.all{K:ae}{fd:au}{ps:List Str}(h:∀us:List Value,us.length=ps.length→c7 fd ⟨us,[]⟩=pure (ps.zip us)):Binds K fd ps []:=fun s us _ hl=>by
 rw[List.append_nil]at hl⊢;exact .of_eq (h us hl)
def Passes(CX:CXT)(X:Cx)(E:XK):Prop:=∀(pins:List (Addr×Obj)) (σ:St) (H:Hp) (s:aa) (e:Value) (s':aa),Inv X pins σ H s→CX X.stack H s E e s'→X.xe e s'
section
variable {X:Cx} {CX:CXT} {k:Nat} {f C:Addr} {fd:au} {ps:List Str} {sp:Sp} {dvs:List V} {ds:List Value} {E:XK} {x m:Str} {p pos apos:Pos} {e o:Expr} {es:List Expr} {ta:TE} {t:TA}
theorem xa9{pins:List (Addr×Obj)}{σ:St}{H:Hp}{s:aa}{Q:VK}{us:List Value}{vs:List V}(F:xx X.prog X.w X.K X.mg X.base CX k f fd ps sp)(hr:xN k X.A)(hb:Binds X.K fd ps ds)(hd:Vals dvs ds)(hx:Passes CX X E)
  (I:Inv X pins σ H s) (r:Vals vs us) (h:sp (vs++dvs) H Q E):wpAny (model X.prog X.w) X.A (call (.ref f) us) (EP X pins σ Q) X.xe s:=by
 have r2:Vals (vs++dvs) (us++ds):=r.append hd;have hl:(us++ds).length=ps.length:=by rw[←r2.length];exact F.len _ _ _ _ h
 refine wpAny_call (c8 (F.run X.A X.stack s H ⟨us,[]⟩ (us++ds) (vs++dvs) Q E hr I.env0 (hb s us I.kIn hl) r2 h) fun r s' hq=>?_);cases r with
 |error e=>exact hx pins σ H s e s' I hq
 |ok fl=>
  cases fl with
  |ret u=>exact I.after hq
  |next=>exact aJ hq
  |brk=>exact aJ hq
  |cont=>exact aJ hq
theorem xm(F:xx X.prog X.w X.K X.mg X.base CX k f fd ps sp)(hr:xN k X.A)(hg:Gl X x)(hm:X.mg x=some (.ref f))(hk:cL X.K (.ref f)=true)(hb:Binds X.K fd ps ds)(hd:Vals dvs ds)(hx:Passes CX X E)
  (ha:PA X (e::es) t) (hdb:(x==("__debug__":Str))=false:=by decide) (he:aE (e::es) X.env=(false,eval e X.env)::aE es X.env:=by rfl) (hpl:(bL pos (aE es X.env)).any (·.1)=false:=by rfl):
  PE X (.Call (.Name x p) (e::es) [] pos) (xep sp dvs E t):=by
 intro pins s σ H Q I h;refine b5 (vy I hg hm ?_ hdb);refine dQ (h₀:=X.base) I.ok.mod.kin hk (thn (ha pos pins s σ H _ I h) fun us s1 ⟨vs,H1,I1,r,q⟩=>⟨I1.kIn,?_⟩) he hpl;exact xa9 F hr hb hd hx I1 r q
theorem uo{pl:Sem Bool}(he:PE X o ta)(c:Cls X.K C)(hm:Meth X.K C m f)(F:xx X.prog X.w X.K X.mg X.base CX k f fd ps sp)(hr:xN k X.A)(hb:Binds X.K fd ps ds)(hd:Vals dvs ds)(hx:Passes CX X E)
  (ht:eval (.Call (.Attribute o m apos) [] [] pos) X.env=(do
   let ov ←eval o X.env
   standAt apos.atName
   let(f,first) ←holding [ov] (getMethod ov m pl)
   callWith pos f first (bL pos (aE [] X.env)) (backToKw pos (dr [] X.env))):=by rfl):
  PE X (.Call (.Attribute o m apos) [] [] pos) (xf6 C m sp dvs E ta xfu):=by
 intro pins s σ H Q I h;refine W.methodCall_KW (pl:=pl) (thn (he pins s σ H _ I h) fun u s1 ⟨x,H1,I1,rx,a,dx,fs,ex,ea,l,q⟩=>?_) ht;subst ex;obtain rfl:u=aT a:=rx;refine xct I1 ea c hm l ?_;exact W.callWith_K0 (first:=[.ref a]) I1.kIn hm.kp (xa9 (us:=[.ref a]) (vs:=[.ref a]) F hr hb hd hx I1 (.cons rfl .nil) q)
structure Mk(K:ae)(C f:Addr):Prop where
 makes:W.makesIn K C=true
 init:bg K (.ref C) "__init__"=some (some (.ref f))
 fn:W.isFn K (.ref f)=true
 kp:cL K (.ref C)=true
theorem xdR{pins:List (Addr×Obj)}{σ:St}{H:Hp}{s:aa}{Q:VK}{us:List Value}{vs:List V}(M:Mk X.K C f)(F:xx X.prog X.w X.K X.mg X.base CX k f fd ps sp)(hr:xN (k+1) X.A)(hb:Binds X.K fd ps ds)(hd:Vals dvs ds)
  (hx:Passes CX X E) (I:Inv X pins σ H s) (r:Vals vs us)
  (h:∀x dx,H x=none→H dx=none→dx≠x→sp (.ref x::(vs++dvs)) (upd (upd H dx (.own x)) x (.ins C dx [])) (fun v H2=>v= .non∧Q (.ref x) H2) E):
  wpAny (model X.prog X.w) X.A (call (.ref C) us) (EP X pins σ Q) X.xe s:=by
 have hq:=h (s.heap.objs.size+1) s.heap.objs.size (I.hok.fresh (Nat.le_succ _)) (I.hok.fresh (aj _)) (aM (Nat.lt_succ_self _));have I2:=Inv.made (C:=C) I;have r2:Vals (V.ref (s.heap.objs.size+1)::(vs++dvs)) (aT (s.heap.objs.size+1)::(us++ds)):=.cons rfl (r.append hd);have hl:(aT (s.heap.objs.size+1)::us++ds).length=ps.length:=by
  have e:=r2.length;rw[F.len _ _ _ _ hq]at e;exact e.symm
 refine wpAny_call (xdQ (f:=f) I.kIn M.makes M.init (beq_iff_eq.mp M.fn) (c8 (F.run _ X.stack _ _ ⟨aT (s.heap.objs.size+1)::us,[]⟩ (aT (s.heap.objs.size+1)::(us++ds)) _ _ E (hr.make C us [])
  (I2.env0.make C us []) (hb _ (aT (s.heap.objs.size+1)::us) I2.kIn hl) r2 hq) fun r s' hq'=>?_))
 cases r with
 |error e=>exact hx pins σ _ _ e s' I2 hq'
 |ok fl=>
  cases fl with
  |ret u=>
   obtain⟨v,H',I3,rv,ev,q3⟩:=I2.after hq';subst ev;exact⟨rv,⟨V.ref (s.heap.objs.size+1),H',I3,rfl,q3⟩⟩
  |next=>exact aJ hq'
  |brk=>exact aJ hq'
  |cont=>exact aJ hq'
theorem xca(M:Mk X.K C f)(F:xx X.prog X.w X.K X.mg X.base CX k f fd ps sp)(hr:xN (k+1) X.A)(hg:Gl X x)(hm:X.mg x=some (.ref C))(hb:Binds X.K fd ps ds)(hd:Vals dvs ds)(hx:Passes CX X E)
  (ha:PA X (e::es) t) (hdb:(x==("__debug__":Str))=false:=by decide) (he:aE (e::es) X.env=(false,eval e X.env)::aE es X.env:=by rfl) (hpl:(bL pos (aE es X.env)).any (·.1)=false:=by rfl):
  PE X (.Call (.Name x p) (e::es) [] pos) (xf7 C sp dvs E t):=by
 intro pins s σ H Q I h;refine b5 (vy I hg hm ?_ hdb);refine dQ (h₀:=X.base) I.ok.mod.kin M.kp (thn (ha pos pins s σ H _ I h) fun us s1 ⟨vs,H1,I1,r,q⟩=>⟨I1.kIn,?_⟩) he hpl;exact xdR M F hr hb hd hx I1 r q
end
section
variable {X:Cx} {CX:CXT} {k:Nat} {f C:Addr} {fd:au} {ps ks:List Str} {sp:Sp} {E:XK} {x m:Str} {p pos apos kpos:Pos} {e o:Expr} {es:List Expr} {kws:List Keyword} {te ta:TE} {t tk:TA} {nm:Option Str}
variable {g:List Value→List Value→List Value} {gV:List V→List V→List V}
end
structure xp(N P:List Str)(sc:Scope):Prop where
 kind:sc.kind= .function
 co:sc.isCoroutine=false
 gen:sc.isGenerator=false
 nd:N.Nodup
 pre:N.take P.length=P
 par:∀x∈P,sc.names.lookup x=some .local∨sc.names.lookup x=some .cell
 nofree:∀y∈sc.names,y.2≠.free
theorem xaq{kindOf:Str→Option bu}{x:Str}:∀{binds:List (Str×Value)} {m:Str→Option Value},(∀v,(x,v)∉binds)→bindL kindOf binds m x=m x
 |[],_,_=>rfl
 |(n,v)::r,m,h=>by
  unfold bindL;rw[xaq fun w hw=>h w (av _ hw)]
  split
  ·have:x≠n:=by rintro rfl;exact h v aU
   simp[this]
  ·rfl
theorem xar{kindOf:Str→Option bu}{x:Str}:∀{binds:List (Str×Value)} {m:Str→Option Value},(∀v,(x,v)∉binds)→bindC kindOf binds m x=m x
 |[],_,_=>rfl
 |(n,v)::r,m,h=>by
  unfold bindC;rw[xar fun w hw=>h w (av _ hw)]
  split
  ·rfl
  ·have:x≠n:=by rintro rfl;exact h v aU
   simp[this]
theorem xas{kindOf:Str→Option bu}{x:Str}{v:Value}:∀{P:List Str} {vs:List Value} {i:Nat} {m:Str→Option Value},P.Nodup→P[i]? =some x→vs[i]? =some v→kindOf x=some .local→
  bindL kindOf (P.zip vs) m x=some v
 |[],_,_,_,_,h,_,_=>by simp at h
 |_::_,[],_,_,_,_,h,_=>by simp at h
 |p::P,w::vs,0,m,nd,h1,h2,hk=>by
  simp at h1 h2;subst h1;subst h2;show bindL kindOf ((p,w)::P.zip vs) m p=_;unfold bindL;rw[xaq fun v hv=>(cC.mp nd).1 (dm hv).1,if_pos hk];simp
 |p::P,w::vs,i+1,m,nd,h1,h2,hk=>by
  show bindL kindOf ((p,w)::P.zip vs) m x=_;unfold bindL;exact xas (i:=i) (cC.mp nd).2 (by simpa using h1) (by simpa using h2) hk
theorem xat{kindOf:Str→Option bu}{x:Str}{v:Value}:∀{P:List Str} {vs:List Value} {i:Nat} {m:Str→Option Value},P.Nodup→P[i]? =some x→vs[i]? =some v→kindOf x≠some .local→
  bindC kindOf (P.zip vs) m x=some v
 |[],_,_,_,_,h,_,_=>by simp at h
 |_::_,[],_,_,_,_,h,_=>by simp at h
 |p::P,w::vs,0,m,nd,h1,h2,hk=>by
  simp at h1 h2;subst h1;subst h2;show bindC kindOf ((p,w)::P.zip vs) m p=_;unfold bindC;rw[xar fun v hv=>(cC.mp nd).1 (dm hv).1,if_neg hk];simp
 |p::P,w::vs,i+1,m,nd,h1,h2,hk=>by
  show bindC kindOf ((p,w)::P.zip vs) m x=_;unfold bindC;exact xat (i:=i) (cC.mp nd).2 (by simpa using h1) (by simpa using h2) hk
def start(N:List Str)(vs:List V):St:=vs.map some++bo (N.length - vs.length) none
def jZ(CX:CXT)(P:aF)(w:World)(K:ae)(mg:Str→Option Value)(base:Heap)(N:List Str)(qual:Str)(scope:Scope)(f:Addr)(cd:Value)(A:aH)(outer:List Env)(s:aa)(H:Hp)(E:XK):Cx where
 prog:=P
 w:=w
 K:=K
 mg:=mg
 base:=base
 A:=A.deeper (cN qual scope s.heap.objs.size f cd)
 N:=N
 s₀:=s
 H₀:=H
 env:=cN qual scope s.heap.objs.size f cd
 outer:=outer
 stack:=cN qual scope s.heap.objs.size f cd::outer
 ex:=[]
 calm:=true
 cp:=fun _=>true
 fn:=fun _=>true
 pn:=[]
 xe:=fun e s'=>wpAny (model P w) (A.deeper (cN qual scope s.heap.objs.size f cd)) (leaving (cN qual scope s.heap.objs.size f cd) e) (fun _ s''=>CX outer H s E e s'') (fun e' s''=>CX outer H s E e' s'') s'
theorem xba{sc:Scope}{n:Nat}{x:Str}(h:sc.names.lookup x=some .cell):∃c,(cellsFrom n sc.names []).lookup x=some c:=by
 have q:=W.cellsFrom_some sc.names n [] (.inl h);exact Option.isSome_iff_exists.mp q
theorem xc7{CX:CXT}{P:aF}{w:World}{K:ae}{mg:Str→Option Value}{base:Heap}{N ps:List Str}{qual:Str}{scope:Scope}{f:Addr}{cd:Value}{A:aH}{outer:List Env}{s s1:aa}{H:Hp}{E:XK}{us:List Value}{vs:List V}
  (S:xp N ps scope) (hd:A.handled=none) (e0:ja P w K mg base A outer s H) (hl:vs.length=ps.length) (r:Vals vs us)
  (x:InCallC s s.heap.objs.size (bindL (cN qual scope s.heap.objs.size f cd).kindOf (ps.zip us) fun _=>none) (cellsFrom (s.heap.objs.size+1) scope.names []) (bindC (cN qual scope s.heap.objs.size f cd).kindOf (ps.zip us) fun _=>none) s1):
  Inv (jZ CX P w K mg base N qual scope f cd A outer s H E) [] (start N vs) H s1:=by
 have hpl:ps.length≤N.length:=by have:=congrArg d0 S.pre;rw[bp]at this;lia
 obtain⟨h1,tk,rfl,hk⟩:=x.done;have noA:∀b:Addr,b∉(jZ CX P w K mg base N qual scope f cd A outer s H E).ex:=fun b z=>absurd (show b∈([]:List Addr)from z) (by simp);refine⟨⟨e0.mod,S.kind,rfl,rfl,aj _,fun y z c h1 h2=>?_,fun y hy=>?_,fun y c _ h=>?_,fun _=>hd,Around.frames_deeper e0.frames,.inr ⟨rfl,rfl⟩,fun b z=>absurd z (noA b),e0.bs,e0.bsz,fun b _ _=>noA b,fun b z=>absurd z (noA b),e0.funs,e0.frf,fun y c _ h=>cY (x.above y c (PySem.mem_of_lookup h)),fun b hb=>e0.hok.fresh hb⟩,
  rfl,e0.bare,Un.kept hk,⟨_,x.toInCall.ns,fun i y v h1 h2 h3=>?_⟩,fun y c h=>⟨_,x.cell y c h⟩,e0.hok.fresh (aj _),fun y c h=>.inl ?_,fun p hp=>absurd (show p∈([]:List (Addr×Obj))from hp) (by simp),e0.hok.kept hk,?_⟩
 ·exact name_of_addr x.apart (PySem.mem_of_lookup h1) (PySem.mem_of_lookup h2)
 ·have hy:scope.names.lookup y=some .cell∨scope.names.lookup y=some .free:=hy;rcases hy with hy|hy
  ·exact xba hy
  ·exact absurd rfl (S.nofree _ (PySem.mem_of_lookup hy))
 ·exact cY (x.above y c (PySem.mem_of_lookup h))
 ·have hi:i<vs.length:=by
   unfold start at h2
   by_cases hi:i<vs.length
   ·exact hi
   ·rw[List.getElem?_append_right (by simpa using hi)]at h2;rw[List.getElem?_replicate]at h2
    split at h2<;> cases h2
  have ha:vs[i]? =some v:=by
   unfold start at h2;rw[cU (by simpa using hi),ay]at h2;cases e:vs[i]? with
   |none=>rw[e]at h2;cases h2
   |some a=>rw[e]at h2;cases h2;rfl
  obtain⟨u,hu,rv⟩:=r.get ha;have hp:ps[i]? =some y:=by
   rw[←S.pre,List.getElem?_take_of_lt (by lia)];exact h1
  have ndP:ps.Nodup:=by rw[←S.pre];exact S.nd.sublist (List.take_sublist _ _)
  refine⟨u,rv,?_⟩;rcases S.par y (aA hp)with k|k
  ·exact .inl ⟨k,xas ndP hp hu k⟩
  ·obtain⟨c,e⟩:=xba (n:=s.heap.objs.size+1) k;refine .inr ⟨.inl k,c,e,?_⟩;have q:=x.cell y c e;rw[xat ndP hp hu (by show scope.names.lookup y≠_;rw[k];decide)]at q;exact q
 ·exact e0.hok.fresh (cY (x.above y c (PySem.mem_of_lookup h)))
 ·unfold start;show _=N.length;rw[aV,ab,List.length_replicate];lia
theorem xf8{CX:CXT}{P:aF}{w:World}{K:ae}{mg:Str→Option Value}{base:Heap}{k:Nat}{f:Addr}{name qual:Str}{params:Arguments}{body:List Stmt}{scope:Scope}{dV kV doc pm cdv ct oc:Value}{an od:Option Addr}
  {osl:Array (Option Value)} {N ps:List Str} {sp:Sp} (lk:K.lookup f=some ⟨oc,od,.func (cf name qual params body scope dV kV doc pm an cdv ct),osl⟩) (hcd:W.codeIn K cdv qual=true) (S:xp N ps scope)
  (len:∀vs H Q E,sp vs H Q E→vs.length=ps.length)
  (hbody:∀(A:aH) (outer:List Env) (s:aa) (H:Hp) (vs:List V) (Q:VK) (E:XK),xN k (A.deeper (cN qual scope s.heap.objs.size f cdv))→sp vs H Q E→
   ∃t,PSs (jZ CX P w K mg base N qual scope f cdv A outer s H E) body t∧t {nx:=fun _ H'=>Q .non H',rt:=Q} (start N vs) H):
  xx P w K mg base CX (k+1) f (cf name qual params body scope dV kV doc pm an cdv ct) ps sp:=by
 refine⟨len,fun A outer s H args us vs Q E hr e0 hb r hsp=>?_⟩;have hl:=len _ _ _ _ hsp;have KX:K.In s.heap:=e0.mod.kin.keeps fun b o e=>(e0.bs b o e).1;have lim:s.heap.NoLimit:=e0.mod.nolimit.keeps fun b o e=>(e0.bs b o e).1;have hkind:∀y∈ps.zip us,scope.names.lookup y.1=some .local∨(scope.names.lookup y.1=some .cell∧((cellsFrom (s.heap.objs.size+1) scope.names []).lookup y.1).isSome=true):=fun⟨n,v⟩ hy=>by
  rcases S.par n (dm hy).1 with q|q
  ·exact .inl q
  ·exact .inr ⟨q,W.cellsFrom_some _ _ _ (.inl q)⟩
 refine codeAny_call_function hr.depth (KX _ _ lk) rfl S.co S.gen rfl (W.codeRec_of KX hcd) (hb _ _ _ _ ?_);refine wpAny_newFunctionEnv_cells S.kind hkind fun env he s1 x=>?_;subst he;refine⟨lim.keeps x.toInCall.keep,codeAny_func ?_⟩;obtain⟨t,ht,hq⟩:=hbody A outer s H vs Q E (hr.deeper _) hsp;have I:Inv (jZ CX P w K mg base N qual scope f cdv A outer s H E) [] (start N vs) H s1:=xc7 S hr.hd e0 hl r x;refine aN (ht [] s1 (start N vs) H _ I hq) (fun fl s' hs=>?_) fun e s' hs=>hs;have fin:∀{σ':St} {H':Hp} {v:V} {u:Value},Inv (jZ CX P w K mg base N qual scope f cdv A outer s H E) [] σ' H' s'→RelV v u→Q v H'→CE outer P w H s Q u s':=
  fun{σ' H' v u} J rv q=>⟨v,H',J.os,J.bare,J.base,J.hok,rv,q⟩
 cases fl with
 |ret u=>
  obtain⟨v,σ',H',J,rv,q⟩:=hs;exact fin J rv q
 |next=>
  obtain⟨σ',H',J,q⟩:=hs;exact fin (v:=V.non) (u:=cx) J rfl q
 |brk=>
  obtain⟨_,_,_,q⟩:=hs;exact aJ q
 |cont=>
  obtain⟨_,_,_,q⟩:=hs;exact aJ q
end L2
namespace L2
open PySem PySem.Spec PyProof.Rows
section
variable {X:Cx} {x:Str} {p pos:Pos} {e:Expr} {es:List Expr} {t:TA} {id T:String} {r:List V→Hp→VK→Prop}
def tCB(r:List V→Hp→VK→Prop)(t:TA):TE:=fun σ H Q=>t σ H fun vs H1=>r vs H1 Q
theorem xv(hc:xS X (.builtin id) r)(hg:Gl X x)(hm:X.mg x=none)(hv:aQ x=some (.builtin id))(ha:PA X (e::es) t)(hn:x≠"__name__":=by decide)(hdb:(x==("__debug__":Str))=false:=by decide)
  (he:aE (e::es) X.env=(false,eval e X.env)::aE es X.env:=by rfl) (hpl:(bL pos (aE es X.env)).any (·.1)=false:=by rfl):PE X (.Call (.Name x p) (e::es) [] pos) (tCB r t):=by
 intro pins s σ H Q I h;refine b5 (uQ I hg hm hv ?_ hn hdb);exact PyProof.Rows.callWith_builtin1 (thn (ha pos pins s σ H _ I h) fun us s1 ⟨vs,H1,I1,r1,q1⟩=>hc pins s1 σ H1 vs us Q I1 r1 q1) he hpl
theorem xF(hc:xS X (.type T) r)(hg:Gl X x)(hm:X.mg x=none)(hv:aQ x=some (.type T))(ha:PA X (e::es) t)(hn:x≠"__name__":=by decide)(hdb:(x==("__debug__":Str))=false:=by decide)
  (he:aE (e::es) X.env=(false,eval e X.env)::aE es X.env:=by rfl) (hpl:(bL pos (aE es X.env)).any (·.1)=false:=by rfl):PE X (.Call (.Name x p) (e::es) [] pos) (tCB r t):=by
 intro pins s σ H Q I h;refine b5 (uQ I hg hm hv ?_ hn hdb);exact bO (thn (ha pos pins s σ H _ I h) fun us s1 ⟨vs,H1,I1,r1,q1⟩=>hc pins s1 σ H1 vs us Q I1 r1 q1) he hpl
end
end L2
namespace HT
open PySem PyProof.Rows
section
open PySem.SeqAt
open PySem.AutoSeq1 (wpAny_loadPart')
open PySem.MeetsSeq PySem.MeetsSeq2 PySem.MeetsSeq3
end
section
variable {prog:aF} {w:World} {A:aH} {E:Value→aa→Prop} {s:aa}
theorem xeB{t b:Addr}{vs ws:List Value}{Q:Value→aa→Prop}(ht:IsTup s.heap t vs.toArray)(hb:IsTup s.heap b ws.toArray)(hv:vs≠[])
  (h1:ws=[]→Q (.ref t) s) (h2:ws≠[]→Q (.ref s.heap.objs.size) {s with heap:=s.heap.push {cls:=.type "tuple",data:=.seq (vs++ws).toArray}})
  (hsz:vs.length+ws.length≤ak):wpAny (model prog w) A (bc .Add (.ref t) (.ref b)) Q E s:=by
 obtain⟨⟨cls,dd,data,sl⟩,ho,hc,n,hd⟩:=id ht;obtain⟨⟨cls2,dd2,data2,sl2⟩,ho2,hc2,n2,hd2⟩:=id hb;simp only at hc hd hc2 hd2;subst hc hd hc2 hd2;have e:vs.toArray++ws.toArray=(vs++ws).toArray:=by simp
 by_cases hw:ws=[]
 ·exact concat_meets ⟨_,ho,rfl⟩ ⟨_,ho2,rfl⟩ noFill_tuple_add seq_tuple_add PySem.F.slot_tuple_add PySem.F.entry_tuple_add (PySem.F.args_tuple_add_2 _ _)
   (tuple_addW1 t b vs.toArray ws.toArray n n2 dd dd2 sl sl2 (by simpa using hv) (by simp[hw])) ⟨ho,ho2,h1 hw⟩
 ·refine concat_meets ⟨_,ho,rfl⟩ ⟨_,ho2,rfl⟩ noFill_tuple_add seq_tuple_add PySem.F.slot_tuple_add PySem.F.entry_tuple_add (PySem.F.args_tuple_add_2 _ _)
   (tuple_addW2 t b vs.toArray ws.toArray n n2 dd dd2 sl sl2 (by simpa using hv) (by simpa using hw) (by rw[ag,ag];exact hsz)) ⟨ho,ho2,?_⟩
  rw[e];exact h2 hw
def sIx(n d:Nat):Option Int→Nat
 |none=>d
 |some v=>if v<0 then(v+(n:Int)).toNat else min v.toNat n
theorem xbb(n d:Nat):sIx n d none=d:=rfl
theorem xc8(n d:Nat)(hd:d≤n)(o:Option Int):sIx n d o≤n:=by
 cases o with
 |none=>exact hd
 |some v=>
  show(if v<0 then(v+(n:Int)).toNat else min v.toNat n)≤n
  by_cases hv:v<0
  ·rw[if_pos hv];lia
  ·rw[if_neg hv];exact Nat.min_le_right _ _
theorem xcb(v:Int)(n d:Nat):(if v<0 then max (v+(n:Int)) 0 else min v (n:Int))=((sIx n d (some v):Nat):Int):=by
 show(if v<0 then max (v+(n:Int)) 0 else min v (n:Int))=(((if v<0 then(v+(n:Int)).toNat else min v.toNat n):Nat):Int)
 by_cases hv:v<0
 ·simp only[if_pos hv];lia
 ·simp only[if_neg hv];lia
theorem xcx(lo hi:Option Int)(n:Nat):b2 lo hi 1 (n:Int)=(((sIx n 0 lo:Nat):Int),((sIx n n hi:Nat):Int)):=by
 have h1:¬((1:Int)<0):=by lia
 unfold b2;simp only[h1,if_false];refine Prod.ext ?_ ?_
 ·cases lo with
  |none=>rfl
  |some v=>exact xcb v n 0
 ·cases hi with
  |none=>rfl
  |some v=>exact xcb v n n
theorem xcy(i j:Nat):bz (i:Int) (j:Int) 1=j - i:=by
 unfold bz;have h1:(1:Int) > 0:=by lia
 simp only[h1,if_true,Int.ediv_one]
 split<;> lia
theorem jB{v:Value}{o:Option Int}{Q:Option Int→aa→Prop}(p:c9 v o)(h:Q o s):wpAny (model prog w) A (Builtin.Slice.slicePartIndex v) Q E s:=by
 cases p with
 |none=>exact slicePart_none h
 |int i t=>exact slicePart_int h
theorem jb{sl:Addr}{vl vu:Value}{lo hi:Option Int}{n:Nat}{Q:Int×Int×Nat→aa→Prop}(hs:s.heap.IsSliceOf sl vl vu .none)(pl:c9 vl lo)(pu:c9 vu hi)
  (h:Q (((sIx n 0 lo:Nat):Int),1,sIx n n hi - sIx n 0 lo) s):wpAny (model prog w) A (cR (.ref sl) (pure (n:Int))) Q E s:=by
 obtain⟨os,hos,hcs,hds⟩:=id hs;unfold cR Builtin.Slice.sliceFields;refine ai (ai (wpAny_field hos hds (x:=vl) rfl (ai (wpAny_field hos hds (x:=vu) rfl (ai (wpAny_field hos hds (x:=.none) rfl (az ?_)))))));refine ai (slicePart_none ?_);show wpAny _ _ (if ((1:Int)==0)=true then _ else _) _ _ s;rw[if_neg (by decide)];refine ai (jB pl (ai (jB pu (ai (az ?_)))));show wpAny _ _ (match b2 lo hi 1 (n:Int)with|(lo,hi)=>pure (lo,(1:Int),bz lo hi 1)) _ _ s;rw[xcx lo hi n];show wpAny _ _ (pure (((sIx n 0 lo:Nat):Int),(1:Int),bz ((sIx n 0 lo:Nat):Int) ((sIx n n hi:Nat):Int) 1)) _ _ s;rw[xcy];exact az h
theorem xdS(xs:Array Value)(i k:Nat):((dy k).filterMap fun(m:Nat)=>xs[((i:Int)+(m:Int)*1).toNat]?).toArray=((xs.toList.drop i).take k).toArray:=by
 have e:(fun(m:Nat)=>xs[((i:Int)+(m:Int)*1).toNat]?)=fun m=>xs[i+m]? :=by
  funext m
  have:((i:Int)+(m:Int)*1).toNat=i+m:=by lia
  rw[this]
 rw[e];have:=pick_run xs i k;rw[List.filterMap_map]at this;have e2:((fun x=>xs[x]?)∘fun x=>i+x)=fun m=>xs[i+m]? :=rfl;rw[e2]at this;rw[this]
theorem vI{t sl:Addr}{items:Array Value}{vl vu:Value}{lo hi:Option Int}{Q:Value→aa→Prop}(ht:IsTup s.heap t items)(hs:s.heap.IsSliceOf sl vl vu .none)(pl:c9 vl lo)(pu:c9 vu hi)
  (hw:¬(sIx items.size 0 lo=0∧sIx items.size items.size hi=items.size))
  (h:Q (.ref s.heap.objs.size) {s with heap:=s.heap.push {cls:=.type "tuple",data:=.seq ((items.toList.drop (sIx items.size 0 lo)).take (sIx items.size items.size hi - sIx items.size 0 lo)).toArray}})
  (hsz:items.size≤ak):wpAny (model prog w) A (cX (.ref t) (.ref sl)) Q E s:=by
 have htake:sizeOk (.seq ((items.toList.drop (sIx items.size 0 lo)).take (sIx items.size items.size hi - sIx items.size 0 lo)).toArray):=by
  show((items.toList.drop (sIx items.size 0 lo)).take (sIx items.size items.size hi - sIx items.size 0 lo)).toArray.size≤ak;rw[ag,bp,de,bF];lia
 have hj:sIx items.size items.size hi≤items.size:=xc8 _ _ (aj _) hi;obtain⟨os,hos,hcs,hds⟩:=id hs;have hTs:s.TypeIs (.ref sl) "slice":=⟨os,hos,hcs⟩;unfold cX
 try with_reducible refine wpAny_holding ?_
 first|refine ai (az ?_)|skip
 refine ai (wpAny_sequenceKey ht.typeIs (by decide) ?_);refine ai (wpAny_callSpecial?_slot (name:=aI "__getitem__") ht.typeIs bG
  (wpAny_call_entry bG ht.typeIs entry_tuple_getitem ?_ (args_tuple_getitem _ _)))
 show wpAny _ _ (Builtin.Tuple.tupleItemsOf (.ref t) >>= _) _ _ s;refine ai (tupleItemsOf_ ht ?_);refine ai (wpAny_typeOf hTs ?_);rw[if_pos (by decide)];refine ai (jb hs pl pu ?_);have hno:¬((((sIx items.size 0 lo:Nat):Int)==0&&(1:Int)==1&&(sIx items.size items.size hi - sIx items.size 0 lo)==items.size)=true):=by
  intro q;rw[bR,bR]at q;have q1:((sIx items.size 0 lo:Nat):Int)=0:=eq_of_beq q.1.1;have q2:sIx items.size items.size hi - sIx items.size 0 lo=items.size:=eq_of_beq q.2;exact hw ⟨by lia,by lia⟩
 show wpAny _ _ (if (((sIx items.size 0 lo:Nat):Int)==0&&(1:Int)==1&&(sIx items.size items.size hi - sIx items.size 0 lo)==items.size)=true then _ else _) _ _ s;rw[if_neg hno,xdS]
 first
  |exact ai (m:=bC _) (bJ (az ⟨_,rfl,az h⟩) htake)
  |exact ai (m:=bC _) (bJ (ai (az (az ⟨_,rfl,az h⟩))) htake)
  |exact ai (ai (m:=bC _) (bJ (az (az ⟨_,rfl,az h⟩)) htake))
  |exact ai (ai (m:=bC _) (bJ (az ⟨_,rfl,az h⟩) htake))
end
end HT
namespace L2
open PySem PySem.Spec PyProof.Rows
abbrev TO:=St→Hp→(Option Int→Hp→Prop)→Prop
def PO(X:Cx)(e:Option Expr)(t:TO):Prop:=
 ∀(pins:List (Addr×Obj)) (s:aa) (σ:St) (H:Hp) (Q:Option Int→Hp→Prop),Inv X pins σ H s→t σ H Q→
  wpAny (model X.prog X.w) X.A (evalPart e X.env) (fun u s'=>∃o H',Inv X pins σ H' s'∧c9 u o∧Q o H') X.xe s
def xeC:TO:=fun _ H Q=>Q none H
def xf9(t:TE):TO:=fun σ H Q=>t σ H fun x H1=>∃i,x= .int i∧Q (some i) H1
section
variable {X:Cx} {e:Expr} {te:TE} {lo hi:Option Expr} {tl th:TO} {pos p2:Pos}
theorem zr:PO X none xeC:=by
 intro pins s σ H Q I h;rw[evalPart_none];exact az ⟨none,H,I,.none,h⟩
theorem yI(h:PE X e te):PO X (some e) (xf9 te):=by
 intro pins s σ H Q I hw;rw[evalPart_some];refine thn (h pins s σ H _ I hw) fun u s1 ⟨x,H1,I1,r1,q1⟩=>?_;obtain⟨i,rfl,q⟩:=q1;obtain⟨t,rfl⟩:=r1;exact⟨some i,H1,I1,.int i t,q⟩
def SlR(X:Cx)(r:V→Option Int→Option Int→Hp→VK→Prop):Prop:=
 ∀(pins:List (Addr×Obj)) (s:aa) (σ:St) (H:Hp) (x:V) (v vl vu:Value) (lo hi:Option Int) (sl:Addr) (Q:VK),Inv X pins σ H s→RelV x v→s.heap.IsSliceOf sl vl vu .none→c9 vl lo→c9 vu hi→r x lo hi H Q→
  ∃T id,typeLookup (.type T) "__getitem__"=pure (some (.builtin id))∧s.TypeIs v T∧wpAny (model X.prog X.w) X.A (cX v (.ref sl)) (EP X pins σ Q) X.xe s
def tSl(r:V→Option Int→Option Int→Hp→VK→Prop)(te:TE)(tl th:TO):TE:=fun σ H Q=>te σ H fun x H1=>tl σ H1 fun l H2=>th σ H2 fun u H3=>r x l u H3 Q
theorem yF{r:V→Option Int→Option Int→Hp→VK→Prop}(hr:SlR X r)(he:PE X e te)(hl:PO X lo tl)(hu:PO X hi th):PE X (.Subscript e (.Slice lo hi none p2) pos) (tSl r te tl th):=by
 intro pins s σ H Q I h;refine Subscript_ (thn (he pins s σ H _ I h) fun v s1 ⟨x,H1,I1,r1,q1⟩=>?_);refine wpAny_Slice (thn (hl pins s1 σ H1 _ I1 q1) fun vl s2 ⟨l,H2,I2,pl,q2⟩=>thn (hu pins s2 σ H2 _ I2 q2) fun vu s3 ⟨u,H3,I3,pu,q3⟩=>?_);rw[evalPart_none];refine az ?_;have I4:Inv X pins σ H3 {s3 with heap:=s3.heap.push {cls:=.type "slice",data:=.fields #[vl,vu,.none]}}:=I3.kept (t':=s3.toks) fun b ob q=>ah _ q;obtain⟨T,id,hT,ht,hg⟩:=hr pins {s3 with heap:=s3.heap.push {cls:=.type "slice",data:=.fields #[vl,vu,.none]}} σ H3 x v vl vu l u s3.heap.objs.size Q I4 r1 (Heap.IsSliceOf.new ..) pl pu q3;show wpAny (model X.prog X.w) X.A (dD e (.Slice lo hi none p2) v (.ref s3.heap.objs.size)) (EP X pins σ Q) X.xe {s3 with heap:=s3.heap.push {cls:=.type "slice",data:=.fields #[vl,vu,.none]}};exact tail_any (ops:=[.ref s3.heap.objs.size,v]) ht hT hg (by with_unfolding_all rfl)
def zw(xs:List V)(lo hi:Option Int):List V:=(xs.drop (HT.sIx xs.length 0 lo)).take (HT.sIx xs.length xs.length hi - HT.sIx xs.length 0 lo)
theorem vL(xs:List V)(lo hi:Option Int):(zw xs lo hi).length≤xs.length:=by
 unfold zw;rw[bp,de];lia
def xgx(K:ae):V→Option Int→Option Int→Hp→VK→Prop:=fun x lo hi H Q=>∃a xs,x= .ref a∧SqT K H a xs∧
 ¬(HT.sIx xs.length 0 lo=0∧HT.sIx xs.length xs.length hi=xs.length)∧∀p,H p=none→Q (.ref p) (upd H p (.tup (zw xs lo hi)))
theorem jC:SlR X (xgx X.K):=by
 intro pins s σ H x v vl vu lo hi sl Q I rx hs pl pu h;obtain⟨a,xs,rfl,hx,hw,q⟩:=h;cases rx;obtain⟨its,r,ht,hz⟩:=I.tuple hx;have hlen:its.toArray.size=xs.length:=by rw[ag];exact r.length.symm
 refine⟨"tuple",_,bG.lookup,ht.typeIs,?_⟩;refine HT.vI ht hs pl pu (by rw[hlen];exact hw) ?_ (by rw[hlen];exact hz);rw[hlen];refine⟨.ref s.heap.objs.size,_,I.laid (t':=s.toks) (o:=.tup (zw xs lo hi)) (fun b ob q=>ah _ q) (aj _) ?_,rfl,q _ (I.hok.fresh (aj _))⟩;exact⟨ax (vL xs lo hi) hz,_,(r.drop (HT.sIx xs.length 0 lo)).take (HT.sIx xs.length xs.length hi - HT.sIx xs.length 0 lo),IsTup.new _ _⟩
def xga(K:ae):R2:=fun x y H Q=>∃a b xs ys,x= .ref a∧y= .ref b∧SqT K H a xs∧SqT K H b ys∧xs≠[]∧xs.length+ys.length≤ak∧
 (ys=[]→Q (.ref a) H)∧(ys≠[]→∀p,H p=none→Q (.ref p) (upd H p (.tup (xs++ys))))
theorem Vals.nil_iff{xs:List V}{us:List Value}(r:Vals xs us):us=[]↔xs=[]:=by
 cases r with
 |nil=>simp
 |cons _ _=>simp
theorem ug:OpR X (bc .Add) (xga X.K):=by
 intro pins s σ H x y v u Q I rx ry h;obtain⟨a,b,xs,ys,rfl,rfl,ha,hb,hx,hz,q1,q2⟩:=h;cases rx;cases ry;obtain⟨its,r1,p1,_⟩:=I.tuple ha;obtain⟨its2,r2,p2,_⟩:=I.tuple hb;refine HT.xeB p1 p2 (fun z=>hx (r1.nil_iff.mp z)) (fun z=>⟨.ref a,H,I,rfl,q1 (r2.nil_iff.mp z)⟩) (fun z=>?_) (by rw[←r1.length,←r2.length];exact hz);refine⟨.ref s.heap.objs.size,_,I.laid (t':=s.toks) (o:=.tup (xs++ys)) (fun b ob q=>ah _ q) (aj _) ?_,rfl,q2 (fun w=>z (r2.nil_iff.mpr w)) _ (I.hok.fresh (aj _))⟩;exact⟨by rw[aV];exact hz,_,r1.append r2,IsTup.new _ _⟩
end
end L2
namespace L2
open PySem PySem.Spec PyProof.Rows
def ixN(n:Nat)(i:Int):Option Nat:=if 0≤i then(if i<n then some i.toNat else none)else if -(n:Int)≤i then some (i+n).toNat else none
def atI{α:Type}(xs:List α)(i:Int):Option α:=(ixN xs.length i).bind fun j=>xs[j]?
theorem xeD{n:Nat}{i:Int}{j:Nat}(h:ixN n i=some j):seqIndex? i n=some j∧j<n∧-(n:Int)≤i∧i<n:=by
 unfold ixN at h
 by_cases h0:0≤i
 ·rw[if_pos h0]at h
  by_cases h1:i<n
  ·rw[if_pos h1]at h;have e:i.toNat=j:=ba h;exact⟨by rw[seqIndex_of h0 h1,e],by lia,by lia,h1⟩
  ·rw[if_neg h1]at h;cases h
 ·rw[if_neg h0]at h
  by_cases h1: -(n:Int)≤i
  ·rw[if_pos h1]at h;have e:(i+n).toNat=j:=ba h;exact⟨by rw[seqIndex_neg (by lia) h1,e],by lia,h1,by lia⟩
  ·rw[if_neg h1]at h;cases h
theorem xcc{α:Type}{xs:List α}{i:Int}{v:α}(h:atI xs i=some v):∃j,seqIndex? i xs.length=some j∧xs[j]? =some v∧j<xs.length∧-(xs.length:Int)≤i∧i<xs.length:=by
 unfold atI at h;cases e:ixN xs.length i with
 |none=>rw[e]at h;cases h
 |some j=>
  rw[e]at h;obtain⟨h1,h2,h3,h4⟩:=xeD e;exact⟨j,h1,h,h2,h3,h4⟩
theorem yv{α:Type}{xs:List α}{j:Nat}{v:α}(h:xs[j]? =some v):atI xs (j:Int)=some v:=by
 have hj:j<xs.length:=(aW.mp h).1;have e:ixN xs.length (j:Int)=some j:=by
  unfold ixN;rw[if_pos (by lia),if_pos (by lia)];simp
 unfold atI;rw[e];exact h
def xeE(b:Expr):Prop:=∀o i,dt b false o i=operate [o,i] (cX o i)
def IxR(X:Cx)(r:R2):Prop:=
 ∀(value slice:Expr) (pins:List (Addr×Obj)) (s:aa) (σ:St) (H:Hp) (x y:V) (v u:Value) (Q:VK),Inv X pins σ H s→RelV x v→RelV y u→r x y H Q→
  dt slice false v u=operate [v,u] (cX v u)→wpAny (model X.prog X.w) X.A (dD value slice v u) (EP X pins σ Q) X.xe s
def MtR(X:Cx)(id:String)(r:V→List V→Hp→VK→Prop):Prop:=
 ∀(pins:List (Addr×Obj)) (s:aa) (σ:St) (H:Hp) (x:V) (xs:List V) (v:Value) (us:List Value) (Q:VK),Inv X pins σ H s→RelV x v→Vals xs us→r x xs H Q→
  wpAny (model X.prog X.w) X.A (call (.builtin id) (v::us)) (EP X pins σ Q) X.xe s
section
variable {X:Cx} {a b:Expr} {ta tb:TE} {pos:Pos}
theorem xt{r:R2}(hr:IxR X r)(ha:PE X a ta)(hb:PE X b tb)(hs:xeE b):PE X (.Subscript a b pos) (tOp r ta tb):=by
 intro pins s σ H Q I h;exact Subscript_ (xdM ha hb I h fun v u s2 x y H2 I2 rx ry q=>hr a b pins s2 σ H2 x y v u Q I2 rx ry q (hs _ _))
def xfv(K:ae):R2:=fun x y H Q=>∃p xs i v,x= .ref p∧y= .int i∧SqL K H p xs∧atI xs i=some v∧Q v H
def xfw(K:ae):R2:=fun x y H Q=>∃p xs i v,x= .ref p∧y= .int i∧SqT K H p xs∧atI xs i=some v∧Q v H
theorem yg:IxR X (xfv X.K):=by
 intro value slice pins s σ H x y v u Q I rx ry h hs;obtain⟨p,xs,i,z,rfl,rfl,hq,he,q⟩:=h;cases rx;obtain⟨t,rfl⟩:=ry;obtain⟨its,r,pl,hz⟩:=I.list hq;obtain⟨j,h1,h2,h3,h4,h5⟩:=xcc he;obtain⟨w,ew,rw'⟩:=r.get h2;have hl:=r.length;have hn:=jA;have fin:EP X pins σ Q w s:=⟨z,H,I,rw',q⟩
 by_cases h0:0≤i
 ·have hj:i.toNat=j:=by
   rw[seqIndex_of h0 h5]at h1;exact ba h1
  exact item_listR pl.isList h0 (by lia) (by rw[hj];simpa using ew) fin hs
 ·have hj:(i+(its.toArray.size:Int)).toNat=j:=by
   rw[seqIndex_neg (by lia) h4]at h1;rw[ag,←hl];exact ba h1
  exact subscriptTail_builtinR (x:=w) pl.isList.typeIs slot_list_getitem.lookup
   (wpAny_getItem_list_neg (Q:=fun r s'=>r=w∧EP X pins σ Q r s') pl.isList (by lia) (by rw[ag]<;> lia) (by lia) (by rw[hj];simpa using ew) ⟨rfl,fin⟩) hs
theorem xu:IxR X (xfw X.K):=by
 intro value slice pins s σ H x y v u Q I rx ry h hs;obtain⟨p,xs,i,z,rfl,rfl,hq,he,q⟩:=h;cases rx;obtain⟨t,rfl⟩:=ry;obtain⟨its,r,pl,hz⟩:=I.tuple hq;obtain⟨j,h1,h2,h3,h4,h5⟩:=xcc he;obtain⟨w,ew,rw'⟩:=r.get h2;have hl:=r.length;have hn:=jA;have fin:EP X pins σ Q w s:=⟨z,H,I,rw',q⟩;exact subscriptTail_builtinR (x:=w) pl.typeIs slot_tuple_getitem.lookup
  (getItem_tuple (j:=j) (Q:=fun r s'=>r=w∧EP X pins σ Q r s') pl (by lia) (by lia) (by rw[ag,←hl];exact h1) (by simpa using ew) ⟨rfl,fin⟩) hs
theorem uU(lo hi:Option Int)(n:Nat):(bX lo hi none n).1=((HT.sIx n 0 lo:Nat):Int)∧(bX lo hi none n).2.1=((HT.sIx n n hi:Nat):Int)∧(bX lo hi none n).2.2=1:=by
 refine⟨?_,?_,rfl⟩
 ·cases lo with
  |none=>simp[bX,HT.sIx]
  |some i=>
   simp only[bX,HT.sIx,d4,show(1:Int) > 0 by decide,if_true]
   by_cases h:i<0
   ·simp only[h,if_true]<;> lia
   ·simp only[h,if_false]<;> lia
 ·cases hi with
  |none=>simp[bX,HT.sIx]
  |some i=>
   simp only[bX,HT.sIx,d4,show(1:Int) > 0 by decide,if_true]
   by_cases h:i<0
   ·simp only[h,if_true]<;> lia
   ·simp only[h,if_false]<;> lia
theorem xaP(its:List Value)(lo hi:Option Int):slicePick its.toArray lo hi none=((its.drop (HT.sIx its.length 0 lo)).take (HT.sIx its.length its.length hi - HT.sIx its.length 0 lo)).toArray:=by
 obtain⟨h1,h2,h3⟩:=uU lo hi its.toArray.size;unfold slicePick;rw[h1,h2,h3];simp only[sliceRange_one,pick_run,ag]<;> rfl
def xfx(K:ae):V→Option Int→Option Int→Hp→VK→Prop:=fun x lo hi H Q=>∃a xs,x= .ref a∧SqL K H a xs∧∀p,H p=none→Q (.ref p) (upd H p (.lst (zw xs lo hi)))
theorem xaa:SlR X (xfx X.K):=by
 intro pins s σ H x v vl vu lo hi sl Q I rx hs pl pu h;obtain⟨a,xs,rfl,hx,q⟩:=h;cases rx;obtain⟨its,r,ht,hz⟩:=I.list hx;have hlen:=r.length;refine⟨"list",_,slot_list_getitem.lookup,ht.isList.typeIs,?_⟩;refine wpAny_getItem_list_slice ht.isList hs pl pu .none (by simp) ?_ (by rw[ag]<;> lia);rw[xaP,←hlen];refine⟨.ref s.heap.objs.size,_,I.laid (t':=s.toks) (o:=.lst (zw xs lo hi)) (fun b ob q=>ah _ q) (aj _) ?_,rfl,q _ (I.hok.fresh (aj _))⟩;exact⟨ax (vL xs lo hi) hz,_,0,(r.drop (HT.sIx xs.length 0 lo)).take (HT.sIx xs.length xs.length hi - HT.sIx xs.length 0 lo),aG _ rfl⟩
def zo:V→Bool
 | .non=>true
 | .bl _=>true
 | .int _=>true
 | .str _=>true
 |_=>false
def eqV:V→V→Bool
 | .non,.non=>true
 | .bl a,.bl b=>a==b
 | .bl a,.int b=>(if a then 1 else 0)==b
 | .int a,.bl b=>a==(if b then 1 else 0)
 | .int a,.int b=>a==b
 | .str a,.str b=>a==b
 |_,_=>false
theorem xfy{A:aH}{s:aa}{y x:V}{u v:Value}(ry:RelV y u)(rx:RelV x v)(fy:zo y=true)(fx:zo x=true):SeqAt.EqAt A s u v (eqV y x):=by
 cases y with
 |non=>
  cases ry;cases x with
  |non=>cases rx;exact SeqAt.EqAt.same _
  |bl b=>cases rx;exact SeqAt.EqAt.none_bool b
  |int b=>obtain⟨t,rfl⟩:=rx;exact SeqAt.EqAt.none_int b t
  |str b=>obtain⟨t,rfl⟩:=rx;exact SeqAt.EqAt.none_str b t
  |_=>exact absurd (show false=true from fx) aq
 |bl a=>
  cases ry;cases x with
  |non=>cases rx;exact SeqAt.EqAt.bool_none a
  |bl b=>cases rx;exact SeqAt.EqAt.bool_bool a b
  |int b=>obtain⟨t,rfl⟩:=rx;exact SeqAt.EqAt.bool_int a b t
  |str b=>obtain⟨t,rfl⟩:=rx;exact SeqAt.EqAt.bool_str a b t
  |_=>exact absurd (show false=true from fx) aq
 |int a=>
  obtain⟨t',rfl⟩:=ry;cases x with
  |non=>cases rx;exact SeqAt.EqAt.int_none a t'
  |bl b=>cases rx;exact SeqAt.EqAt.int_bool a t' b
  |int b=>obtain⟨t,rfl⟩:=rx;exact SeqAt.EqAt.int_int a t' b t
  |str b=>obtain⟨t,rfl⟩:=rx;exact dH a t' b t
  |_=>exact absurd (show false=true from fx) aq
 |str a=>
  obtain⟨t',rfl⟩:=ry;cases x with
  |non=>cases rx;exact SeqAt.EqAt.str_none a t'
  |bl b=>cases rx;exact SeqAt.EqAt.str_bool a t' b
  |int b=>obtain⟨t,rfl⟩:=rx;exact dI a t' b t
  |str b=>obtain⟨t,rfl⟩:=rx;exact SeqAt.EqAt.str_str a t' b t
  |_=>exact absurd (show false=true from fx) aq
 |_=>exact absurd (show false=true from fy) aq
def eqU(x:V)(u:Value):Bool:=match u with
 | .none=>eqV .non x
 | .bool b=>eqV (.bl b) x
 | .int i _=>eqV (.int i) x
 | .str z _=>eqV (.str z) x
 |_=>false
theorem xc9{x y:V}{u:Value}(r:RelV y u)(f:zo y=true):eqU x u=eqV y x:=by
 cases y with
 |non=>cases r;rfl
 |bl b=>cases r;rfl
 |int i=>obtain⟨t,rfl⟩:=r;rfl
 |str z=>obtain⟨t,rfl⟩:=r;rfl
 |_=>exact absurd (show false=true from f) aq
theorem xab{x:V}:∀{xs:List V} {us:List Value},Vals xs us→xs.all zo=true→us.any (eqU x)=xs.any fun y=>eqV y x
 |_,_,.nil,_=>rfl
 |y::xs,u::us,.cons r t,f=>by
  rw[List.all_cons,bR]at f;rw[List.any_cons,List.any_cons,xc9 r f.1,xab t f.2]
theorem jc{A:aH}{s:aa}{x:V}{v:Value}(rx:RelV x v)(fx:zo x=true):∀{xs:List V} {us:List Value},Vals xs us→xs.all zo=true→∀u∈us,SeqAt.EqAt A s u v (eqU x u)
 |_,_,.nil,_=>fun u hu=>by cases hu
 |y::xs,u::us,.cons r t,f=>fun u' hu=>by
  rw[List.all_cons,bR]at f;rcases aC.mp hu with rfl|hu
  ·rw[xc9 r f.1];exact xfy r rx f.1 fx
  ·exact jc rx fx t f.2 u' hu
def inV(x:V)(xs:List V):Bool:=xs.any fun y=>eqV y x
def rIn(K:ae)(neg:Bool):R2:=fun x y H Q=>∃p xs,y= .ref p∧(SqL K H p xs∨SqT K H p xs)∧zo x=true∧xs.all zo=true∧Q (.bl (if neg then !inV x xs else inV x xs)) H
theorem xda:OpR X (aS .In) (rIn X.K false):=by
 intro pins s σ H x y v u Q I rx ry h;obtain⟨p,xs,rfl,hq,fx,fs,q⟩:=h;cases ry;rcases hq with hq|hq
 ·obtain⟨its,r,pl,hz⟩:=I.list hq;refine SeqAt.in_listAt (eqU x) pl.isList (fun w hw=>jc rx fx r fs w (by simpa using hw)) ⟨.bl _,H,I,rfl,?_⟩;rw[show its.toArray.any (eqU x)=its.any (eqU x)by simp,xab r fs];exact q
 ·obtain⟨its,r,pl,hz⟩:=I.tuple hq;refine SeqAt.in_tupleAt (eqU x) pl (fun w hw=>jc rx fx r fs w (by simpa using hw)) ⟨.bl _,H,I,rfl,?_⟩;rw[show its.toArray.any (eqU x)=its.any (eqU x)by simp,xab r fs];exact q
theorem xQ:xS X (.builtin "len") (fun xs H Q=>∃p ys,xs=[.ref p]∧(SqL X.K H p ys∨SqT X.K H p ys)∧Q (.int ys.length) H):=by
 intro pins s σ H xs us Q I r h;obtain⟨p,ys,rfl,hq,q⟩:=h;obtain⟨u,rfl,rx⟩:=vals1 r;cases rx;have hn:=jA;rcases hq with hq|hq
 ·obtain⟨its,r',pl,hz⟩:=I.list hq;have hlen:=r'.length;exact Calls.call_len_list pl.isList (by simp only[ag]<;> lia) ⟨.int ys.length,H,I.tok _,⟨s.toks+1,by rw[ag,hlen]⟩,q⟩
 ·obtain⟨its,r',pl,hz⟩:=I.tuple hq;have hlen:=r'.length;exact len_tuple pl (by simp only[ag]<;> lia) ⟨.int ys.length,H,I.tok _,⟨s.toks+1,by rw[ag,hlen]⟩,q⟩
theorem uV:xS X (.builtin "len") (fun xs H Q=>∃z,xs=[.str z]∧z.length≤ak∧Q (.int z.length) H):=by
 intro pins s σ H xs us Q I r h;obtain⟨z,rfl,hz,q⟩:=h;obtain⟨u,rfl,t,rfl⟩:=vals1 r;have hn:=jA;exact len_str (by lia) ⟨.int z.length,H,I.tok _,⟨_,rfl⟩,q⟩
theorem uW:xS X (.type "list") (fun xs H Q=>∃p ys,xs=[.ref p]∧(SqL X.K H p ys∨SqT X.K H p ys)∧∀l,H l=none→Q (.ref l) (upd H l (.lst ys))):=by
 intro pins s σ H xs us Q I r h;obtain⟨p,ys,rfl,hq,q⟩:=h;obtain⟨u,rfl,rx⟩:=vals1 r;cases rx;have fin:∀(its:List Value),Vals ys its→ys.length≤ak→∀(h':Heap) (c':Nat),(∀b o',s.heap.get? b=some o'→h'.get? b=some o')→
   h'.get? s.heap.objs.size=some {cls:=.type "list",dict:=none,data:=.seq its.toArray c',slots:=#[]}→EP X pins σ Q (.ref s.heap.objs.size) {s with heap:=h'}:=fun its r' hz h' c' kp e=>
  ⟨.ref s.heap.objs.size,_,I.laid (t':=s.toks) kp (aj _) (show xM X.prog X.w _ h' _ (.lst ys)from⟨hz,its,c',r',e⟩),rfl,q _ (I.hok.fresh (aj _))⟩
 rcases hq with hq|hq
 ·obtain⟨its,r',pl,hz⟩:=I.list hq;have hlen:=r'.length;obtain⟨o,ho,hc,n,hd⟩:=pl.isList;exact call_list_seq p (.inl rfl) ho hc hd (fun h' c' kp e=>fin its r' hz h' c' kp e) (by simp only[ag]<;> lia)
 ·obtain⟨its,r',pl,hz⟩:=I.tuple hq;have hlen:=r'.length;obtain⟨o,ho,hc,n,hd⟩:=pl;exact call_list_seq p (.inr rfl) ho hc hd (fun h' c' kp e=>fin its r' hz h' c' kp e) (by simp only[ag]<;> lia)
theorem ye:xS X (.type "tuple") (fun xs H Q=>∃p ys,xs=[.ref p]∧((SqL X.K H p ys∧∀l,H l=none→Q (.ref l) (upd H l (.tup ys)))∨(SqT X.K H p ys∧Q (.ref p) H))):=by
 intro pins s σ H xs us Q I r h;obtain⟨p,ys,rfl,h⟩:=h;obtain⟨u,rfl,rx⟩:=vals1 r;cases rx;rcases h with⟨hq,q⟩|⟨hq,q⟩
 ·obtain⟨its,r',pl,hz⟩:=I.list hq;have hlen:=r'.length;refine call_tuple_list pl.isList (fun h' kp=>?_) (by simp only[ag]<;> lia);have I1:Inv X pins σ H {s with heap:=h'}:=I.kept (t':=s.toks) kp;have I2:Inv X pins σ (upd H h'.objs.size (.tup ys)) {s with heap:=h'.push {cls:=.type "tuple",data:=.seq its.toArray}}:=
   I1.laid (t':=s.toks) (fun b o e=>ah _ e) (aj _) (show xM X.prog X.w _ _ _ (.tup ys)from⟨hz,its,r',IsTup.new _ _⟩)
  exact⟨.ref h'.objs.size,_,I2,rfl,q _ (I1.hok.fresh (aj _))⟩
 ·obtain⟨its,r',pl,hz⟩:=I.tuple hq;exact call_tuple_same pl ⟨.ref p,H,I,rfl,q⟩
def tyV(K:ae)(T:String)(x:V)(H:Hp):Prop:=match x with
 | .str _=>T="str"
 | .int _=>T="int"
 | .ref p=>(T="list"∧∃xs,SqL K H p xs)∨(T="tuple"∧∃o,K.lookup p=some o∧o.cls= .type "tuple"∧o.dict=none)∨
   (T="dict"∧((∃kvs,H p=some (.dK kvs))∨∃kvs,H p=some (.dT kvs)))∨(T="set"∧∃S n,H p=some (.set S n))
 |_=>False
theorem xfz{pins:List (Addr×Obj)}{σ:St}{H:Hp}{s:aa}{T:String}{x:V}{v:Value}(I:Inv X pins σ H s)(r:RelV x v)(ty:tyV X.K T x H):
  s.TypeIs v T∧∀a,v= .ref a→∃ob,s.heap.get? a=some ob∧ob.dict=none:=by
 cases x with
 |str z=>
  obtain⟨t,rfl⟩:=r;cases (show T="str" from ty);exact⟨b9 s z t,fun _ e=>nomatch e⟩
 |int i=>
  obtain⟨t,rfl⟩:=r;cases (show T="int" from ty);exact⟨typeIs_int s i t,fun _ e=>nomatch e⟩
 |ref p=>
  cases r;rcases ty with⟨rfl,xs,hq⟩|⟨rfl,o,hk,hc,hd⟩|⟨rfl,hk⟩|⟨rfl,S,n,hk⟩
  ·obtain⟨its,_,pl,_⟩:=I.list hq;refine⟨pl.isList.typeIs,fun a e=>?_⟩;cases e;obtain⟨o,n,e,c,hd,_⟩:=pl;exact⟨o,e,hd⟩
  ·refine⟨⟨o,I.kIn p o hk,hc⟩,fun a e=>?_⟩;cases e;exact⟨o,I.kIn _ o hk,hd⟩
  ·have z:∃o,s.heap.get? p=some o∧o.ExactDict:=by
    rcases hk with⟨kvs,hk⟩|⟨kvs,hk⟩
    ·obtain⟨_,_,_,_,o,_,_,e,ex,_⟩:=I.hok p _ hk;exact⟨o,e,ex⟩
    ·obtain⟨_,_,_,_,o,_,_,e,ex,_⟩:=I.hok p _ hk;exact⟨o,e,ex⟩
   obtain⟨o,e,ex⟩:=z;refine⟨⟨o,e,ex.1⟩,fun a e2=>?_⟩;cases e2;exact⟨o,e,ex.2.1⟩
  ·obtain⟨o,_,_,_,e,ex,_⟩:=I.hok p _ hk;refine⟨⟨o,e,ex.1⟩,fun a e2=>?_⟩;cases e2;exact⟨o,e,ex.2.1⟩
 |_=>exact aJ ty
def tBM(K:ae)(T:String)(r:V→List V→Hp→VK→Prop)(to:TE)(t:TA):TE:=fun σ H Q=>to σ H fun x H1=>tyV K T x H1∧t σ H1 fun xs H2=>r x xs H2 Q
variable {o e:Expr} {es:List Expr} {to:TE} {t:TA} {name:Str} {apos cpos:Pos} {T id:String} {r:V→List V→Hp→VK→Prop}
theorem yw(pa:PlainAttrs T)(slot:Slot T name id)(hty:typeOf (.builtin id)=pure (.type "method_descriptor"))(hm:MtR X id r)(ho:PE X o to)(ha:PA X (e::es) t)
  (hbase:cQ o name X.env (eval o X.env)=eval o X.env:=by rfl)
  (hfew:((bL cpos (aE (e::es) X.env)).all (fun x=> !x.1)&&(backToKw cpos (dr [] X.env)).all (fun x=>x.1.isSome)
   &&decide ((e::es).length+([]:List Keyword).length+(if ([]:List Keyword).isEmpty then 0 else 1)<30))=true:=by rfl)
  (hline:(apos.endLine==cpos.line)=true:=by rfl) (hs:aE (e::es) X.env=(false,eval e X.env)::aE es X.env:=by rfl) (hplain:(bL cpos (aE es X.env)).any (·.1)=false:=by rfl):
  PE X (.Call (.Attribute o name apos) (e::es) [] cpos) (tBM X.K T r to t):=by
 intro pins s σ H Q I h;refine wpAny_Call_method_late hbase hfew hline rfl (thn (ho pins s σ H _ I h) fun v s1 ⟨x,H1,I1,r1,ty,q1⟩=>?_);obtain⟨h1,h2⟩:=xfz I1 r1 ty;refine⟨T,id,pa,slot,hty,h1,h2,?_⟩;have hA:=ha cpos pins s1 σ H1 _ I1 q1;rw[hs]at hA⊢;refine Calls.callWith_builtin (by show(false||(bL cpos (aE es X.env)).any (·.1))=false;rw[hplain]<;> rfl) (Calls.evalArgs_plain ?_);exact thn hA fun us s2 ⟨vs,H2,I2,r2,q2⟩=>hm pins s2 σ H2 x vs v us Q I2 r1 r2 q2
end
end L2
namespace L2
open PySem PySem.Spec PyProof.Rows
def MtM(X:Cx)(id:String)(r:V→List V→Hp→VK→Prop):Prop:=
 ∀(pins:List (Addr×Obj)) (s:aa) (σ:St) (H:Hp) (x:V) (xs:List V) (v:Value) (us:List Value) (Q:VK),Inv X pins σ H s→RelV x v→Vals xs us→r x xs H Q→
  wpAny (model X.prog X.w) X.A (call (.builtin id) (v::us)) (EP X pins σ Q) X.xe s
theorem Vals.one:∀{x:V} {us:List Value},Vals [x] us→∃u,us=[u]∧RelV x u
 |_,_,.cons r .nil=>⟨_,rfl,r⟩
theorem Vals.two:∀{x y:V} {us:List Value},Vals [x,y] us→∃u v,us=[u,v]∧RelV x u∧RelV y v
 |_,_,_,.cons r (.cons q .nil)=>⟨_,_,rfl,r,q⟩
section
variable {X:Cx} {pins:List (Addr×Obj)} {σ:St} {H:Hp} {s:aa} {l b:Addr} {xs ys zs:List V}
theorem Inv.lset{its its':List Value}{n:Nat}{f:Array Value→Array Value}{t':Nat}(I:Inv X pins σ H s)(hH:H l=some (.lst xs))
  (e:s.heap.get? l=some {cls:=.type "list",data:=.seq its.toArray n}) (hf:f its.toArray=its'.toArray) (hv:Vals ys its') (hz:ys.length≤ak):
  Inv X pins σ (upd H l (.lst ys)) {s with heap:=s.heap.update l (Obj.mapSeq f),toks:=t'}:=by
 have q:=PySem.IsL.update e f;rw[hf]at q;refine I.write (x:=l) (e:=l) (by rw[hH];exact trivial) (.inl rfl) (fun b' u hb hu=>(Heap.get?_update_other s.heap (Obj.mapSeq f) (bV hb)).trans hu) ⟨_,q⟩ ?_;exact⟨hz,its',_,hv,q⟩
theorem Inv.lnew{its:List Value}{t':Nat}(I:Inv X pins σ H s)(hv:Vals ys its)(hz:ys.length≤ak):
  Inv X pins σ (upd H s.heap.objs.size (.lst ys)) {s with heap:=s.heap.push {cls:=.type "list",data:=.seq its.toArray},toks:=t'}:=
 I.laid (fun _ _ q=>ah _ q) (aj _) ⟨hz,its,0,hv,aG _ rfl⟩
theorem Inv.fresh(I:Inv X pins σ H s):H s.heap.objs.size=none:=I.hok.fresh (aj _)
theorem Inv.lstM(I:Inv X pins σ H s)(hH:H l=some (.lst xs)):xs.length≤ak∧∃(its:List Value) (n:Nat),Vals xs its∧xs.length=its.length∧s.heap.get? l=some {cls:=.type "list",data:=.seq its.toArray n}:=by
 obtain⟨z,its,n,r,e⟩:=I.hok l _ hH;exact⟨z,its,n,r,r.length,e⟩
theorem xbc{n:Nat}(h:n≤ak):bh n=false:=by
 unfold bh;exact decide_eq_false (by lia)
end
section
variable {X:Cx}
def xeF:V→List V→Hp→VK→Prop:=fun x vs H Q=>∃l xs y,x= .ref l∧vs=[y]∧H l=some (.lst xs)∧xs.length<ak∧Q .non (upd H l (.lst (xs++[y])))
theorem yJ:MtM X "list.append" xeF:=by
 intro pins s σ H x vs v us Q I rx rv h;obtain⟨l,xs,y,rfl,rfl,hH,hz,q⟩:=h;cases rx;obtain⟨u,rfl,ru⟩:=rv.one;obtain⟨z,its,n,r,hl,e⟩:=I.lstM hH;refine bS F.slot_list_append ⟨_,e,rfl⟩ F.entry_list_append (F.args_list_append_2 _ _) (PySem.list_append l its.toArray n u (by rw[ag];lia)) ⟨e,?_⟩;refine⟨.non,_,I.lset (its':=its++[u]) hH e (by simp) (r.append (.cons ru .nil)) ?_,rfl,q⟩;rw[aV,cw];lia
def xeG:V→List V→Hp→VK→Prop:=fun x vs H Q=>∃l b xs zs,x= .ref l∧vs=[.ref b]∧H l=some (.lst xs)∧H b=some (.lst zs)∧xs.length+zs.length≤ak∧Q .non (upd H l (.lst (xs++zs)))
theorem xdb:MtM X "list.extend" xeG:=by
 intro pins s σ H x vs v us Q I rx rv h;obtain⟨l,b,xs,zs,rfl,rfl,hH,hB,hz,q⟩:=h;cases rx;obtain⟨u,rfl,ru⟩:=rv.one;cases ru;obtain⟨z,its,n,r,hl,e⟩:=I.lstM hH;obtain⟨z2,its2,n2,r2,hl2,e2⟩:=I.lstM hB;have hsz:its.toArray.size+its2.toArray.size≤ak:=by rw[ag,ag];lia
 have hlong:¬(!its.toArray.isEmpty&&bh (its.toArray.size+its2.toArray.size))=true:=by
  rw[xbc hsz,Bool.and_false];exact aq
 refine bS F.slot_list_extend ⟨_,e,rfl⟩ F.entry_list_extend (F.args_list_extend_2 _ _)
  (AutoSeq1.list_extend_list_list_0 l its.toArray n b its2.toArray n2 hlong (by rw[ag];lia) (by lia)) ⟨e,e2,?_⟩
 refine⟨.non,_,I.lset (its':=its++its2) hH e (by simp) (r.append r2) ?_,rfl,q⟩;rw[aV];lia
def xgy:R2:=fun x y H Q=>∃l b xs zs,x= .ref l∧y= .ref b∧H l=some (.lst xs)∧H b=some (.lst zs)∧xs.length+zs.length≤ak∧∀p,H p=none→Q (.ref p) (upd H p (.lst (xs++zs)))
theorem yn:OpR X (bc .Add) xgy:=by
 intro pins s σ H x y v u Q I rx ry h;obtain⟨l,b,xs,zs,rfl,rfl,hH,hB,hz,q⟩:=h;cases rx;cases ry;obtain⟨z,its,n,r,hl,e⟩:=I.lstM hH;obtain⟨z2,its2,n2,r2,hl2,e2⟩:=I.lstM hB;refine PySem.P.add_list e e2 ?_ (by rw[ag,ag];lia);have ea:its.toArray++its2.toArray=(its++its2).toArray:=by simp
 rw[ea];exact⟨.ref _,_,I.lnew (t':=s.toks) (r.append r2) (by rw[aV];lia),rfl,q _ I.fresh⟩
end
section
variable {prog:aF} {w:World} {A:aH} {E:Value→aa→Prop} {s:aa}
set_option maxRecDepth 100000 in
end
section
variable {X:Cx}
end
end L2
namespace L2
open PySem PySem.Spec PyProof.Rows
section
variable {κ:Type} [DecidableEq κ]
end
section
variable {P:aF} {w:World} {H:Hp} {h:Heap} {a:Addr}
end
section
variable {X:Cx} {pins:List (Addr×Obj)} {σ:St} {H:Hp} {s:aa} {a:Addr} {y v:V} {u r:Value} {o:Option V} {A:aH} {E:Value→aa→Prop}
end
section
variable {X:Cx} {pins:List (Addr×Obj)} {σ:St} {H:Hp} {s:aa} {a:Addr} {kvs:List (Key×V)} {k:Key} {u:Value} {A:aH} {E:Value→aa→Prop}
end
def xfA(i:Expr):Prop:=∀ov iv,dt i false ov iv=operate [ov,iv] (cX ov iv)
theorem xeH{prog:aF}{w:World}{A:aH}{E:Value→aa→Prop}{s:aa}{env:Env}{value slice:Expr}{pos:Pos}{T id:String}{Q:Value→aa→Prop}
  (hl:typeLookup (.type T) "__getitem__"=pure (some (.builtin id))) (hs:xfA slice)
  (h:wpAny (model prog w) A (eval value env) (fun o s₁=>wpAny (model prog w) A (eval slice env) (fun i s₂=>s₂.TypeIs o T∧wpAny (model prog w) A (cX o i) Q E s₂) E s₁) E s):
  wpAny (model prog w) A (eval (.Subscript value slice pos) env) Q E s:=by
 refine Subscript_ (aN h (fun o s₁ h₁=>aN h₁ (fun i s₂ h₂=>?_) fun _ _ x=>x) fun _ _ x=>x);obtain⟨hT,h₂⟩:=h₂;unfold dD;refine ai ?_;rw[getitemInPython_of_ne hT.not_modules];refine ai (wpAny_specialOf hT hl ?_);have fin:wpAny (model prog w) A (dt slice false o i) (fun r s₃=>wpAny (model prog w) A (letTemporaryGo value o r >>= fun _=>pure r) Q E s₃) E s₂:=by
  rw[hs o i];exact wpAny_operating (aN h₂ (fun r s₃ h₃=>ai (wpAny_letTemporaryGo (az h₃))) fun _ _ x=>x)
 first
  |exact az (ai fin)
  |exact ai (az (ai fin))
  |exact ai fin
section
variable {X:Cx} {o i e value:Expr} {pos pos' tpos:Pos} {td ty tv:TE}
end
section
variable {X:Cx} {pos:Pos}
end
section
variable {X:Cx} {pins:List (Addr×Obj)} {σ:St} {H:Hp} {s:aa} {a:Addr} {y d:V} {u r:Value} {o:Option V} {A:aH} {E:Value→aa→Prop}
end
section
variable {X:Cx} {o e f:Expr} {apos cpos:Pos} {td ty tx:TE}
end
section
variable {X:Cx} {pins:List (Addr×Obj)} {σ:St} {H:Hp} {s:aa} {a:Addr} {kvs:List (Key×V)} {A:aH} {E:Value→aa→Prop}
end
section
variable {X:Cx} {pins:List (Addr×Obj)} {σ:St} {H:Hp} {s:aa} {a:Addr} {y:V} {u:Value} {A:aH} {E:Value→aa→Prop}
end
end L2
namespace Att
open PySem PySem.W PySem.Calls PyProof.Rows
theorem jD{P:Params}{h:Heap}:∀(ns:List Int) (vs:List Value),WellAll P h vs (ns.map WData.int)→IntsAre vs ns:=by
 intro ns
 induction ns with
 |nil=>
  intro vs w;rw[List.map_nil]at w;cases w;exact .nil
 |cons n ns ih=>
  intro vs w;rw[bb]at w;cases w with
  |cons a b=>
   cases a;exact .cons _ _ (ih _ b)
theorem xdc{l:OpenLaw}{n:Nat}(hn:l.most=some n){P:Params}{h:Heap}{args:List WData}{vals:List Value}
  (hpre:l.row.toRowW.claim.pre args=true) (hwl:WellAll P h vals args):
  ∃a vs ns,vals=[aT a]∧args=[WData.list (ns.map WData.int)]∧h.get? a=some {cls:=.type "list",data:=.seq vs.toArray}∧IntsAre vs ns∧ns.length≤n:=by
 have hsh:WShape.hasAll [] args [.list .int]=true:=(pre_splitW hpre).1;have hc:l.pre.holds [] {args:=args}=true:=(pre_splitW hpre).2;obtain⟨d,r,rfl,h1,h2⟩:=hasAllW_cons hsh;obtain rfl:=hasAllW_nil h2;obtain⟨xs,rfl,h3⟩:=hasW_list h1;obtain⟨ns,rfl⟩:=items_int h3;have hlen:ns.length≤n:=by
  unfold OpenLaw.pre at hc;have h4:(WTm.not (.lt (.lit (.int (n:Int))) (.len (.arg 0)))).holds [] {args:=[.list (ns.map .int)]}=true:=by
   have h4:=(holds_andW hc).1;rw[hn]at h4;exact h4
  have h5:=condW_of h4 (w_not (w_lt w_lit (w_len_list (w_arg rfl))));rw[ab]at h5;refine Nat.le_of_not_lt fun q=>?_;have q':(n:Int)<((ns.length:Nat):Int):=by omega
  first
   |(rw[decide_eq_true q']at h5;exact absurd h5 (by decide))
   |(simp at h5;omega)
 cases hwl with
 |cons w1 w2=>
  cases w2;cases w1 with
  |list ho hall=>exact⟨_,_,ns,rfl,rfl,ho,jD ns _ hall,hlen⟩
theorem xdd(l:OpenLaw)(args:List WData):l.row.toRowW.claim.post args (.bool true) args=true:=
 postW_of (r:=l.row.toRowW) (X:=(true==true))
  (show WShape.has [] (.bool true) .bool=true by first|rfl|decide|simp[WShape.has,WShape.arms,WShape.armsAll])
  (show(WTm.eq .res (.lit (.bool true))).value [] {args:=args,res:=some (.bool true),after:=args}=some (.bool (true==true))from w_eq_bool (w_res rfl) w_lit) rfl
theorem xbP{l:OpenLaw}{n:Nat}{q:aF}{loose:List Str}{XP:(Str→Option Value)→Heap→Prop}{YP:World→Heap→Prop}{d:DefRec}
  (hn:l.most=some n) (hdf:d.params.defaults=[])
  (call:∀(w:World) (s₀ s₁:aa) (mg mb:Str→Option Value) (fa:Addr) (o:Obj) (pm cd doc:Value) (a:Addr) (vs:List Value) (ns:List Int),
   Ground q loose [] XP w s₀ mg mb s₁.heap→YP w s₁.heap→
   s₁.heap.get? fa=some o→o.data= .func (docDef d.name d.params d.body d.scope pm cd doc)→s₁.heap.CodeRec cd d.name→mg d.name=some (.ref fa)→
   s₁.heap.get? a=some {cls:=.type "list",data:=.seq vs.toArray}→IntsAre vs ns→ns.length≤n→s₁.gens=#[]→
   cu (model l.prog w) cM (.call (.ref fa) ⟨[.ref a],[]⟩) (fun r s'=>r= .ok (.ret (.bool true))∧OldK s₁.heap s'.heap∧s'.os=s₁.os∧cq s'.gens) s₁):
  WalkO q loose XP YP l.row.toRowW d [] (fun f vs=>PySem.call f vs):=by
 intro w s₀ s₁ mg mb G Y fa o pm cd doc dV kV ho hd hcd hD hmg hg args vals as hpre hlay hrd hwl hlo;obtain rfl:dV= .none:=Dflts.none hD hdf;obtain rfl:kV= .none:=Dflts.noKw hD;obtain⟨a,vs,ns,rfl,rfl,hobj,hints,hlen⟩:=xdc hn hpre hwl;refine enter_call (c8 (call w s₀ s₁ mg mb fa o pm cd doc a vs ns G Y ho (fd_plain hd) hcd hmg hobj hints hlen hg) fun r s' hq=>?_);obtain⟨rfl,h2,h3,h4⟩:=hq;exact⟨.inl ⟨.bool true,.bool true,[],rfl,fun _=>rfl,.bool true,xdd l _,fun _=>⟨List.Pairwise.nil,fun _ hm=>(nomatch hm)⟩⟩,h2,h3,h4⟩
section
variable {prog:aF} {w:World} {A:aH} {E:Value→aa→Prop} {s:aa} {K:Frag}
end
end Att
namespace L2
open PySem PySem.Spec PyProof.Rows
theorem xau:∀{vs:List Value} {ns:List Int},IntsAre vs ns→Vals (ns.map V.int) vs
 |_,_,.nil=>.nil
 |_,_,.cons n t h=>.cons ⟨t,rfl⟩ (xau h)
def xcz(H:Hp):Prop:=∀b,H b=none∨∃o xs,H b=some (.frz o (.lst xs))
theorem xdT{P:aF}{w:World}{K:ae}{mg mb:Str→Option Value}{CX:CXT}{k:Nat}{fa a:Addr}{fd:au}{x:Str}{sp:Sp}{s₁:aa}{vs:List Value}{ns:List Int}
  (KX:K.In s₁.heap) (hns:s₁.heap.Ns aX mg) (hb:s₁.heap.Ns b7 mb) (hbb:∀x:Str,x≠"__name__"→mb x=aQ x) (hlim:s₁.heap.NoLimit) (hbm:∃b o,mg "__builtins__"=some (.ref b)∧b≠b7∧s₁.heap.get? b=some o∧o.cls= .type "module"∧o.dict=some b7∧o.data= .plain) (hg:s₁.gens=#[])
  (ha:s₁.heap.get? a=some {cls:=.type "list",data:=.seq vs.toArray}) (hi:IntsAre vs ns) (hl:ns.length≤ak) (hr:xN k cM)
  (F:∀base:Heap,K.In base→base.Ns aX mg→xx P w K mg base CX k fa fd [x] sp) (hbind:∀(s:aa) (u:Value),dv s fd ⟨[u],[]⟩ [(x,u)])
  (hsp:∀H:Hp,xcz H→SqL K H a (ns.map V.int)→sp [.ref a] H (fun v _=>v= .bl true) fun _ _ _=>False)
  (hCX:∀H e s',CX [] H s₁ (fun _ _ _=>False) e s'→False):
  cu (model P w) cM (.call (.ref fa) ⟨[.ref a],[]⟩) (fun r s'=>r= .ok (.ret (.bool true))∧OldK s₁.heap s'.heap∧s'.os=s₁.os∧cq s'.gens) s₁:=by
 have rv:=xau hi;have lenV:=hi.length
 -- from an abstract heap in which nothing but the script may be tracked
 have core:∀H:Hp,xcz H→SqL K H a (ns.map V.int)→HOk P w H s₁.heap→(∀b,H b≠none→b=a)→(H a≠none→K.lookup a=none)→
   cu (model P w) cM (.call (.ref fa) ⟨[.ref a],[]⟩) (fun r s'=>r= .ok (.ret (.bool true))∧OldK s₁.heap s'.heap∧s'.os=s₁.os∧cq s'.gens) s₁:=by
  intro H hO hS hok hA hK;have base_of:∀{b:Addr} {o:Obj},s₁.heap.get? b=some o→H b=none→(um s₁.heap H).get? b=some o:=fun e n=>xdJ e n;have noA:∀{b:Addr} {o:Obj} {es:Array DictEntry} {ep:Nat},s₁.heap.get? b=some o→o.data= .dict es ep→H b=none:=fun{b o es ep} e d=>by
   cases q:H b with
   |none=>rfl
   |some u=>
    have e':b=a:=hA b (by rw[q];simp);subst e';rw[ha]at e;cases e;have d':Data.seq vs.toArray _=Data.dict es ep:=d;cases d'
  have nsK:∀{b:Addr} {m:Str→Option Value},s₁.heap.Ns b m→(um s₁.heap H).Ns b m:=fun{b m} ⟨o,es,ep,e,d,r⟩=>⟨o,es,ep,base_of e (noA e d),d,r⟩;have hKb:K.In (um s₁.heap H):=fun b o e=>base_of (KX b o e) (by
   cases q:H b with
   |none=>rfl
   |some u=>
    have e':b=a:=hA b (by rw[q];simp);subst e';rw[hK (by rw[q];simp)]at e;cases e)
  have hM:Mod K mg (um s₁.heap H):=⟨hKb,nsK hns,⟨mb,nsK hb,hbb⟩,let⟨mc,h1,h2⟩:=hlim;⟨mc,nsK h1,h2⟩,let⟨b,o,a1,a2,a3,a4⟩:=hbm;⟨b,o,a1,a2,base_of a3 (by
   cases q:H b with
   |none=>rfl
   |some u=>
    have e':b=a:=hA b (by rw[q];simp);subst e';rw[ha]at a3;cases a3;exact absurd a4.1 (by simp)),a4⟩⟩
  have e0:ja P w K mg (um s₁.heap H) cM [] s₁ H:=⟨rfl,hM,fun b o e=>xev e,Nat.le_of_eq (xcX _ _),trivial,fun b hb=>absurd (show b∈([]:List Addr)from hb) (by simp),hok,.of_eq hg⟩;refine c8 ((F _ hKb (nsK hns)).run cM [] s₁ H ⟨[.ref a],[]⟩ [.ref a] [.ref a] _ _ hr e0 (hbind s₁ (.ref a)) (.cons rfl .nil) (hsp H hO hS)) fun r s' h=>?_;cases r with
  |error e=>exact(hCX H e s' h).elim
  |ok fl=>
   cases fl with
   |next=>exact aJ h
   |brk=>exact aJ h
   |cont=>exact aJ h
   |ret u=>
    obtain⟨v,H',os,bare,un,hok',r',q⟩:=h;have q':v= .bl true:=q;subst q';obtain rfl:u=bP true:=r';refine⟨rfl,OldK.of_keep fun b o e=>?_,os,bare⟩;cases q:H b with
    |none=>exact un.keep b o e q (by intro z;exact absurd (show b∈([]:List Addr)from z) (by simp)) (by simp)
    |some u=>
     rcases hO b with z|⟨ob,xs,z⟩
     ·rw[q]at z;cases z
     ·have z2:=un.fix b _ z trivial;obtain⟨e1,_⟩:=hok b _ z;obtain⟨e2,_⟩:=hok' b _ z2;rw[e]at e1;cases e1;exact e2
 cases hk:K.lookup a with
 |some o=>
  -- the script is one of the module's own objects
  have e:=KX a o hk;rw[ha]at e;cases e;refine core (fun _=>none) (fun _=>.inl rfl) (.inr ⟨_,vs.toArray,_,hk,rfl,rfl,rfl,by rw[ag,lenV];exact hl,by simpa using rv⟩) (fun b u z=>by have z':(none:Option HO)=some u:=z;cases z') (fun b z=>absurd rfl z) fun z=>absurd rfl z
 |none=>
  refine core (fun b=>if b=a then some (.frz {cls:=.type "list",data:=.seq vs.toArray} (.lst (ns.map V.int)))else none) (fun b=>?_) (.inl (.inr ⟨{cls:=.type "list",data:=.seq vs.toArray},if_pos rfl⟩)) (fun b u z=>?_) (fun b z=>?_) fun _=>hk
  ·by_cases hb:b=a
   ·exact .inr ⟨_,_,if_pos hb⟩
   ·exact .inl (if_neg hb)
  ·by_cases hb:b=a
   ·have z':=(if_pos hb).symm.trans z;cases z';subst hb;exact⟨ha,by rw[ab];exact hl,vs,_,rv,ha⟩
   ·have z':=(if_neg hb).symm.trans z;cases z'
  ·by_cases hb:b=a
   ·exact hb
   ·exact absurd (if_neg hb) z
end L2
namespace L2
open PySem PySem.Spec PyProof.Rows
theorem xeI{l:W.OpenLaw}{n k:Nat}{q:aF}{loose:List Str}{XP:(Str→Option Value)→Heap→Prop}{YP:World→Heap→Prop}{d:DefRec}{K:Params→ae}{CX:World→CXT}{sp:World→Sp}{x:Str}
  (hn:l.most=some n) (hn2:n≤ak) (hdf:d.params.defaults=[]) (hr:xN k cM)
  (hY:∀(w:World) (h:Heap),YP w h→(K w.params).In h)
  (F:∀(w:World) (mg:Str→Option Value) (fa:Addr) (h:Heap),(K w.params).In h→h.Ns aX mg→mg d.name=some (.ref fa)→
   ∃fd:au,(∀(s:aa) (u:Value),dv s fd ⟨[u],[]⟩ [(x,u)])∧
    ∀base:Heap,(K w.params).In base→base.Ns aX mg→xx l.prog w (K w.params) mg base (CX w) k fa fd [x] (sp w))
  (hsp:∀(w:World) (H:Hp) (a:Addr) (ns:List Int),ns.length≤n→xcz H→SqL (K w.params) H a (ns.map V.int)→sp w [.ref a] H (fun v _=>v= .bl true) fun _ _ _=>False)
  (hCX:∀(w:World) (H:Hp) (s:aa) (e:Value) (s':aa),CX w [] H s (fun _ _ _=>False) e s'→False):
  W.WalkO q loose XP YP l.row.toRowW d [] (fun f vs=>PySem.call f vs):=by
 refine Att.xbP hn hdf fun w s₀ s₁ mg mb fa o pm cd doc a vs ns G Y ho hd hcd hmg hobj hints hlen hg=>?_;have KX:=hY w _ Y;obtain⟨fd,hb,hF⟩:=F w mg fa _ KX G.T.g hmg;exact xdT KX G.T.g G.T.b G.T.builtins G.T.nolimit G.T.bmain hg hobj hints (ax hlen hn2) hr hF hb (fun H hO hS=>hsp w H a ns hlen hO hS) fun H e s'=>hCX w H s₁ e s'
theorem xdU{l:W.OpenLaw}{n k:Nat}{q:aF}{loose:List Str}{XP:(Str→Option Value)→Heap→Prop}{YP:World→Heap→Prop}{d:DefRec}{K:Params→ae}{CX:CXT}{sp:ae→Sp}{x:Str}
  (hn:l.most=some n) (hn2:n≤ak) (hdf:d.params.defaults=[]) (hr:xN k cM)
  (hY:∀(w:World) (h:Heap),YP w h→(K w.params).In h)
  (F:∀(w:World) (mg:Str→Option Value) (fa:Addr) (h:Heap),(K w.params).In h→h.Ns aX mg→mg d.name=some (.ref fa)→
   ∃fd:au,(∀(s:aa) (u:Value),dv s fd ⟨[u],[]⟩ [(x,u)])∧
    ∀base:Heap,(K w.params).In base→base.Ns aX mg→xx l.prog w (K w.params) mg base CX k fa fd [x] (sp (K w.params)))
  (hsp:∀(K:ae) (H:Hp) (a:Addr) (ns:List Int),ns.length≤n→xcz H→SqL K H a (ns.map V.int)→sp K [.ref a] H (fun v _=>v= .bl true) fun _ _ _=>False)
  (hCX:∀(H:Hp) (s:aa) (e:Value) (s':aa),CX [] H s (fun _ _ _=>False) e s'→False):
  W.WalkO q loose XP YP l.row.toRowW d [] (fun f vs=>PySem.call f vs):=
 xeI (K:=K) (CX:=fun _=>CX) (sp:=fun w=>sp (K w.params)) hn hn2 hdf hr hY F (fun w H a ns h1 h2 h3=>hsp (K w.params) H a ns h1 h2 h3) fun _ H s e s'=>hCX H s e s'
end L2
namespace L2
open PySem PySem.Spec PyProof.Rows
def inClass(s:Stmt)(j:Nat):Stmt:=match s with
 | .ClassDef _ _ _ body _ _ _ _ _ _ _=>body.getD j (.Pass ⟨0,0,0,0⟩)
 |_=>.Pass ⟨0,0,0,0⟩
def yx(s:Stmt):Arguments:=match s with
 | .FunctionDef _ a _ _ _ _ _ _ _ _=>a
 |_=>{posonlyargs:=[],args:=[],vararg:=none,kwonlyargs:=[],kw_defaults:=[],kwarg:=none,defaults:=[]}
def yh(s:Stmt):List Stmt:=match s with
 | .FunctionDef _ _ b _ _ _ _ _ _ _=>b
 |_=>[]
def xk(s:Stmt):Scope:=match s with
 | .FunctionDef _ _ _ _ _ _ sc _ _ _=>sc
 |_=>{kind:=.function,names:=[],isGenerator:=false,isCoroutine:=false}
abbrev CX0:CXT:=fun _ _ _ _ _ _=>False
abbrev E0:XK:=fun _ _ _=>False
theorem xo{X:Cx}:Passes CX0 X E0:=fun _ _ _ _ _ _ _ h=>h.elim
structure Fun(K:ae)(x qual:Str)(st:Stmt)(f:Addr)(fd:au):Prop where
 ex:∃(oc:Value) (od:Option Addr) (kV doc pm:Value) (an:Option Addr) (cdv ct:Value) (osl:Array (Option Value)),
  fd=cf x qual (yx st) (yh st) (xk st) .none kV doc pm an cdv ct∧K.lookup f=some ⟨oc,od,.func fd,osl⟩∧W.codeIn K cdv qual=true
 kp:cL K (.ref f)=true
section
variable {P:aF} {w:World} {K:ae} {mg:Str→Option Value} {base:Heap}
theorem Fun.ok{x qual:Str}{st:Stmt}{f:Addr}{fd:au}{N ps:List Str}{k:Nat}{sp:Sp}(F:Fun K x qual st f fd)(S:xp N ps (xk st))(len:∀vs H Q E,sp vs H Q E→vs.length=ps.length)
  (hbody:∀(cdv:Value) (A:aH) (outer:List Env) (s:aa) (H:Hp) (vs:List V) (Q:VK) (E:XK),xN k (A.deeper (cN qual (xk st) s.heap.objs.size f cdv))→sp vs H Q E→
   ∃t,PSs (jZ CX0 P w K mg base N qual (xk st) f cdv A outer s H E).nox (yh st) t∧t {nx:=fun _ H'=>Q .non H',rt:=Q} (start N vs) H):xx P w K mg base CX0 (k+1) f fd ps sp:=by
 obtain⟨oc,od,kV,doc,pm,an,cdv,ct,osl,rfl,lk,hcd⟩:=F.ex;refine xf8 lk hcd S len fun A outer s H vs Q E hr hsp=>?_;obtain⟨t,h,q⟩:=hbody cdv A outer s H vs Q E hr hsp;exact⟨t,h.nox,q⟩
theorem Fun.binds{x qual:Str}{st:Stmt}{f:Addr}{fd:au}{ps:List Str}(F:Fun K x qual st f fd)
  (h:∀(kV doc pm:Value) (an:Option Addr) (cdv ct:Value) (us:List Value),us.length=ps.length→c7 (cf x qual (yx st) (yh st) (xk st) .none kV doc pm an cdv ct) ⟨us,[]⟩=pure (ps.zip us)):Binds K fd ps []:=by
 obtain⟨oc,od,kV,doc,pm,an,cdv,ct,osl,rfl,lk,hcd⟩:=F.ex;exact .all (h kV doc pm an cdv ct)
theorem xde{x qual:Str}{st:Stmt}{f:Addr}{oc:Value}{od an:Option Addr}{osl:Array (Option Value)}{kV doc pm cdv ct:Value}(l:K.lookup f=some ⟨oc,od,.func (cf x qual (yx st) (yh st) (xk st) .none kV doc pm an cdv ct),osl⟩)
  (c:W.codeIn K cdv qual=true) (k:cL K (.ref f)=true):Fun K x qual st f (cf x qual (yx st) (yh st) (xk st) .none kV doc pm an cdv ct):=⟨⟨oc,od,kV,doc,pm,an,cdv,ct,osl,rfl,l,c⟩,k⟩
end
section
variable {X:Cx}
end
def xf(H H':Hp):Prop:=∀b o,H b=some o→H' b=some o
theorem xf.refl(H:Hp):xf H H:=fun _ _ h=>h
theorem xf.trans{H H1 H2:Hp}(a:xf H H1)(b:xf H1 H2):xf H H2:=fun c o h=>b c o (a c o h)
theorem xf.free{H H':Hp}(e:xf H H'){l:Addr}(h:H' l=Option.none):H l=Option.none:=by
 cases q:H l with
 |none=>rfl
 |some o=>
  rw[e l o q]at h;cases h
theorem xf.seq{K:ae}{H H':Hp}{a:Addr}{xs:List V}(e:xf H H')(h:SqL K H a xs):SqL K H' a xs:=by
 rcases h with(h|⟨o,h⟩)|h
 ·exact .inl (.inl (e _ _ h))
 ·exact .inl (.inr ⟨o,e _ _ h⟩)
 ·exact .inr h
section
variable {X:Cx}
end
section
variable {κ:Type} [DecidableEq κ]
end
end L2
set_option maxHeartbeats 4000000
namespace L2
open PySem PySem.Spec PyProof.Rows
section
variable {X:Cx}
theorem PE.imp{e:Expr}{t t':TE}(h:PE X e t)(i:∀σ H Q,t' σ H Q→t σ H Q):PE X e t':=
 fun pins s σ H Q I q=>h pins s σ H Q I (i σ H Q q)
theorem OpR.imp{f:Value→Value→Sem Value}{r r':R2}(h:OpR X f r)(i:∀x y H Q,r' x y H Q→r x y H Q):OpR X f r':=
 fun pins s σ H x y v u Q I rx ry q=>h pins s σ H x y v u Q I rx ry (i x y H Q q)
theorem UnR.imp{f:Value→Sem Value}{r r':V→Hp→VK→Prop}(h:UnR X f r)(i:∀x H Q,r' x H Q→r x H Q):UnR X f r':=
 fun pins s σ H x v Q I rx q=>h pins s σ H x v Q I rx (i x H Q q)
theorem xS.imp{f:Value}{r r':List V→Hp→VK→Prop}(h:xS X f r)(i:∀xs H Q,r' xs H Q→r xs H Q):xS X f r':=
 fun pins s σ H xs us Q I rv q=>h pins s σ H xs us Q I rv (i xs H Q q)
theorem xdf{e:Expr}{t u:TE}(h:PE X e t)(k:PE X e u):PE X e (fun σ H Q=>t σ H Q∨u σ H Q):=
 fun pins s σ H Q I q=>q.elim (fun z=>h pins s σ H Q I z) (fun z=>k pins s σ H Q I z)
def xdV(i:Nat):TE:=fun σ H Q=>match σ[i]? with
 |some (some v)=>Q v H
 |_=>False
theorem xdW{i:Nat}{σ:St}{H:Hp}{Q:VK}(q:xdV i σ H Q):xff i σ H Q:=by
 unfold xdV at q
 split at q
 ·rename_i v e;exact⟨v,e,q⟩
 ·exact q.elim
theorem cv(i:Nat){x:Str}{pos:Pos}(hN:X.N[i]? =some x:=by rfl)(hv:Vis X.env.scope x:=by first|exact aB rfl|exact Or.inr (aB rfl)|exact Or.inr (Or.inr rfl))(hd:(x==("__debug__":Str))=false:=by decide)
  (hcd:(x==("__classdict__":Str))=false:=by decide):PE X (.Name x pos) (xdV i):=(xfg hN hv hd hcd).imp fun _ _ _ q=>xdW q
def kI(C:Int→Int→Prop)(g:Int→Int→V):R2:=fun x y H Q=>match x with
 | .int i=>(match y with
  | .int j=>C i j∧Q (g i j) H
  |_=>False)
 |_=>False
def kI0(g:Int→Int→V):R2:=fun x y H Q=>match x with
 | .int i=>(match y with
  | .int j=>Q (g i j) H
  |_=>False)
 |_=>False
theorem jE{C:Int→Int→Prop}{g:Int→Int→V}{x y:V}{H:Hp}{Q:VK}(q:kI C g x y H Q):rI C g x y H Q:=by
 cases x with
 |int i=>
  cases y with
  |int j=>exact⟨i,j,rfl,rfl,q.1,q.2⟩
  |_=>exact aJ q
 |_=>exact aJ q
theorem yU{g:Int→Int→V}{x y:V}{H:Hp}{Q:VK}(q:kI0 g x y H Q):rI0 g x y H Q:=by
 cases x with
 |int i=>
  cases y with
  |int j=>exact⟨i,j,rfl,rfl,q⟩
  |_=>exact aJ q
 |_=>exact aJ q
theorem yy:OpR X (bc .Add) (kI0 fun i j=>.int (i+j)):=xfn.imp fun _ _ _ _=>yU
theorem xa2:OpR X (bc .Sub) (kI0 fun i j=>.int (i - j)):=xfo.imp fun _ _ _ _=>yU
theorem zQ:OpR X (bc .Mult) (kI xcr fun i j=>.int (i*j)):=xfp.imp fun _ _ _ _=>jE
def xeq(_i j:Int):Prop:=0<j∧j.natAbs.log2<9000
theorem yM:OpR X (bc .FloorDiv) (kI xeq fun i j=>.int (i / j)):=
 (opI (C:=xeq) (g:=fun i j=>i / j) fun i j _ _ _ _ _ hc q=>by
  have h0:0<j:=hc.1;rw[←Int.fdiv_eq_ediv_of_nonneg i (Int.le_of_lt h0)]at q;exact floordiv_int (Int.ne_of_gt h0) q (.inl (PyProof.noPylong_of_log2 hc.2))).imp fun _ _ _ _=>jE
theorem xX:OpR X (bc .Mod) (kI (fun _ j=>0<j) fun i j=>.int (i%j)):=xfq.imp fun _ _ _ _=>jE
theorem vA:OpR X (bc .Pow) (kI xfm fun i j=>.int (i^j.toNat)):=xfr.imp fun _ _ _ _=>jE
theorem xfB:OpR X (aS .Lt) (kI0 fun i j=>.bl (decide (i<j))):=xf2.imp fun _ _ _ _=>yU
theorem xdX:OpR X (aS .Gt) (kI0 fun i j=>.bl (decide (j<i))):=xf3.imp fun _ _ _ _=>yU
theorem xgz:OpR X (aS .GtE) (kI0 fun i j=>.bl (decide (j≤i))):=xf4.imp fun _ _ _ _=>yU
theorem xa3{a b:V}{p:Prop}[Decidable p](h:a=b↔p):decide (a=b)=decide p:=by
 by_cases e:p
 ·rw[decide_eq_true e,decide_eq_true (h.mpr e)]
 ·rw[decide_eq_false e,decide_eq_false (fun q=>e (h.mp q))]
theorem xcA:OpR X (aS .Eq) (kI0 fun i j=>.bl (decide (i=j))):=xen.imp fun x y H Q q=>by
 obtain⟨i,j,rfl,rfl,q⟩:=yU q;exact⟨rfl,by rw[xa3 (p:=i=j) ⟨fun e=>V.int.inj e,fun e=>by rw[e]⟩];exact q⟩
theorem xcB:OpR X (aS .NotEq) (kI0 fun i j=>.bl (!decide (i=j))):=xeo.imp fun x y H Q q=>by
 obtain⟨i,j,rfl,rfl,q⟩:=yU q;exact⟨rfl,by rw[xa3 (p:=i=j) ⟨fun e=>V.int.inj e,fun e=>by rw[e]⟩];exact q⟩
def kS0(g:Str→Str→V):R2:=fun x y H Q=>match x with
 | .str i=>(match y with
  | .str j=>Q (g i j) H
  |_=>False)
 |_=>False
theorem xcd{g:Str→Str→V}{x y:V}{H:Hp}{Q:VK}(q:kS0 g x y H Q):∃i j,x= .str i∧y= .str j∧Q (g i j) H:=by
 cases x with
 |str i=>
  cases y with
  |str j=>exact⟨i,j,rfl,rfl,q⟩
  |_=>exact aJ q
 |_=>exact aJ q
theorem jF:OpR X (aS .Eq) (kS0 fun i j=>.bl (decide (i=j))):=xen.imp fun x y H Q q=>by
 obtain⟨i,j,rfl,rfl,q⟩:=xcd q;exact⟨rfl,by rw[xa3 (p:=i=j) ⟨fun e=>V.str.inj e,fun e=>by rw[e]⟩];exact q⟩
theorem jG:OpR X (aS .NotEq) (kS0 fun i j=>.bl (!decide (i=j))):=xeo.imp fun x y H Q q=>by
 obtain⟨i,j,rfl,rfl,q⟩:=xcd q;exact⟨rfl,by rw[xa3 (p:=i=j) ⟨fun e=>V.str.inj e,fun e=>by rw[e]⟩];exact q⟩
def kU(g:Int→V):V→Hp→VK→Prop:=fun x H Q=>match x with
 | .int i=>Q (g i) H
 |_=>False
theorem xgb:UnR X (unaryOp .USub) (kU fun i=>.int (-i)):=xfs.imp fun x H Q q=>by
 cases x with
 |int i=>exact⟨i,rfl,q⟩
 |_=>exact aJ q
def xa4(Q:Bool→Hp→Prop):VK:=fun x H1=>match x with
 | .bl k=>Q k H1
 |_=>False
theorem uq{Q:Bool→Hp→Prop}{x:V}{H1:Hp}(q:xa4 Q x H1):∃k,x= .bl k∧Q k H1:=by
 cases x with
 |bl k=>exact⟨k,rfl,q⟩
 |_=>exact aJ q
def cB(t:TE):TT:=fun σ H Q=>t σ H (xa4 Q)
variable {a b c:Expr} {ta tb tc:TE} {tA tB':TT} {pos:Pos} {rest:List Expr}
theorem xH{op:CmpOp}{r:R2}(ho:OpR X (aS op) r)(ha:PE X a ta)(hb:PE X b tb)(hm:ck op b=false:=by exact xc2 _):PT X (.Compare a [op] [b] pos) (cB (tOp r ta tb)):=by
 intro pins s σ H Q I h;refine wpAny_isTrue_Compare1 (thn (ha pins s σ H _ I h) fun v s1 ⟨x,H1,I1,r1,q1⟩=>thn (hb pins s1 σ H1 _ I1 q1) fun u s2 ⟨y,H2,I2,r2,q2⟩=>
  thn (ho pins s2 σ H2 x y v u _ I2 r1 r2 q2) fun c s3 ⟨z,H3,I3,r3,q3⟩=>?_) hm
 obtain⟨k,rfl,q⟩:=uq q3;cases r3;exact bK ⟨H3,I3,q⟩
theorem zx{op:CmpOp}{r:R2}(ho:OpR X (aS op) r)(ha:PE X a ta)(hb:PE X b tb)(hm:ck op b=false:=by exact xc2 _):PE X (.Compare a [op] [b] pos) (tOp r ta tb):=xey ho ha hb hm
theorem xY{e:Expr}{t:TE}(h:PE X e t)(he:∀whole,isTrue e X.env whole=(do let v ←whole;standAt e.pos;holding [v] (truthy v)):=by intro _;rfl):PT X e (cB t):=by
 intro pins s σ H Q I hw;refine isTrue_plain (thn (h pins s σ H _ I hw) fun v s1 ⟨x,H1,I1,r1,q1⟩=>?_) (he _);obtain⟨d,rfl,q⟩:=uq q1;cases r1;exact bK ⟨H1,I1,q⟩
def cOr(t u:TT):TT:=fun σ H Q=>t σ H fun c H1=>(c=true→Q true H1)∧(c=false→u σ H1 Q)
theorem zp(ha:PT X a tA)(hb:PW X (.BoolOp .Or (b::rest) pos) tB'):PW X (.BoolOp .Or (a::b::rest) pos) (cOr tA tB'):=by
 intro wh pins s σ H Q I h;refine isTrue_or (thn (ha pins s σ H _ I h) fun c s1 ⟨H1,I1,q1⟩=>?_);cases c with
 |true=>exact⟨H1,I1,q1.1 rfl⟩
 |false=>exact hb wh pins s1 σ H1 Q I1 (q1.2 rfl)
def xgc(ta tb:TE):TE:=fun σ H Q=>ta σ H (xa4 fun c H1=>(c=true→tb σ H1 Q)∧(c=false→Q (.bl false) H1))
def xgd(ta:TE):TE:=fun σ H Q=>ta σ H (xa4 fun c H1=>Q (.bl (!c)) H1)
theorem yN(ha:PE X a ta)(hb:PE X (.BoolOp .And (b::rest) pos) tb):PE X (.BoolOp .And (a::b::rest) pos) (xgc ta tb):=by
 intro pins s σ H Q I h;refine BoolOp_and (thn (ha pins s σ H _ I h) fun v s1 ⟨x,H1,I1,r1,q1⟩=>?_);obtain⟨c,rfl,q1⟩:=uq q1;cases r1;refine bK ?_;cases c with
 |true=>exact hb pins s1 σ H1 Q I1 (q1.1 rfl)
 |false=>exact⟨.bl false,H1,I1,rfl,q1.2 rfl⟩
theorem xfC(ha:PE X a ta):PE X (.UnaryOp .Not a pos) (xgd ta):=by
 intro pins s σ H Q I h;refine UnaryOp_ (thn (ha pins s σ H _ I h) fun v s1 ⟨x,H1,I1,r1,q1⟩=>?_);obtain⟨c,rfl,q1⟩:=uq q1;cases r1;exact not_of (bK ⟨.bl (!c),H1,I1,rfl,q1⟩)
def cIf(t:TT)(ta tb:TE):TE:=fun σ H Q=>t σ H fun c H1=>(c=true→ta σ H1 Q)∧(c=false→tb σ H1 Q)
theorem xge{c:Expr}(hc:PT X c tA)(ha:PE X a ta)(hb:PE X b tb):PE X (.IfExp c a b pos) (cIf tA ta tb):=by
 intro pins s σ H Q I h;refine wpAny_IfExp (thn (hc pins s σ H _ I h) fun d s1 ⟨H1,I1,q1⟩=>?_);cases d with
 |true=>exact ha pins s1 σ H1 Q I1 (q1.1 rfl)
 |false=>exact hb pins s1 σ H1 Q I1 (q1.2 rfl)
def xgA(c:TT)(t u:TS):TS:=fun D σ H=>c σ H fun b H1=>(b=true→t D σ H1)∧(b=false→u D σ H1)
theorem xI{c:Expr}{p q:List Stmt}{tc:TT}{t u:TS}(hc:PT X c tc)(ha:PSs X p t)(hb:PSs X q u):PS X (.If c p q pos) (xgA tc t u):=by
 intro pins s σ H D I h;refine wpAny_If (thn (hc pins s σ H _ I h) fun d s1 ⟨H1,I1,q1⟩=>?_);cases d with
 |true=>exact ha pins s1 σ H1 D I1 (q1.1 rfl)
 |false=>exact hb pins s1 σ H1 D I1 (q1.2 rfl)
@[irreducible] def xgH(c:TT)(tb:TS)(D:Ends)(σ:St)(H:Hp):Prop:=∃W:Nat→St→Hp→Prop,(∃m,W m σ H)∧∀m σ H,W m σ H→
 c σ H fun b H1=>(b=true→∃N:St→Hp→Prop,(∀σ' H',N σ' H'→∃m',m'<m∧W m' σ' H')∧tb {D with nx:=N,ct:=N,bk:=D.nx} σ H1)∧(b=false→D.nx σ H1)
@[irreducible] def zR(J:It)(g:TG)(tb:TS)(D:Ends)(σ:St)(H1:Hp):Prop:=∃W:Nat→Nat→St→Hp→Prop,(∃m,W 0 m σ H1)∧∀i m σ H,W i m σ H→
 (J.stop i H∧D.nx σ H)∨(J.go i H∧∃N:St→Hp→Prop,(∀σ' H',N σ' H'→∃m',m'<m∧W (i+1) m' σ' H')∧∀x H',J.yld i H x H'→g x σ H' fun σ2 H2=>tb {D with nx:=N,ct:=N,bk:=D.nx} σ2 H2)
def xdY(wi:TI)(g:TG)(tb:TS):TS:=fun D σ H=>wi σ H fun J H1=>zR J g tb D σ H1
theorem xeJ(wi:TI)(g:TG)(tb:TS):xdY wi g tb=xdK wi g tb:=by
 funext D σ H
 unfold xdY xdK
 congr 1
 funext J H1
 unfold zR;rfl
theorem zy{tg iter:Expr}{body:List Stmt}{wi:TI}{g:TG}{tb:TS}{pos:Pos}(hp:PassesOwn (model X.prog X.w) X.A X.env X.xe)(hc:X.calm=true)(hi:PI X tg iter wi)(hg:PG X tg g)(hb:PSs X body tb)
  (hs:∀x,cc iter X.env x=pure x:=by intro _;rfl):PS X (.For tg iter body [] pos) (xdY wi g tb):=by
 rw[xeJ];exact xfk hp hc hi hg hb hs
def xgB(t:TS):TS:=fun D σ H=>∃M:L2.St→Hp→Prop,t {D with nx:=M} σ H∧∀σ' H',M σ' H'→D.nx σ' H'
theorem xdg{st:Stmt}{t:TS}(h:PS X st t):PS X st (xgB t):=by
 intro pins s σ H D I q;obtain⟨M,q1,q2⟩:=q;refine thn (h pins s σ H _ I q1) fun f s' z=>?_;cases f with
 |next=>obtain⟨σ',H',I',m⟩:=z;exact⟨σ',H',I',q2 σ' H' m⟩
 |brk=>exact z
 |cont=>exact z
 |ret v=>exact z
def xfD(i:Nat):TG:=fun v σ H Q=>∀y,y=v→Q (σ.set i (some y)) H
theorem xeK(te:TE)(i:Nat):vY te (xfD i)=vY te (jy i):=by
 funext D σ H
 unfold vY
 congr 1
 funext x H1
 exact propext ⟨fun q=>q x rfl,fun q y e=>by rw[e];exact q⟩
theorem xfE{i:Nat}{x:Str}{e:Expr}{te:TE}{pos':Pos}(hN:X.N.Nodup)(hi:X.N[i]? =some x)(hx:Loc X.env.scope x)(he:PE X e te)(hs:dk e (some (.Name x pos')) pos.line X.env=pure false:=by rfl)
  (hf:X.fn x=true∨X.env.scope.names.lookup x=some .local:=by first|exact .inl rfl|exact .inr rfl|assumption):PS X (.Assign [.Name x pos'] e pos) (vY te (xfD i)):=by
 rw[xeK];exact xr hN hi hx he hs hf
theorem xeL{e:Int}{G:V→Prop}(h:∀i,i=e→G (.int i)):∀y,y=V.int e→G y:=fun y q=>by rw[q];exact h e rfl
end
end L2
namespace L2
open PySem PySem.Spec PyProof.Rows
def yV(cells:List (Str×Addr)):List (Str×bu)→List (Str×Addr)→List (Str×Addr)
 |[],cs=>cs
 |(n,k)::r,cs=>yV cells r (if k== .free then(n,(cells.lookup n).getD 0)::cs else cs)
theorem jH{scope:Scope}{env:Env}(h:∀y∈scope.names,y.2= .free→∃c,env.cells.lookup y.1=some c):closureFor scope env=pure (yV env.cells scope.names []):=by
 have all:∀(l:List (Str×bu)) (cs:List (Str×Addr)),(∀y∈l,y.2= .free→∃c,env.cells.lookup y.1=some c)→
   (forIn l cs fun x r=>match x with
    |(name,kind)=>if (kind==bw)=true then do let a ←cellOf env name;pure (bH ((name,a)::r))else pure (bH r):Sem (List (Str×Addr)))=pure (yV env.cells l cs):=by
  intro l
  induction l with
  |nil=>intro cs _;rfl
  |cons y r ih=>
   intro cs hl;obtain⟨n,k⟩:=y;rw[List.forIn_cons]
   by_cases hk:k= .free
   ·subst hk;obtain⟨c,hc⟩:=hl (n,.free) aU rfl;have e:cellOf env n=pure c:=by unfold cellOf;rw[hc]
    simp only[beq_self_eq_true,if_true,e,pure_bind];rw[ih _ fun z hz=>hl z (av _ hz)];simp[yV,hc]
   ·have hb:(k==bw)=false:=by simpa using hk
    simp only[hb,Bool.false_eq_true,if_false,pure_bind];rw[ih _ fun z hz=>hl z (av _ hz)];simp[yV,hb]
 unfold closureFor;have:=all scope.names [] h;simp only[bind_pure]at this⊢;exact this
theorem xbd{cells:List (Str×Addr)}:∀{l:List (Str×bu)} {cs:List (Str×Addr)} {x:Str} {c:Addr},(∀y∈l,y.2= .free→∃c,cells.lookup y.1=some c)→(yV cells l cs).lookup x=some c→
  cs.lookup x=some c∨cells.lookup x=some c
 |[],cs,x,c,_,h=>.inl h
 |(n,k)::r,cs,x,c,hl,h=>by
  unfold yV at h;rcases xbd (fun z hz=>hl z (av _ hz)) h with q|q
  ·split at q
   ·rename_i hk;rw[a0]at q
    split at q
    ·rename_i hx;obtain⟨c',hc⟩:=hl (n,k) aU (by simpa using hk);have e:x=n:=by simpa using hx
     subst e;rw[hc]at q
     right
     rw[hc];simpa using q
    ·exact .inl q
   ·exact .inl q
  ·exact .inr q
theorem jd{cells:List (Str×Addr)}:∀{l:List (Str×bu)} {cs:List (Str×Addr)} {x:Str},(x,bw)∈l∨(∃c,cs.lookup x=some c)→∃c,(yV cells l cs).lookup x=some c
 |[],cs,x,h=>by
  rcases h with h|h
  ·simp at h
  ·exact h
 |(n,k)::r,cs,x,h=>by
  unfold yV;refine jd ?_;rcases h with h|⟨c,h⟩
  ·rcases aC.mp h with h|h
   ·cases h
    right
    simp
   ·exact .inl h
  ·right
   split
   ·rw[a0]
    split
    ·exact⟨_,rfl⟩
    ·exact⟨c,h⟩
   ·exact⟨c,h⟩
def Cx.blk(X:Cx)(scope:Scope)(C:Addr)(Nc:List Str)(s₂:aa)(H₂:Hp)(fp:List Addr):Cx:=
 {X with N:=Nc,s₀:=s₂,H₀:=H₂,env:=compEnvC scope (yV X.env.cells scope.names []) C X.env,outer:=X.stack,stack:=X.stack,ex:=fp,fn:=fun _=>false,pn:=[],xe:=fun _ _=>False,cp:=fun _=>false}
def jI(X:Cx)(scope:Scope):List Nat→List Str→Prop
 |[],[]=>True
 |j::js,y::ys=>(X.N[j]? =some y∧scope.names.lookup y=some .free∧(X.env.kindOf y=some .cell∨X.env.kindOf y=some .free))∧jI X scope js ys
 |_,_=>False
def zz(σ:St)(cap:List Nat):St:=cap.map fun j=>(σ[j]?).getD none
structure yj(X:Cx)(scope:Scope)(x:Str)(cap:List Nat)(ys:List Str):Prop where
 kind:scope.kind= .function
 nocell:∀y∈scope.names,y.2≠.cell
 locs:∀y∈scope.names,y.2= .local→scope.names.lookup y.1=some .local
 lx:scope.names.lookup x=some .local
 fr:∀y∈scope.names,y.2= .free→X.env.kindOf y.1=some .cell∨X.env.kindOf y.1=some .free
 cap:jI X scope cap ys
 nd:(x::ys).Nodup
theorem yo{X:Cx}{scope:Scope}{x:Str}{cap:List Nat}{ys:List Str}(kind:scope.kind= .function)(h1:(scope.names.all fun y=> !(y.2== .cell))=true)(h2:(scope.names.all fun y=> !(y.2== .local)||scope.names.lookup y.1==some .local)=true)
  (hx:scope.names.lookup x=some .local) (h3:(scope.names.all fun y=> !(y.2== .free)||(X.env.kindOf y.1==some .cell||X.env.kindOf y.1==some .free))=true) (hcap:jI X scope cap ys) (hnd:(x::ys).Nodup):yj X scope x cap ys:=by
 refine⟨kind,fun y hy e=>?_,fun y hy e=>?_,hx,fun y hy e=>?_,hcap,hnd⟩
 ·have:=bD.mp h1 y hy;rw[e]at this;exact absurd this (by decide)
 ·have:=bD.mp h2 y hy;rw[e]at this;simpa using this
 ·have:=bD.mp h3 y hy;rw[e]at this;simpa using this
theorem uX{X:Cx}{scope:Scope}{σ:St}:∀{cap:List Nat} {ys:List Str} {i:Nat} {y:Str} {v:V},jI X scope cap ys→ys[i]? =some y→(zz σ cap)[i]? =some (some v)→
  ∃j:Nat,X.N[j]? =some y∧σ[j]? =some (some v)∧scope.names.lookup y=some .free∧(X.env.kindOf y=some .cell∨X.env.kindOf y=some .free)
 |[],[],i,y,v,_,h,_=>by simp at h
 |j::js,z::zs,0,y,v,⟨⟨h1,h2,h3⟩,_⟩,e1,e2=>by
  simp at e1;subst e1;refine⟨j,h1,?_,h2,h3⟩;simp only[zz,bb,List.getElem?_cons_zero,dW]at e2;cases q:σ[j]? with
  |none=>rw[q]at e2;cases e2
  |some w=>rw[q]at e2;simp at e2;rw[e2]
 |j::js,z::zs,i+1,y,v,⟨_,h⟩,e1,e2=>uX (i:=i) h (by simpa using e1) (by simpa [zz]using e2)
 |[],_::_,_,_,_,h,_,_=>h.elim
 |_::_,[],_,_,_,h,_,_=>h.elim
theorem xav{X:Cx}{scope:Scope}:∀{cap:List Nat} {ys:List Str},jI X scope cap ys→cap.length=ys.length
 |[],[],_=>rfl
 |_::_,_::_,⟨_,h⟩=>by simp[xav h]
 |[],_::_,h=>h.elim
 |_::_,[],h=>h.elim
theorem je{l:List (Str×bu)}{y:Str}{k:bu}(h:l.lookup y=some k):(y,k)∈l:=PySem.mem_of_lookup h
theorem uY{env:Env}:∀{names:List (Str×bu)} {x:Str},names.lookup x=some .free→
  (names.map fun(n,k)=>if (k==bw&&env.scope.kind== .function&&env.kindOf n==some .cell)then(n,dE)else(n,k)).lookup x=some .cell∨
  (names.map fun(n,k)=>if (k==bw&&env.scope.kind== .function&&env.kindOf n==some .cell)then(n,dE)else(n,k)).lookup x=some .free
 |[],_,h=>by simp at h
 |(n,k)::r,x,h=>by
  have ih:= @uY env r x;rw[bb];rw[a0]at h;cases hx:x==n with
  |true=>
   rw[hx]at h;simp only[dW]at h;subst h;dsimp only
   split
   ·left;rw[a0,hx]
   ·right;rw[a0,hx]
  |false=>
   rw[hx]at h;dsimp only
   split
   ·rw[a0,hx];exact ih h
   ·rw[a0,hx];exact ih h
theorem zq{env:Env}:∀{names:List (Str×bu)} {x:Str} {k:bu},
  (names.map fun(n,k)=>if (k==bw&&env.scope.kind== .function&&env.kindOf n==some .cell)then(n,dE)else(n,k)).lookup x=some k→(k= .cell∨k= .free)→(∀y∈names,y.2≠.cell)→(x,bw)∈names
 |[],_,_,h,_,_=>by simp at h
 |(n,k')::r,x,k,h,hk,hc=>by
  rw[bb]at h;have hc':∀y∈r,y.2≠.cell:=fun y hy=>hc y (av _ hy);have nk:k'≠.cell:=hc (n,k') aU;dsimp only at h
  split at h
  ·rename_i q;rw[a0]at h
   split at h
   ·rename_i hx;have e:x=n:=by simpa using hx
    have e2:k'= .free:=by
     simp only[bR,beq_iff_eq]at q;exact q.1.1
    rw[e,e2];exact aU
   ·exact av _ (zq h hk hc')
  ·rw[a0]at h
   split at h
   ·rename_i hx;have e:x=n:=by simpa using hx
    have e3:k'=k:=by simpa using h
    rcases hk with q|q
    ·exact absurd (e3.trans q) nk
    ·rw[e,e3,q];exact aU
   ·exact av _ (zq h hk hc')
section
variable {X:Cx} {scope:Scope} {x:Str} {cap:List Nat} {ys:List Str}
theorem yj.clos(B:yj X scope x cap ys)(ok:X.Ok):∀y∈scope.names,y.2= .free→∃c,X.env.cells.lookup y.1=some c:=fun y hy e=>ok.has y.1 (B.fr y hy e)
theorem yj.sub(B:yj X scope x cap ys)(ok:X.Ok){z:Str}{c:Addr}(h:(yV X.env.cells scope.names []).lookup z=some c):X.env.cells.lookup z=some c:=by
 rcases xbd (B.clos ok) h with q|q
 ·simp at q
 ·exact q
theorem yj.start{pins:List (Addr×Obj)}{σ:St}{H₂:Hp}{s₂:aa}{fp:List Addr}{h₁:Heap}{tk:Nat}{C D:Addr}(B:yj X scope x cap ys)(I:Inv X pins σ H₂ s₂)
  (hf:∀b∈fp,zU X pins H₂ b) (hD:s₂.heap.objs.size≤D) (hC:s₂.heap.objs.size≤C) (hDC:D≠C) (hk:∀b o,s₂.heap.get? b=some o→h₁.get? b=some o)
  (hns:∃m,h₁.Ns C m) (hl:h₁.get? D=some {cls:=.type "list",data:=.seq ([]:List Value).toArray}) (hfp:∀b∈fp,b<s₂.heap.objs.size):
  Inv (X.blk scope C (x::ys) s₂ H₂ fp) [] (none::zz σ cap) (upd H₂ D (.lst [])) {s₂ with heap:=h₁,toks:=tk}:=by
 have ok:=I.ok;have freshC:H₂ C=none:=I.hok.fresh hC;have freshD:H₂ D=none:=I.hok.fresh hD;have lt:∀b o,s₂.heap.get? b=some o→b<s₂.heap.objs.size:=fun b o e=>ar e;refine⟨⟨ok.mod,B.kind,ok.glob,ok.blt,hC,fun y z c h1 h2=>ok.inj y z c (B.sub ok h1) (B.sub ok h2),fun y hy=>?_,fun y c h=>(aq h).elim,ok.hd,ok.frames,.inl rfl,fun b hb=>⟨?_,fun y c h e=>?_⟩,I.bs,ax ok.bsz I.sz,fun b o e hb=>?_,fun b hb hs=>?_,I.stack,I.stkFree,fun y c h=>(aq h).elim,fun b hb=>I.hok.fresh hb⟩,
  rfl,I.bare,Un.laid hk hD freshD,?_,fun y c h=>?_,?_,fun y c h=>?_,fun p hp=>?_,?_,?_⟩
 ·have hy':(relabel scope X.env).names.lookup y=some .cell∨(relabel scope X.env).names.lookup y=some .free:=hy;have m:(y,bw)∈scope.names:=by
   rcases hy' with q|q
   ·exact zq q (.inl rfl) B.nocell
   ·exact zq q (.inr rfl) B.nocell
  exact jd (.inl m)
 ·exact aM (ao (hfp b hb) hC)
 ·exact(hf b hb).2.2.2.2.1 y c (B.sub ok h) e
 ·rcases(hf b hb).2.2.2.1 with q|q
  ·exact ok.noex b o e q
  ·exact absurd (ao (ar (ok.bs b o e).1) q) (bj _)
 ·rcases aC.mp (I.stkSub b hs)with q|q
  ·exact(hf b hb).2.1 q
  ·exact(hf b hb).2.2.1 q
 ·obtain⟨m,hm⟩:=hns;refine⟨m,hm,fun i y v e1 e2 e3=>?_⟩;cases i with
  |zero=>simp at e2
  |succ i=>
   obtain⟨j,n1,n2,n3,n4⟩:=uX (i:=i) B.cap (by simpa [Cx.blk]using e1) (by simpa using e2);obtain⟨m0,hn0,hl0⟩:=I.loc;have vis:Vis X.env.scope y:=by
    rcases n4 with q|q
    ·exact .inr (.inl q)
    ·exact .inr (.inr q)
   obtain⟨u,ru,l⟩:=hl0 j y v n1 n2 vis;refine⟨u,ru,.inr ⟨uY n3,?_⟩⟩;rcases l with⟨k,_⟩|⟨_,c,ec,z⟩
   ·rw[k]at n4;rcases n4 with q|q<;> cases q
   ·obtain⟨c',ec'⟩:=jd (cells:=X.env.cells) (cs:=[]) (.inl (je n3));have:=B.sub ok ec';rw[ec]at this;cases this;obtain⟨o,ho,hd⟩:=z;exact⟨c,ec',o,hk c o ho,hd⟩
 ·obtain⟨v,o,ho,hd⟩:=I.cell y c (B.sub ok h);exact⟨v,o,hk c o ho,hd⟩
 ·show upd H₂ D _ C=none;rw[xA (bV hDC)];exact freshC
 ·obtain⟨v,o,ho,hd⟩:=I.cell y c (B.sub ok h);rw[xA (aM (ao (lt c o ho) hD))];refine(I.freeC y c (B.sub ok h)).imp id fun⟨_,o',ho',hno⟩=>⟨rfl,o',ho',fun z i v e1 k e2=>?_⟩;cases i with
  |zero=>simp at e2
  |succ i=>
   obtain⟨j,n1,n2,n3,n4⟩:=uX (i:=i) B.cap (by simpa [Cx.blk]using e1) (by simpa using e2);exact hno z j v n1 n4 n2
 ·exact absurd (show p∈([]:List (Addr×Obj))from hp) (by simp)
 ·exact I.hok.laid hk hD ⟨bq _,[],0,.nil,hl⟩
 ·simp[Cx.blk,zz,xav B.cap]
theorem yj.back{pins:List (Addr×Obj)}{σ:St}{H₂ H':Hp}{s₂ s':aa}{fp:List Addr}{C:Addr}{pl:List (Addr×Obj)}{σ':St}(B:yj X scope x cap ys)(I:Inv X pins σ H₂ s₂)
  (hf:∀b∈fp,zU X pins H₂ b) (J:Inv (X.blk scope C (x::ys) s₂ H₂ fp) pl σ' H' s'):Inv X pins σ H' s':=
 I.call' (ch:=fp) J.os J.base J.hok J.bare fun b hb=>by
  obtain⟨f0,f1,f2,f3,f4,f5⟩:=hf b hb;refine⟨?_,f1,f4,f5⟩;rcases f3 with q|q
  ·exact .inl q
  ·exact .inr q
theorem yj.far{pins:List (Addr×Obj)}{σ:St}{H₂ H':Hp}{s₂ s':aa}{fp:List Addr}{C:Addr}{pl:List (Addr×Obj)}{σ':St}(I:Inv X pins σ H₂ s₂)
  (hC:s₂.heap.objs.size≤C) (J:Inv (X.blk scope C (x::ys) s₂ H₂ fp) pl σ' H' s'):
  H' C=none∧C≠X.env.locals∧X.s₀.heap.objs.size≤C∧(∀z c,X.env.cells.lookup z=some c→c≠C)∧∀p∈X.pn++pins,p.1≠C:=by
 refine⟨J.free,Nat.ne_of_gt (ao I.lt hC),ax I.sz hC,fun z c e q=>?_,fun p hp q=>?_⟩
 ·obtain⟨v,w⟩:=I.cell z c e;exact absurd (ao w.lt (by rw[q];exact hC)) (bj _)
 ·exact absurd (ao (ar (I.pin p hp).1) (by rw[q];exact hC)) (bj _)
end
theorem xcC{prog:aF}{w:World}{A:aH}{R:Result→aa→Prop}{s:aa}{elt tg iter:Expr}{ifs:List Expr}{scope:Scope}{pos:Pos}{it acc:Value}{env:Env}(J:Nat→aa→Prop)
  (go:∀n s,J n s→wpAny (model prog w) A (pyNext it) (fun r s1=>match r with
   |none=>R (.ok .next) s1
   |some v=>wpAny (model prog w) A (cA tg it v) (fun _ s2=>wpAny (model prog w) A (cZ tg env v) (fun _ s3=>
     wpAny (model prog w) A (forIn ifs true fun c r=>if r=true then do let ok ←isTrue c env (eval c env);pure (bH ok)else pure (bH r)) (fun ok s4=>
      if ok=true then wpAny (model prog w) A (eval elt env) (fun y s5=>wpAny (model prog w) A (call (.builtin "list.append") [acc,y]) (fun _ s6=>∃m,m<n∧J m s6) (fun _ _=>False) s5) (fun _ _=>False) s4
      else∃m,m<n∧J m s4) (fun _ _=>False) s3) (fun _ _=>False) s2) (fun _ _=>False) s1) (fun _ _=>False) s)
  (n:Nat) (h:J n s):cu (model prog w) A (.compLoop (.ListComp elt [⟨tg,iter,ifs,0⟩] scope pos) 0 it acc env) R s:=by
 refine codeAny_loop rfl J (fun n s hJ=>?_) n h;show wpAny _ A ((compTurn (.ListComp elt [⟨tg,iter,ifs,0⟩] scope pos) 0 it acc env).onRaise (fun x=>do noteFrame x env;theTreesLotGoes x)) _ _ s;refine wpAny_noted ?_;rw[compTurn_list];refine ai (wpAny_standAt (ai (aN (go n s hJ) (fun r s1 h1=>?_) fun _ _ z=>z.elim)));cases r with
 |none=>exact az h1
 |some v=>
  refine ai (aN h1 (fun _ s2 h2=>ai (aN h2 (fun _ s3 h3=>ai (aN h3 (fun ok s4 h4=>?_) fun _ _ z=>z.elim)) fun _ _ z=>z.elim)) fun _ _ z=>z.elim);cases ok with
  |false=>exact az ⟨rfl,h4⟩
  |true=>
   exact ai (ai (aN h4 (fun y s5 h5=>ai (aN h5 (fun _ s6 h6=>az (az ⟨rfl,h6⟩)) fun _ _ z=>z.elim)) fun _ _ z=>z.elim))
def CTs(Xc:Cx)(ifs:List Expr)(t:TT):Prop:=
 ∀(pins:List (Addr×Obj)) (s:aa) (σ:St) (H:Hp) (Q:Bool→Hp→Prop),Inv Xc pins σ H s→t σ H Q→
  wpAny (model Xc.prog Xc.w) Xc.A (forIn ifs true fun c r=>if r=true then do let ok ←isTrue c Xc.env (eval c Xc.env);pure (bH ok)else pure (bH r)) (TP Xc pins σ Q) Xc.xe s
def xbe:TT:=fun _ H Q=>Q true H
theorem yi{Xc:Cx}:CTs Xc [] xbe:=fun _ _ _ H _ I q=>wpAny_tests_nil ⟨H,I,q⟩
theorem xeM{Xc:Cx}{c:Expr}{t:TT}(h:PT Xc c t):CTs Xc [c] t:=fun pins s σ H Q I q=>wpAny_tests_one (h pins s σ H Q I q)
abbrev CW:=Nat→Nat→List V→Hp→Prop
@[irreducible] def yb(J:It)(caps:St)(tt:TT)(te:TE)(Q:VK)(H2:Hp):Prop:=∀D,H2 D=none→∃W:CW,(∃m,W 0 m [] (upd H2 D (.lst [])))∧
 ∀i m acc H3,W i m acc H3→H3 D=some (.lst acc)∧((J.stop i H3∧Q (.ref D) H3)∨(J.go i H3∧acc.length<ak∧∀v H4,J.yld i H3 v H4→tt (some v::caps) H4 fun b H5=>
  (b=true→te (some v::caps) H5 fun u H6=>H6 D=some (.lst acc)∧∃m',m'<m∧W (i+1) m' (acc++[u]) (upd H6 D (.lst (acc++[u]))))∧(b=false→∃m',m'<m∧W (i+1) m' acc H5)))
def xer(cap:List Nat)(wi:TI)(tt:TT)(te:TE):TE:=fun σ H Q=>wi σ H fun J H2=>yb J (zz σ cap) tt te Q H2
section
variable {X:Cx} {scope:Scope} {x:Str} {cap:List Nat} {ys:List Str} {elt iter:Expr} {ifs:List Expr} {px pos:Pos} {wi:TI} {tt:TT} {te:TE}
theorem jJ(B:yj X scope x cap ys)(hc:X.calm=true)(he:∀C s H fp,PE (X.blk scope C (x::ys) s H fp) elt te)(ht:∀C s H fp,CTs (X.blk scope C (x::ys) s H fp) ifs tt)
  {pins:List (Addr×Obj)} {σ:St} {s₂:aa} {Q:VK} {RR:Value→Addr→Result→aa→Prop} {itv:Value} {E:Value→aa→Prop}
  (hp:PIE X pins σ (.Name x px) (fun J H2=>yb J (zz σ cap) tt te Q H2) itv s₂)
  (hR:∀(D C:Addr) (H':Hp) (s':aa),Inv X pins σ H' s'→(∃m,s'.heap.Ns C m)→H' C=none→C≠X.env.locals→X.s₀.heap.objs.size≤C→(∀z c,X.env.cells.lookup z=some c→c≠C)→(∀p∈X.pn++pins,p.1≠C)→Q (.ref D) H'→RR (.ref D) C (.ok .next) s'):
  wpAny (model X.prog X.w) X.A (newList []) (fun acc s₃=>wpAny (model X.prog X.w) X.A (newFunctionEnv scope X.env.globals (yV X.env.cells scope.names []) [] X.env.qual none .none (some X.env)) (fun cenv s₄=>
   cu (model X.prog X.w) X.A (.compStart (.ListComp elt [⟨.Name x px,iter,ifs,0⟩] scope pos) 0 itv acc {cenv with scope:=relabel scope X.env}) (RR acc cenv.locals) s₄) E s₃) E s₂:=by
 obtain⟨it,fp,tn,J,H2,e,I2,T,st2,f2,hw⟩:=hp;subst e;unfold yb at hw;refine bJ (wpAny_newFunctionEnv B.nocell (by intro y hy;simp at hy) (fun h₁ hns₁ hsb₁=>?_) B.kind);dsimp only at hns₁ hsb₁⊢;generalize hG:s₂.heap.push {cls:=.type "list",dict:=none,data:=.seq ([]:List Value).toArray}=G at hns₁ hsb₁⊢;have hsz:G.objs.size=s₂.heap.objs.size+1:=by rw[←hG,du]
 have hCle:s₂.heap.objs.size≤G.objs.size:=by lia
 have hDC:s₂.heap.objs.size≠G.objs.size:=by lia
 have old:∀b o,s₂.heap.get? b=some o→h₁.get? b=some o:=fun b o q=>by
  have lt:=ar q;refine hsb₁.extBut b o (aM (ao lt hCle)) (ah _ ?_);rw[←hG];exact ah _ q
 have accAt:h₁.get? s₂.heap.objs.size=some {cls:=.type "list",data:=.seq ([]:List Value).toArray}:=by
  refine hsb₁.extBut _ _ hDC (ah _ ?_);rw[←hG];exact aG _ rfl
 have hfp:∀b∈fp,b<s₂.heap.objs.size:=fun b hb=>by
  obtain⟨o,ho,_⟩:=T.obj _ _ st2 b hb;exact ar ho
 obtain⟨W,⟨m0,w0⟩,turn⟩:=hw s₂.heap.objs.size (I2.hok.fresh (aj _));generalize htk:s₂.toks+([]:List (Str×Value)).length=tk;have I0:=B.start (tk:=tk) (C:=G.objs.size) I2 f2 (aj _) hCle hDC old ⟨_,hns₁⟩ accAt hfp;have st0:tn 0 h₁:=T.keep _ _ _ st2 fun b hb o q=>old b o q
 -- what stays true of the iterator's objects
 have f3:∀{H':Hp},(∀b∈fp,H' b=none)→∀b∈fp,zU (X.blk scope G.objs.size (x::ys) s₂ H2 fp) [] H' b:=fun hn b hb=>by
  obtain⟨f0,f1,f2',f3',f4,f5⟩:=f2 b hb;refine⟨hn b hb,aM (ao (hfp b hb) hCle),fun hs=>?_,.inl hb,fun z c q=>f4 z c (B.sub I2.ok q),fun p hp=>absurd (show p∈([]:List (Addr×Obj))from hp) (by simp)⟩;rcases aC.mp (I2.stkSub b hs)with q|q
  ·exact f1 q
  ·exact f2' q
 have n0:∀b∈fp,upd H2 s₂.heap.objs.size (.lst []) b=none:=fun b hb=>by
  rw[xA (aM (hfp b hb))];exact(f2 b hb).1
 have loop:∀sx:aa,sx={s₂ with heap:=h₁,toks:=tk}→
   cu (model X.prog X.w) X.A (.compLoop (.ListComp elt [⟨.Name x px,iter,ifs,0⟩] scope pos) 0 (.ref it) (.ref s₂.heap.objs.size) (compEnvC scope (yV X.env.cells scope.names []) G.objs.size X.env)) (RR (.ref s₂.heap.objs.size) G.objs.size) sx:=by
  rintro sx rfl;refine xcC (fun n s'=>∃i acc H',Inv (X.blk scope G.objs.size (x::ys) s₂ H2 fp) [] (none::zz σ cap) H' s'∧tn i s'.heap∧(∀b∈fp,H' b=none)∧W i n acc H') ?_ m0 ⟨0,[],_,I0,st0,n0,w0⟩;rintro n s3 ⟨i,acc,H3,I3,st3,fr3,w3⟩;obtain⟨hD3,alt⟩:=turn i n acc H3 w3;rcases alt with⟨stop,q⟩|⟨go,hlen,step⟩
  ·refine aN (T.done (X.blk scope G.objs.size (x::ys) s₂ H2 fp) rfl rfl rfl hc i [] s3 _ H3 (fun _ _=>False) I3 (f3 fr3) st3 stop) (fun r s4 ⟨hr,I4⟩=>?_) fun _ _ z=>z.elim;subst hr;obtain⟨g1,g2,g3,g4,g5⟩:=yj.far I2 hCle I4;obtain⟨m4,hm4,_⟩:=I4.loc;exact hR _ _ H3 s4 (B.back I2 f2 I4) ⟨m4,hm4⟩ g1 g2 g3 g4 g5 q
  ·refine aN (T.item (X.blk scope G.objs.size (x::ys) s₂ H2 fp) rfl rfl rfl hc i [] s3 _ H3 (fun _ _=>False) I3 (f3 fr3) st3 go) (fun r s4 ⟨u,hr,h4⟩=>?_) fun _ _ z=>z.elim;subst hr;refine aN h4 (fun _ s4 ⟨v,H4,I4,rv,y4,st4,fr4⟩=>?_) fun _ _ z=>z.elim;have I4':=I4.pinned (f3 fr4) (T.obj _ _ st4);refine cS (vW (X:=X.blk scope G.objs.size (x::ys) s₂ H2 fp) (i:=0) I4' B.nd rfl (.inl (lookup_relabel_local B.lx)) rv (fun s5 I5=>?_) (.inr (lookup_relabel_local B.lx)));have I5':Inv (X.blk scope G.objs.size (x::ys) s₂ H2 fp) ([]++zv fp s4.heap) (some v::zz σ cap) H4 s5:=I5;refine aN (ht _ _ _ _ _ s5 _ H4 _ I5' (step v H4 y4)) (fun ok s6 ⟨H6,I6,q6⟩=>?_) fun _ _ z=>z.elim;have pinned:∀{σ7:St} {H7:Hp} {s7:aa},Inv (X.blk scope G.objs.size (x::ys) s₂ H2 fp) ([]++zv fp s4.heap) σ7 H7 s7→tn (i+1) s7.heap∧∀b∈fp,H7 b=none:=fun{σ7 H7 s7} I7=>by
    refine⟨T.keep _ _ _ st4 fun b hb o e=>(I7.pin (b,o) (aK _ (aK _ (zl hb e)))).1,fun b hb=>?_⟩;obtain⟨o,e,d⟩:=T.obj _ _ st4 b hb;exact(I7.pin (b,o) (aK _ (aK _ (zl hb e)))).2.1
   have weak:∀{H7:Hp} {s7:aa},Inv (X.blk scope G.objs.size (x::ys) s₂ H2 fp) ([]++zv fp s4.heap) (some v::zz σ cap) H7 s7→Inv (X.blk scope G.objs.size (x::ys) s₂ H2 fp) [] (none::zz σ cap) H7 s7:=fun I7=>
    (I7.unpinned (pins:=[])).weak rfl fun j z e=>by
     cases j with
     |zero=>simp at e
     |succ j=>simpa using e
   cases ok with
   |false=>
    rw[if_neg aq];obtain⟨m',hm',w'⟩:=q6.2 rfl;exact⟨m',hm',i+1,acc,H6,weak I6,(pinned I6).1,(pinned I6).2,w'⟩
   |true=>
    rw[if_pos rfl];refine aN (he _ _ _ _ _ s6 _ H6 _ I6 (q6.1 rfl)) (fun y s7 ⟨z,H7,I7,rz,hD7,m',hm',w'⟩=>?_) fun _ _ z=>z.elim;refine aN (yJ (X:=X.blk scope G.objs.size (x::ys) s₂ H2 fp) _ s7 _ H7 (.ref s₂.heap.objs.size) [z] (.ref s₂.heap.objs.size) [y] (fun _ H8=>H8=upd H7 s₂.heap.objs.size (.lst (acc++[z]))) I7 rfl (.cons rz .nil) ⟨_,acc,z,rfl,rfl,hD7,hlen,rfl⟩) (fun _ s8 ⟨_,H8,I8,_,e8⟩=>?_) fun _ _ z=>z.elim;subst e8;exact⟨m',hm',i+1,_,_,weak I8,(pinned I8).1,(pinned I8).2,w'⟩
 exact codeAny_compStart_list (loop _ rfl) (T.self _ 0 _ _ _ st0 (loop _ rfl))
theorem yz(B:yj X scope x cap ys)(hc:X.calm=true)(hi:PI X (.Name x px) iter wi)(he:∀C s H fp,PE (X.blk scope C (x::ys) s H fp) elt te)(ht:∀C s H fp,CTs (X.blk scope C (x::ys) s H fp) ifs tt)
  (hs:∀x,cc iter X.env x=pure x:=by intro _;rfl):PE X (.ListComp elt [⟨.Name x px,iter,ifs,0⟩] scope pos) (xer cap wi tt te):=by
 intro pins s σ H Q I h;rw[eval_ListComp];refine df (use:=none) rfl hs (jH (B.clos I.ok)) B.kind B.locs ?_;refine thn (hi pins s σ H _ I h) fun v s1 h1=>thn h1 fun itv s2 h2=>?_;refine jJ (Q:=Q) (RR:=fun acc C=>compPost (model X.prog X.w) X.A X.xe none (EP X pins σ Q) acc C) B hc he ht h2 ?_;rintro D C H' s' J ⟨m,hm⟩ g1 g2 g3 g4 g5 q;exact⟨m,hm,fun h' sb=>⟨.ref D,H',J.turned (t':=s'.toks) (fun b o hb e=>(sb.2 b hb).trans e) g1 g2 (.inr g3) g4 g5,rfl,q⟩⟩
theorem jK{i:Nat}{y:Str}{pos' spos:Pos}(B:yj X scope x cap ys)(hc:X.calm=true)(hN:X.N.Nodup)(hi:X.N[i]? =some y)(hy:X.env.scope.names.lookup y=some .local)(hit:PI X (.Name x px) iter wi)
  (he:∀C s H fp,PE (X.blk scope C (x::ys) s H fp) elt te) (ht:∀C s H fp,CTs (X.blk scope C (x::ys) s H fp) ifs tt)
  (hsw:dk (.ListComp elt [⟨.Name x px,iter,ifs,0⟩] scope pos) (some (.Name y pos')) spos.line X.env=pure true:=by rfl)
  (hs:∀x,cc iter X.env x=pure x:=by intro _;rfl):
  PS X (.Assign [.Name y pos'] (.ListComp elt [⟨.Name x px,iter,ifs,0⟩] scope pos) spos) (vY (xer cap wi tt te) (jy i)):=by
 intro pins s σ H D I h;rw[exec_Assign_Name_used _ _ _ _ hsw];refine ai (wpAny_standAt (ai ?_));show wpAny _ X.A (do let _ ←comprehension (.ListComp elt [⟨.Name x px,iter,ifs,0⟩] scope pos) scope X.env _ (newList []) false (eval iter X.env) (some (cZ (.Name y pos') X.env))) _ _ s;refine ai (aN (df (use:=some (cZ (.Name y pos') X.env)) (Q:=fun _ s'=>SP X pins D .next s') rfl hs (jH (B.clos I.ok)) B.kind B.locs
  (thn (hit pins s σ H _ I h) fun v s1 h1=>thn h1 fun itv s2 h2=>?_)) (fun _ s' hq=>az (az hq)) fun _ _ e=>e)
 refine jJ (Q:=fun v H1=>jy i v σ H1 D.nx) (RR:=fun acc C=>compPost (model X.prog X.w) X.A X.xe (some (cZ (.Name y pos') X.env)) (fun _ s'=>SP X pins D .next s') acc C) B hc he ht h2 ?_;rintro Da C H' s' J ⟨m,hm⟩ g1 g2 g3 g4 g5 q;show wpAny _ X.A (cZ (.Name y pos') X.env (.ref Da)) _ _ s';refine(cS (xap (v:=.ref Da) J hN hi (.inl hy) rfl (fun s4 J4 ⟨a,sb,ha⟩=>?_) (.inr hy)));have hCa:C≠a:=by
  rcases ha with z|z
  ·rw[z];exact g2
  ·exact fun w=>g4 y a z w.symm
 refine⟨m,hm.sameBut sb hCa,fun h' sb'=>?_⟩;exact⟨_,H',J4.turned (t':=s4.toks) (fun b o hb e=>(sb'.2 b hb).trans e) g1 g2 (.inr g3) g4 g5,q⟩
end
end L2
namespace L2
open PySem PySem.Spec PyProof.Rows
def Its(lo st:Int)(n:Nat):It:=⟨fun i _=>i<n,fun i H x H'=>H'=H∧x= .int (lo+i*st),fun i _=>n≤i⟩
theorem xcD{P:aF}{w:World}{K:ae}{tg:Expr}(it:Addr)(lo st:Int)(n:Nat):Turn P w K tg (Its lo st n) [it] it (fun i h=>IsRangeIter h it (lo+(i:Nat)*st) ((n:Int) - (i:Nat)) st) where
 mem:=by simp
 obj:=fun i h q b hb=>by
  have e:b=it:=by simpa using hb
  subst e;exact⟨_,q,fun v z=>by
   have z':Data.fields _=Data.cell v:=z;cases z'⟩
 keep:=fun i h h' q k=>k it (by simp) _ q
 item:=by
  intro X hP hw hK hc i pins s σ H E I hf q hg;subst hP hw hK;obtain⟨f0,f1,f2,f3,f4,f5⟩:=hf it (by simp);refine(Walks.range (prog:=X.prog) (w:=X.w) (I.ok.hd hc) it lo st n).item i s _ _ hg q fun v h' tk hv q' kk=>?_;obtain⟨t,rfl⟩:=hv;have I1:Inv X pins σ H {s with heap:=h',toks:=tk}:=I.turned (fun b o hb e=>kk b o (by simpa using hb) e) f0 f1 f3 f4 f5;exact⟨_,rfl,jz (s:={s with heap:=h',toks:=tk}) (n:="range_iterator") q' rfl rfl (by decide) ⟨.int (lo+i*st),H,I1,⟨t,rfl⟩,⟨rfl,rfl⟩,q',fun b hb=>(hf b hb).1⟩⟩
 done:=by
  intro X hP hw hK hc i pins s σ H E I hf q hg;subst hP hw hK;obtain⟨f0,f1,f2,f3,f4,f5⟩:=hf it (by simp);exact wpAny_pyNext_range_end (I.ok.hd hc) q (by have:n≤i:=hg;lia) fun h' eb=>⟨rfl,I.turned (t':=s.toks) (fun b o hb e=>eb b o hb e) f0 f1 f3 f4 f5⟩
 self:=fun _ _ _ _ _ q h=>wpAny_pyIter_rangeiter q h
theorem xdh{P:aF}{w:World}{K:ae}{tg:Expr}(it:Addr)(lo st:Int)(n:Nat):Turn P w K tg (Its lo st n) [it] it (fun i h=>IsLongIter h it (lo+(i:Nat)*st) ((n:Int) - (i:Nat)) st) where
 mem:=by simp
 obj:=fun i h q b hb=>by
  have e:b=it:=by simpa using hb
  subst e;exact⟨_,q,fun v z=>by
   have z':Data.fields _=Data.cell v:=z;cases z'⟩
 keep:=fun i h h' q k=>k it (by simp) _ q
 item:=by
  intro X hP hw hK hc i pins s σ H E I hf q hg;subst hP hw hK;obtain⟨f0,f1,f2,f3,f4,f5⟩:=hf it (by simp);refine(Walks.longrange (prog:=X.prog) (w:=X.w) (I.ok.hd hc) it lo st n).item i s _ _ hg q fun v h' tk hv q' kk=>?_;obtain⟨t,rfl⟩:=hv;have I1:Inv X pins σ H {s with heap:=h',toks:=tk}:=I.turned (fun b o hb e=>kk b o (by simpa using hb) e) f0 f1 f3 f4 f5;exact⟨_,rfl,jz (s:={s with heap:=h',toks:=tk}) (n:="longrange_iterator") q' rfl rfl (by decide) ⟨.int (lo+i*st),H,I1,⟨t,rfl⟩,⟨rfl,rfl⟩,q',fun b hb=>(hf b hb).1⟩⟩
 done:=by
  intro X hP hw hK hc i pins s σ H E I hf q hg;subst hP hw hK;obtain⟨f0,f1,f2,f3,f4,f5⟩:=hf it (by simp);exact wpAny_pyNext_long_end (I.ok.hd hc) q (by have:n≤i:=hg;lia) fun h' eb=>⟨rfl,I.turned (t':=s.toks) (fun b o hb e=>eb b o hb e) f0 f1 f3 f4 f5⟩
 self:=fun _ _ _ _ _ q h=>wpAny_pyIter_longiter q h
def yW(a b c:Int):Nat:=(a8 a b c).toNat
theorem xbf(a b c:Int):0≤a8 a b c:=by
 unfold a8
 split
 ·split
  ·have:=Int.ediv_nonneg (a:=b - a - 1) (b:=c) (by lia) (by lia);lia
  ·lia
 ·split
  ·have:=Int.ediv_nonneg (a:=a - b - 1) (b:= -c) (by lia) (by lia);lia
  ·lia
theorem xdi(a b c:Int):((yW a b c:Nat):Int)=a8 a b c:=cH (xbf a b c)
theorem xbg(a b:Int):yW a b 1=(b - a).toNat:=by
 unfold yW a8;simp only[show(1:Int) > 0 by decide,if_true]
 split<;> simp<;> lia
section
variable {X:Cx} {tg:Expr}
theorem xdj{pins:List (Addr×Obj)}{σ:St}{H:Hp}{s:aa}{R:It→Hp→Prop}{E:Value→aa→Prop}{a b c:Int}{t u v:Tok}{r:Addr}(I:Inv X pins σ H s)(hr:IsRange s.heap r a b c t u v)
  (q:R (Its a c (yW a b c)) H):wpAny (model X.prog X.w) X.A (pyIter (.ref r)) (PIE X pins σ tg R) E s:=by
 have e2:a8 a b c=((yW a b c:Nat):Int) - ((0:Nat):Int):=by rw[xdi];simp
 have e1:a=a+((0:Nat):Int)*c:=by simp
 have fp:∀b'∈[s.heap.objs.size],zU X pins H b':=fun b' hb=>by
  have e:b'=s.heap.objs.size:=by simpa using hb
  subst e;exact I.fpOk (aj _) (I.hok.fresh (aj _))
 cases hsm:Builtin.Range.small a b c with
 |true=>
  refine wpAny_pyIter_range hr hsm ⟨s.heap.objs.size,[s.heap.objs.size],_,_,H,rfl,I.kept (t':=s.toks) fun b o e=>ah _ e,xcD _ a c (yW a b c),?_,fp,q⟩;show IsRangeIter _ _ (a+((0:Nat):Int)*c) (((yW a b c:Nat):Int) - ((0:Nat):Int)) c;rw[←e1,←e2];exact aG _ rfl
 |false=>
  refine wpAny_pyIter_longrange hr hsm ⟨s.heap.objs.size,[s.heap.objs.size],_,_,H,rfl,I.kept (t':=s.toks) fun b o e=>ah _ e,xdh _ a c (yW a b c),?_,fp,q⟩;show IsLongIter _ _ (a+((0:Nat):Int)*c) (((yW a b c:Nat):Int) - ((0:Nat):Int)) c;rw[←e1,←e2];exact aG _ rfl
def xcE(k:Int→Hp→Prop):List V→Hp→Prop:=fun vs H=>match vs with
 |[.int j]=>k j H
 |_=>False
def xa5(k:Int→Int→Hp→Prop):List V→Hp→Prop:=fun vs H=>match vs with
 |[.int i,.int j]=>k i j H
 |_=>False
theorem xce{k:Int→Hp→Prop}{vs:List V}{H:Hp}(h:xcE k vs H):∃j,vs=[.int j]∧k j H:=by
 unfold xcE at h
 split at h
 ·exact⟨_,rfl,h⟩
 ·exact h.elim
theorem xbh{k:Int→Int→Hp→Prop}{vs:List V}{H:Hp}(h:xa5 k vs H):∃i j,vs=[.int i,.int j]∧k i j H:=by
 unfold xa5 at h
 split at h
 ·exact⟨_,_,rfl,h⟩
 ·exact h.elim
theorem xeN{us:List Value}{i:Int}(r:Vals [.int i] us):∃t,us=[.int i t]:=by
 obtain⟨u,rfl,t,rfl⟩:=Vals.one r;exact⟨t,rfl⟩
theorem xeO{us:List Value}{i j:Int}(r:Vals [.int i,.int j] us):∃t t',us=[.int i t,.int j t']:=by
 obtain⟨u,v,rfl,⟨t,rfl⟩,⟨t',rfl⟩⟩:=Vals.two r;exact⟨t,t',rfl⟩
def xgf(ta:TA):TI:=fun σ H R=>ta σ H (xcE fun j H1=>R (Its 0 1 (yW 0 j 1)) H1)
def xgg(ta:TA):TI:=fun σ H R=>ta σ H (xa5 fun i j H1=>R (Its i 1 (yW i j 1)) H1)
theorem xaw{a:Expr}{ta:TA}{p pos:Pos}(hg:Gl X "range")(hm:X.mg "range"=none)(ha:PA X [a] ta)(hs:aE [a] X.env=[(false,eval a X.env)]:=by rfl):PI X tg (.Call (.Name "range" p) [a] [] pos) (xgf ta):=by
 intro pins s σ H R I h;refine Call_ (uQ I hg hm boot_range (bO (thn (ha pos pins s σ H _ I h) fun us s1 ⟨vs,H1,I1,r1,q1⟩=>?_) hs rfl));obtain⟨j,rfl,q⟩:=xce q1;obtain⟨t,rfl⟩:=xeN r1;refine call_range_1 (xdj (I1.kept (t':=_) fun b o e=>ah _ e) (IsRange.new ..) q)
theorem xdk{a b:Expr}{ta:TA}{p pos:Pos}(hg:Gl X "range")(hm:X.mg "range"=none)(ha:PA X [a,b] ta)(hs:aE [a,b] X.env=[(false,eval a X.env),(false,eval b X.env)]:=by rfl)(hs2:aE [b] X.env=[(false,eval b X.env)]:=by rfl):
  PI X tg (.Call (.Name "range" p) [a,b] [] pos) (xgg ta):=by
 intro pins s σ H R I h;refine Call_ (uQ I hg hm boot_range (bO (thn (ha pos pins s σ H _ I h) fun us s1 ⟨vs,H1,I1,r1,q1⟩=>?_) (by rw[hs,hs2]) (by rw[hs2];rfl)));obtain⟨i,j,rfl,q⟩:=xbh q1;obtain⟨t,t',rfl⟩:=xeO r1;exact call_range_2 (xdj (I1.kept (t':=_) fun b o e=>ah _ e) (IsRange.new ..) q)
end
end L2
namespace L2
open PySem PySem.Spec PyProof.Rows
mutual
inductive Rp(K:ae)(H:Hp):V→cg→Prop
 |non:Rp K H .non .none
 |bl (b:Bool):Rp K H (.bl b) (.bool b)
 |int (i:Int):Rp K H (.int i) (.int i)
 |str (x:Str):Rp K H (.str x) (.str x)
 |lst {a:Addr} {xs:List V} {ds:List cg}:SqL K H a xs→Rps K H xs ds→Rp K H (.ref a) (.list ds)
 |tup {a:Addr} {xs:List V} {ds:List cg}:SqT K H a xs→Rps K H xs ds→Rp K H (.ref a) (.tuple ds)
inductive Rps(K:ae)(H:Hp):List V→List cg→Prop
 |nil:Rps K H [] []
 |cons {x:V} {d:cg} {xs:List V} {ds:List cg}:Rp K H x d→Rps K H xs ds→Rps K H (x::xs) (d::ds)
end
theorem xf.seqT{K:ae}{H H':Hp}{a:Addr}{xs:List V}(e:xf H H')(h:SqT K H a xs):SqT K H' a xs:=by
 rcases h with(h|⟨o,h⟩)|h
 ·exact .inl (.inl (e _ _ h))
 ·exact .inl (.inr ⟨o,e _ _ h⟩)
 ·exact .inr h
theorem Rps.ints{K:ae}{H:Hp}:∀ns:List Int,Rps K H (ns.map V.int) (ns.map cD)
 |[]=>.nil
 |i::r=>.cons (.int i) (Rps.ints r)
theorem Rp.ints{K:ae}{H:Hp}{a:Addr}{ns:List Int}(h:SqL K H a (ns.map V.int)):Rp K H (.ref a) (.list (ns.map cD)):=.lst h (.ints ns)
section
variable {X:Cx} {pins:List (Addr×Obj)} {σ:St} {H:Hp} {s:aa}
mutual
theorem Rp.reads(I:Inv X pins σ H s):∀{v:V} {d:cg} {u:Value},Rp X.K H v d→RelV v u→∃as,Reads s.heap u d as
 |_,_,u,.non,r=>by cases (show u=cx from r);exact⟨_,.none⟩
 |_,_,u,.bl b,r=>by cases (show u=bP b from r);exact⟨_,.bool b⟩
 |_,_,u,.int i,r=>by obtain⟨t,e⟩:=(show∃t,u=dj i t from r);subst e;exact⟨_,.int i t⟩
 |_,_,u,.str x,r=>by obtain⟨t,e⟩:=(show∃t,u=cn x t from r);subst e;exact⟨_,.str x t⟩
 |_,_,u,.lst (a:=a) q rr,r=>by
  cases (show u=aT a from r);obtain⟨its,rv,p,hz⟩:=I.list q;obtain⟨as,ra⟩:=Rps.reads I rr rv;obtain⟨o,ho,hc,n,hd⟩:=p.isList;exact⟨_,.list ho hc hd (by simpa using ra)⟩
 |_,_,u,.tup (a:=a) q rr,r=>by
  cases (show u=aT a from r);obtain⟨its,rv,p,hz⟩:=I.tuple q;obtain⟨as,ra⟩:=Rps.reads I rr rv;obtain⟨o,ho,hc,n,hd⟩:=p;exact⟨_,.tuple ho hc hd (by simpa using ra)⟩
theorem Rps.reads(I:Inv X pins σ H s):∀{v:List V} {d:List cg} {u:List Value},Rps X.K H v d→Vals v u→∃as,ReadsAll s.heap u d as
 |_,_,_,.nil,.nil=>⟨_,.nil⟩
 |_,_,_,.cons q rr,.cons r t=>by
  obtain⟨as,h1⟩:=Rp.reads I q r;obtain⟨bs,h2⟩:=Rps.reads I rr t;exact⟨_,.cons h1 h2⟩
end
end
def xac(K:ae)(f:Bool→Bool):R2:=fun x y H Q=>∃da db,Rp K H x da∧Rp K H y db∧cE da=true∧cE db=true∧Q (.bl (f (d5 da db))) H
section
variable {X:Cx}
theorem xes(hu:X.A.units+64<cLine):OpR X (aS .Eq) (xac X.K fun b=>b):=by
 intro pins s σ H x y v u Q I rx ry q;obtain⟨da,db,hx,hy,sa,sb,q⟩:=q;obtain⟨as,ra⟩:=hx.reads I rx;obtain⟨bs,rb⟩:=hy.reads I ry;exact eq_dataH ra rb sa sb hu ⟨.bl (d5 da db),H,I,rfl,q⟩
theorem xet(hu:X.A.units+64<cLine):OpR X (aS .NotEq) (xac X.K fun b=> !b):=by
 intro pins s σ H x y v u Q I rx ry q;obtain⟨da,db,hx,hy,sa,sb,q⟩:=q;obtain⟨as,ra⟩:=hx.reads I rx;obtain⟨bs,rb⟩:=hy.reads I ry;exact ne_dataH ra rb sa sb hu ⟨.bl (!PyData.eqv da db),H,I,rfl,q⟩
def xgC(K:ae)(f:Bool→Bool):R2:=fun x y H Q=>∃(a b:Addr) (ns ms:List Int),x= .ref a∧y= .ref b∧SqL K H a (ns.map V.int)∧SqL K H b (ms.map V.int)∧Q (.bl (f (decide (ns=ms)))) H
theorem xeP{K:ae}{f:Bool→Bool}{x y:V}{H:Hp}{Q:VK}(q:xgC K f x y H Q):xac K f x y H Q:=by
 obtain⟨a,b,ns,ms,rfl,rfl,ha,hb,q⟩:=q;refine⟨_,_,.ints ha,.ints hb,W.ke_shaped_ints ns,W.ke_shaped_ints ms,?_⟩;have e:d5 (.list (ns.map cD)) (.list (ms.map cD))=decide (ns=ms):=W.ked_eqvAll ns ms;rw[e];exact q
def xfF:V→Option Value
 | .ty n=>some (.type n)
 | .ref a=>some (.ref a)
 |_=>none
theorem xdZ{c:V}{cv v:Value}(h:xfF c=some cv)(r:RelV c v):v=cv:=by
 cases c with
 |ref a=>cases h;exact r
 |ty n=>cases h;exact r
 |_=>cases h
def xfG(K:ae):List V→Hp→VK→Prop:=fun xs H Q=>∃x c t cv b,xs=[x,c]∧xfF c=some cv∧xJ K H x t∧W.kitOne K t cv=some b∧Q (.bl b) H
theorem xR:xS X (.builtin "isinstance") (xfG X.K):=by
 intro pins s σ H xs us Q I r h;obtain⟨x,c,t,cv,b,rfl,rc,ty,e,q⟩:=h;obtain⟨u,v,rfl,ru,rv⟩:=Vals.two r;have e2:=xdZ rc rv;subst e2;exact xc6 I ru ty e fun tk=>⟨.bl b,H,I.tok _,rfl,q⟩
structure xd0(K:ae)(C:Addr)(m:Str)(f:Addr):Prop where
 sp:W.specialIn K (.ref C) "__getattribute__"=some (some (.builtin "type.__getattribute__"))
 rd:W.readsIn K C (.type "type")=true
 fd:W.findCls K (.ref C) (.type "type") m=some (.val (.ref f))
 kp:cL K (.ref f)=true
theorem xcf{x m:Str}{C f:Addr}{fd:au}{ps:List Str}{sp:Sp}{dvs:List V}{ds:List Value}{E:XK}{CX:CXT}{k:Nat}{p apos pos:Pos}{e:Expr}{es:List Expr}{t:TA}{pl:Sem Bool}
  (hg:Gl X x) (hm:X.mg x=some (.ref C)) (M:xd0 X.K C m f) (F:xx X.prog X.w X.K X.mg X.base CX k f fd ps sp) (hr:xN k X.A) (hb:Binds X.K fd ps ds) (hd:Vals dvs ds) (hx:Passes CX X E) (ha:PA X (e::es) t)
  (hst:aE (e::es) X.env=(false,eval e X.env)::aE es X.env:=by rfl) (hpl:(bL pos (aE es X.env)).any (·.1)=false:=by rfl) (hdb:(x==("__debug__":Str))=false:=by decide)
  (ht:eval (.Call (.Attribute (.Name x p) m apos) (e::es) [] pos) X.env=(do
   let ov ←eval (.Name x p) X.env
   standAt apos.atName
   let(f,first) ←holding [ov] (getMethod ov m pl)
   callWith pos f first (bL pos (aE (e::es) X.env)) (backToKw pos (dr [] X.env))):=by rfl):
  PE X (.Call (.Attribute (.Name x p) m apos) (e::es) [] pos) (xep sp dvs E t):=by
 intro pins s σ H Q I h;refine W.methodCall_KW (pl:=pl) (vy I hg hm ?_ hdb) ht;refine W.method_cls I.kIn M.sp (W.cls_value I.kIn M.rd M.fd rfl ?_);have I1:=I.tok (s.toks+1);refine dQ (first:=[]) (h₀:=X.base) I.ok.mod.kin M.kp (thn (ha pos pins _ σ H _ I1 h) fun us s2 ⟨vs,H2,I2,r,q2⟩=>⟨I2.kIn,?_⟩) hst hpl;exact xa9 F hr hb hd hx I2 r q2
end
end L2
namespace L2
open PySem PySem.Spec PyProof.Rows
theorem yO:aQ "len"=some (.builtin "len"):=by decide+kernel
theorem xfH:aQ "min"=some (.builtin "min"):=by decide+kernel
theorem xfI:aQ "abs"=some (.builtin "abs"):=by decide+kernel
theorem xy:aQ "isinstance"=some (.builtin "isinstance"):=by decide+kernel
theorem xdl:aQ "all"=some (.builtin "all"):=by decide+kernel
theorem xcg:aQ "list"=some (.type "list"):=by decide+kernel
theorem xO:aQ "tuple"=some (.type "tuple"):=by decide+kernel
theorem xbi:aQ "int"=some (.type "int"):=by decide+kernel
theorem xch:aQ "bool"=some (.type "bool"):=by decide+kernel
theorem zA:aQ "str"=some (.type "str"):=by decide+kernel
theorem xeQ{f:Str}{v:V}{fs:List (Str×V)}{n:Nat}(h:fs.length<n):(ym f v fs).length<n+1:=Nat.lt_of_le_of_lt (zV f v fs) (by lia)
section
variable {X:Cx} {a b c:Expr} {ta tb:TE} {pos:Pos}
theorem xfJ(hc:X.calm=true):xS X (.builtin "min") (fun xs H Q=>xa5 (fun i j H1=>Q (.int (min i j)) H1) xs H):=(xc3 hc).imp fun xs H Q q=>by
 obtain⟨i,j,rfl,q⟩:=xbh q;refine⟨i,j,rfl,?_⟩;have e:(if j<i then j else i)=min i j:=by split<;> lia
 rw[e];exact q
theorem xgh:xS X (.builtin "abs") (fun xs H Q=>xcE (fun i H1=>Q (.int (i.natAbs:Int)) H1) xs H):=xdO.imp fun xs H Q q=>by
 obtain⟨i,rfl,q⟩:=xce q;refine⟨i,rfl,?_⟩;have e:(if i<0 then -i else i)=(i.natAbs:Int):=by split<;> lia
 rw[e];exact q
end
theorem xax{lo st:Int}{n:Nat}{g:TG}{tb:TS}{D:Ends}{σ:St}{H:Hp}(Pv:Nat→St→Hp→Prop)(h0:Pv 0 σ H)
  (hs:∀(i:Nat) σ H,i<n→Pv i σ H→g (.int (lo+i*st)) σ H fun σ2 H2=>tb {D with nx:=Pv (i+1),ct:=Pv (i+1),bk:=D.nx} σ2 H2) (hd:∀σ H,Pv n σ H→D.nx σ H):zR (Its lo st n) g tb D σ H:=by
 unfold zR;refine⟨fun i m σ H=>m=n - i∧i≤n∧Pv i σ H,⟨n,by simp,bq _,h0⟩,?_⟩;rintro i m σ H ⟨rfl,hi,p⟩
 by_cases hlt:i<n
 ·refine .inr ⟨hlt,Pv (i+1),fun σ' H' p'=>⟨n - (i+1),by lia,rfl,hlt,p'⟩,fun x H' y=>?_⟩;obtain⟨e,y⟩:=y;subst e y;exact hs i σ _ hlt p
 ·have e:i=n:=by lia
  subst e;exact .inl ⟨aj _,hd σ H p⟩
theorem ur{K:ae}{l:Addr}{xs:List V}{g:TG}{tb:TS}{D:Ends}{σ:St}{H:Hp}(Pv:Nat→St→Hp→Prop)(h0:Pv 0 σ H)(hl:∀i σ H,i≤xs.length→Pv i σ H→SqL K H l xs)
  (hs:∀i x σ H,xs[i]? =some x→Pv i σ H→g x σ H fun σ2 H2=>tb {D with nx:=Pv (i+1),ct:=Pv (i+1),bk:=D.nx} σ2 H2) (hd:∀σ H,Pv xs.length σ H→D.nx σ H):zR (Itl K l) g tb D σ H:=by
 unfold zR;exact xdL Pv h0 hl hs hd
theorem xay{K:ae}{l:Addr}{xs:List V}{g:TG}{tb:TS}{D:Ends}{σ:St}{H:Hp}(Pv:Nat→St→Hp→Prop)(h0:Pv 0 σ H)(hl:∀i σ H,i≤xs.length→Pv i σ H→SqT K H l xs)
  (hs:∀i x σ H,xs[i]? =some x→Pv i σ H→g x σ H fun σ2 H2=>tb {D with nx:=Pv (i+1),ct:=Pv (i+1),bk:=D.nx} σ2 H2) (hd:∀σ H,Pv xs.length σ H→D.nx σ H):zR (Itt K l) g tb D σ H:=by
 unfold zR;exact xex Pv h0 hl hs hd
theorem xf.new{H:Hp}{p:Addr}{o:HO}(h:H p=none):xf H (upd H p o):=fun b u e=>by rw[xA (yL e h)];exact e
theorem xf.put{H H':Hp}{p:Addr}{o:HO}(e:xf H H')(h:H p=none):xf H (upd H' p o):=fun b u q=>by rw[xA (yL q h)];exact e b u q
theorem xf.at{H H':Hp}{p:Addr}{o:HO}(e:xf H H')(h:H p=some o):H' p=some o:=e p o h
end L2
namespace L2
open PySem PySem.Spec PyProof.Rows
theorem xf.of_eq{H H':Hp}{p:Addr}{o:HO}(h:H p=none)(e:upd H p o=H'):xf H H':=by rw[←e];exact xf.new h
theorem xi{H H':Hp}{p:Addr}{o:HO}(e:upd H p o=H'):H' p=some o:=by rw[←e];exact xl
theorem xf.back{H H':Hp}{p:Addr}(e:xf H H')(h:H' p=none):H p=none:=xf.free e h
end L2
namespace L2
open PySem PySem.Spec PyProof.Rows
section
variable {X:Cx}
theorem uh{st:Stmt}:PS X st (fun _ _ _=>False):=fun _ _ _ _ _ _ q=>q.elim
theorem jL:∀{bs:List Bool} {us:List Value},Vals (bs.map V.bl) us→us=bs.map bP
 |[],[],_=>rfl
 |[],_::_,h=>by cases h
 |_::_,[],h=>by cases h
 |b::bs,u::us,h=>by
  cases h with
  |cons h1 h2=>
   rw[jL h2];cases h1;rfl
theorem range_all(bs:List Bool)(d:Bool):(dy bs.length).all (fun i=>bs.getD i d)=bs.all id:=by
 rw[bZ,bD,bD];constructor
 ·intro h x hx;obtain⟨i,hi,rfl⟩:=List.mem_iff_getElem.mp hx;have:=h i (by simpa using hi);simpa [hi]using this
 ·intro h i hi;have hi':i<bs.length:=by simpa using hi
  have:=h bs[i] (cm hi');simpa [hi']using this
def xgi(K:ae)(f:List Bool→Bool):List V→Hp→VK→Prop:=fun xs H Q=>∃p bs,xs=[.ref p]∧SqL K H p (bs.map V.bl)∧Q (.bl (f bs)) H
theorem xbQ{prog:aF}{w:World}{A:aH}(bs:List Bool):TruthOf prog w A (fun i v=>(bs.map bP).toArray[i]? =some v) (fun i=>bs.getD i true):=by
 intro i v s Q E hP hQ;have e:v= .bool (bs.getD i true):=by
  simp only[List.getElem?_toArray,ay]at hP;cases q:bs[i]? with
  |none=>rw[q]at hP;cases hP
  |some b=>rw[q]at hP;simp at hP;rw[←hP];simp[List.getD,q]
 rw[e];exact bK hQ
theorem xaz(hc:X.calm=true):xS X (.builtin "all") (xgi X.K fun bs=>bs.all id):=by
 intro pins s σ H xs us Q I r h;obtain⟨p,bs,rfl,hq,q⟩:=h;obtain⟨u,rfl,rx⟩:=vals1 r;cases rx;obtain⟨its,r',pl,hz⟩:=I.list hq;have e:=jL r';subst e;have hL:=pl.isList;have hlt:p<s.heap.objs.size:=by obtain⟨_,e,_⟩:=hL;exact ar e
 refine call_all_walk (wpAny_pyIter_list hL ⟨_,_,_,_,_,_,fun i=>bs.getD i true,rfl,Walks.list (A:=X.A.in1) (I.ok.hd hc) _ p (aM hlt) (bs.map bP).toArray,⟨⟨_,aG _ rfl,rfl,rfl⟩,hL.push _⟩,xbQ bs,fun h' tk hk=>?_⟩);refine⟨.bl (bs.all id),H,I.kept (t':=tk) (fun b o e=>hk b o (fun hb=>?_) (ah _ e)),?_,q⟩
 ·exact absurd (ar e) (by rw[br.mp hb];exact bj _)
 ·have e:=range_all bs true;simp only[ag,ab];rw[e];rfl
end
end L2
namespace L2
open PySem PySem.Spec PyProof.Rows
theorem yC{α β:Type}{F:α→β→Prop}{a:α}{b:β}(h:F a b):∀{as:List α} {bs:List β},Paired F as bs→Paired F (as++[a]) (bs++[b])
 |_,_,.nil=>.cons h .nil
 |_,_,.cons x xs=>.cons x (yC h xs)
theorem xZ{α β:Type}{F:α→β→Prop}:∀{as:List α} {bs:List β} {i:Nat} {a:α},Paired F as bs→as[i]? =some a→∃b,bs[i]? =some b∧F a b
 |_,_,i,b,.nil,h=>by simp at h
 |_,_,0,b,.cons x xs,h=>by simp at h;subst h;exact⟨_,rfl,x⟩
 |_,_,i+1,b,.cons x xs,h=>by obtain⟨a,h1,h2⟩:=xZ (i:=i) xs (by simpa using h);exact⟨a,by simpa using h1,h2⟩
def del(H:Hp)(D:Addr):Hp:=fun b=>if b=D then none else H b
theorem yp{H:Hp}{D:Addr}:del H D D=none:=by unfold del;rw[if_pos rfl]
theorem zc{H:Hp}{D b:Addr}(h:b≠D):del H D b=H b:=by unfold del;rw[if_neg h]
theorem yq{H:Hp}{D:Addr}:xf (del H D) H:=fun b u e=>by
 by_cases h:b=D
 ·rw[h,yp]at e;cases e
 ·rw[zc h]at e;exact e
theorem xW{H:Hp}{D:Addr}{o:HO}:del (upd H D o) D=del H D:=by
 funext b
 by_cases h:b=D
 ·rw[h,yp,yp]
 ·rw[zc h,zc h,xA h]
theorem yX{H:Hp}{D:Addr}(h:H D=none):del H D=H:=by
 funext b
 by_cases e:b=D
 ·rw[e,yp,h]
 ·rw[zc e]
theorem yY{H H':Hp}{D:Addr}(s:xf H H'):xf (del H D) (del H' D):=fun b u e=>by
 by_cases h:b=D
 ·rw[h,yp]at e;cases e
 ·rw[zc h]at e⊢;exact s b u e
theorem xdm{lo st:Int}{n:Nat}{te:TE}{caps:L2.St}{Q:VK}{H2:Hp}(Pv:Nat→List V→Hp→Prop)(hn:n≤ak)(h0:Pv 0 [] H2)
  (hs:∀(i:Nat) acc H3 H3',i<n→xf H2 H3→xf H3 H3'→Pv i acc H3→∀R:VK,(∀u H6',xf H3' H6'→(∀H6,xf H3 H6→(∀p o,(H3' p=none∨∀ys,o≠HO.lst ys)→H6' p=some o→H6 p=some o)→Pv (i+1) (acc++[u]) H6)→R u H6')→te (some (.int (lo+i*st))::caps) H3' R)
  (hd:∀D acc H H',H2 D=none→H D=none→xf H2 H→xf H H'→Pv n acc H→acc.length=n→H' D=some (.lst acc)→Q (.ref D) H'):yb (Its lo st n) caps xbe te Q H2:=by
 unfold yb;intro D hD;refine⟨fun i m acc H3=>m=n - i∧i≤n∧acc.length=i∧H3 D=some (.lst acc)∧xf H2 (del H3 D)∧Pv i acc (del H3 D),⟨n,by simp,bq _,rfl,xl,?_,?_⟩,?_⟩
 ·rw[xW,yX hD];exact xf.refl _
 ·rw[xW,yX hD];exact h0
 rintro i m acc H3 ⟨rfl,hi,hacc,hD3,s3,p3⟩;refine⟨hD3,?_⟩
 by_cases hlt:i<n
 ·refine .inr ⟨hlt,by lia,fun v H4 y=>?_⟩;obtain⟨e,y⟩:=y;subst e y;refine⟨fun _=>?_,fun z=>by cases z⟩;refine hs i acc _ _ hlt s3 yq p3 _ fun u H6' s6 k=>⟨s6.at hD3,n - (i+1),by lia,rfl,hlt,by simp[hacc],xl,?_,?_⟩
  ·rw[xW];exact s3.trans (yY s6)
  ·rw[xW];refine k _ (yY s6) fun p o q1 q2=>?_;rw[zc (fun z=>by
    rcases q1 with q1|q1
    ·rw[z,hD3]at q1;cases q1
    ·rw[z,s6.at hD3]at q2;cases q2;exact q1 _ rfl)]
   exact q2
 ·have e:i=n:=by lia
  subst e;exact .inl ⟨aj _,hd D acc _ H3 hD yp s3 yq p3 hacc hD3⟩
theorem yP{K:ae}{l:Addr}{xs:List V}{te:TE}{caps:L2.St}{Q:VK}{H2:Hp}(Pv:Nat→List V→Hp→Prop)(hl:SqL K H2 l xs)(hn:xs.length≤ak)(h0:Pv 0 [] H2)
  (hs:∀(i:Nat) x acc H3 H3',xs[i]? =some x→xf H2 H3→xf H3 H3'→Pv i acc H3→∀R:VK,(∀u H6',xf H3' H6'→(∀H6,xf H3 H6→(∀p o,(H3' p=none∨∀ys,o≠HO.lst ys)→H6' p=some o→H6 p=some o)→Pv (i+1) (acc++[u]) H6)→R u H6')→te (some x::caps) H3' R)
  (hd:∀D acc H H',H2 D=none→H D=none→xf H2 H→xf H H'→Pv xs.length acc H→acc.length=xs.length→H' D=some (.lst acc)→Q (.ref D) H'):yb (Itl K l) caps xbe te Q H2:=by
 unfold yb;intro D hD;refine⟨fun i m acc H3=>m=xs.length - i∧i≤xs.length∧acc.length=i∧H3 D=some (.lst acc)∧xf H2 (del H3 D)∧Pv i acc (del H3 D),⟨xs.length,by simp,bq _,rfl,xl,?_,?_⟩,?_⟩
 ·rw[xW,yX hD];exact xf.refl _
 ·rw[xW,yX hD];exact h0
 rintro i m acc H3 ⟨rfl,hi,hacc,hD3,s3,p3⟩;refine⟨hD3,?_⟩;have q:=(s3.trans yq).seq hl
 by_cases hlt:i<xs.length
 ·have hx:xs[i]? =some xs[i]:=a5 hlt;refine .inr ⟨⟨xs,xs[i],q,hx⟩,by lia,fun v H4 y=>?_⟩;obtain⟨e,y⟩:=y;have ev:=y xs q;rw[hx]at ev;cases ev;subst e;refine⟨fun _=>?_,fun z=>by cases z⟩;refine hs i _ acc _ _ hx s3 yq p3 _ fun u H6' s6 k=>⟨s6.at hD3,xs.length - (i+1),by lia,rfl,hlt,by simp[hacc],xl,?_,?_⟩
  ·rw[xW];exact s3.trans (yY s6)
  ·rw[xW];refine k _ (yY s6) fun p o q1 q2=>?_;rw[zc (fun z=>by
    rcases q1 with q1|q1
    ·rw[z,hD3]at q1;cases q1
    ·rw[z,s6.at hD3]at q2;cases q2;exact q1 _ rfl)]
   exact q2
 ·have e:i=xs.length:=by lia
  subst e;exact .inl ⟨⟨xs,q,aj _⟩,hd D acc _ H3 hD yp s3 yq p3 hacc hD3⟩
theorem uZ{K:ae}{l:Addr}{xs:List V}{te:TE}{caps:L2.St}{Q:VK}{H2:Hp}(Pv:Nat→List V→Hp→Prop)(hl:SqT K H2 l xs)(hn:xs.length≤ak)(h0:Pv 0 [] H2)
  (hs:∀(i:Nat) x acc H3 H3',xs[i]? =some x→xf H2 H3→xf H3 H3'→Pv i acc H3→∀R:VK,(∀u H6',xf H3' H6'→(∀H6,xf H3 H6→(∀p o,(H3' p=none∨∀ys,o≠HO.lst ys)→H6' p=some o→H6 p=some o)→Pv (i+1) (acc++[u]) H6)→R u H6')→te (some x::caps) H3' R)
  (hd:∀D acc H H',H2 D=none→H D=none→xf H2 H→xf H H'→Pv xs.length acc H→acc.length=xs.length→H' D=some (.lst acc)→Q (.ref D) H'):yb (Itt K l) caps xbe te Q H2:=by
 unfold yb;intro D hD;refine⟨fun i m acc H3=>m=xs.length - i∧i≤xs.length∧acc.length=i∧H3 D=some (.lst acc)∧xf H2 (del H3 D)∧Pv i acc (del H3 D),⟨xs.length,by simp,bq _,rfl,xl,?_,?_⟩,?_⟩
 ·rw[xW,yX hD];exact xf.refl _
 ·rw[xW,yX hD];exact h0
 rintro i m acc H3 ⟨rfl,hi,hacc,hD3,s3,p3⟩;refine⟨hD3,?_⟩;have q:=(s3.trans yq).seqT hl
 by_cases hlt:i<xs.length
 ·have hx:xs[i]? =some xs[i]:=a5 hlt;refine .inr ⟨⟨xs,xs[i],q,hx⟩,by lia,fun v H4 y=>?_⟩;obtain⟨e,y⟩:=y;have ev:=y xs q;rw[hx]at ev;cases ev;subst e;refine⟨fun _=>?_,fun z=>by cases z⟩;refine hs i _ acc _ _ hx s3 yq p3 _ fun u H6' s6 k=>⟨s6.at hD3,xs.length - (i+1),by lia,rfl,hlt,by simp[hacc],xl,?_,?_⟩
  ·rw[xW];exact s3.trans (yY s6)
  ·rw[xW];refine k _ (yY s6) fun p o q1 q2=>?_;rw[zc (fun z=>by
    rcases q1 with q1|q1
    ·rw[z,hD3]at q1;cases q1
    ·rw[z,s6.at hD3]at q2;cases q2;exact q1 _ rfl)]
   exact q2
 ·have e:i=xs.length:=by lia
  subst e;exact .inl ⟨⟨xs,q,aj _⟩,hd D acc _ H3 hD yp s3 yq p3 hacc hD3⟩
theorem xcF{K:ae}{l:Addr}{xs:List V}{tt:TT}{te:TE}{caps:L2.St}{Q:VK}{H2:Hp}(p:V→Bool)(f:V→V)(hl:SqL K H2 l xs)(hn:xs.length<ak)
  (ht:∀(x:V) (H3:Hp),x∈xs→xf H2 H3→∀R:Bool→Hp→Prop,(∀H6,xf H3 H6→R (p x) H6)→tt (some x::caps) H3 R)
  (hs:∀(x:V) (H3:Hp),x∈xs→p x=true→xf H2 H3→∀R:VK,(∀H6,xf H3 H6→R (f x) H6)→te (some x::caps) H3 R)
  (hd:∀D H',H2 D=none→xf H2 H'→H' D=some (.lst ((xs.filter p).map f))→Q (.ref D) H'):yb (Itl K l) caps tt te Q H2:=by
 unfold yb;intro D hD;refine⟨fun i m acc H3=>m=xs.length - i∧i≤xs.length∧acc=((xs.take i).filter p).map f∧H3 D=some (.lst acc)∧xf H2 H3,⟨xs.length,by simp,bq _,rfl,xl,xf.new hD⟩,?_⟩;rintro i m acc H3 ⟨rfl,hi,rfl,hD3,s3⟩;refine⟨hD3,?_⟩;have q:=s3.seq hl
 by_cases hlt:i<xs.length
 ·have hx:xs[i]? =some xs[i]:=a5 hlt;have hle:(((xs.take i).filter p).map f).length<ak:=by
   rw[ab];refine Nat.lt_of_le_of_lt (List.length_filter_le _ _) ?_;rw[bp];lia
  have et:xs.take (i+1)=xs.take i++[xs[i]]:=by rw[aL,hx];rfl
  refine .inr ⟨⟨xs,xs[i],q,hx⟩,hle,fun v H4 y=>?_⟩;obtain⟨e,y⟩:=y;have ev:=y xs q;rw[hx]at ev;cases ev;subst e;refine ht _ _ (cm hlt) s3 _ fun H5 s5=>⟨fun hp=>?_,fun hp=>?_⟩
  ·refine hs _ _ (cm hlt) hp (s3.trans s5) _ fun H6 s6=>⟨s6.at (s5.at hD3),xs.length - (i+1),by lia,rfl,hlt,?_,xl,(s3.trans (s5.trans s6)).put hD⟩;rw[et,dR,aP];simp[hp]
  ·refine⟨xs.length - (i+1),by lia,rfl,hlt,?_,s5.at hD3,s3.trans s5⟩;rw[et,dR,aP];simp[hp]
 ·have e:i=xs.length:=by lia
  subst e;rw[aR]at hD3⊢;exact .inl ⟨⟨xs,q,aj _⟩,hd D H3 hD s3 hD3⟩
theorem xd1{K:ae}{f:Bool→Bool}{x y:V}{H:Hp}{Q:VK}{d:cg}(hx:Rp K H x d)(hy:Rp K H y d)(hd:cE d=true)(q:Q (.bl (f true)) H):xac K f x y H Q:=
 ⟨d,d,hx,hy,hd,hd,by rw[PySem.SeqAt.eqv_refl d (SeqAt.canLay_of_shaped hd)];exact q⟩
end L2
namespace L2
open PySem PySem.Spec PyProof.Rows
section
variable {X:Cx} {K:ae}
theorem xd2(e:X.K=K):IxR X (xfv K):=e▸yg
theorem xgI(e:X.K=K):IxR X (xfw K):=e▸xu
theorem xgD(e:X.K=K):SlR X (xfx K):=e▸xaa
theorem xfK(e:X.K=K):xS X (.builtin "isinstance") (xfG K):=e▸xR
theorem xgK(e:X.K=K)(hu:X.A.units+64<cLine):OpR X (aS .Eq) (xac K fun b=>b):=e▸xes hu
theorem xgL(e:X.K=K)(hu:X.A.units+64<cLine):OpR X (aS .NotEq) (xac K fun b=> !b):=e▸xet hu
end
end L2
namespace L2
open PySem PySem.Spec PyProof.Rows
end L2
namespace L2
open PySem PySem.Spec PyProof.Rows
theorem ui{n d:Nat}{i:Int}(h0:0≤i):HT.sIx n d (some i)=min i.toNat n:=by
 show(if i<0 then(i+(n:Int)).toNat else min i.toNat n)=_;rw[if_neg (by lia)]
end L2
namespace L2
open PySem PySem.Spec PyProof.Rows
section
variable {X:Cx}
end
theorem xdn{xs:List Int}{x v:Int}(h0:0≤x)(h:xs[x.toNat]? =some v):atI (xs.map V.int) x=some (.int v):=by
 have:=yv (xs:=xs.map V.int) (j:=x.toNat) (v:=.int v) (by rw[ay,h];rfl)
 rwa [cH h0]at this
end L2
namespace L2
open PySem PySem.Spec PyProof.Rows
section
variable {X:Cx} {EE:EEs}
section
variable {pins ps:List (Addr×Obj)} {σ:St} {H:Hp} {s:aa}
end
theorem xeR{h₀:ExceptHandler}{hs:List ExceptHandler}{pos:Pos}{body:List Stmt}{tb:TS}(hx:X.xe=fun _ _=>False)(hbody:PSs X body tb):PS X (.Try body (h₀::hs) [] [] pos) tb:=by
 intro pins s σ H D I h;refine wpAny_Try_except (aN (hbody pins s σ H D I h) (fun f s1 hq=>?_) fun e s1 z=>?_)
 ·cases f with
  |next=>exact cy hq
  |brk=>exact hq
  |cont=>exact hq
  |ret u=>exact hq
 ·rw[hx]at z;exact z.elim
end
end L2
namespace L2
open PySem PySem.Spec PyProof.Rows
def jM(sep:Str):List Str→Str
 |[p]=>p
 |ss=>Builtin.Str.glued sep ss
def uu(sep:Str)(ss:List Str):Nat:=Array.foldl (fun x1 x2=>x1+x2.length+sep.length) 0 ss.toArray
theorem xci:∀{ss:List Str} {us:List Value},Vals (ss.map V.str) us→∃l:List (Str×Tok),us=strValues l∧l.map (fun x=>x.1)=ss
 |[],us,h=>by cases h;exact⟨[],rfl,rfl⟩
 |s::ss,us,h=>by
  cases h with
  |cons a b=>
   obtain⟨t,rfl⟩:=a;obtain⟨l,rfl,rfl⟩:=xci b;exact⟨(s,t)::l,rfl,rfl⟩
section
variable {X:Cx}
def rJoin(K:ae):V→List V→Hp→VK→Prop:=fun x vs H Q=>∃(sep:Str) (l:Addr) (ss:List Str),x= .str sep∧vs=[.ref l]∧SqL K H l (ss.map V.str)∧uu sep ss≤ak∧(jM sep ss).length≤ak∧Q (.str (jM sep ss)) H
theorem vB:MtM X "str.join" (rJoin X.K):=by
 intro pins s σ H x vs v us Q I rx rv h;obtain⟨sep,a,ss,rfl,rfl,hq,hl,hl2,q⟩:=h;obtain⟨t,rfl⟩:=rx;obtain⟨u,rfl,ru⟩:=rv.one;cases ru;obtain⟨its,r',pl,hz⟩:=I.list hq;obtain⟨l,rfl,rfl⟩:=xci r';have hlong:Builtin.Str.tooLong (Array.foldl (fun x1 x2=>x1+x2.length+sep.length) 0 (List.map (fun x=>x.fst) l).toArray)=false:=decide_eq_false (by unfold uu at hl;lia);refine bS F.slot_str_join (b9 s sep t) F.entry_str_join (F.args_str_join_2 _ _) (meets_str_join_list sep t a l hlong) ⟨pl.isList,?_⟩;rcases l with _|⟨p,_|⟨p2,l⟩⟩
 ·exact⟨hl2,.str _,H,I.tok _,⟨_,rfl⟩,q⟩
 ·exact⟨.str _,H,I.tok _,⟨_,rfl⟩,q⟩
 ·exact⟨hl2,.str _,H,I.tok _,⟨_,rfl⟩,q⟩
def xeS:V→List V→Hp→VK→Prop:=fun x vs H Q=>∃(z y:Str),x= .str z∧vs=[.str y]∧Q (.bl (decide (0+y.length≤z.length)&&dX z y 0)) H
theorem xaQ:MtM X "str.startswith" xeS:=by
 intro pins s σ H x vs v us Q I rx rv h;obtain⟨z,y,rfl,rfl,q⟩:=h;obtain⟨t,rfl⟩:=rx;obtain⟨u,rfl,ru⟩:=rv.one;obtain⟨t2,rfl⟩:=ru;refine bS F.slot_str_startswith (b9 s z t) F.entry_str_startswith (F.args_str_startswith_2 _ _) (gives_str_startswith z y t t2).meets ?_;exact⟨.bl _,H,I.tok _,rfl,q⟩
theorem xaA:∀(ss:List Str) (t:Nat),Vals (ss.map V.str) (strsFrom t ss)
 |[],t=>by unfold strsFrom;exact .nil
 |s::ss,t=>by unfold strsFrom;exact .cons ⟨t,rfl⟩ (xaA ss (t+1))
end
end L2
namespace L2
open PySem PySem.Spec PyProof.Rows
section
variable {X:Cx}
def xgj(c:Str)(te:TE):TE:=fun σ H Q=>(bN++c).length≤ak∧te σ H fun x H1=>∃i:Int,x= .int i∧i.natAbs.log2<1920∧(bN++c++aI (toString i)).length≤ak∧Q (.str (bN++c++aI (toString i))) H1
theorem xeT{c:Str}{j:Nat}{p1 p2 pos:Pos}{e:Expr}{te:TE}(he:PE X e te):PE X (.JoinedStr [.Constant (.str c) j p1,.FormattedValue e (-1) none p2] pos) (xgj c te):=by
 intro pins s σ H Q I h;obtain⟨hl,h⟩:=h;refine wpAny_JoinedStr (Joins_cons (dM ⟨c,_,rfl,hl,Joins_cons ?_⟩));refine wpAny_FormattedValue_plain (thn (he pins _ σ H _ (I.tok _) h) fun v s1 ⟨x,H1,I1,r1,q1⟩=>?_);obtain⟨i,rfl,hi,hl2,q⟩:=q1;obtain⟨t,rfl⟩:=r1;refine wpAny_formatField_int hi ⟨_,_,rfl,hl2,Joins_nil ⟨hl2,?_⟩⟩;exact⟨.str _,H1,(I1.tok _).tok _,⟨_,rfl⟩,q⟩
def xfL:V→Option Str
 | .int i=>some (aI (toString i))
 | .str z=>some z
 |_=>none
theorem yZ:xS X (.type "str") (fun xs H Q=>∃(x:V) (z:Str),xs=[x]∧xfL x=some z∧(∀i,x= .int i→i.natAbs.log2<1920)∧Q (.str z) H):=by
 intro pins s σ H xs us Q I r h;obtain⟨x,z,rfl,hz,hb,q⟩:=h;obtain⟨u,rfl,rx⟩:=vals1 r;cases x with
 |int i=>
  obtain⟨t,rfl⟩:=rx;cases hz;exact PySem.P.str_of_int (hb i rfl) ⟨.str _,H,I.tok _,⟨_,rfl⟩,q⟩
 |str y=>
  obtain⟨t,rfl⟩:=rx;cases hz;exact PySem.P.str_of_str ⟨.str _,H,I.tok _,⟨_,rfl⟩,q⟩
 |_=>cases hz
end
end L2
namespace L2
open PySem PySem.Spec PyProof.Rows
def va(z:Str)(lo hi:Option Int):Str:=⟨((z.cps.toList.drop (HT.sIx z.length 0 lo)).take (HT.sIx z.length z.length hi - HT.sIx z.length 0 lo)).toArray⟩
theorem xfM(lo hi:Option Int)(n:Nat):Builtin.Str.strSliceIndices lo hi 1 n=sliceRange ((HT.sIx n 0 lo:Nat):Int) ((HT.sIx n n hi:Nat):Int) 1:=by
 obtain⟨h1,h2,h3⟩:=uU lo hi n;rw[←h1,←h2];rfl
section
variable {X:Cx}
def xgE:V→Option Int→Option Int→Hp→VK→Prop:=fun x lo hi H Q=>∃z,x= .str z∧z.length≤ak∧Q (.str (va z lo hi)) H
theorem xfN:SlR X xgE:=by
 intro pins s σ H x v vl vu lo hi sl Q I rx hs pl pu h;obtain⟨z,rfl,hz,q⟩:=h;obtain⟨t,rfl⟩:=rx;refine⟨"str",_,slot_str_getitem.lookup,b9 s z t,?_⟩;obtain⟨l,hl⟩:∃l:Option (Int×Tok),vl=partValue l∧l.map (·.1)=lo:=by
  cases pl with
  |none=>exact⟨none,rfl,rfl⟩
  |int i t=>exact⟨some (i,t),rfl,rfl⟩
 obtain⟨u,hu⟩:∃u:Option (Int×Tok),vu=partValue u∧u.map (·.1)=hi:=by
  cases pu with
  |none=>exact⟨none,rfl,rfl⟩
  |int i t=>exact⟨some (i,t),rfl,rfl⟩
 obtain⟨rfl,rfl⟩:=hl;obtain⟨rfl,rfl⟩:=hu;refine wpAny_getItem_str_slice (st:=none) (l:=l) (u:=u) hs rfl ?_;have hp:slicePicked z l u none=(dy (HT.sIx z.length z.length (u.map (·.1)) - HT.sIx z.length 0 (l.map (·.1)))).map fun x=>HT.sIx z.length 0 (l.map (·.1))+x:=by
  unfold slicePicked;rw[show((none:Option (Int×Tok)).map (fun x=>x.fst)).getD 1=1 from rfl,xfM,sliceRange_one]
 have he:(List.filterMap (fun x_1=>z.cps[x_1]?) (slicePicked z l u none)).toArray=(va z (l.map (·.1)) (u.map (·.1))).cps:=by
  rw[hp,pick_run];rfl
 unfold sliceMade
 split
 ·rename_i hc;have hlen:HT.sIx z.length z.length (u.map (·.1)) - HT.sIx z.length 0 (l.map (·.1))=z.length:=by
   have:=hc;rw[hp]at this;simpa using this
  have hcut:va z (l.map (·.1)) (u.map (·.1))=z:=by
   have hb:HT.sIx z.length z.length (u.map (·.1))≤z.length:=HT.xc8 _ _ (aj _) _;unfold va;rw[hlen];have hz0:z.cps.toList.length=z.length:=by simp[bT]
   by_cases h0:z.length=0
   ·have:z.cps.toList=[]:=dh.mp (by lia);rw[this];have:z.cps=#[]:=by rw[←dB (xs:=z.cps),this]
    cases z
    simp_all
   ·have ha:HT.sIx z.length 0 (l.map (·.1))=0:=by lia
    rw[ha,dw,aZ (by lia),dB]
  rw[hcut]at q;exact⟨.str _,H,I.tok _,⟨_,rfl⟩,q⟩
 ·rw[he];refine⟨?_,.str _,H,I.tok _,⟨_,rfl⟩,q⟩;have hz0:z.cps.toList.length=z.length:=by simp[bT]
  show(va z (l.map (·.1)) (u.map (·.1))).cps.size≤ak;unfold va;rw[ag,bp,de];lia
end
end L2
namespace L2
open PySem PySem.Spec PyProof.Rows
def xcG(z:Str):It:=⟨fun i _=>i<z.cps.size,fun i H x H'=>H'=H∧∃c,z.cps[i]? =some c∧x= .str ⟨#[c]⟩,fun i _=>i=z.cps.size⟩
theorem xbj{P:aF}{w:World}{A:aH}(h:A.handled=none)(it:Addr)(z:Str)(t:Tok):Walks P w A it [it] [it] z.cps.size (SignAt z) (fun i h=>h.IsStrIter it (cj z) z t i):=by
 unfold cj
 split
 ·exact Walks.strAscii h it z t
 ·exact Walks.strWide h it z t
theorem xaR(z:Str):["enumerate","zip","dict_itemiterator","dict_reverseitemiterator","odict_iterator","itertools.zip_longest","itertools.pairwise"].contains (cj z)=false:=by
 unfold cj
 split<;> decide
theorem xd3{P:aF}{w:World}{K:ae}{tg:Expr}(z:Str)(t:Tok)(it:Addr):Turn P w K tg (xcG z) [it] it (fun i h=>h.IsStrIter it (cj z) z t i) where
 mem:=by simp
 obj:=fun i h st b hb=>by
  have e:b=it:=by simpa using hb
  subst e;obtain⟨o,e,c,d⟩:=st;exact⟨o,e,fun v z=>by rw[d]at z;cases z⟩
 keep:=fun i h h' st k=>by
  obtain⟨o,e,c,d⟩:=st;exact⟨o,k it (by simp) o e,c,d⟩
 item:=by
  intro X hP hw hK hc i pins s σ H E I hf st hg;subst hP hw hK;obtain⟨f0,f1,f2,f3,f4,f5⟩:=hf it (by simp);refine(xbj (I.ok.hd hc) it z t).item i s _ E hg st fun v h' tk hv st' hk=>?_;obtain⟨c,u,hcc,rfl⟩:=hv;have I1:Inv X pins σ H {s with heap:=h',toks:=tk}:=I.turned (t':=tk) (fun b o hb e=>hk b o (by simpa using hb) e) f0 f1 f3 f4 f5;obtain⟨o,e,cl,d⟩:=id st';exact⟨_,rfl,jz (s:={s with heap:=h',toks:=tk}) e cl d (xaR z) ⟨.str ⟨#[c]⟩,H,I1,⟨_,rfl⟩,⟨rfl,c,hcc,rfl⟩,st',fun b hb=>(hf b hb).1⟩⟩
 done:=by
  intro X hP hw hK hc i pins s σ H E I hf st hg;subst hP hw hK;obtain⟨f0,f1,f2,f3,f4,f5⟩:=hf it (by simp);have hg:i=z.cps.size:=hg;subst hg;exact(xbj (I.ok.hd hc) it z t).done s _ E st fun h' tk hk=>⟨rfl,I.turned (t':=tk) (fun b o hb e=>hk b o (by simpa using hb) e) f0 f1 f3 f4 f5⟩
 self:=fun A i s Q E st h=>by
  unfold cj at st
  split at st
  ·exact wpAny_pyIter_striter_ascii st h
  ·exact wpAny_pyIter_striter_wide st h
section
variable {X:Cx} {tg:Expr}
def xgF(tl:TE):TI:=fun σ H R=>tl σ H fun x H1=>∃z,x= .str z∧R (xcG z) H1
theorem xfO{l:Expr}{tl:TE}(hl:PE X l tl):PI X tg l (xgF tl):=by
 intro pins s σ H R I h;refine thn (hl pins s σ H _ I h) fun v s1 ⟨x,H1,I1,r1,q1⟩=>?_;obtain⟨z,rfl,q⟩:=q1;obtain⟨t,rfl⟩:=r1;refine wpAny_pyIter_strU ?_;refine⟨s1.heap.objs.size,[s1.heap.objs.size],_,_,H1,rfl,I1.kept (t':=s1.toks) fun b o e=>ah _ e,xd3 z t _,⟨_,aG _ rfl,rfl,rfl⟩,fun b hb=>?_,q⟩;have e:b=s1.heap.objs.size:=by simpa using hb
 subst e;exact I1.fpOk (aj _) (I1.hok.fresh (aj _))
end
theorem xd4{z:Str}{te:TE}{caps:L2.St}{Q:VK}{H2:Hp}(f:Nat→V)(hn:z.cps.size≤ak)
  (hs:∀(c:Nat) (H3:Hp),c∈z.cps.toList→xf H2 H3→∀R:VK,(∀H6,xf H3 H6→R (f c) H6)→te (some (.str ⟨#[c]⟩)::caps) H3 R)
  (hd:∀D H',H2 D=none→xf H2 H'→H' D=some (.lst (z.cps.toList.map f))→Q (.ref D) H'):yb (xcG z) caps xbe te Q H2:=by
 unfold yb;intro D hD;have hz:z.cps.toList.length=z.cps.size:=bF;refine⟨fun i m acc H3=>m=z.cps.size - i∧i≤z.cps.size∧acc=(z.cps.toList.take i).map f∧H3 D=some (.lst acc)∧xf H2 H3,⟨z.cps.size,by simp,bq _,rfl,xl,xf.new hD⟩,?_⟩;rintro i m acc H3 ⟨rfl,hi,rfl,hD3,s3⟩;refine⟨hD3,?_⟩
 by_cases hlt:i<z.cps.size
 ·refine .inr ⟨hlt,by rw[ab,bp];lia,fun v H4 y=>?_⟩;obtain⟨e,c,hc,ev⟩:=y;subst e;subst ev;have hcl:z.cps.toList[i]? =some c:=by rw[Array.getElem?_toList];exact hc
  refine⟨fun _=>?_,fun z=>by cases z⟩;refine hs _ _ (aA hcl) s3 _ fun H6 s6=>⟨s6.at hD3,z.cps.size - (i+1),by lia,rfl,hlt,?_,xl,(s3.trans s6).put hD⟩;rw[aL,hcl,aP];rfl
 ·have e:i=z.cps.size:=by lia
  subst e;rw[←hz,aR]at hD3;exact .inl ⟨rfl,hd D H3 hD s3 hD3⟩
end L2
namespace L2
open PySem PySem.Spec PyProof.Rows
section
variable {X:Cx}
theorem xdo:xS X (.type "int") (fun xs H Q=>∃(z:Str) (n:Int),xs=[.str z]∧PySem.intText? z=some n∧z.length≤640∧Q (.int n) H):=by
 intro pins s σ H xs us Q I r h;obtain⟨z,n,rfl,hn,hl,q⟩:=h;obtain⟨u,rfl,rx⟩:=vals1 r;obtain⟨t,rfl⟩:=rx;exact W.KIN.call_text hn hl ⟨.int _,H,I.tok _,⟨_,rfl⟩,q⟩
end
structure DcK(w:World)(K:ae)(a:Addr)(kvs:List (Str×Int)):Prop where
 obj:∃es n,K.lookup a=some ⟨.type "dict",none,.dict es n,#[]⟩∧W.KeysLit w.params es.toList
 val:∀x i,(x,i)∈kvs→∃t,b6 K a x=some (some (.int i t))
theorem xad{K:ae}{a:Addr}{y:Str}{j:Int}{t:Tok}{kvs:List (Str×Int)}(h:b6 K a y=some (some (.int j t)))(r:∀x i,(x,i)∈kvs→∃t,b6 K a x=some (some (.int i t))):
  ∀x i,(x,i)∈(y,j)::kvs→∃t,b6 K a x=some (some (.int i t)):=fun x i z=>by
 rcases aC.mp z with e|z
 ·obtain⟨rfl,rfl⟩:=Prod.mk.inj e;exact⟨t,h⟩
 ·exact r x i z
section
variable {X:Cx} {o i:Expr} {pos:Pos} {td ty:TE}
def xfP(w:World)(K:ae)(td ty:TE):TE:=fun σ H Q=>td σ H fun x H1=>ty σ H1 fun y H2=>∃a kvs z n,x= .ref a∧y= .str z∧DcK w K a kvs∧(z,n)∈kvs∧Q (.int n) H2
theorem xd5(ho:PE X o td)(hi:PE X i ty)(hs:xfA i):PE X (.Subscript o i pos) (xfP X.w X.K td ty):=by
 intro pins s σ H Q I h;refine xeH PySem.F.slot_dict_getitem.lookup hs (thn (ho pins s σ H _ I h) fun u s1 ⟨x,H1,I1,rx,q1⟩=>thn (hi pins s1 σ H1 _ I1 q1) fun iv s2 ⟨y,H2,I2,ry,a,kvs,z,n,ex,ey,dc,hz,q2⟩=>?_);subst ex ey;obtain rfl:u=aT a:=rx;obtain⟨t,rfl⟩:=ry;obtain⟨es,m,hl,hk⟩:=dc.obj;obtain⟨t',e⟩:=dc.val z n hz;have hm:=W.mapOf_K (prog:=X.prog) (w:=X.w) I2.kIn hl hk;exact⟨hm.typeIs,wpAny_getItem_of (strKind_is X.prog X.w z t) hm (W.find_K hl e) ⟨.int n,H2,I2.tok _,⟨_,rfl⟩,q2⟩⟩
end
section
variable {X:Cx} {K:ae} {tg:Expr}
theorem xdp{T:String}{name:Str}{id:String}{r:V→List V→Hp→VK→Prop}{o e:Expr}{es:List Expr}{to:TE}{t:TA}{apos cpos:Pos}(hK:X.K=K)(pa:PlainAttrs T)(slot:Slot T name id)(hty:typeOf (.builtin id)=pure (.type "method_descriptor"))(hm:MtR X id r)(ho:PE X o to)(ha:PA X (e::es) t)
  (hbase:cQ o name X.env (eval o X.env)=eval o X.env:=by rfl)
  (hfew:((bL cpos (aE (e::es) X.env)).all (fun x=> !x.1)&&(backToKw cpos (dr [] X.env)).all (fun x=>x.1.isSome)
   &&decide ((e::es).length+([]:List Keyword).length+(if ([]:List Keyword).isEmpty then 0 else 1)<30))=true:=by rfl)
  (hline:(apos.endLine==cpos.line)=true:=by rfl) (hs:aE (e::es) X.env=(false,eval e X.env)::aE es X.env:=by rfl) (hplain:(bL cpos (aE es X.env)).any (·.1)=false:=by rfl):
  PE X (.Call (.Attribute o name apos) (e::es) [] cpos) (tBM K T r to t):=by
 have:=yw pa slot hty hm ho ha hbase hfew hline hs hplain;rw[hK]at this;exact this
theorem xd6(e:X.K=K):MtM X "str.join" (rJoin K):=e▸vB
theorem xeU{l:Expr}{tl:TE}(e:X.K=K)(hl:PE X l tl):PI X tg l (xfj K tl):=e▸uS hl
def xeV:V→List V→Hp→VK→Prop:=fun x vs H Q=>∃(z y:Str),x= .str z∧vs=[.str y]∧y.length≠0∧z.length+2≤ak∧∀d,H d=none→Q (.ref d) (upd H d (.lst ((PySem.Txt.split z y).map V.str)))
theorem xaB:MtM X "str.split" xeV:=by
 intro pins s σ H x vs v us Q I rx rv h;obtain⟨z,y,rfl,rfl,h0,h1,q⟩:=h;obtain⟨t,rfl⟩:=rx;obtain⟨u,rfl,ru⟩:=rv.one;obtain⟨t2,rfl⟩:=ru;have hy:(y.length==0)=false:=by simpa using h0
 have q0:=q s.heap.objs.size (I.hok.fresh (aj _));unfold PySem.Txt.split at q0;cases e1:(decide (z.length<y.length)||decide (dF z<dF y))with
 |true=>
  rw[if_pos e1]at q0;refine bS dg (b9 s z t) cT (cO _ _) (meets_str_split_cannot_occur z y t t2 e1) ?_;exact⟨.ref _,_,I.lnew (show Vals [V.str z] [cn z t]from .cons ⟨t,rfl⟩ .nil) (by show 1≤ak;decide),rfl,q0⟩
 |false=>
  rw[if_neg (ne_true_of_eq_false e1)]at q0;cases e2:(a7 z y 0 z.length (z.length+1)).isEmpty with
  |true=>
   rw[if_pos e2]at q0;refine bS dg (b9 s z t) cT (cO _ _) (meets_str_split_not_found z y t t2 e1 hy e2) ?_;exact⟨.ref _,_,I.lnew (show Vals [V.str z] [cn z t]from .cons ⟨t,rfl⟩ .nil) (by show 1≤ak;decide),rfl,q0⟩
  |false=>
   rw[if_neg (ne_true_of_eq_false e2)]at q0;have hn:(Builtin.Str.partsBetween z (a7 z y 0 z.length (z.length+1)) y.length).length≤ak:=by
    have l1:=PySem.length_partsBetween z (a7 z y 0 z.length (z.length+1)) y.length;have l2:=StrLaws.occ_length_le z y 0 z.length (z.length+1);lia
   refine bS dg (b9 s z t) cT (cO _ _) (meets_str_split_sep z y t t2 e1 hy e2 (by lia) hn) ?_;exact⟨.ref _,_,I.lnew (xaA _ s.toks) (by rw[ab];exact hn),rfl,q0⟩
open PySem.AutoSeq1 (wpAny_loadPart') in
theorem xbk(l:Addr)(items:Array Value)(n:Nat)(b:Addr)(items2:Array Value)(n2:Nat)(dd2:Option Addr)(sl2:Array (Option Value))(hs0:¬(!items.isEmpty&&bh (items.size+items2.size))=true)(hs1:items.size≤ak)(hs2:items.size+items2.size≤ak+1):
  Meets (Builtin.«list.extend» ⟨[.ref l,.ref b],[]⟩) (fun _ R s=>s.heap.get? l=some {cls:=.type "list",dict:=none,data:=.seq items n,slots:=#[]}∧s.heap.get? b=some {cls:=.type "tuple",dict:=dd2,data:=.seq items2 n2,slots:=sl2}∧R (.ok (.ret cx)) {s with heap:=s.heap.update l (Obj.mapSeq fun x=>x++items2),toks:=s.toks}):=
 .of_wp fun prog w A R s h=>by
  obtain⟨hp,g,d,tk,os⟩:=s;obtain⟨hl,hb,h⟩:=h;have f1:=AutoSeq1.idx_int;have f2:=AutoSeq1.sub_tuple_tuple;have f3:=AutoSeq1.sub_list_list;have f4:=AutoSeq1.sub_tuple_list;have f5:=AutoSeq1.sub_list_tuple;have hz':(items++items2).size≤ak+1:=by rw[dY];exact hs2
  wp_walk using(wpAny_updateSeq hl rfl (hz:=hs1) (_hz':=hz')),wpAny_loadPart' hl,wpAny_loadPart' hb
  exact⟨_,rfl,h⟩
def xd7(K:ae):V→List V→Hp→VK→Prop:=fun x vs H Q=>∃l b xs zs,x= .ref l∧vs=[.ref b]∧H l=some (.lst xs)∧SqT K H b zs∧xs.length+zs.length≤ak∧Q .non (upd H l (.lst (xs++zs)))
theorem xcH:MtM X "list.extend" (xd7 X.K):=by
 intro pins s σ H x vs v us Q I rx rv h;obtain⟨l,b,xs,zs,rfl,rfl,hH,hB,hz,q⟩:=h;cases rx;obtain⟨u,rfl,ru⟩:=rv.one;cases ru;obtain⟨z,its,n,r,hl,e⟩:=I.lstM hH;obtain⟨its2,r2,⟨o2,e2,c2,n2,d2⟩,z2⟩:=I.tuple hB;have hl2:=r2.length;have hsz:its.toArray.size+its2.toArray.size≤ak:=by rw[ag,ag];lia
 have hlong:¬(!its.toArray.isEmpty&&bh (its.toArray.size+its2.toArray.size))=true:=by
  rw[xbc hsz,Bool.and_false];exact aq
 obtain⟨c3,dd2,d3,sl2⟩:=o2;obtain rfl:c3= .type "tuple":=c2;obtain rfl:d3= .seq its2.toArray n2:=d2;refine bS F.slot_list_extend ⟨_,e,rfl⟩ F.entry_list_extend (F.args_list_extend_2 _ _)
  (xbk l its.toArray n b its2.toArray n2 dd2 sl2 hlong (by rw[ag];lia) (by lia)) ⟨e,e2,?_⟩
 refine⟨.non,_,I.lset (its':=its++its2) hH e (by simp) (r.append r2) ?_,rfl,q⟩;rw[aV];lia
end
end L2
namespace L2
open PySem PySem.Spec PyProof.Rows
open PySem.NumText (AllDigits digitsVal)
def xD(n:Int):Str:=aI (toString n)
def xG(m:Nat):List Nat:=(Nat.toDigits 10 m).map Char.toNat
theorem vC{a b:Str}(h:a.cps.toList=b.cps.toList):a=b:=by
 obtain⟨a⟩:=a;obtain⟨b⟩:=b;have:a=b:=Array.toList_inj.mp h;rw[this]
theorem yD(m:Nat):AllDigits (xG m):=by
 intro c hc;obtain⟨ch,hch,e⟩:=bM.mp hc;have r:=digit_range (Nat.isDigit_of_mem_toDigits (by decide) (by decide) hch);rw[←e];exact r
theorem vD(m:Nat):xG m≠[]:=by
 intro e;have h:=toDigits_len_ge 10 m;rw[cI.mp e]at h;exact absurd h (by decide)
theorem xbl(m:Nat):digitsVal (xG m)=m:=W.KIN.val_back m
theorem yK(n:Int):(xD n).cps.toList=if n<0 then 45::xG n.natAbs else xG n.natAbs:=by
 unfold xD;cases n with
 |ofNat m=>
  have:=W.KIN.signs_num m;rw[if_neg (by have:(0:Int)≤Int.ofNat m:=Int.natCast_nonneg m;lia)];exact this
 |negSucc m=>
  rw[if_pos (Int.negSucc_lt_zero m),signs_ofString];show(("-"++(Nat.repr (m+1))).toList).map Char.toNat=_;rw[String.toList_append,aP,Nat.toList_repr];rfl
theorem xcj{m k:Nat}(h:m<10^k)(hk:0<k):(xG m).length≤k:=by
 unfold xG;rw[ab];exact Nat.length_toDigits_le_iff (by decide) hk |>.mpr h
theorem za{n:Int}(h:(n.natAbs:Int)<10^60):(xD n).length≤61:=by
 have hf:(xG n.natAbs).length≤60:=xcj (by lia) (by decide);have:(xD n).cps.toList.length≤61:=by
  rw[yK];split
  ·rw[aw];lia
  ·lia
 simpa [bT]using this
theorem xbm{n:Int}(h:(n.natAbs:Int)<10^60):PySem.intText? (xD n)=some n:=by
 have hl:=za h;have e:=yK n
 by_cases h0:n<0
 ·rw[if_pos h0]at e;have:=PySem.intText_neg e (yD _) (vD _) (by lia);rw[this,xbl]
  congr 1
  lia
 ·rw[if_neg h0]at e;have:=PySem.intText_digits (x:=xD n) (by rw[e];exact yD _) (by rw[e];exact vD _) (by lia);rw[this,e,xbl]
  congr 1
  lia
theorem zd{n:Int}(h:(n.natAbs:Int)<10^60):n.natAbs.log2<1920:=by
 have h1:n.natAbs<2^200:=ao (show n.natAbs<10^60 by lia) (by decide)
 by_cases h0:n.natAbs=0
 ·rw[h0];decide
 ·exact ao ((Nat.log2_lt h0).mpr h1) (by decide)
theorem yr(sep:Str)(ss:List Str):jM sep ss=a9 sep ss:=by
 unfold jM
 split
 ·rfl
 ·exact StrLaws.glued_eq_join _ _
theorem zt(a b:Str):(a++b).cps.toList=a.cps.toList++b.cps.toList:=by
 show(a.cps++b.cps).toList=_;exact Array.toList_append
theorem yc(c:Nat)(x y:Str)(r:List Str):(a9 ⟨#[c]⟩ (x::y::r)).cps.toList=x.cps.toList++c::(a9 ⟨#[c]⟩ (y::r)).cps.toList:=by
 show(x++⟨#[c]⟩++a9 ⟨#[c]⟩ (y::r)).cps.toList=_;rw[zt,zt,List.append_assoc];rfl
theorem xck{c:Nat}:∀{a b A B:List Nat},c∉a→c∉b→a++c::A=b++c::B→a=b∧A=B
 |[],[],A,B,_,_,h=>⟨rfl,by injection h⟩
 |[],y::b,A,B,_,hb,h=>by
  injection h with h1 _;exact absurd (by rw[h1];exact aU) hb
 |x::a,[],A,B,ha,_,h=>by
  injection h with h1 _;exact absurd (by rw[h1];exact aU) ha
 |x::a,y::b,A,B,ha,hb,h=>by
  injection h with h1 h2;obtain⟨e1,e2⟩:=xck (fun z=>ha (av _ z)) (fun z=>hb (av _ z)) h2;exact⟨by rw[h1,e1],e2⟩
theorem xbn{c:Nat}:∀{as bs:List Str},as≠[]→bs≠[]→(∀p∈as,c∉p.cps.toList)→(∀p∈bs,c∉p.cps.toList)→a9 ⟨#[c]⟩ as=a9 ⟨#[c]⟩ bs→as=bs
 |[],_,h,_,_,_,_=>absurd rfl h
 |_,[],_,h,_,_,_=>absurd rfl h
 |[x],[y],_,_,_,_,h=>by rw[show x=y from h]
 |[x],y::z::r,_,_,ha,hb,h=>by
  have e:=congrArg (fun s:Str=>s.cps.toList) h;simp only[yc]at e;have:c∈x.cps.toList:=by
   show c∈(a9 ⟨#[c]⟩ [x]).cps.toList;rw[e];simp
  exact absurd this (ha x (by simp))
 |x::z::r,[y],_,_,ha,hb,h=>by
  have e:=congrArg (fun s:Str=>s.cps.toList) h;simp only[yc]at e;have:c∈y.cps.toList:=by
   show c∈(a9 ⟨#[c]⟩ [y]).cps.toList;rw[←e];simp
  exact absurd this (hb y (by simp))
 |x::u::r,y::v::q,_,_,ha,hb,h=>by
  have e:=congrArg (fun s:Str=>s.cps.toList) h;simp only[yc]at e;obtain⟨e1,e2⟩:=xck (ha x (by simp)) (hb y (by simp)) e;rw[vC e1,xbn (as:=u::r) (bs:=v::q) (by simp) (by simp) (fun p hp=>ha p (av _ hp)) (fun p hp=>hb p (av _ hp)) (vC e2)]
theorem xd8(x y:Str):PySem.Txt.split x y≠[]:=by
 unfold PySem.Txt.split
 split
 ·simp
 ·split
  ·simp
  ·intro e;have:=PySem.length_partsBetween x (a7 x y 0 x.length (x.length+1)) y.length;rw[e]at this;simp at this
theorem jN{c:Nat}{ss:List Str}(hne:ss≠[])(h:∀p∈ss,c∉p.cps.toList):PySem.Txt.split (a9 ⟨#[c]⟩ ss) ⟨#[c]⟩=ss:=
 xbn (xd8 _ _) hne (StrLaws.split_free _ c) h (StrLaws.join_split _ _)
theorem xaC{c d:Nat}(hcd:c≠d):∀{ss:List Str},(∀p∈ss,c∉p.cps.toList)→c∉(a9 ⟨#[d]⟩ ss).cps.toList
 |[],_=>by show c∉(bN).cps.toList;simp[bN]
 |[x],h=>h x (by simp)
 |x::y::r,h=>by
  rw[yc];intro m;rcases bf.mp m with m|m
  ·exact h x (by simp) m
  ·rcases aC.mp m with m|m
   ·exact hcd m
   ·exact xaC hcd (ss:=y::r) (fun p hp=>h p (av _ hp)) m
theorem jf{d B:Nat}:∀(ss:List Str),(∀p∈ss,p.length≤B)→(a9 ⟨#[d]⟩ ss).length≤ss.length*(B+1)
 |[],_=>by show(bN).length≤_;simp[bN,bT]
 |[x],h=>by
  have:=h x (by simp);show x.length≤_;simp;lia
 |x::y::r,h=>by
  have h1:=h x (by simp);have h2:=jf (d:=d) (y::r) (fun p hp=>h p (av _ hp));have e:(a9 ⟨#[d]⟩ (x::y::r)).length=x.length+(1+(a9 ⟨#[d]⟩ (y::r)).length):=by
   have:=congrArg d0 (yc d x y r);simp only[aV,aw,bF]at this;show(a9 ⟨#[d]⟩ (x::y::r)).cps.size=x.cps.size+(1+(a9 ⟨#[d]⟩ (y::r)).cps.size);lia
  rw[e];have e2:(x::y::r).length*(B+1)=(y::r).length*(B+1)+(B+1):=by
   rw[aw,Nat.succ_mul]
  lia
theorem xbo{d B:Nat}(ss:List Str)(h:∀p∈ss,p.length≤B):uu ⟨#[d]⟩ ss≤ss.length*(B+1):=by
 unfold uu;rw[StrLaws.joinTotal];have h1:=StrLaws.sumLen_le ss h;have e:(⟨#[d]⟩:Str).length=1:=rfl;rw[e,Nat.mul_add];lia
theorem xaD{c:Nat}(n:Int)(h1:c≠45)(h2:c<48):c∉(xD n).cps.toList:=by
 rw[yK];have hf:c∉xG n.natAbs:=fun z=>by have:=yD _ c z;lia
 split
 ·intro m;rcases aC.mp m with m|m
  ·exact h1 m
  ·exact hf m
 ·exact hf
theorem xd9{c:Nat}{a b:Str}(h1:c∉a.cps.toList)(h2:c∉b.cps.toList):c∉(a++b).cps.toList:=by
 rw[zt];intro m;rcases bf.mp m with m|m
 ·exact h1 m
 ·exact h2 m
theorem len_app(a b:Str):(a++b).length=a.length+b.length:=by show(a.cps++b.cps).size=a.cps.size+b.cps.size;exact dY
theorem xcI(n:Int):(decide (0+("-":Str).length≤(xD n).length)&&dX (xD n) ("-":Str) 0)=decide (n<0):=by
 have e:=yK n;have hl:(xD n).length=(xD n).cps.toList.length:=by simp[bT]
 rw[StrLaws.subAt_eq,hl,e];have e1:(("-":Str).length)=1:=rfl;have e2:("-":Str).cps.toList=[45]:=rfl;rw[e1,e2]
 by_cases h0:n<0
 ·rw[if_pos h0,decide_eq_true h0];simp
 ·rw[if_neg h0,decide_eq_false h0];cases hf:xG n.natAbs with
  |nil=>exact absurd hf (vD _)
  |cons c r=>
   have hc:=yD n.natAbs c (by rw[hf];simp);simp;lia
theorem xeW{n:Int}(h0:n<0):va (xD n) (some 1) none=⟨(xG n.natAbs).toArray⟩:=by
 have e:=yK n;rw[if_pos h0]at e;have hl:(xD n).length=(xG n.natAbs).length+1:=by
  have:=congrArg d0 e;simpa [bT]using this
 unfold va;rw[e,hl];have s1:HT.sIx ((xG n.natAbs).length+1) 0 (some 1)=1:=by simp[HT.sIx]
 have s2:HT.sIx ((xG n.natAbs).length+1) ((xG n.natAbs).length+1) none=(xG n.natAbs).length+1:=by simp[HT.sIx]
 rw[s1,s2];simp
theorem xdq{n:Int}(h0:¬n<0):xD n=⟨(xG n.natAbs).toArray⟩:=by
 have e:=yK n;rw[if_neg h0]at e;exact vC e
theorem xdr{c:Nat}(h:48≤c∧c≤57):(!(a7 ("0123456789":Str) ⟨#[c]⟩ 0 ("0123456789":Str).length 1).isEmpty)=true:=by
 rw[StrLaws.found_one];have e:("0123456789":Str).cps.toList=[48,49,50,51,52,53,54,55,56,57]:=rfl;rw[e];refine decide_eq_true ?_;simp only[aC,bE,or_false];lia
end L2
namespace K62
open PySem PySem.Spec PyProof.Rows L2
def top(i:Nat):Stmt:=PySem.Challenge.pw_oneroom_k62_papers_shown.main.body.getD i (.Pass ⟨0,0,0,0⟩)
abbrev uv:Stmt:=inClass (top 6) 0
abbrev zW:Stmt:=inClass (top 7) 0
abbrev zX:Stmt:=inClass (top 7) 8
abbrev uw:Stmt:=inClass (top 8) 0
abbrev ux:Stmt:=inClass (top 8) 6
abbrev jg:Stmt:=top 9
abbrev zB:Stmt:=top 10
abbrev zY:Stmt:=top 11
abbrev zZ:Stmt:=top 12
abbrev vb:Stmt:=top 13
abbrev yQ:Stmt:=top 14
abbrev uy:Stmt:=top 15
abbrev zC:Stmt:=top 19
abbrev uz:Stmt:=top 20
abbrev vc:Stmt:=top 21
abbrev zD:Stmt:=top 22
abbrev jh:Stmt:=top 23
abbrev zE:Stmt:=top 24
abbrev uA:Stmt:=top 25
abbrev ji:Stmt:=top 26
abbrev yG:Stmt:=top 27
abbrev ze:Stmt:=top 28
abbrev zf:Stmt:=top 29
abbrev vd:Stmt:=top 31
abbrev xae:Stmt:=top 32
abbrev xbp:Stmt:=top 33
abbrev jj:Stmt:=top 34
abbrev xbq:Stmt:=top 35
abbrev xaf:Stmt:=top 36
abbrev jk:Stmt:=top 37
abbrev xag:Stmt:=top 38
abbrev vE:Stmt:=top 39
set_option genInjectivity false in
set_option genSizeOf false in
set_option genSizeOfSpec false in
structure Adr where
 q0w:Addr
 uB:au
 q0o:Addr
 ua:au
 q0p:Addr
 ub:au
 q0x:Addr
 uC:au
 q0y:Addr
 uD:au
 q04:Addr
 jl:au
 q0q:Addr
 zF:au
 q0A:Addr
 uc:au
 q0B:Addr
 ud:au
 q0Q:Addr
 ve:au
 q0f:Addr
 yR:au
 q0H:Addr
 uE:au
 q0r:Addr
 zG:au
 q0I:Addr
 uF:au
 q0R:Addr
 vf:au
 q0s:Addr
 zH:au
 q05:Addr
 jm:au
 q0t:Addr
 zI:au
 q0J:Addr
 uG:au
 q06:Addr
 jn:au
 q0e:Addr
 yH:au
 q0k:Addr
 zg:au
 q0l:Addr
 zh:au
 q0S:Addr
 vg:au
 q1f:Addr
 xah:au
 q1p:Addr
 xbr:au
 q07:Addr
 jo:au
 q1q:Addr
 xbs:au
 q1g:Addr
 xai:au
 q08:Addr
 jq:au
 q1h:Addr
 xaj:au
 q1t:Addr
 xcJ:au
 q0X:Addr
 q0d:Addr
 q0h:Addr
 q0Y:Tok
 q0F:Addr
structure Txt(w:World)(K:ae)(mg:Str→Option Value)(a:Adr):Prop where
 q0Z:Fun K "__init__" "Row.__init__" uv a.q0w a.uB
 jO:Binds K a.uB ["self","to"] []
 q0O:Fun K "__init__" "Take.__init__" zW a.q0o a.ua
 xbR:Binds K a.ua ["self","to","start","count"] []
 q0P:Fun K "told" "Take.told" zX a.q0p a.ub
 vM:Binds K a.ub ["self"] []
 q00:Fun K "__init__" "Put.__init__" uw a.q0x a.uC
 xcK:Binds K a.uC ["self","to","signs"] []
 q01:Fun K "told" "Put.told" ux a.q0y a.uD
 jP:Binds K a.uD ["self"] []
 q0C:Fun K "row_of" "row_of" jg a.q04 a.jl
 uH:Binds K a.jl ["told"] []
 uI:mg "row_of"=some (.ref a.q04)
 q0u:Fun K "tells_take" "tells_take" zB a.q0q a.zF
 xbt:Binds K a.zF ["told"] []
 xbu:mg "tells_take"=some (.ref a.q0q)
 q0D:Fun K "tells_put" "tells_put" zY a.q0A a.uc
 xbS:Binds K a.uc ["told"] []
 xbT:mg "tells_put"=some (.ref a.q0A)
 q0E:Fun K "are_signs" "are_signs" zZ a.q0B a.ud
 xbU:Binds K a.ud ["signs"] []
 xbV:mg "are_signs"=some (.ref a.q0B)
 q0T:Fun K "is_sign" "is_sign" vb a.q0Q a.ve
 xds:Binds K a.ve ["value"] []
 xdt:mg "is_sign"=some (.ref a.q0Q)
 q0b:Fun K "is_whole_from" "is_whole_from" yQ a.q0f a.yR
 yk:Binds K a.yR ["least","value"] []
 yl:mg "is_whole_from"=some (.ref a.q0f)
 q0z:Fun K "is_whole" "is_whole" uy a.q0H a.uE
 jQ:Binds K a.uE ["value"] []
 jR:mg "is_whole"=some (.ref a.q0H)
 q0g:Fun K "paper_text" "paper_text" zC a.q0r a.zG
 zJ:Binds K a.zG ["paper"] []
 zK:mg "paper_text"=some (.ref a.q0r)
 q0K:Fun K "lines_of" "lines_of" uz a.q0I a.uF
 xcL:Binds K a.uF ["paper"] []
 xcM:mg "lines_of"=some (.ref a.q0I)
 q0U:Fun K "line_of" "line_of" vc a.q0R a.vf
 xdu:Binds K a.vf ["told"] []
 xdv:mg "line_of"=some (.ref a.q0R)
 q0v:Fun K "numbers_in" "numbers_in" zD a.q0s a.zH
 xbv:Binds K a.zH ["lines"] []
 xbw:mg "numbers_in"=some (.ref a.q0s)
 q09:Fun K "sum_of" "sum_of" jh a.q05 a.jm
 xea:Binds K a.jm ["numbers"] []
 xeb:mg "sum_of"=some (.ref a.q05)
 q0i:Fun K "read_paper" "read_paper" zE a.q0t a.zI
 vh:Binds K a.zI ["text"] []
 vi:mg "read_paper"=some (.ref a.q0t)
 q0L:Fun K "paper_in" "paper_in" uA a.q0J a.uG
 xcN:Binds K a.uG ["lines"] []
 xcO:mg "paper_in"=some (.ref a.q0J)
 q1a:Fun K "row_in" "row_in" ji a.q06 a.jn
 xec:Binds K a.jn ["words"] []
 xed:mg "row_in"=some (.ref a.q06)
 q0c:Fun K "numbers_behind" "numbers_behind" yG a.q0e a.yH
 zL:Binds K a.yH ["words"] []
 zM:mg "numbers_behind"=some (.ref a.q0e)
 q0m:Fun K "read_number" "read_number" ze a.q0k a.zg
 xaS:Binds K a.zg ["word"] []
 xaT:mg "read_number"=some (.ref a.q0k)
 q0n:Fun K "are_figures" "are_figures" zf a.q0l a.zh
 xaU:Binds K a.zh ["word"] []
 xaV:mg "are_figures"=some (.ref a.q0l)
 q0G:Fun K "_law_cell_at" "_law_cell_at" vd a.q0S a.vg
 xaE:Binds K a.vg ["_law_script","_law_k"] []
 xaF:mg "_law_cell_at"=some (.ref a.q0S)
 q1b:Fun K "_law_mixed" "_law_mixed" xae a.q1f a.xah
 xcl:Binds K a.xah ["_law_cell","_law_k"] []
 xcm:mg "_law_mixed"=some (.ref a.q1f)
 q1r:Fun K "_law_sign" "_law_sign" xbp a.q1p a.xbr
 xfQ:Binds K a.xbr ["_law_cell","_law_k"] []
 xfR:mg "_law_sign"=some (.ref a.q1p)
 q0M:Fun K "_law_number" "_law_number" jj a.q07 a.jo
 jr:Binds K a.jo ["_law_draw","_law_cell"] []
 jt:mg "_law_number"=some (.ref a.q07)
 q1s:Fun K "_law_rows" "_law_rows" xbq a.q1q a.xbs
 xfS:Binds K a.xbs ["_law_script"] []
 xfT:mg "_law_rows"=some (.ref a.q1q)
 q1i:Fun K "_law_shown" "_law_shown" xaf a.q1g a.xai
 xeX:Binds K a.xai ["_law_paper"] []
 xeY:mg "_law_shown"=some (.ref a.q1g)
 q0V:Fun K "_law_length" "_law_length" jk a.q08 a.jq
 xbx:Binds K a.jq ["_law_cell"] []
 xby:mg "_law_length"=some (.ref a.q08)
 q1j:Fun K "_law_plain" "_law_plain" xag a.q1h a.xaj
 xeZ:Binds K a.xaj ["_law_paper"] []
 xe0:mg "_law_plain"=some (.ref a.q1h)
 xa6:Fun K "law" "law" vE a.q1t a.xcJ
 xgJ:Binds K a.xcJ ["_law_script"] []
 xeu:mg "Row"=some (.ref a.q0X)
 q2d:Cls K a.q0X
 q1w:xB K a.q0X "count"
 q1E:xB K a.q0X "to"
 xfU:mg "Take"=some (.ref a.q0d)
 q03:Cls K a.q0d
 q0N:xB K a.q0d "count"
 q02:xB K a.q0d "source"
 q1n:xB K a.q0d "to"
 q1D:Mk K a.q0d a.q0o
 xgk:mg "Put"=some (.ref a.q0h)
 q1k:Cls K a.q0h
 q1c:xB K a.q0h "count"
 q0W:xB K a.q0h "signs"
 q1u:xB K a.q0h "to"
 q1J:Mk K a.q0h a.q0x
 xak:mg "MOST_FIGURES"=some (.int 60 a.q0Y)
 xe1:mg "WORDS"=some (.ref a.q0F)
 xe2:DcK w K a.q0F [("paper",1),("take",2),("put",3)]
 q1l:Meth K a.q0h "told" a.q0y
 q1d:Meth K a.q0d "told" a.q0p
 q1m:xd0 K a.q0X "__init__" a.q0w
 q1Q:mg "abs"=none
 q1I:mg "all"=none
 q1y:mg "bool"=none
 q1z:mg "int"=none
 q0a:mg "isinstance"=none
 q1e:mg "len"=none
 q1A:mg "list"=none
 q1R:mg "min"=none
 q1v:mg "range"=none
 q1o:mg "str"=none
 q0j:mg "tuple"=none
theorem vN:xp ["self","to"] ["self","to"] (xk uv):=⟨rfl,rfl,rfl,by decide+kernel,rfl,by decide+kernel,by decide+kernel⟩
theorem vj:xp ["self","to","start","count"] ["self","to","start","count"] (xk zW):=⟨rfl,rfl,rfl,by decide+kernel,rfl,by decide+kernel,by decide+kernel⟩
theorem vk:xp ["self"] ["self"] (xk zX):=⟨rfl,rfl,rfl,by decide+kernel,rfl,by decide+kernel,by decide+kernel⟩
theorem vO:xp ["self","to","signs"] ["self","to","signs"] (xk uw):=⟨rfl,rfl,rfl,by decide+kernel,rfl,by decide+kernel,by decide+kernel⟩
theorem vP:xp ["self"] ["self"] (xk ux):=⟨rfl,rfl,rfl,by decide+kernel,rfl,by decide+kernel,by decide+kernel⟩
theorem xaG:xp ["told"] ["told"] (xk jg):=⟨rfl,rfl,rfl,by decide+kernel,rfl,by decide+kernel,by decide+kernel⟩
theorem uL:xp ["told"] ["told"] (xk zB):=⟨rfl,rfl,rfl,by decide+kernel,rfl,by decide+kernel,by decide+kernel⟩
theorem vm:xp ["told"] ["told"] (xk zY):=⟨rfl,rfl,rfl,by decide+kernel,rfl,by decide+kernel,by decide+kernel⟩
theorem vn:xp ["signs"] ["signs"] (xk zZ):=⟨rfl,rfl,rfl,by decide+kernel,rfl,by decide+kernel,by decide+kernel⟩
theorem jS:xp ["value"] ["value"] (xk vb):=⟨rfl,rfl,rfl,by decide+kernel,rfl,by decide+kernel,by decide+kernel⟩
theorem zN:xp ["least","value"] ["least","value"] (xk yQ):=⟨rfl,rfl,rfl,by decide+kernel,rfl,by decide+kernel,by decide+kernel⟩
theorem vQ:xp ["value"] ["value"] (xk uy):=⟨rfl,rfl,rfl,by decide+kernel,rfl,by decide+kernel,by decide+kernel⟩
theorem uM:xp ["paper","lines","shown","total"] ["paper"] (xk zC):=⟨rfl,rfl,rfl,by decide+kernel,rfl,by decide+kernel,by decide+kernel⟩
theorem vR:xp ["paper","lines"] ["paper"] (xk uz):=⟨rfl,rfl,rfl,by decide+kernel,rfl,by decide+kernel,by decide+kernel⟩
theorem jT:xp ["told"] ["told"] (xk vc):=⟨rfl,rfl,rfl,by decide+kernel,rfl,by decide+kernel,by decide+kernel⟩
theorem uN:xp ["lines","numbers","line"] ["lines"] (xk zD):=⟨rfl,rfl,rfl,by decide+kernel,rfl,by decide+kernel,by decide+kernel⟩
theorem xaH:xp ["numbers","total","number"] ["numbers"] (xk jh):=⟨rfl,rfl,rfl,by decide+kernel,rfl,by decide+kernel,by decide+kernel⟩
theorem uO:xp ["text","paper"] ["text"] (xk zE):=⟨rfl,rfl,rfl,by decide+kernel,rfl,by decide+kernel,by decide+kernel⟩
theorem vS:xp ["lines","lengths"] ["lines"] (xk uA):=⟨rfl,rfl,rfl,by decide+kernel,rfl,by decide+kernel,by decide+kernel⟩
theorem xaI:xp ["words","numbers","told"] ["words"] (xk ji):=⟨rfl,rfl,rfl,by decide+kernel,rfl,by decide+kernel,by decide+kernel⟩
theorem zj:xp ["words","numbers"] ["words"] (xk yG):=⟨rfl,rfl,rfl,by decide+kernel,rfl,by decide+kernel,by decide+kernel⟩
theorem uj:xp ["word","figures","number"] ["word"] (xk ze):=⟨rfl,rfl,rfl,by decide+kernel,rfl,by decide+kernel,by decide+kernel⟩
theorem uk:xp ["word"] ["word"] (xk zf):=⟨rfl,rfl,rfl,by decide+kernel,rfl,by decide+kernel,by decide+kernel⟩
theorem jU:xp ["_law_script","_law_k"] ["_law_script","_law_k"] (xk vd):=⟨rfl,rfl,rfl,by decide+kernel,rfl,by decide+kernel,by decide+kernel⟩
theorem xbz:xp ["_law_cell","_law_k","_law_number_here"] ["_law_cell","_law_k"] (xk xae):=⟨rfl,rfl,rfl,by decide+kernel,rfl,by decide+kernel,by decide+kernel⟩
theorem xcn:xp ["_law_cell","_law_k","_law_draw"] ["_law_cell","_law_k"] (xk xbp):=⟨rfl,rfl,rfl,by decide+kernel,rfl,by decide+kernel,by decide+kernel⟩
theorem xaJ:xp ["_law_draw","_law_cell"] ["_law_draw","_law_cell"] (xk jj):=⟨rfl,rfl,rfl,by decide+kernel,rfl,by decide+kernel,by decide+kernel⟩
theorem xco:xp ["_law_script","_law_rows_here","_law_k","_law_draw","_law_to","_law_signs"] ["_law_script"] (xk xbq):=⟨rfl,rfl,rfl,by decide+kernel,rfl,by decide+kernel,by decide+kernel⟩
theorem xbA:xp ["_law_paper","_law_old","_law_new","_law_rows_here","_law_lines","_law_numbers","_law_row","_law_some","_law_total","_law_number_here"] ["_law_paper"] (xk xaf):=⟨rfl,rfl,rfl,by decide+kernel,rfl,by decide+kernel,by decide+kernel⟩
theorem xaK:xp ["_law_cell"] ["_law_cell"] (xk jk):=⟨rfl,rfl,rfl,by decide+kernel,rfl,by decide+kernel,by decide+kernel⟩
theorem xbB:xp ["_law_paper","_law_numbers","_law_row"] ["_law_paper"] (xk xag):=⟨rfl,rfl,rfl,by decide+kernel,rfl,by decide+kernel,by decide+kernel⟩
theorem xdw:xp ["_law_script","_law_old","_law_new","_law_paper","_law_due","_law_k","_law_got"] ["_law_script"] (xk vE):=⟨rfl,rfl,rfl,by decide+kernel,rfl,by decide+kernel,by decide+kernel⟩
def xcP(to st c:Int):List (Str×V):=[("to",.int to),("count",.int c),("source",.int st)]
def xcQ(to:Int)(t:Addr)(n:Int):List (Str×V):=[("to",.int to),("count",.int n),("signs",.ref t)]
inductive xq where
 |take (to st c:Int)
 |put (to:Int) (sg:List Int)
def xq.isTake:xq→Bool
 | .take .. =>true
 | .put .. =>false
def TupAt(K:ae)(H:Hp)(t:Addr):xq→Prop
 | .take to st c=>H t=some (.tup [.str "take",.int to,.int st,.int c])
 | .put to sg=>∃u,H t=some (.tup [.str "put",.int to,.ref u])∧H u=some (.tup (sg.map V.int))
theorem TupAt.same{K:ae}{H H':Hp}{t:Addr}{r:xq}(h:TupAt K H t r)(s:xf H H'):TupAt K H' t r:=by
 cases r with
 |take to st c=>exact s.at h
 |put to sg=>obtain⟨u,h1,h2⟩:=h;exact⟨u,s.at h1,s.at h2⟩
def xgl(K:ae)(a:Adr)(H:Hp)(o:Addr):xq→Prop
 | .take to st c=>∃dx,H o=some (.ins a.q0d dx (xcP to st c))
 | .put to sg=>∃dx u,H o=some (.ins a.q0h dx (xcQ to u sg.length))∧H u=some (.tup (sg.map V.int))
theorem TupAt.mv{K:ae}{H H' H6:Hp}{t:Addr}{r:xq}(h:TupAt K H' t r)(k:∀p o,(H p=none∨∀ys,o≠HO.lst ys)→H' p=some o→H6 p=some o):TupAt K H6 t r:=by
 cases r with
 |take to st c=>exact k _ _ (.inr fun ys z=>by cases z) h
 |put to sg=>obtain⟨u,h1,h2⟩:=h;exact⟨u,k _ _ (.inr fun ys z=>by cases z) h1,k _ _ (.inr fun ys z=>by cases z) h2⟩
def xq.ok:xq→Prop
 | .take to st c=>0≤to∧0≤st∧1≤c
 | .put to sg=>0≤to∧sg≠[]∧sg.length≤100000∧∀x∈sg,(x.natAbs:Int)<10^60
def xq.dat:xq→cg
 | .take to st c=>.tuple [.str "take",.int to,.int st,.int c]
 | .put to sg=>.tuple [.str "put",.int to,.tuple (sg.map cD)]
theorem xbC{K:ae}{H:Hp}:∀xs:List Int,Rps K H (xs.map V.int) (xs.map cD)
 |[]=>.nil
 |x::xs=>.cons (.int x) (xbC xs)
theorem TupAt.rp{K:ae}{H:Hp}{t:Addr}{r:xq}(h:TupAt K H t r):Rp K H (.ref t) r.dat:=by
 cases r with
 |take to st c=>exact .tup (SqT.of h) (.cons (.str _) (.cons (.int _) (.cons (.int _) (.cons (.int _) .nil))))
 |put to sg=>obtain⟨u,h1,h2⟩:=h;exact .tup (SqT.of h1) (.cons (.str _) (.cons (.int _) (.cons (.tup (SqT.of h2) (xbC sg)) .nil)))
theorem xe3(r:xq):cb r.dat=true:=by
 cases r with
 |take to st c=>simp[xq.dat,cb,bx];decide+kernel
 |put to sg=>simp[xq.dat,cb,bx,W.ke_canLayAll0 sg];decide+kernel
theorem xdx(r:xq):cF r.dat≤2:=by
 cases r with
 |take to st c=>simp[xq.dat,cF,bI]
 |put to sg=>simp[xq.dat,cF,bI,W.ke_depthAll sg]
theorem xbD:∀rs:List xq,bx (rs.map xq.dat)=true
 |[]=>by simp[bx]
 |x::r=>by simp only[bb,bx,xe3,xbD r,Bool.and_true]
theorem jV:∀rs:List xq,bI (rs.map xq.dat)≤2
 |[]=>by simp[bI]
 |x::r=>by
  simp only[bb,bI];have:=xdx x;have:=jV r;lia
theorem xcp{K:ae}{H:Hp}:∀{ts:List Addr} {rs:List xq},Paired (TupAt K H) ts rs→Rps K H (ts.map V.ref) (rs.map xq.dat)
 |_,_,.nil=>.nil
 |_,_,.cons x xs=>.cons x.rp (xcp xs)
theorem xdy{K:ae}{H:Hp}{t p C dx:Addr}{xs:List V}{fs:List (Str×V)}{o:HO}(h:SqT K H t xs)(hp:H p=some (.ins C dx fs)):SqT K (upd H p o) t xs:=by
 rcases h with(h|⟨ob,h⟩)|h
 ·exact .inl (.inl (by rw[xA (vw h hp (by intro z;cases z))];exact h))
 ·exact .inl (.inr ⟨ob,by rw[xA (vw h hp (by intro z;cases z))];exact h⟩)
 ·exact .inr h
def xbW(K:ae):Sp:=fun vs H Q _=>∃(p C dx:Addr) (to:Int),vs=[.ref p,.int to]∧H p=some (.ins C dx [])∧Cls K C∧xB K C "to"∧xB K C "count"∧Q .non (upd H p (.ins C dx [("to",.int to),("count",.int 0)]))
def xbE(a:Adr):Sp:=fun vs H Q _=>∃(p dx:Addr) (to st c:Int),vs=[.ref p,.int to,.int st,.int c]∧H p=some (.ins a.q0d dx [])∧Q .non (upd H p (.ins a.q0d dx (xcP to st c)))
def xbX(K:ae)(a:Adr):Sp:=fun vs H Q _=>∃(p dx t:Addr) (to:Int) (xs:List V),vs=[.ref p,.int to,.ref t]∧H p=some (.ins a.q0h dx [])∧SqT K H t xs∧Q .non (upd H p (.ins a.q0h dx (xcQ to t xs.length)))
def xgG(H:Hp)(Q:VK)(ns:List Int):Prop:=∀(l:Addr) (H':Hp),xf H H'→H l=none→H' l=some (.lst (ns.map V.int))→Q (.ref l) H'
def xbY:Sp:=fun vs H Q _=>∃i:Int,vs=[.int i]∧Q (.bl true) H
def ju:Sp:=fun vs H Q _=>∃l i:Int,vs=[.int l,.int i]∧Q (.bl (decide (l≤i))) H
def xcR:Sp:=fun vs H Q _=>∃i:Int,vs=[.int i]∧(i.natAbs:Int)<10^60∧Q (.bl true) H
def xbF(K:ae):Sp:=fun vs H Q _=>∃(u:Addr) (sg:List Int),vs=[.ref u]∧H u=some (.tup (sg.map V.int))∧sg≠[]∧sg.length≤100000∧(∀x∈sg,(x.natAbs:Int)<10^60)∧∀H',xf H H'→Q (.bl true) H'
def xaW(K:ae):Sp:=fun vs H Q _=>∃(t:Addr) (r:xq),vs=[.ref t]∧TupAt K H t r∧r.ok∧Q (.bl r.isTake) H
def xbG(K:ae):Sp:=fun vs H Q _=>∃(t:Addr) (to:Int) (sg:List Int),vs=[.ref t]∧TupAt K H t (.put to sg)∧xq.ok (.put to sg)∧∀H',xf H H'→Q (.bl true) H'
def xdz(K:ae)(a:Adr):Sp:=fun vs H Q _=>∃(t:Addr) (r:xq),vs=[.ref t]∧TupAt K H t r∧r.ok∧∀(o:Addr) (H':Hp),xf H H'→H o=none→xgl K a H' o r→Q (.ref o) H'
def xee(a:Adr):Sp:=fun vs H Q _=>∃(o dx:Addr) (to st c:Int),vs=[.ref o]∧H o=some (.ins a.q0d dx (xcP to st c))∧∀t,H t=none→Q (.ref t) (upd H t (.tup [.str "take",.int to,.int st,.int c]))
def xef(a:Adr):Sp:=fun vs H Q _=>∃(o dx u:Addr) (to n:Int),vs=[.ref o]∧H o=some (.ins a.q0h dx (xcQ to u n))∧∀t,H t=none→Q (.ref t) (upd H t (.tup [.str "put",.int to,.ref u]))
def mixed(c k:Int):Int:=
 let n:=(c%2147483647+7919*k+1)*48271%2147483647
 n*(n / 1009+69621)%2147483647
def cellAt(ns:List Int)(k:Int):Int:=if k<ns.length then ns.getD k.toNat 0 else 0
def xcS(K:ae):Sp:=fun vs H Q _=>∃(l:Addr) (ns:List Int) (k:Int),vs=[.ref l,.int k]∧SqL K H l (ns.map V.int)∧0≤k∧Q (.int (cellAt ns k)) H
def xeg:Sp:=fun vs H Q _=>∃c k:Int,vs=[.int c,.int k]∧Q (.int (mixed c k)) H
def uJ(t n:Int):Int:=(t*31+n+7)%1000003
def yS(ns:List Int):Int:=ns.foldl uJ 0
theorem xbH(t n:Int):0≤uJ t n∧uJ t n<1000003:=⟨aY _ (by decide),aO _ (by decide)⟩
theorem xbI:∀(ns:List Int) (t:Int),0≤t→t<1000003→0≤ns.foldl uJ t∧ns.foldl uJ t<1000003
 |[],_,a,b=>⟨a,b⟩
 |n::ns,t,_,_=>xbI ns (uJ t n) (xbH t n).1 (xbH t n).2
theorem xe4(ns:List Int):0≤yS ns∧yS ns<1000003:=xbI ns 0 (by decide) (by decide)
theorem xaL(ns:List Int)(x:Int):yS (ns++[x])=uJ (yS ns) x:=by
 unfold yS;rw[List.foldl_append];rfl
def Sm(x:Int):Prop:=(x.natAbs:Int)<10^60
structure Ln where
 w:Str
 c:Int
 ns:List Int
def vF:List (Str×Int):=[("paper",1),("take",2),("put",3)]
def Ln.ok(l:Ln):Prop:=(l.w,l.c)∈vF∧l.ns≠[]∧l.ns.length≤7∧∀x∈l.ns,Sm x
def Ln.ws(l:Ln):List Str:=l.w::l.ns.map xD
def Ln.txt(l:Ln):Str:=a9 ⟨#[32]⟩ l.ws
def zO(H:Hp)(u:Addr)(l:Ln):Prop:=H u=some (.tup (.str l.w::l.ns.map V.int))
def xq.ln:xq→Ln
 | .take to st c=>⟨"take",2,[to,st,c]⟩
 | .put to sg=>⟨"put",3,to::sg⟩
def lns(o n:Int)(rs:List xq):List Ln:=⟨"paper",1,[o,n]⟩::rs.map xq.ln
def xU(ls:List Ln):List Int:=ls.flatMap fun l=>l.c::l.ns
def vo(ls:List Ln):Str:=("sum ":Str)++xD (yS (xU ls))
def xT(ls:List Ln):List Str:=ls.map Ln.txt++[vo ls]
def zb(ls:List Ln):Str:=a9 ⟨#[10]⟩ (xT ls)
def yE(K:ae)(H:Hp)(p:Addr)(o n:Int)(rs:List xq):Prop:=∃t ts,H p=some (.tup [.int o,.int n,.ref t])∧H t=some (.tup (ts.map V.ref))∧Paired (TupAt K H) ts rs
theorem yE.same{K:ae}{H H':Hp}{p:Addr}{o n:Int}{rs:List xq}(h:yE K H p o n rs)(s:xf H H'):yE K H' p o n rs:=by
 obtain⟨t,ts,h1,h2,h3⟩:=h;exact⟨t,ts,s.at h1,s.at h2,L2.Paired.imp' (fun _ _ z=>z.same s) h3⟩
structure Pok(o n:Int)(rs:List xq):Prop where
 o:Sm o
 n:Sm n
 few:rs.length≤20
 ok:∀r∈rs,r.ok
 ln:∀r∈rs,r.ln.ok
theorem Pok.lns{o n:Int}{rs:List xq}(h:Pok o n rs):∀l∈lns o n rs,l.ok:=by
 intro l hl;rcases aC.mp hl with rfl|hl
 ·refine⟨by simp[vF],by simp,by simp,fun x hx=>?_⟩;rcases aC.mp hx with rfl|hx
  ·exact h.o
  ·rw[br.mp hx];exact h.n
 ·obtain⟨r,hr,rfl⟩:=bM.mp hl;exact h.ln r hr
theorem xaM{w:Str}{c:Int}(h:(w,c)∈vF){d:Nat}(hd:d<97):d∉w.cps.toList∧w.length≤5:=by
 unfold vF at h;simp only[aC,Prod.mk.injEq,bE,or_false]at h;rcases h with⟨rfl,_⟩|⟨rfl,_⟩|⟨rfl,_⟩
 ·refine⟨?_,by decide⟩;rw[show("paper":Str).cps.toList=[112,97,112,101,114]from rfl];simp only[aC,bE,or_false];lia
 ·refine⟨?_,by decide⟩;rw[show("take":Str).cps.toList=[116,97,107,101]from rfl];simp only[aC,bE,or_false];lia
 ·refine⟨?_,by decide⟩;rw[show("put":Str).cps.toList=[112,117,116]from rfl];simp only[aC,bE,or_false];lia
theorem Ln.ok.ws{l:Ln}(h:l.ok){d:Nat}(h1:d≠45)(h2:d<48):∀p∈l.ws,d∉p.cps.toList:=by
 intro p hp;rcases aC.mp hp with rfl|hp
 ·exact(xaM h.1 (by lia)).1
 ·obtain⟨n,_,rfl⟩:=bM.mp hp;exact xaD n h1 h2
theorem Ln.ok.wlen{l:Ln}(h:l.ok):∀p∈l.ws,p.length≤61:=by
 intro p hp;rcases aC.mp hp with rfl|hp
 ·have:=(xaM h.1 (d:=0) (by decide)).2;lia
 ·obtain⟨n,hn,rfl⟩:=bM.mp hp;exact za (h.2.2.2 n hn)
theorem Ln.ok.len{l:Ln}(h:l.ok):l.txt.length≤496:=by
 have h1:=jf (d:=32) l.ws h.wlen;have h2:l.ws.length≤8:=by
  have:=h.2.2.1;unfold Ln.ws;rw[aw,ab];lia
 have h3:l.ws.length*62≤8*62:=bU _ h2;exact ax h1 (ax h3 (by decide))
theorem xbJ(ns:List Int):Sm (yS ns):=by
 have:=xe4 ns;unfold Sm;lia
theorem jv(ls:List Ln):(vo ls).length≤65:=by
 unfold vo;rw[len_app];have:=za (xbJ (xU ls));have e:("sum ":Str).length=4:=rfl;lia
theorem xdA(ls:List Ln):10∉(vo ls).cps.toList:=xd9 (by rw[show("sum ":Str).cps.toList=[115,117,109,32]from rfl];decide) (xaD _ (by decide) (by decide))
theorem vp{ls:List Ln}(h:∀l∈ls,l.ok):∀p∈xT ls,p.length≤496:=by
 intro p hp;rcases bf.mp hp with hp|hp
 ·obtain⟨l,hl,rfl⟩:=bM.mp hp;exact(h l hl).len
 ·rw[br.mp hp];have:=jv ls;lia
theorem xcT{ls:List Ln}(h:∀l∈ls,l.ok):∀p∈xT ls,10∉p.cps.toList:=by
 intro p hp;rcases bf.mp hp with hp|hp
 ·obtain⟨l,hl,rfl⟩:=bM.mp hp;exact xaC (by decide) ((h l hl).ws (by decide) (by decide))
 ·rw[br.mp hp];exact xdA ls
theorem vG(ls:List Ln):(xT ls).length=ls.length+1:=by
 unfold xT;simp
theorem vq{ls:List Ln}(h:∀l∈ls,l.ok)(hn:ls.length≤21):(zb ls).length≤10934:=by
 have h1:=jf (d:=10) (xT ls) (vp h);rw[vG]at h1;have h3:(ls.length+1)*497≤22*497:=bU _ (by lia);exact ax h1 (ax h3 (by decide))
theorem jW{ls:List Ln}(h:∀l∈ls,l.ok)(hn:ls.length≤21):uu ⟨#[10]⟩ (xT ls)≤10934:=by
 have h1:=xbo (d:=10) (xT ls) (vp h);rw[vG]at h1;have h3:(ls.length+1)*497≤22*497:=bU _ (by lia);exact ax h1 (ax h3 (by decide))
theorem Ln.ok.uu{l:Ln}(h:l.ok):uu ⟨#[32]⟩ l.ws≤496:=by
 have h1:=xbo (d:=32) l.ws h.wlen;have h2:l.ws.length≤8:=by
  have:=h.2.2.1;unfold Ln.ws;rw[aw,ab];lia
 have h3:l.ws.length*62≤8*62:=bU _ h2;exact ax h1 (ax h3 (by decide))
theorem xcU{ls:List Ln}(h:∀l∈ls,l.ok):PySem.Txt.split (zb ls) ⟨#[10]⟩=xT ls:=
 jN (by unfold xT;simp) (xcT h)
theorem Ln.ok.split{l:Ln}(h:l.ok):PySem.Txt.split l.txt ⟨#[32]⟩=l.ws:=jN (by unfold Ln.ws;simp) (h.ws (by decide) (by decide))
def xdB(K:ae):Sp:=fun vs H Q _=>∃(l:Addr) (ns:List Int),vs=[.ref l]∧SqL K H l (ns.map V.int)∧Q (.int (yS ns)) H
def jX(K:ae):Sp:=fun vs H Q _=>∃(t:Addr) (r:xq),vs=[.ref t]∧TupAt K H t r∧r.ln.ok∧∀u H',xf H H'→zO H' u r.ln→Q (.ref u) H'
def xbZ(K:ae):Sp:=fun vs H Q _=>∃(p:Addr) (o n:Int) (rs:List xq),vs=[.ref p]∧yE K H p o n rs∧Pok o n rs∧∀(l:Addr) (us:List Addr) (H':Hp),xf H H'→H l=none→H' l=some (.lst (us.map V.ref))→Paired (zO H') us (lns o n rs)→Q (.ref l) H'
def xaX(K:ae):Sp:=fun vs H Q _=>∃(l:Addr) (us:List Addr) (ls:List Ln),vs=[.ref l]∧H l=some (.lst (us.map V.ref))∧Paired (zO H) us ls∧(∀x∈ls,x.ok)∧ls.length≤21∧xgG H Q (xU ls)
def xaY(K:ae):Sp:=fun vs H Q _=>∃(p:Addr) (o n:Int) (rs:List xq),vs=[.ref p]∧yE K H p o n rs∧Pok o n rs∧∀H',xf H H'→Q (.str (zb (lns o n rs))) H'
def xal:Sp:=fun vs H Q _=>∃m:Nat,vs=[.str ⟨(xG m).toArray⟩]∧(xG m).length≤60∧∀H',xf H H'→Q (.bl true) H'
def xam:Sp:=fun vs H Q _=>∃n:Int,vs=[.str (xD n)]∧Sm n∧∀H',xf H H'→Q (.int n) H'
def zP(H:Hp)(l:Addr)(x:Ln):Prop:=H l=some (.lst (x.ws.map V.str))
def vJ:Sp:=fun vs H Q _=>∃(l:Addr) (x:Ln),vs=[.ref l]∧zP H l x∧x.ok∧∀u H',xf H H'→H u=none→H' u=some (.tup (x.ns.map V.int))→Q (.ref u) H'
def xdC(K:ae):Sp:=fun vs H Q _=>∃(l:Addr) (r:xq),vs=[.ref l]∧zP H l r.ln∧r.ok∧r.ln.ok∧∀t H',xf H H'→TupAt K H' t r→Q (.ref t) H'
def xb0(K:ae):Sp:=fun vs H Q _=>∃(l:Addr) (us:List Addr) (z:Addr) (o n:Int) (rs:List xq),vs=[.ref l]∧H l=some (.lst ((us++[z]).map V.ref))∧Paired (zP H) us (lns o n rs)∧Pok o n rs∧∀p H',xf H H'→yE K H' p o n rs→Q (.ref p) H'
def xaZ(K:ae):Sp:=fun vs H Q _=>∃(o n:Int) (rs:List xq),vs=[.str (zb (lns o n rs))]∧Pok o n rs∧∀p H',xf H H'→yE K H' p o n rs→Q (.ref p) H'
def xbK(K:ae):Sp:=fun vs H Q _=>∃(l:Addr) (ns:List Int),vs=[.ref l]∧SqL K H l (ns.map V.int)∧ns.length≤63∧∀H',Q (.bl true) H'
local macro_rules| `(tactic|walk_at"w")=>`(tactic|(conv=>whnf))
local macro_rules| `(tactic|walk_at"few")=>`(tactic|first|exact Nat.lt_of_lt_of_le (xeQ (n:=998) (by simp)) (by decide)|(simp;done))
local macro_rules| `(tactic|walk_at"pos")=>`(tactic|first|(show(0:Int)<_;decide)|(show(0:Int)<_;lia)|assumption)
local macro_rules| `(tactic|walk_at"same")=>`(tactic|first|exact xf.refl _|assumption|(refine' xf.trans ?sa ?sb;(case sb=>assumption);(case sa=>walk_at"same")))
local macro_rules| `(tactic|walk_at"get")=>`(tactic|first|assumption|exact xl|(refine' xf.at ?ga ?gb;(case gb=>assumption);(case ga=>walk_at"same")))
local macro_rules| `(tactic|walk_at"sq")=>`(tactic|first|assumption|(refine' SqL.of ?g;(case g=>walk_at"get"))|(refine' SqT.of ?g;(case g=>walk_at"get"))|(refine' xf.seq ?sa ?sb;(case sb=>assumption);(case sa=>walk_at"same"))|(refine' xf.seqT ?sa ?sb;(case sb=>assumption);(case sa=>walk_at"same"))|(refine' Or.inl ?g;(case g=>walk_at"sq"))|(refine' Or.inr ?g;(case g=>walk_at"sq")))
local macro_rules| `(tactic|walk_at"no")=>`(tactic|(intro z;first|cases z|(simp at z;done)))
local macro_rules| `(tactic|walk_at"mul")=>`(tactic|first|exact Or.inl ⟨by decide,by decide⟩|exact Or.inr ⟨by decide,by decide⟩|exact Or.inl ⟨by lia,by lia⟩|exact Or.inr ⟨by lia,by lia⟩)
local macro_rules| `(tactic|walk_at"side")=>`(tactic|first|exact⟨by decide,by decide⟩|exact⟨by decide,by decide,by decide⟩|walk_at"pos" |walk_at"mul" |(show(_:Nat)≤sizeLine;first|decide|(simp only[List.length_cons,List.length_nil];decide)))
local macro_rules| `(tactic|walk_at"s")=>`(tactic|(refine And.intro (by walk_at"side") ?_;walk_at"w"))
local macro_rules| `(tactic|walk_at"ss")=>`(tactic|(repeat (walk_at"s")))
section
variable {P:aF} {w:World} {K:ae} {mg:Str→Option Value} {base:Heap} {a:Adr}
theorem vT(T:Txt w K mg a):xx P w K mg base CX0 1 a.q0w a.uB ["self","to"] (xbW K):=by
 refine T.q0Z.ok vN (fun vs H Q E h=>?_) (fun cdv A outer s H vs Q E hr h=>?_)
 ·obtain⟨p,C,dx,to,rfl,_⟩:=h;rfl
 ·obtain⟨p,C,dx,to,rfl,hp,c,n1,n2,k⟩:=h;have nd:=vN.nd;refine⟨_,(xg (uf (cv 0) (cv 1) rfl)
  (xh (uf (cv 0) xc rfl))),?_⟩
  walk_at"w";refine⟨p,C,dx,_,rfl,hp,c,n1,by walk_at"few",?_⟩;walk_at"w";refine⟨p,C,dx,_,rfl,xl,c,n2,by walk_at"few",?_⟩;walk_at"w";rw[yT];exact k
theorem xbL(T:Txt w K mg a):xx P w K mg base CX0 2 a.q0o a.ua ["self","to","start","count"] (xbE a):=by
 refine T.q0O.ok vj (fun vs H Q E h=>?_) (fun cdv A outer s H vs Q E hr h=>?_)
 ·obtain⟨p,dx,to,st,c,rfl,_⟩:=h;rfl
 ·obtain⟨p,dx,to,st,c,rfl,hp,k⟩:=h;have nd:=vj.nd;refine⟨_,(xg (yt (xcf (by rfl) T.xeu T.q1m (vT T) (hr.mono (by decide)) T.jO .nil xo (xa (cv 0) (xa (cv 1) xb))))
  (xg (uf (cv 0) (cv 2) rfl)
  (xh (uf (cv 0) (cv 3) rfl)))),?_⟩
  walk_at"w";refine⟨p,_,dx,to,rfl,hp,T.q03,T.q1n,T.q0N,?_⟩;walk_at"w";refine⟨p,_,dx,_,rfl,xl,T.q03,T.q02,by walk_at"few",?_⟩;walk_at"w";refine⟨p,_,dx,_,rfl,xl,T.q03,T.q0N,by walk_at"few",?_⟩;walk_at"w";rw[yT,yT];exact k
theorem xb1(T:Txt w K mg a):xx P w K mg base CX0 2 a.q0x a.uC ["self","to","signs"] (xbX K a):=by
 refine T.q00.ok vO (fun vs H Q E h=>?_) (fun cdv A outer s H vs Q E hr h=>?_)
 ·obtain⟨p,dx,t,to,xs,rfl,_⟩:=h;rfl
 ·obtain⟨p,dx,t,to,xs,rfl,hp,ht,k⟩:=h;have nd:=vO.nd;have ht1:∀o,SqT K (upd H p o) t xs:=fun o=>xdy ht hp;refine⟨_,(xg (yt (xcf (by rfl) T.xeu T.q1m (vT T) (hr.mono (by decide)) T.jO .nil xo (xa (cv 0) (xa (cv 1) xb))))
  (xg (uf (cv 0) (xF ye (by rfl) T.q0j xO (xa (cv 2) xb)) rfl)
  (xh (uf (cv 0) (xv xQ (by rfl) T.q1e yO (xa (ue (cv 0) rfl) xb)) rfl)))),?_⟩
  walk_at"w";refine⟨p,_,dx,to,rfl,hp,T.q1k,T.q1u,T.q1c,?_⟩;walk_at"w";refine⟨t,xs,rfl,.inr ⟨ht1 _,?_⟩⟩;walk_at"w";refine⟨p,_,dx,_,rfl,xl,T.q1k,T.q0W,by walk_at"few",?_⟩;walk_at"w";refine⟨p,_,dx,_,.ref t,rfl,xl,T.q1k,T.q0W,rfl,?_⟩;walk_at"w";refine⟨t,xs,rfl,.inr (xdy (ht1 _) xl),?_⟩;walk_at"w";refine⟨p,_,dx,_,rfl,xl,T.q1k,T.q1c,by walk_at"few",?_⟩;walk_at"w";rw[yT,yT];exact k
theorem vt(T:Txt w K mg a):xx P w K mg base CX0 1 a.q0p a.ub ["self"] (xee a):=by
 refine T.q0P.ok vk (fun vs H Q E h=>?_) (fun cdv A outer s H vs Q E hr h=>?_)
 ·obtain⟨o,dx,to,st,c,rfl,_⟩:=h;rfl
 ·obtain⟨o,dx,to,st,c,rfl,h1,k⟩:=h;have nd:=vk.nd;refine⟨_,(xh (xn (yB (xa xC (xa (ue (cv 0) rfl) (xa (ue (cv 0) rfl) (xa (ue (cv 0) rfl) xb))))))),?_⟩;walk_at"w";refine⟨o,_,dx,_,.int to,rfl,h1,T.q03,T.q1n,rfl,?_⟩;walk_at"w";refine⟨o,_,dx,_,.int st,rfl,h1,T.q03,T.q02,rfl,?_⟩;walk_at"w";refine⟨o,_,dx,_,.int c,rfl,h1,T.q03,T.q0N,rfl,?_⟩;walk_at"w";exact⟨by walk_at"side",k⟩
theorem vU(T:Txt w K mg a):xx P w K mg base CX0 1 a.q0y a.uD ["self"] (xef a):=by
 refine T.q01.ok vP (fun vs H Q E h=>?_) (fun cdv A outer s H vs Q E hr h=>?_)
 ·obtain⟨o,dx,u,to,n,rfl,_⟩:=h;rfl
 ·obtain⟨o,dx,u,to,n,rfl,h1,k⟩:=h;have nd:=vP.nd;refine⟨_,(xh (xn (yB (xa xC (xa (ue (cv 0) rfl) (xa (ue (cv 0) rfl) xb)))))),?_⟩;walk_at"w";refine⟨o,_,dx,_,.int to,rfl,h1,T.q1k,T.q1u,rfl,?_⟩;walk_at"w";refine⟨o,_,dx,_,.ref u,rfl,h1,T.q1k,T.q0W,rfl,?_⟩;walk_at"w";exact⟨by walk_at"side",k⟩
theorem jY(T:Txt w K mg a):xx P w K mg base CX0 1 a.q0S a.vg ["_law_script","_law_k"] (xcS K):=by
 refine T.q0G.ok jU (fun vs H Q E h=>?_) (fun cdv A outer s H vs Q E hr h=>?_)
 ·obtain⟨l,ns,k,rfl,_⟩:=h;rfl
 ·obtain⟨l,ns,k,rfl,hl,hk,q⟩:=h;have nd:=jU.nd;refine⟨_,(xg (xI (xH xfB (cv 1) (xv xQ (by rfl) T.q1e yO (xa (cv 0) xb))) (xh (xn (xt yg (cv 0) (cv 1) (fun _ _=>rfl)))) xE)
  (xh (xn xc))),?_⟩
  walk_at"w";refine⟨l,_,rfl,.inl hl,?_⟩;walk_at"w";refine⟨fun e=>?_,fun e=>?_⟩
  ·have e':=of_decide_eq_true e;rw[ab]at e';walk_at"w";refine⟨l,_,k,.int (ns.getD k.toNat 0),rfl,rfl,hl,?_,?_⟩
   ·have hk':k.toNat<ns.length:=by lia
    have:=yv (xs:=ns.map V.int) (j:=k.toNat) (v:=.int (ns.getD k.toNat 0)) (by simp[hk'])
    rwa [cH hk]at this
   ·walk_at"w";rw[cellAt,if_pos e']at q;exact q
  ·have e':=of_decide_eq_false e;rw[ab]at e';rw[cellAt,if_neg e']at q;exact q
theorem uK(x:Int):0≤x%2147483647∧x%2147483647<2147483647:=⟨aY _ (by decide),aO _ (by decide)⟩
theorem xbM(T:Txt w K mg a):xx P w K mg base CX0 1 a.q1f a.xah ["_law_cell","_law_k"] xeg:=by
 refine T.q1b.ok xbz (fun vs H Q E h=>?_) (fun cdv A outer s H vs Q E hr h=>?_)
 ·obtain⟨c,k,rfl,_⟩:=h;rfl
 ·obtain⟨c,k,rfl,q⟩:=h;have nd:=xbz.nd;refine⟨_,(xg (xr (i:=2) nd rfl (aB rfl) (xj xX (xj zQ (xj yy (xj yy (xj xX (cv 0) xc) (xj zQ xc (cv 1))) xc) xc) xc))
  (xh (xn (xj xX (xj zQ (cv 2) (xj yy (xj yM (cv 2) xc) xc)) xc)))),?_⟩
  have b:=uK ((c%2147483647+7919*k+1)*48271);walk_at"w";refine⟨by walk_at"pos",?_⟩;walk_at"w";refine⟨.inl ⟨by decide,by decide⟩,?_⟩;walk_at"w";refine⟨.inr ⟨by decide,by decide⟩,?_⟩;walk_at"w";refine⟨by walk_at"pos",?_⟩;walk_at"w";refine⟨⟨by decide,by decide⟩,?_⟩;walk_at"w";refine⟨.inl ⟨by lia,by lia⟩,?_⟩;walk_at"w";refine⟨by walk_at"pos",?_⟩;exact q
theorem vV(T:Txt w K mg a):xx P w K mg base CX0 1 a.q0H a.uE ["value"] xbY:=by
 refine T.q0z.ok vQ (fun vs H Q E h=>?_) (fun cdv A outer s H vs Q E hr h=>?_)
 ·obtain⟨i,rfl,_⟩:=h;rfl
 ·obtain⟨i,rfl,q⟩:=h;have nd:=vQ.nd;refine⟨_,(xh (xn (yN (xv xR (by rfl) T.q0a xy (xa (cv 0) (xa (xV (v:=.ty "int") (by rfl) T.q1z xbi rfl) xb))) (zu (xfC (xv xR (by rfl) T.q0a xy (xa (cv 0) (xa (xV (v:=.ty "bool") (by rfl) T.q1y xch rfl) xb)))))))),?_⟩;walk_at"w";refine⟨_,_,_,_,true,rfl,rfl,xJ.int _,rfl,?_⟩;walk_at"w";refine⟨fun _=>?_,by walk_at"no"⟩;walk_at"w";refine⟨_,_,_,_,false,rfl,rfl,xJ.int _,rfl,?_⟩;exact q
theorem yd(T:Txt w K mg a):xx P w K mg base CX0 2 a.q0f a.yR ["least","value"] ju:=by
 refine T.q0b.ok zN (fun vs H Q E h=>?_) (fun cdv A outer s H vs Q E hr h=>?_)
 ·obtain⟨l,i,rfl,_⟩:=h;rfl
 ·obtain⟨l,i,rfl,q⟩:=h;have nd:=zN.nd;refine⟨_,(xh (xn (yN (xm (vV T) (hr.mono (by decide)) (by rfl) T.jR T.q0z.kp T.jQ .nil xo (xa (cv 1) xb)) (zu (zx xgz (cv 1) (cv 0)))))),?_⟩;walk_at"w";refine⟨i,rfl,?_⟩;walk_at"w";exact⟨fun _=>q,by walk_at"no"⟩
theorem xcV(T:Txt w K mg a):xx P w K mg base CX0 2 a.q0Q a.ve ["value"] xcR:=by
 refine T.q0T.ok jS (fun vs H Q E h=>?_) (fun cdv A outer s H vs Q E hr h=>?_)
 ·obtain⟨i,rfl,_⟩:=h;rfl
 ·obtain⟨i,rfl,hi,q⟩:=h;have nd:=jS.nd;refine⟨_,(xh (xn (yN (xm (vV T) (hr.mono (by decide)) (by rfl) T.jR T.q0z.kp T.jQ .nil xo (xa (cv 0) xb)) (zu (zx xfB (xv xgh (by rfl) T.q1Q xfI (xa (cv 0) xb)) (xj vA xc xc)))))),?_⟩;walk_at"w";refine⟨i,rfl,?_⟩;walk_at"w";refine⟨fun _=>?_,by walk_at"no"⟩;walk_at"w";refine⟨⟨by decide,by decide,by decide⟩,?_⟩;walk_at"w";show Q (.bl (decide ((i.natAbs:Int)<10^(60:Int).toNat))) H;have e:decide ((i.natAbs:Int)<10^(60:Int).toNat)=true:=decide_eq_true hi;rw[e];exact q
theorem xbN(T:Txt w K mg a):xx P w K mg base CX0 3 a.q0B a.ud ["signs"] (xbF K):=by
 refine T.q0E.ok vn (fun vs H Q E h=>?_) (fun cdv A outer s H vs Q E hr h=>?_)
 ·obtain⟨u,sg,rfl,_⟩:=h;rfl
 ·obtain⟨u,sg,rfl,hu,hne,hlen,hs,q⟩:=h;have nd:=vn.nd;refine⟨_,(xh (xn (yN (xv xR (by rfl) T.q0a xy (xa (cv 0) (xa (xV (v:=.ty "tuple") (by rfl) T.q0j xO rfl) xb))) (yN (zx xdX (xv xQ (by rfl) T.q1e yO (xa (cv 0) xb)) xc) (zu (xv (xaz rfl) (by rfl) T.q1I xdl (xa (yz (yo (cap:=[]) (ys:=[]) rfl rfl rfl rfl rfl trivial (by decide+kernel)) rfl (uS (cv 0)) (fun _ _ _ _=>(xm (xcV T) (hr.mono (by decide)) (by rfl) T.xdt T.q0T.kp T.xds .nil xo (xa (cv 0) xb))) (fun _ _ _ _=>yi)) xb))))))),?_⟩;walk_at"w";refine⟨_,_,_,_,true,rfl,rfl,xJ.tup hu,rfl,?_⟩;walk_at"w";refine⟨fun _=>?_,by walk_at"no"⟩;walk_at"w";refine⟨u,_,rfl,.inr (SqT.of hu),?_⟩;walk_at"w";have hpos:0<sg.length:=cJ.mpr hne;refine⟨fun _=>?_,fun z=>by have:=of_decide_eq_false z;rw[ab]at this;lia⟩;walk_at"w";refine⟨u,rfl,⟨_,SqT.of hu⟩,?_⟩;refine uZ (fun i acc _=>acc=bo i (V.bl true)) (SqT.of hu) (by rw[ab,af];lia) rfl (fun i x acc H3 H3' hx s3 s3' hp R hR=>?_) (fun D acc H3 H3' hD hD3 s3 s3' hp hl hv=>?_)
  ·rw[ay]at hx;cases hy:sg[i]? with
   |none=>rw[hy]at hx;cases hx
   |some y=>
    rw[hy]at hx;cases hx;walk_at"w";refine⟨y,rfl,hs y (aA hy),hR _ _ (xf.refl _) fun H6 _ _=>?_⟩;rw[hp,List.replicate_succ']
  ·walk_at"w";refine⟨D,bo sg.length true,rfl,SqL.of ?_,?_⟩
   ·rw[hv,hp,ab,dS]
   ·walk_at"w";show Q (.bl ((bo sg.length true).all id)) H3';have e:(bo sg.length true).all id=true:=by simp
    rw[e];exact q _ (s3.trans s3')
theorem xa0(T:Txt w K mg a):xx P w K mg base CX0 3 a.q0q a.zF ["told"] (xaW K):=by
 refine T.q0u.ok uL (fun vs H Q E h=>?_) (fun cdv A outer s H vs Q E hr h=>?_)
 ·obtain⟨t,r,rfl,_⟩:=h;rfl
 ·obtain⟨t,r,rfl,ht,hk,q⟩:=h;have nd:=uL.nd;refine⟨_,(xg (xI (PW.pt (zp (yA (xY (xv xR (by rfl) T.q0a xy (xa (cv 0) (xa (xV (v:=.ty "tuple") (by rfl) T.q0j xO rfl) xb))))) (zp (xH xcB (xv xQ (by rfl) T.q1e yO (xa (cv 0) xb)) xc) (uR (xH jG (xt xu (cv 0) xc (fun _ _=>rfl)) xC))))) (xh (xn vx)) xE)
  (xh (xn (yN (xm (yd T) (hr.mono (by decide)) (by rfl) T.yl T.q0b.kp T.yk .nil xo (xa xc (xa (xt xu (cv 0) xc (fun _ _=>rfl)) xb))) (yN (xm (yd T) (hr.mono (by decide)) (by rfl) T.yl T.q0b.kp T.yk .nil xo (xa xc (xa (xt xu (cv 0) xc (fun _ _=>rfl)) xb))) (zu (xm (yd T) (hr.mono (by decide)) (by rfl) T.yl T.q0b.kp T.yk .nil xo (xa xc (xa (xt xu (cv 0) xc (fun _ _=>rfl)) xb))))))))),?_⟩
  cases r with
  |put to sg=>
   obtain⟨u,h1,h2⟩:=ht;walk_at"w";refine⟨_,_,_,_,true,rfl,rfl,xJ.tup h1,rfl,?_⟩;walk_at"w";refine⟨by walk_at"no",fun _=>?_⟩;walk_at"w";refine⟨t,_,rfl,.inr (SqT.of h1),?_⟩;walk_at"w";refine⟨fun _=>?_,by walk_at"no"⟩;walk_at"w";exact⟨fun _=>q,by walk_at"no"⟩
  |take to st c=>
   walk_at"w";refine⟨_,_,_,_,true,rfl,rfl,xJ.tup ht,rfl,?_⟩;walk_at"w";refine⟨by walk_at"no",fun _=>?_⟩;walk_at"w";refine⟨t,_,rfl,.inr (SqT.of ht),?_⟩;walk_at"w";refine⟨by walk_at"no",fun _=>?_⟩;walk_at"w";refine⟨t,_,_,.str "take",rfl,rfl,SqT.of ht,rfl,?_⟩;walk_at"w";refine⟨by walk_at"no",fun _=>?_⟩;walk_at"w";obtain⟨k1,k2,k3⟩:=hk;refine⟨t,_,_,.int to,rfl,rfl,SqT.of ht,rfl,?_⟩;walk_at"w";refine⟨_,_,rfl,?_⟩;walk_at"w";refine⟨fun _=>?_,fun z=>absurd k1 (of_decide_eq_false z)⟩;walk_at"w";refine⟨t,_,_,.int st,rfl,rfl,SqT.of ht,rfl,?_⟩;walk_at"w";refine⟨_,_,rfl,?_⟩;walk_at"w";refine⟨fun _=>?_,fun z=>absurd k2 (of_decide_eq_false z)⟩;walk_at"w";refine⟨t,_,_,.int c,rfl,rfl,SqT.of ht,rfl,?_⟩;walk_at"w";refine⟨_,_,rfl,?_⟩;walk_at"w";rw[decide_eq_true k3];exact q
theorem xbO(T:Txt w K mg a):xx P w K mg base CX0 4 a.q0A a.uc ["told"] (xbG K):=by
 refine T.q0D.ok vm (fun vs H Q E h=>?_) (fun cdv A outer s H vs Q E hr h=>?_)
 ·obtain⟨t,to,sg,rfl,_⟩:=h;rfl
 ·obtain⟨t,to,sg,rfl,⟨u,h1,h2⟩,⟨k1,k2,k3,k4⟩,q⟩:=h;have nd:=vm.nd;refine⟨_,(xg (xI (PW.pt (zp (yA (xY (xv xR (by rfl) T.q0a xy (xa (cv 0) (xa (xV (v:=.ty "tuple") (by rfl) T.q0j xO rfl) xb))))) (zp (xH xcB (xv xQ (by rfl) T.q1e yO (xa (cv 0) xb)) xc) (uR (xH jG (xt xu (cv 0) xc (fun _ _=>rfl)) xC))))) (xh (xn vx)) xE)
  (xh (xn (yN (xm (yd T) (hr.mono (by decide)) (by rfl) T.yl T.q0b.kp T.yk .nil xo (xa xc (xa (xt xu (cv 0) xc (fun _ _=>rfl)) xb))) (zu (xm (xbN T) (hr.mono (by decide)) (by rfl) T.xbV T.q0E.kp T.xbU .nil xo (xa (xt xu (cv 0) xc (fun _ _=>rfl)) xb))))))),?_⟩
  walk_at"w";refine⟨_,_,_,_,true,rfl,rfl,xJ.tup h1,rfl,?_⟩;walk_at"w";refine⟨by walk_at"no",fun _=>?_⟩;walk_at"w";refine⟨t,_,rfl,.inr (SqT.of h1),?_⟩;walk_at"w";refine⟨by walk_at"no",fun _=>?_⟩;walk_at"w";refine⟨t,_,_,.str "put",rfl,rfl,SqT.of h1,rfl,?_⟩;walk_at"w";refine⟨by walk_at"no",fun _=>?_⟩;walk_at"w";refine⟨t,_,_,.int to,rfl,rfl,SqT.of h1,rfl,?_⟩;walk_at"w";refine⟨_,_,rfl,?_⟩;walk_at"w";refine⟨fun _=>?_,fun z=>absurd k1 (of_decide_eq_false z)⟩;walk_at"w";refine⟨t,_,_,.ref u,rfl,rfl,SqT.of h1,rfl,?_⟩;walk_at"w";exact⟨u,sg,rfl,h2,k2,k3,k4,q⟩
theorem zS(T:Txt w K mg a):xx P w K mg base CX0 5 a.q04 a.jl ["told"] (xdz K a):=by
 refine T.q0C.ok xaG (fun vs H Q E h=>?_) (fun cdv A outer s H vs Q E hr h=>?_)
 ·obtain⟨t,r,rfl,_⟩:=h;rfl
 ·obtain⟨t,r,rfl,ht,hk,q⟩:=h;have nd:=xaG.nd;refine⟨_,(xg (xI (xY (xm (xa0 T) (hr.mono (by decide)) (by rfl) T.xbu T.q0u.kp T.xbt .nil xo (xa (cv 0) xb))) (xh (xn (xca T.q1D (xbL T) (hr.mono (by decide)) (by rfl) T.xfU T.xbR .nil xo (xa (xt xu (cv 0) xc (fun _ _=>rfl)) (xa (xt xu (cv 0) xc (fun _ _=>rfl)) (xa (xt xu (cv 0) xc (fun _ _=>rfl)) xb)))))) xE)
  (xg (xI (xY (xm (xbO T) (hr.mono (by decide)) (by rfl) T.xbT T.q0D.kp T.xbS .nil xo (xa (cv 0) xb))) (xh (xn (xca T.q1J (xb1 T) (hr.mono (by decide)) (by rfl) T.xgk T.xcK .nil xo (xa (xt xu (cv 0) xc (fun _ _=>rfl)) (xa (xt xu (cv 0) xc (fun _ _=>rfl)) xb))))) xE)
  (xh uh))),?_⟩
  walk_at"w";refine⟨t,r,rfl,ht,hk,?_⟩;cases r with
  |take to st c=>
   walk_at"w";refine⟨fun _=>?_,by walk_at"no"⟩;walk_at"w";refine⟨t,_,_,.int to,rfl,rfl,SqT.of ht,rfl,?_⟩;walk_at"w";refine⟨t,_,_,.int st,rfl,rfl,SqT.of ht,rfl,?_⟩;walk_at"w";refine⟨t,_,_,.int c,rfl,rfl,SqT.of ht,rfl,?_⟩;walk_at"w";intro x dx hx hdx hne;generalize hU:upd H dx (.own x)=H3;have sH3:=xf.of_eq hdx hU;have hx3:H3 x=none:=by rw[←hU,xA (bV hne)];exact hx
   refine⟨x,dx,_,_,_,rfl,xl,?_⟩;rw[yT];walk_at"w";exact⟨rfl,q x _ (sH3.trans (xf.new hx3)) hx ⟨dx,xl⟩⟩
  |put to sg=>
   walk_at"w";refine⟨by walk_at"no",fun _=>?_⟩;walk_at"w";refine⟨t,to,sg,rfl,ht,hk,fun H2 s2=>?_⟩;walk_at"w";obtain⟨u,h1,h2⟩:=ht;refine⟨fun _=>?_,by walk_at"no"⟩;walk_at"w";refine⟨t,_,_,.int to,rfl,rfl,SqT.of (s2.at h1),rfl,?_⟩;walk_at"w";refine⟨t,_,_,.ref u,rfl,rfl,SqT.of (s2.at h1),rfl,?_⟩;walk_at"w";intro x dx hx hdx hne;generalize hU:upd H2 dx (.own x)=H3;have sH3:=xf.of_eq hdx hU;have hx3:H3 x=none:=by rw[←hU,xA (bV hne)];exact hx
   refine⟨x,dx,u,_,_,rfl,xl,(sH3.trans (xf.new hx3)).seqT (SqT.of (s2.at h2)),?_⟩;rw[yT];walk_at"w";refine⟨rfl,q x _ (s2.trans (sH3.trans (xf.new hx3))) (s2.back hx) ⟨dx,u,?_,(s2.trans (sH3.trans (xf.new hx3))).at h2⟩⟩;rw[xl,ab]
theorem xdD(T:Txt w K mg a):xx P w K mg base CX0 1 a.q05 a.jm ["numbers"] (xdB K):=by
 refine T.q09.ok xaH (fun vs H Q E h=>?_) (fun cdv A outer s H vs Q E hr h=>?_)
 ·obtain⟨l,ns,rfl,_⟩:=h;rfl
 ·obtain⟨l,ns,rfl,hl,q⟩:=h;have nd:=xaH.nd;refine⟨_,(xg (xr (i:=1) nd rfl (aB rfl) xc)
  (xg (zy bt rfl (yu (cv 0)) (yf (i:=2) nd rfl (aB rfl)) (xh (xr (i:=1) nd rfl (aB rfl) (xj xX (xj yy (xj yy (xj zQ (cv 1) xc) (cv 2)) xc) xc))))
  (xh (xn (cv 1))))),?_⟩
  walk_at"w";refine⟨l,rfl,⟨_,hl⟩,?_⟩;walk_at"w";refine ur (xs:=ns.map V.int) (fun i σ H1=>H1=H∧∃x,σ=[some (.ref l),some (.int (yS (ns.take i))),x]) ⟨rfl,_,rfl⟩ (fun i σ H1 hi hP=>by obtain⟨rfl,_⟩:=hP;exact hl) (fun i x σ H1 hx hP=>?_) (fun σ H1 hP=>?_)
  ·obtain⟨rfl,x0,rfl⟩:=hP;rw[ay]at hx;obtain⟨n,hn,rfl⟩:=aD.mp hx;walk_at"w";walk_at"ss";refine⟨rfl,some (.int n),?_⟩;rw[aL,hn];show _=[some (V.ref l),some (V.int (yS (ns.take i++[n]))),_];rw[xaL];rfl
  ·obtain⟨rfl,x0,rfl⟩:=hP;rw[ab,aR];exact q
theorem jw(v:V)(xs:List V):zw (v::xs) (some 1) none=xs:=by
 unfold zw;rw[ui (by decide),HT.xbb,aw];have e:min (dn 1) (xs.length+1)=1:=by show min 1 (xs.length+1)=1;lia
 rw[e,dG,dw,aZ (by lia)]
theorem zO.off{H:Hp}{u l:Addr}{x:Ln}{xs:List V}{o:HO}(h:zO H u x)(hl:H l=some (.lst xs)):zO (upd H l o) u x:=by
 unfold zO at h⊢;rw[xA (vw h hl (by intro z;cases z))];exact h
theorem xcW(T:Txt w K mg a):xx P w K mg base CX0 1 a.q0R a.vf ["told"] (jX K):=by
 refine T.q0U.ok jT (fun vs H Q E h=>?_) (fun cdv A outer s H vs Q E hr h=>?_)
 ·obtain⟨t,r,rfl,_⟩:=h;rfl
 ·obtain⟨t,r,rfl,ht,hk,q⟩:=h;have nd:=jT.nd;refine⟨_,(xg (xI (xH jF (xt xu (cv 0) xc (fun _ _=>rfl)) xC) (xh (xn (xj ug (yF jC (cv 0) zr (yI xc)) (xt xu (cv 0) xc (fun _ _=>rfl))))) xE)
  (xh (xn (cv 0)))),?_⟩
  cases r with
  |take to st c=>
   walk_at"w";refine⟨t,_,_,.str "take",rfl,rfl,SqT.of ht,rfl,?_⟩;walk_at"w";refine⟨by walk_at"no",fun _=>?_⟩;walk_at"w";exact q t H (xf.refl _) ht
  |put to sg=>
   obtain⟨u,h1,h2⟩:=ht;have hl:(to::sg).length≤7:=hk.2.2.1;rw[aw]at hl;walk_at"w";refine⟨t,_,_,.str "put",rfl,rfl,SqT.of h1,rfl,?_⟩;walk_at"w";refine⟨fun _=>?_,by walk_at"no"⟩;walk_at"w";refine⟨_,rfl,?_⟩;walk_at"w";refine⟨t,_,rfl,SqT.of h1,fun z=>absurd z.2 (by show¬(2=3);decide),?_⟩;intro c hc;generalize hUc:upd H c _=H1;have sH1:=xf.of_eq hc hUc;have ec:=xi hUc;clear hUc;walk_at"w";refine⟨t,_,_,.ref u,rfl,rfl,SqT.of (sH1.at h1),rfl,?_⟩;walk_at"w";have ec':H1 c=some (.tup [.str "put",.int to]):=ec;refine⟨c,u,_,_,rfl,rfl,SqT.of ec',SqT.of (sH1.at h2),by simp,?_,?_⟩
   ·rw[ab,af];simp;lia
   refine⟨fun e=>?_,fun _=>?_⟩
   ·have:sg=[]:=cI.mp e;have hk2:=hk.2.1;exact q c H1 sH1 (by show H1 c=some (.tup (.str "put"::(to::sg).map V.int));rw[this];exact ec')
   ·intro p hp;exact q p _ (sH1.trans (xf.new hp)) xl
theorem xa1(T:Txt w K mg a):xx P w K mg base CX0 1 a.q0s a.zH ["lines"] (xaX K):=by
 refine T.q0v.ok uN (fun vs H Q E h=>?_) (fun cdv A outer s H vs Q E hr h=>?_)
 ·obtain⟨l,us,ls,rfl,_⟩:=h;rfl
 ·obtain⟨l,us,ls,rfl,hl,hp,hk,hn,q⟩:=h;have nd:=uN.nd;refine⟨_,(xg (xr (i:=1) nd rfl (aB rfl) (xP xb))
  (xg (zy bt rfl (yu (cv 0)) (yf (i:=2) nd rfl (aB rfl)) (xg (yt (yw PySem.F.plainAttrs_list PySem.F.slot_list_append PySem.F.type_list_append yJ (cv 1) (xa (xd5 (xb6 (v:=.ref a.q0F) (by rfl) T.xe1 rfl) (xt xu (cv 2) xc (fun _ _=>rfl)) (fun _ _=>rfl)) xb)))
  (xh (yt (yw PySem.F.plainAttrs_list PySem.F.slot_list_extend PySem.F.type_list_extend xcH (cv 1) (xa (yF jC (cv 2) (yI xc) zr) xb))))))
  (xh (xn (cv 1))))),?_⟩
  have ul:us.length=ls.length:=hp.length;have bd:∀k,(xU (ls.take k)).length≤k*8:=by
   intro k
   induction k with
   |zero=>simp[xU]
   |succ k ih=>
    rw[aL];unfold xU at ih⊢;rw[cK,aV];cases hx:ls[k]? with
    |none=>exact ax (show _+0≤_ from aj _) (by lia)
    |some x=>
     have:=(hk x (aA hx)).2.2.1;have e1:(List.flatMap (fun l:Ln=>l.c::l.ns) (some x).toList).length=x.ns.length+1:=by simp
     rw[e1];lia
  walk_at"w";walk_at"ss";intro nl hnl;generalize hUnl:upd H nl _=H1;have sH1:=xf.of_eq hnl hUnl;have enl:=xi hUnl;clear hUnl;walk_at"w";refine⟨l,rfl,⟨_,SqL.of (sH1.at hl)⟩,?_⟩;refine ur (xs:=us.map V.ref) (fun k σ G=>xf H G∧G nl=some (.lst ((xU (ls.take k)).map V.int))∧∃x,σ=[some (.ref l),some (.ref nl),x]) ⟨sH1,enl,_,rfl⟩ (fun i σ G hi hP=>SqL.of (hP.1.at hl)) (fun k x σ G hx hP=>?_) (fun σ G hP=>?_)
  ·obtain⟨sG,eG,x0,rfl⟩:=hP;rw[ay]at hx;obtain⟨u,hu,rfl⟩:=aD.mp hx;obtain⟨x,hx1,hx2⟩:=xZ hp hu;have hxk:=hk x (aA hx1);have hkl:k<ls.length:=(aW.mp hx1).1;have e2:G u=some (.tup (.str x.w::x.ns.map V.int)):=sG.at hx2;have bk:=bd k;have x7:=hxk.2.2.1;walk_at"w";refine a6 (.inl ⟨rfl,_,SqL.of eG⟩) ?_;walk_at"w";refine⟨u,_,_,.str x.w,rfl,rfl,SqT.of e2,yv (j:=0) rfl,?_⟩;walk_at"w";refine⟨a.q0F,_,x.w,x.c,rfl,rfl,T.xe2,hxk.1,?_⟩;walk_at"w";refine⟨nl,_,_,rfl,rfl,eG,?_,?_⟩
   ·rw[ab,af];lia
   generalize hU:upd G nl _=G1;have sG1:xf H G1:=by rw[←hU];exact sG.put hnl
   have eG1:=xi hU;have e21:G1 u=some (.tup (.str x.w::x.ns.map V.int)):=sG1.at hx2;walk_at"w";refine a6 (.inl ⟨rfl,_,SqL.of eG1⟩) ?_;walk_at"w";refine⟨_,rfl,?_⟩;walk_at"w";refine⟨u,_,rfl,SqT.of e21,?_,?_⟩
   ·intro z;have:=z.1;rw[ui (by decide)]at this;simp at this
   intro c hc;generalize hUc:upd G1 c _=G2;have sG2:=xf.of_eq hc hUc;have ec:=xi hUc;clear hUc;walk_at"w";have ec':G2 c=some (.tup (x.ns.map V.int)):=by rw[ec,jw]
   refine⟨nl,c,_,_,rfl,rfl,sG2.at eG1,SqT.of ec',?_,?_⟩
   ·rw[aV,ab,ab,cw,af];lia
   refine⟨(sG1.trans sG2).put hnl,?_,_,rfl⟩;rw[xl,aL,hx1];unfold xU;rw[cK];simp
  ·obtain⟨sG,eG,x0,rfl⟩:=hP;rw[ab,ul,aR]at eG;exact q nl G sG hnl eG
theorem xb2(T:Txt w K mg a):xx P w K mg base CX0 6 a.q0I a.uF ["paper"] (xbZ K):=by
 refine T.q0K.ok vR (fun vs H Q E h=>?_) (fun cdv A outer s H vs Q E hr h=>?_)
 ·obtain⟨p,o,n,rs,rfl,_⟩:=h;rfl
 ·obtain⟨p,o,n,rs,rfl,⟨t,ts,hp,ht,hts⟩,ok,q⟩:=h;have nd:=vR.nd;refine⟨_,(xg (xr (i:=1) nd rfl (aB rfl) (xP (xa (yB (xa xC (xa (xt xu (cv 0) xc (fun _ _=>rfl)) (xa (xt xu (cv 0) xc (fun _ _=>rfl)) xb)))) xb)))
  (xg (yt (yw PySem.F.plainAttrs_list PySem.F.slot_list_extend PySem.F.type_list_extend xdb (cv 1) (xa (yz (yo (cap:=[]) (ys:=[]) rfl rfl rfl rfl rfl trivial (by decide+kernel)) rfl (uS (xt xu (cv 0) xc (fun _ _=>rfl))) (fun _ _ _ _=>(xm (xcW T) (hr.mono (by decide)) (by rfl) T.xdv T.q0U.kp T.xdu .nil xo (xa (xdf (uo (xm (zS T) (hr.mono (by decide)) (by rfl) T.uI T.q0C.kp T.uH .nil xo (xa (cv 0) xb)) T.q1k T.q1l (vU T) (hr.mono (by decide)) T.jP .nil xo) (uo (xm (zS T) (hr.mono (by decide)) (by rfl) T.uI T.q0C.kp T.uH .nil xo (xa (cv 0) xb)) T.q03 T.q1d (vt T) (hr.mono (by decide)) T.vM .nil xo)) xb))) (fun _ _ _ _=>yi)) xb)))
  (xh (xn (cv 1))))),?_⟩
  have tl:ts.length=rs.length:=hts.length;have few:=ok.few;walk_at"w";refine⟨p,_,_,.int o,rfl,rfl,SqT.of hp,rfl,?_⟩;walk_at"w";refine⟨p,_,_,.int n,rfl,rfl,SqT.of hp,rfl,?_⟩;walk_at"w";walk_at"ss";intro c hc;generalize hUc:upd H c _=H1;have sH1:=xf.of_eq hc hUc;have ec:=xi hUc;clear hUc;walk_at"w";walk_at"ss";intro l hl;generalize hUl:upd H1 l _=H2;have sH2:=xf.of_eq hl hUl;have el:=xi hUl;clear hUl;walk_at"w";have s2:=sH1.trans sH2;refine a6 (.inl ⟨rfl,_,SqL.of el⟩) ?_;walk_at"w";refine⟨p,_,_,.ref t,rfl,rfl,SqT.of (s2.at hp),rfl,?_⟩;walk_at"w";refine⟨t,rfl,⟨_,SqT.of (s2.at ht)⟩,?_⟩;refine uZ (fun i acc G=>∃us:List Addr,acc=us.map V.ref∧Paired (zO G) us ((rs.take i).map xq.ln)) (SqT.of (s2.at ht)) (by rw[ab,af];lia) ⟨[],rfl,.nil⟩ (fun i x acc H3 H3' hx s3 s3' hP R hR=>?_) (fun D acc H3 H3' hD hD3 s3 s3' hP hle he=>?_)
  ·obtain⟨us,rfl,hus⟩:=hP;rw[ay]at hx;obtain⟨t0,ht0,rfl⟩:=aD.mp hx;obtain⟨r,hr0,pr⟩:=xZ hts ht0;have hrm:r∈rs:=aA hr0;have sA:=s2.trans (s3.trans s3');have fin:∀(t1:Addr) (G:Hp),xf H3' G→TupAt K G t1 r→jX K [.ref t1] G (fun u G1=>R u G1) E0:=by
    intro t1 G sG h1;refine⟨t1,r,rfl,h1,ok.ln r hrm,fun u G1 sG1 hu=>hR _ _ (sG.trans sG1) fun H6 s6 k6=>⟨us++[u],by simp,?_⟩⟩;rw[aL,hr0,aP];exact yC (show zO H6 u r.ln from k6 _ _ (.inr fun ys z=>by cases z) hu) (L2.Paired.imp' (fun _ _ z=>s6.at z) hus)
   walk_at"w";cases r with
   |put to sg=>
    left
    refine⟨t0,_,rfl,pr.same sA,ok.ok _ hrm,fun ob G sG hob hO=>?_⟩;walk_at"w";obtain⟨dx,u,h1,h2⟩:=hO;refine⟨ob,dx,_,rfl,h1,rfl,ob,dx,u,to,_,rfl,h1,fun t1 ht1=>?_⟩;exact fin t1 _ (sG.trans (xf.new ht1)) ⟨u,xl,(xf.new ht1).at h2⟩
   |take to st c=>
    right
    refine⟨t0,_,rfl,pr.same sA,ok.ok _ hrm,fun ob G sG hob hO=>?_⟩;walk_at"w";obtain⟨dx,h1⟩:=hO;refine⟨ob,dx,_,rfl,h1,rfl,ob,dx,to,st,c,rfl,h1,fun t1 ht1=>?_⟩;exact fin t1 _ (sG.trans (xf.new ht1)) xl
  obtain⟨us,rfl,hus⟩:=hP;rw[ab,tl,aR]at hus;have ul:us.length=rs.length:=by have:=hus.length;rwa [ab]at this
  have e5:=(s3.trans s3').at el;walk_at"w";refine⟨l,D,_,_,rfl,rfl,e5,he,?_,?_⟩
  ·rw[ab,cw,af];lia
  walk_at"w";have lf:=sH1.back hl;have sF:=(s2.trans (s3.trans s3')).put (o:=.lst ([V.ref c]++us.map V.ref)) lf;refine q l (c::us) _ sF lf (by rw[xl];rfl) (.cons ?_ (L2.Paired.imp' (fun _ _ z=>?_) hus))
  ·exact zO.off (x:=⟨"paper",1,[o,n]⟩) ((sH2.trans (s3.trans s3')).at ec) e5
  ·exact zO.off (s3'.at z) e5
theorem xan(T:Txt w K mg a):xx P w K mg base CX0 1 a.q0l a.zh ["word"] xal:=by
 refine T.q0n.ok uk (fun vs H Q E h=>?_) (fun cdv A outer s H vs Q E hr h=>?_)
 ·obtain⟨m,rfl,_⟩:=h;rfl
 ·obtain⟨m,rfl,hm,q⟩:=h;have nd:=uk.nd;refine⟨_,(xh (xn (yN (zx xdX (xv uV (by rfl) T.q1e yO (xa (cv 0) xb)) xc) (zu (xv (xaz rfl) (by rfl) T.q1I xdl (xa (yz (yo (cap:=[]) (ys:=[]) rfl rfl rfl rfl rfl trivial (by decide+kernel)) rfl (xfO (cv 0)) (fun _ _ _ _=>(zx xc1 (cv 0) xC (by rfl))) (fun _ _ _ _=>yi)) xb)))))),?_⟩;have hz:(⟨(xG m).toArray⟩:Str).length=(xG m).length:=by simp[bT]
  have hpos:0<(xG m).length:=cJ.mpr (vD m);walk_at"w";refine⟨_,rfl,by rw[hz,af];lia,?_⟩;walk_at"w";refine⟨fun _=>?_,fun z=>by have:=of_decide_eq_false z;rw[hz]at this;lia⟩;walk_at"w";refine⟨_,rfl,?_⟩;refine xd4 (fun _=>.bl true) (by show(xG m).toArray.size≤_;rw[ag,af];lia) (fun c H3 hc s3 R hR=>?_) (fun D H' hD s' he=>?_)
  ·have hc':c∈xG m:=by simpa using hc
   have hf:=xdr (yD m c hc');walk_at"w";refine⟨_,_,rfl,rfl,?_⟩;have:=hR H3 (xf.refl _);rw[←hf]at this;exact this
  ·have e:((⟨(xG m).toArray⟩:Str).cps.toList.map fun _=>V.bl true)=(bo (xG m).length true).map V.bl:=by
    rw[dS,List.map_const']
   rw[e]at he;walk_at"w";refine⟨D,_,rfl,SqL.of he,?_⟩;have e2:(bo (xG m).length true).all id=true:=by simp
   show Q (.bl ((bo (xG m).length true).all id)) H';rw[e2];exact q _ s'
theorem xao(T:Txt w K mg a):xx P w K mg base CX0 2 a.q0k a.zg ["word"] xam:=by
 refine T.q0m.ok uj (fun vs H Q E h=>?_) (fun cdv A outer s H vs Q E hr h=>?_)
 ·obtain⟨n,rfl,_⟩:=h;rfl
 ·obtain⟨n,rfl,hn,q⟩:=h;have nd:=uj.nd;refine⟨_,(xg (xr (i:=1) nd rfl (aB rfl) (xge (xY (yw PySem.F.plainAttrs_str PySem.F.slot_str_startswith PySem.F.type_str_startswith xaQ (cv 0) (xa xC xb))) (yF xfN (cv 0) (yI xc) zr) (cv 0)))
  (xg (xI (PW.pt (zp (xH xdX (xv uV (by rfl) T.q1e yO (xa (cv 1) xb)) (xb6 (v:=.int 60) (by rfl) T.xak ⟨_,rfl⟩)) (uR (yA (xY (xm (xan T) (hr.mono (by decide)) (by rfl) T.xaV T.q0n.kp T.xaU .nil xo (xa (cv 1) xb))))))) (xh (xn xa8)) xE)
  (xg (xr (i:=2) nd rfl (aB rfl) (xF xdo (by rfl) T.q1z xbi (xa (cv 0) xb)))
  (xg (xI (xH jG (xF yZ (by rfl) T.q1o zA (xa (cv 2) xb)) (cv 0)) (xh (xn xa8)) xE)
  (xh (xn (cv 2))))))),?_⟩
  have hl:=za hn;have hf:(xG n.natAbs).length≤60:=xcj (by unfold Sm at hn;lia) (by decide);have hz:(⟨(xG n.natAbs).toArray⟩:Str).length=(xG n.natAbs).length:=by simp[bT]
  walk_at"w";refine a6 rfl ?_;walk_at"w";refine⟨_,_,rfl,rfl,?_⟩;rw[xcI n];walk_at"w";refine⟨fun z=>?_,fun z=>?_⟩
  ·have hneg:=of_decide_eq_true z;walk_at"w";refine⟨_,rfl,?_⟩;walk_at"w";refine⟨_,rfl,by rw[af];lia,?_⟩;rw[xeW hneg];walk_at"w";refine⟨_,rfl,by rw[hz,af];lia,?_⟩;walk_at"w";refine⟨fun z=>by have:=of_decide_eq_true z;rw[hz]at this;lia,fun _=>?_⟩;walk_at"w";refine⟨_,rfl,hf,fun H1 s1=>?_⟩;walk_at"w";refine⟨by walk_at"no",fun _=>?_⟩;walk_at"w";refine⟨_,_,rfl,xbm hn,by lia,?_⟩;walk_at"w";refine⟨_,_,rfl,rfl,fun i e=>by injection e with e;rw[←e];exact zd hn,?_⟩;walk_at"w";refine⟨fun z=>(by rw[show decide (aI (toString n)=xD n)=true from decide_eq_true rfl]at z;cases z),fun _=>?_⟩;walk_at"w";exact q _ s1
  ·have hpos:=of_decide_eq_false z
   conv=>arg 2;rw[xdq hpos]
   walk_at"w";refine⟨_,rfl,by rw[hz,af];lia,?_⟩;walk_at"w";refine⟨fun z=>by have:=of_decide_eq_true z;rw[hz]at this;lia,fun _=>?_⟩;walk_at"w";refine⟨_,rfl,hf,fun H1 s1=>?_⟩;walk_at"w";refine⟨by walk_at"no",fun _=>?_⟩;walk_at"w";refine⟨_,_,rfl,xbm hn,by lia,?_⟩;walk_at"w";refine⟨_,_,rfl,rfl,fun i e=>by injection e with e;rw[←e];exact zd hn,?_⟩;walk_at"w";refine⟨fun z=>(by rw[show decide (aI (toString n)=xD n)=true from decide_eq_true rfl]at z;cases z),fun _=>?_⟩;walk_at"w";exact q _ s1
theorem xdE(ns:List Int):inV V.non (ns.map V.int)=false∧(ns.map V.int).all zo=true:=by
 refine⟨?_,?_⟩
 ·unfold inV;rw[List.any_map];exact List.any_eq_false.mpr fun x _=>by simp[eqV]
 ·rw[List.all_map];exact bD.mpr fun x _=>rfl
theorem zk(T:Txt w K mg a):xx P w K mg base CX0 3 a.q0e a.yH ["words"] vJ:=by
 refine T.q0c.ok zj (fun vs H Q E h=>?_) (fun cdv A outer s H vs Q E hr h=>?_)
 ·obtain⟨l,x,rfl,_⟩:=h;rfl
 ·obtain⟨l,x,rfl,hl,hx,q⟩:=h;have nd:=zj.nd;refine⟨_,(xg (xr (i:=1) nd rfl (aB rfl) (xF ye (by rfl) T.q0j xO (xa (yz (yo (cap:=[]) (ys:=[]) rfl rfl rfl rfl rfl trivial (by decide+kernel)) rfl (yu (yF xaa (cv 0) (yI xc) zr)) (fun _ _ _ _=>(xm (xao T) (hr.mono (by decide)) (by rfl) T.xaT T.q0m.kp T.xaS .nil xo (xa (cv 0) xb))) (fun _ _ _ _=>yi)) xb)))
  (xg (xI (xH xda xa8 (cv 1) (by rfl)) (xh uh) xE)
  (xh (xn (cv 1))))),?_⟩
  have x7:=hx.2.2.1;have hl':H l=some (.lst (V.str x.w::(x.ns.map xD).map V.str)):=hl;walk_at"w";refine⟨_,rfl,?_⟩;walk_at"w";refine⟨l,_,rfl,SqL.of hl',?_⟩;intro c hc;generalize hUc:upd H c _=H1;have sH1:=xf.of_eq hc hUc;have ec:=xi hUc;clear hUc;walk_at"w";rw[jw]at ec;refine⟨c,rfl,⟨_,SqL.of ec⟩,?_⟩;refine yP (fun i acc _=>acc=(x.ns.take i).map V.int) (SqL.of ec) (by rw[ab,ab,af];lia) rfl (fun i y acc H3 H3' hy s3 s3' hP R hR=>?_) (fun D acc H3 H3' hD hD3 s3 s3' hP hle he=>?_)
  ·rw[dU,ay]at hy;obtain⟨n,hn,rfl⟩:=aD.mp hy;walk_at"w";refine⟨n,rfl,hx.2.2.2 n (aA hn),fun H6 s6=>hR _ _ s6 fun H7 _ _=>?_⟩;rw[hP,aL,hn,aP];rfl
  rw[ab,ab,aR]at hP;rw[hP]at he;have sA:=sH1.trans (s3.trans s3');walk_at"w";refine⟨D,_,rfl,.inl ⟨SqL.of he,?_⟩⟩;intro u hu;generalize hUu:upd H3' u _=H4;have sH4:=xf.of_eq hu hUu;have eu:=xi hUu;clear hUu;walk_at"w";obtain⟨f1,f2⟩:=xdE x.ns;refine⟨u,_,rfl,.inr (SqT.of eu),rfl,f2,?_⟩;rw[f1];walk_at"w";refine⟨by walk_at"no",fun _=>?_⟩;walk_at"w";exact q u H4 (sA.trans sH4) (sA.back hu) eu
theorem xdF(T:Txt w K mg a):xx P w K mg base CX0 6 a.q06 a.jn ["words"] (xdC K):=by
 refine T.q1a.ok xaI (fun vs H Q E h=>?_) (fun cdv A outer s H vs Q E hr h=>?_)
 ·obtain⟨l,r,rfl,_⟩:=h;rfl
 ·obtain⟨l,r,rfl,hl,ok,hk,q⟩:=h;have nd:=xaI.nd;refine⟨_,(xg (xr (i:=1) nd rfl (aB rfl) (xm (zk T) (hr.mono (by decide)) (by rfl) T.zM T.q0c.kp T.zL .nil xo (xa (cv 0) xb)))
  (xg (xr (i:=2) nd rfl (aB rfl) (xj ug (yB (xa (xt yg (cv 0) xc (fun _ _=>rfl)) xb)) (cv 1)))
  (xg (xdg (xI (xH jF (xt yg (cv 0) xc (fun _ _=>rfl)) xC) (xh (xr (i:=2) nd rfl (aB rfl) (xj ug (xj ug (yB (xa xC xb)) (yF jC (cv 1) zr (yI xc))) (yB (xa (yF jC (cv 1) (yI xc) zr) xb))))) xE))
  (xh (xeR rfl (xh (xn (xdf (uo (xm (zS T) (hr.mono (by decide)) (by rfl) T.uI T.q0C.kp T.uH .nil xo (xa (cv 2) xb)) T.q1k T.q1l (vU T) (hr.mono (by decide)) T.jP .nil xo) (uo (xm (zS T) (hr.mono (by decide)) (by rfl) T.uI T.q0C.kp T.uH .nil xo (xa (cv 2) xb)) T.q03 T.q1d (vt T) (hr.mono (by decide)) T.vM .nil xo))))))))),?_⟩
  have x7:=hk.2.2.1;walk_at"w";refine⟨l,r.ln,rfl,hl,hk,fun u H1 s1 hu eu=>?_⟩;walk_at"w";have hl1:H1 l=some (.lst (V.str r.ln.w::(r.ln.ns.map xD).map V.str)):=s1.at hl;refine⟨l,_,_,.str r.ln.w,rfl,rfl,SqL.of hl1,yv (j:=0) rfl,?_⟩;walk_at"w";walk_at"ss";intro c hc;generalize hUc:upd H1 c _=H2;have sH2:=xf.of_eq hc hUc;have ec:=xi hUc;clear hUc;walk_at"w";refine⟨c,u,_,_,rfl,rfl,SqT.of ec,SqT.of (sH2.at eu),by simp,?_,?_⟩
  ·rw[ab,af];simp;lia
  refine⟨fun e=>absurd (cI.mp e) hk.2.1,fun _=>?_⟩;intro d hd;generalize hUd:upd H2 d _=H3;have sH3:=xf.of_eq hd hUd;have ed:=xi hUd;clear hUd;walk_at"w";have s3:=s1.trans (sH2.trans sH3);have eu3:=(sH2.trans sH3).at eu;have hl3:=(sH2.trans sH3).at hl1;refine⟨fun σ G=>xf H G∧∃t,TupAt K G t r∧σ=[some (.ref l),some (.ref u),some (.ref t)],?_,?_⟩
  ·refine⟨l,_,_,.str r.ln.w,rfl,rfl,SqL.of hl3,yv (j:=0) rfl,?_⟩;walk_at"w";cases r with
   |take to st c0=>
    refine⟨by walk_at"no",fun _=>?_⟩;exact⟨s3,d,ed,rfl⟩
   |put to sg=>
    refine⟨fun _=>?_,by walk_at"no"⟩;walk_at"w";walk_at"ss";intro c1 hc1;generalize hUc1:upd H3 c1 _=H4;have sH4:=xf.of_eq hc1 hUc1;have ec1:=xi hUc1;clear hUc1;walk_at"w";have eu4:H4 u=some (.tup (V.int to::sg.map V.int)):=sH4.at eu3;have hsg:sg≠[]:=ok.2.1;have hpos:0<sg.length:=cJ.mpr hsg;have x6:sg.length≤6:=by have:(to::sg).length≤7:=x7;rw[aw]at this;lia
    refine⟨_,rfl,?_⟩;walk_at"w";refine⟨u,_,rfl,SqT.of eu4,?_,?_⟩
    ·intro z;have:=z.2;rw[ui (by decide),aw,ab]at this;have e1:dn 1=1:=rfl;lia
    intro c2 hc2;generalize hUc2:upd H4 c2 _=H5;have sH5:=xf.of_eq hc2 hUc2;have ec2:=xi hUc2;clear hUc2;walk_at"w";have ec2':H5 c2=some (.tup [V.int to]):=by
     rw[ec2];unfold zw;rw[ui (by decide),HT.xbb,aw,ab];have e1:min (dn 1) (sg.length+1)=1:=by show min 1 (sg.length+1)=1;lia
     rw[e1];rfl
    refine⟨c1,c2,_,_,rfl,rfl,SqT.of (sH5.at ec1),SqT.of ec2',by simp,by simp[af],?_⟩;refine⟨fun e=>(by cases e),fun _=>?_⟩;intro c3 hc3;generalize hUc3:upd H5 c3 _=H6;have sH6:=xf.of_eq hc3 hUc3;have ec3:=xi hUc3;clear hUc3;walk_at"w";refine⟨_,rfl,?_⟩;walk_at"w";refine⟨u,_,rfl,SqT.of ((sH5.trans sH6).at eu4),?_,?_⟩
    ·intro z;have:=z.1;rw[ui (by decide),aw,ab]at this;have e1:dn 1=1:=rfl;lia
    intro c4 hc4;generalize hUc4:upd H6 c4 _=H7;have sH7:=xf.of_eq hc4 hUc4;have ec4:=xi hUc4;clear hUc4;walk_at"w";rw[jw]at ec4;walk_at"ss";intro c5 hc5;generalize hUc5:upd H7 c5 _=H8;have sH8:=xf.of_eq hc5 hUc5;have ec5:=xi hUc5;clear hUc5;walk_at"w";refine⟨c3,c5,_,_,rfl,rfl,SqT.of ((sH7.trans sH8).at ec3),SqT.of ec5,by simp,by simp[af],?_⟩;refine⟨fun e=>(by cases e),fun _=>?_⟩;intro c6 hc6;generalize hUc6:upd H8 c6 _=H9;have sH9:=xf.of_eq hc6 hUc6;have ec6:=xi hUc6;clear hUc6;walk_at"w";exact⟨s3.trans (sH4.trans (sH5.trans (sH6.trans (sH7.trans (sH8.trans sH9))))),c6,⟨c4,ec6,(sH8.trans sH9).at ec4⟩,rfl⟩
  ·rintro σ G ⟨sG,t,ht,rfl⟩;walk_at"w";cases r with
   |put to sg=>
    left
    refine⟨t,_,rfl,ht,ok,fun ob G1 sG1 hob hO=>?_⟩;walk_at"w";obtain⟨dx,u1,h1,h2⟩:=hO;refine⟨ob,dx,_,rfl,h1,rfl,ob,dx,u1,to,_,rfl,h1,fun t1 ht1=>?_⟩;exact q t1 _ (sG.trans (sG1.trans (xf.new ht1))) ⟨u1,xl,(xf.new ht1).at h2⟩
   |take to st c0=>
    right
    refine⟨t,_,rfl,ht,ok,fun ob G1 sG1 hob hO=>?_⟩;walk_at"w";obtain⟨dx,h1⟩:=hO;refine⟨ob,dx,_,rfl,h1,rfl,ob,dx,to,st,c0,rfl,h1,fun t1 ht1=>?_⟩;exact q t1 _ (sG.trans (sG1.trans (xf.new ht1))) xl
theorem xe5(v z:V)(xs:List V):zw (v::xs++[z]) (some 1) (some (-1))=xs:=by
 unfold zw;have e0:(v::xs++[z]).length=xs.length+2:=by simp
 rw[ui (i:=1) (by decide),e0];have e:min (dn 1) (xs.length+2)=1:=by show min 1 (xs.length+2)=1;omega
 have e2:HT.sIx (xs.length+2) (xs.length+2) (some (-1))=xs.length+1:=by
  show((-1:Int)+((xs.length+2:Nat):Int)).toNat=_;omega
 rw[e,e2,List.cons_append,dG,dw];simp
theorem xb3(T:Txt w K mg a):xx P w K mg base CX0 7 a.q0J a.uG ["lines"] (xb0 K):=by
 refine T.q0L.ok vS (fun vs H Q E h=>?_) (fun cdv A outer s H vs Q E hr h=>?_)
 ·obtain⟨l,us,z,o,n,rs,rfl,_⟩:=h;rfl
 ·obtain⟨l,us,z,o,n,rs,rfl,hl,hp,ok,q⟩:=h;have nd:=vS.nd;refine⟨_,(xg (xr (i:=1) nd rfl (aB rfl) (xm (zk T) (hr.mono (by decide)) (by rfl) T.zM T.q0c.kp T.zL .nil xo (xa (xt yg (cv 0) xc (fun _ _=>rfl)) xb)))
  (xg (xI (xH xcB (xv xQ (by rfl) T.q1e yO (xa (cv 1) xb)) xc) (xh uh) xE)
  (xh (xn (xj ug (cv 1) (yB (xa (xF ye (by rfl) T.q0j xO (xa (yz (yo (cap:=[]) (ys:=[]) rfl rfl rfl rfl rfl trivial (by decide+kernel)) rfl (yu (yF xaa (cv 0) (yI xc) (yI (xf1 xgb xc)))) (fun _ _ _ _=>(xm (xdF T) (hr.mono (by decide)) (by rfl) T.xed T.q1a.kp T.xec .nil xo (xa (cv 0) xb))) (fun _ _ _ _=>yi)) xb)) xb))))))),?_⟩
  have few:=ok.few;have hx0:Ln.ok ⟨"paper",1,[o,n]⟩:=ok.lns _ (by unfold lns;simp);unfold lns at hp;cases hp with
  | @cons w0 _ ws _ h0 hws=>
  have wl:ws.length=rs.length:=by have:=hws.length;rwa [ab]at this
  have hl':H l=some (.lst (V.ref w0::ws.map V.ref++[V.ref z])):=by rw[hl];simp
  walk_at"w";refine⟨l,_,_,.ref w0,rfl,rfl,SqL.of hl',yv (j:=0) rfl,?_⟩;walk_at"w";refine⟨w0,_,rfl,h0,hx0,fun u H1 s1 hu eu=>?_⟩;walk_at"w";refine⟨u,_,rfl,.inr (SqT.of eu),?_⟩;walk_at"w";refine⟨by walk_at"no",fun _=>?_⟩;walk_at"w";refine⟨_,rfl,?_⟩;walk_at"w";refine⟨_,rfl,?_⟩;walk_at"w";refine⟨l,_,rfl,SqL.of (s1.at hl'),?_⟩;intro c hc;generalize hUc:upd H1 c _=H2;have sH2:=xf.of_eq hc hUc;have ec:=xi hUc;clear hUc;walk_at"w";have ec':H2 c=some (.lst (ws.map V.ref)):=by rw[ec];exact congrArg (fun x=>some (HO.lst x)) (xe5 _ _ _)
  refine⟨c,rfl,⟨_,SqL.of ec'⟩,?_⟩;have s2:=s1.trans sH2;refine yP (fun i acc G=>∃ts:List Addr,acc=ts.map V.ref∧Paired (TupAt K G) ts (rs.take i)) (SqL.of ec') (by rw[ab,af];lia) ⟨[],rfl,.nil⟩ (fun i y acc H3 H3' hy s3 s3' hP R hR=>?_) (fun D acc H3 H3' hD hD3 s3 s3' hP hle he=>?_)
  ·obtain⟨ts,rfl,hts⟩:=hP;rw[ay]at hy;obtain⟨u0,hu0,rfl⟩:=aD.mp hy;obtain⟨x,hx,px⟩:=xZ hws hu0;rw[ay]at hx;obtain⟨r,hr0,rfl⟩:=aD.mp hx;have hrm:r∈rs:=aA hr0;have sA:=s2.trans (s3.trans s3');walk_at"w";refine⟨u0,r,rfl,sA.at px,ok.ok r hrm,ok.ln r hrm,fun t G sG ht=>hR _ _ sG fun H6 s6 k6=>⟨ts++[t],by simp,?_⟩⟩;rw[aL,hr0];exact yC (ht.mv k6) (L2.Paired.imp' (fun _ _ z=>z.same s6) hts)
  obtain⟨ts,rfl,hts⟩:=hP;rw[ab,wl,aR]at hts;have sA:=sH2.trans (s3.trans s3');walk_at"w";refine⟨D,_,rfl,.inl ⟨SqL.of he,?_⟩⟩;intro t ht;generalize hUt:upd H3' t _=H4;have sH4:=xf.of_eq ht hUt;have et:=xi hUt;clear hUt;walk_at"w";walk_at"ss";intro c1 hc1;generalize hUc1:upd H4 c1 _=H5;have sH5:=xf.of_eq hc1 hUc1;have ec1:=xi hUc1;clear hUc1;walk_at"w";have eu5:=(sA.trans (sH4.trans sH5)).at eu;refine⟨u,c1,_,_,rfl,rfl,SqT.of eu5,SqT.of ec1,by simp,by simp[af],?_⟩;refine⟨fun e=>(by cases e),fun _=>?_⟩;intro p hp;generalize hUp:upd H5 p _=H6;have sH6:=xf.of_eq hp hUp;have ep:=xi hUp;clear hUp;walk_at"w";exact q p H6 (s1.trans (sA.trans (sH4.trans (sH5.trans sH6)))) ⟨t,ts,ep,(sH5.trans sH6).at et,L2.Paired.imp' (fun _ _ z=>z.same (s3'.trans (sH4.trans (sH5.trans sH6)))) hts⟩
theorem zi(T:Txt w K mg a):xx P w K mg base CX0 7 a.q0r a.zG ["paper"] (xaY K):=by
 refine T.q0g.ok uM (fun vs H Q E h=>?_) (fun cdv A outer s H vs Q E hr h=>?_)
 ·obtain⟨p,o,n,rs,rfl,_⟩:=h;rfl
 ·obtain⟨p,o,n,rs,rfl,hp,ok,q⟩:=h;have nd:=uM.nd;refine⟨_,(xg (xr (i:=1) nd rfl (aB rfl) (xm (xb2 T) (hr.mono (by decide)) (by rfl) T.xcM T.q0K.kp T.xcL .nil xo (xa (cv 0) xb)))
  (xg (jK (i:=2) (yo (cap:=[]) (ys:=[]) rfl rfl rfl rfl rfl trivial (by decide+kernel)) rfl nd rfl rfl (yu (cv 1)) (fun _ _ _ _=>(xdp (K:=K) rfl PySem.F.plainAttrs_str PySem.F.slot_str_join PySem.F.type_str_join (xd6 (K:=K) rfl) xC (xa (yz (yo (cap:=[]) (ys:=[]) rfl rfl rfl rfl rfl trivial (by decide+kernel)) rfl (xeU (K:=K) rfl (cv 0)) (fun _ _ _ _=>(xF yZ (by rfl) T.q1o zA (xa (cv 0) xb))) (fun _ _ _ _=>yi)) xb))) (fun _ _ _ _=>yi))
  (xg (xr (i:=3) nd rfl (aB rfl) (xm (xdD T) (hr.mono (by decide)) (by rfl) T.xeb T.q09.kp T.xea .nil xo (xa (xm (xa1 T) (hr.mono (by decide)) (by rfl) T.xbw T.q0v.kp T.xbv .nil xo (xa (cv 1) xb)) xb)))
  (xg (yt (yw PySem.F.plainAttrs_list PySem.F.slot_list_append PySem.F.type_list_append yJ (cv 2) (xa (xeT (cv 3)) xb)))
  (xh (xn (yw PySem.F.plainAttrs_str PySem.F.slot_str_join PySem.F.type_str_join vB xC (xa (cv 2) xb)))))))),?_⟩
  have few:=ok.few;have okl:=ok.lns;have ll:(lns o n rs).length=rs.length+1:=by unfold lns;simp
  walk_at"w";refine⟨p,o,n,rs,rfl,hp,ok,fun l us H1 s1 hlf el hus=>?_⟩;generalize hls:lns o n rs=ls at*;have ul:us.length=ls.length:=hus.length;walk_at"w";refine⟨l,rfl,⟨_,SqL.of el⟩,?_⟩;refine yP (fun i acc _=>acc=(ls.take i).map fun x=>V.str x.txt) (SqL.of el) (by rw[ab,af];lia) rfl (fun i y acc H3 H3' hy s3 s3' hP R hR=>?_) (fun D acc H3 H3' hD hD3 s3 s3' hP hle he=>?_)
  ·rw[ay]at hy;obtain⟨u,hu,rfl⟩:=aD.mp hy;obtain⟨x,hx,px⟩:=xZ hus hu;have hxk:=okl x (aA hx);have x7:=hxk.2.2.1;have px3:H3' u=some (.tup (.str x.w::x.ns.map V.int)):=(s3.trans s3').at px;walk_at"w";refine a6 rfl ?_;walk_at"w";refine⟨u,rfl,⟨_,SqT.of px3⟩,?_⟩;refine uZ (fun i acc _=>acc=(x.ws.take i).map V.str) (SqT.of px3) (by rw[aw,ab,af];lia) rfl (fun j y acc G3 G3' hy t3 t3' hP' R' hR'=>?_) (fun D acc G3 G3' hD hD3 t3 t3' hP' hle he=>?_)
   ·walk_at"w";obtain⟨z,hz,hj,hb⟩:∃z,xfL y=some z∧x.ws[j]? =some z∧∀i,y= .int i→i.natAbs.log2<1920:=by
     cases j with
     |zero=>cases hy;exact⟨_,rfl,rfl,fun i e=>by cases e⟩
     |succ j=>
      rw[di,ay]at hy;obtain⟨m,hm,rfl⟩:=aD.mp hy;refine⟨xD m,rfl,?_,fun i e=>?_⟩
      ·unfold Ln.ws;rw[di,ay,hm];rfl
      ·injection e with e;rw[←e];exact zd (hxk.2.2.2 m (aA hm))
    refine⟨y,z,rfl,hz,hb,hR' _ _ (xf.refl _) fun H7 _ _=>?_⟩;rw[hP',aL,hj,aP];rfl
   have e1:(V.str x.w::x.ns.map V.int).length=x.ws.length:=by unfold Ln.ws;simp
   rw[e1,aR]at hP';rw[hP']at he;walk_at"w";have h1:=hxk.uu;have h2:=hxk.len;refine⟨_,D,x.ws,rfl,rfl,SqL.of he,ax h1 (by rw[af];decide),?_,?_⟩
   ·rw[yr];exact ax h2 (by rw[af];decide)
   rw[yr];refine hR _ _ (t3.trans t3') fun H7 _ _=>?_;rw[hP,aL,hx,aP];rfl
  rw[ab,ul,aR]at hP;rw[hP]at he;have sA:=s3.trans s3';walk_at"w";refine⟨l,us,ls,rfl,sA.at el,L2.Paired.imp' (fun _ _ z=>sA.at z) hus,okl,by lia,fun nl H4 s4 hnl enl=>?_⟩;walk_at"w";refine⟨nl,_,rfl,SqL.of enl,?_⟩;walk_at"w";have eD4:=s4.at he;refine a6 (.inl ⟨rfl,_,SqL.of eD4⟩) ?_;walk_at"w";refine a6 (by decide) ?_;walk_at"w";have eS:bN++("sum ":Str)++aI (toString (yS (xU ls)))=vo ls:=by
   unfold vo xD;exact congrArg (· ++aI (toString (yS (xU ls)))) (W.KT.empty_app _)
  have lS:=jv ls;refine⟨_,rfl,zd (xbJ _),by rw[eS,af];lia,?_⟩;rw[eS];walk_at"w";refine⟨D,_,_,rfl,rfl,eD4,by rw[ab,af];lia,?_⟩;generalize hU:upd H4 D _=H5;have eD5:H5 D=some (.lst ((xT ls).map V.str)):=by
   rw[xi hU];unfold xT;rw[aP,dU];rfl
  have s5:xf H H5:=by rw[←hU];exact(s1.trans (sA.trans s4)).put (s1.back hD)
  walk_at"w";refine a6 rfl ?_;walk_at"w";have h1:=jW okl (by lia);have h2:=vq okl (by lia);refine⟨_,D,xT ls,rfl,rfl,SqL.of eD5,ax h1 (by rw[af];decide),?_,?_⟩
  ·rw[yr];exact ax h2 (by rw[af];decide)
  rw[yr];exact q H5 s5
theorem uP(T:Txt w K mg a):xx P w K mg base CX0 8 a.q0t a.zI ["text"] (xaZ K):=by
 refine T.q0i.ok uO (fun vs H Q E h=>?_) (fun cdv A outer s H vs Q E hr h=>?_)
 ·obtain⟨o,n,rs,rfl,_⟩:=h;rfl
 ·obtain⟨o,n,rs,rfl,ok,q⟩:=h;have nd:=uO.nd;refine⟨_,(xg (xI (yA (xY (xv xR (by rfl) T.q0a xy (xa (cv 0) (xa (xV (v:=.ty "str") (by rfl) T.q1o zA rfl) xb))))) (xh uh) xE)
  (xg (xr (i:=1) nd rfl (aB rfl) (xm (xb3 T) (hr.mono (by decide)) (by rfl) T.xcO T.q0L.kp T.xcN .nil xo (xa (yz (yo (cap:=[]) (ys:=[]) rfl rfl rfl rfl rfl trivial (by decide+kernel)) rfl (yu (yw PySem.F.plainAttrs_str PySem.F.slot_str_split PySem.F.type_str_split xaB (cv 0) (xa xC xb))) (fun _ _ _ _=>(xdp (K:=K) rfl PySem.F.plainAttrs_str PySem.F.slot_str_split PySem.F.type_str_split xaB (cv 0) (xa xC xb))) (fun _ _ _ _=>yi)) xb)))
  (xg (xI (xH jG (xm (zi T) (hr.mono (by decide)) (by rfl) T.zK T.q0g.kp T.zJ .nil xo (xa (cv 1) xb)) (cv 0)) (xh uh) xE)
  (xh (xn (cv 1)))))),?_⟩
  have few:=ok.few;have okl:=ok.lns;have ll:(lns o n rs).length=rs.length+1:=by unfold lns;simp
  have hT:=vq okl (by lia);walk_at"w";refine⟨_,_,_,_,true,rfl,rfl,xJ.str _,rfl,?_⟩;walk_at"w";refine⟨by walk_at"no",fun _=>?_⟩;walk_at"w";refine a6 rfl ?_;walk_at"w";refine⟨_,_,rfl,rfl,by decide,by rw[af];lia,?_⟩;rw[show(aI "\n")=(⟨#[10]⟩:Str)from rfl,xcU okl];intro l hl;generalize hUl:upd H l _=H1;have sH1:=xf.of_eq hl hUl;have el:=xi hUl;clear hUl;walk_at"w";refine⟨l,rfl,⟨_,SqL.of el⟩,?_⟩;refine yP (fun i acc G=>∃us:List Addr,acc=us.map V.ref∧us.length=i∧Paired (zP G) (us.take (rs.length+1)) ((lns o n rs).take i)) (SqL.of el) (by rw[ab,vG,af];lia) ⟨[],rfl,rfl,.nil⟩ (fun i y acc H3 H3' hy s3 s3' hP R hR=>?_) (fun D acc H3 H3' hD hD3 s3 s3' hP hle he=>?_)
  ·obtain⟨us,rfl,hul,hus⟩:=hP;rw[ay]at hy;obtain⟨z,hz,rfl⟩:=aD.mp hy;have hzl:z.length≤496:=vp okl z (aA hz);walk_at"w";refine a6 rfl ?_;walk_at"w";refine⟨_,_,rfl,rfl,by decide,by rw[af];lia,fun d hd=>?_⟩;refine hR _ _ (xf.new hd) fun H6 s6 k6=>⟨us++[d],by simp,by simp[hul],?_⟩;have k:=k6 d _ (.inl hd) xl;rw[show(aI " ")=(⟨#[32]⟩:Str)from rfl]at k
   by_cases hi:i<rs.length+1
   ·have hx:i<(lns o n rs).length:=by lia
    have hzx:z=((lns o n rs)[i]).txt:=by
     unfold xT at hz;rw[cU (by simpa using hx),ay,a5 hx]at hz;exact(ba hz).symm
    have hk:=okl _ (cm hx);rw[hzx,hk.split]at k;have e1:(us++[d]).take (rs.length+1)=us.take (rs.length+1)++[d]:=by
     rw[aZ (by simp;lia),aZ (by lia)]
    have e2:(lns o n rs).take (i+1)=(lns o n rs).take i++[(lns o n rs)[i]]:=by rw[aL,a5 hx];rfl
    rw[e1,e2];exact yC (show zP H6 d _ from k) (L2.Paired.imp' (fun _ _ (z:zP H3 _ _)=>(s6.at z:zP H6 _ _)) hus)
   ·have e1:(us++[d]).take (rs.length+1)=us.take (rs.length+1):=List.take_append_of_le_length (by lia);have e2:(lns o n rs).take (i+1)=(lns o n rs).take i:=by rw[aZ (by lia),aZ (by lia)]
    rw[e1,e2];exact L2.Paired.imp' (fun _ _ (z:zP H3 _ _)=>(s6.at z:zP H6 _ _)) hus
  obtain⟨us,rfl,hul,hus⟩:=hP;rw[ab,vG,ll]at hul hus;have e3:(lns o n rs).take (rs.length+1+1)=lns o n rs:=aZ (by lia);rw[e3]at hus;obtain⟨u9,eU⟩:∃u9,us=us.take (rs.length+1)++[u9]:=by
   have hd:rs.length+1<us.length:=by lia
   refine⟨us[rs.length+1],?_⟩
   conv=>lhs;rw[←List.take_append_drop (rs.length+1) us]
   rw[List.drop_eq_getElem_cons hd,List.drop_of_length_le (by lia)]
  have sA:=s3.trans s3';walk_at"w";refine⟨D,us.take (rs.length+1),u9,o,n,rs,rfl,by rw[←eU];exact he,L2.Paired.imp' (fun _ _ (z:zP H3 _ _)=>(s3'.at z:zP H3' _ _)) hus,ok,fun p H4 s4 hp=>?_⟩;walk_at"w";refine⟨p,o,n,rs,rfl,hp,ok,fun H5 s5=>?_⟩;walk_at"w";refine⟨fun z=>(by rw[show decide (zb (lns o n rs)=zb (lns o n rs))=true from decide_eq_true rfl]at z;cases z),fun _=>?_⟩;walk_at"w";exact q p H5 (sH1.trans (sA.trans (s4.trans s5))) (hp.same s5)
theorem TupAt.off{K:ae}{H:Hp}{t p:Addr}{r:xq}{xs:List V}{o:HO}(h:TupAt K H t r)(hp:H p=some (.lst xs)):TupAt K (upd H p o) t r:=by
 cases r with
 |take to st c=>show upd H p o t=_;rw[xA (vw h hp (by intro z;cases z))];exact h
 |put to sg=>
  obtain⟨u,h1,h2⟩:=h;exact⟨u,by rw[xA (vw h1 hp (by intro z;cases z))];exact h1,by rw[xA (vw h2 hp (by intro z;cases z))];exact h2⟩
def xe6:Sp:=fun vs H Q _=>∃c k:Int,vs=[.int c,.int k]∧∀v:Int,(v.natAbs:Int)<10^60→Q (.int v) H
def xdG:Sp:=fun vs H Q _=>∃c:Int,vs=[.int c]∧∀v:Int,Sm v→Q (.int v) H
def xdH:Sp:=fun vs H Q _=>∃d c:Int,vs=[.int d,.int c]∧0≤d∧d<2147483647∧∀(v:Int) (H':Hp),xf H H'→0≤v→v<10^60 - 1→Q (.int v) H'
def xe7(K:ae):Sp:=fun vs H Q _=>∃(l:Addr) (ns:List Int),vs=[.ref l]∧SqL K H l (ns.map V.int)∧ns.length≤63∧∀(t:Addr) (ts:List Addr) (rs:List xq) (H':Hp),xf H H'→H' t=some (.tup (ts.map V.ref))→Paired (TupAt K H') ts rs→rs.length≤20→(∀r∈rs,r.ok∧r.ln.ok)→Q (.ref t) H'
def xeh(K:ae):Sp:=fun vs H Q _=>∃(p:Addr) (o n:Int) (rs:List xq),vs=[.ref p]∧yE K H p o n rs∧Pok o n rs∧∀(l:Addr) (H':Hp),xf H H'→H' l=some (.lst ((xT (lns o n rs)).map V.str))→Q (.ref l) H'
def xei(K:ae):Sp:=fun vs H Q _=>∃(p:Addr) (o n:Int) (rs:List xq),vs=[.ref p]∧yE K H p o n rs∧Pok o n rs∧∀H',xf H H'→Q (.bl true) H'
theorem xe8(T:Txt w K mg a):xx P w K mg base CX0 2 a.q1p a.xbr ["_law_cell","_law_k"] xe6:=by
 refine T.q1r.ok xcn (fun vs H Q E h=>?_) (fun cdv A outer s H vs Q E hr h=>?_)
 ·obtain⟨c,k,rfl,_⟩:=h;rfl
 ·obtain⟨c,k,rfl,q⟩:=h;have nd:=xcn.nd;refine⟨_,(xg (xfE (i:=2) nd rfl (aB rfl) (xm (xbM T) (hr.mono (by decide)) (by rfl) T.xcm T.q1b.kp T.xcl .nil xo (xa (cv 0) (xa (cv 1) xb))))
  (xg (xI (xH xcA (xj xX (cv 2) xc) xc) (xh (xn (xj xX (xj yM (cv 2) xc) xc))) xE)
  (xh (xn (xj yy (xj xa2 (xj xX (xj yy (xj zQ (cv 2) (cv 2)) (cv 0)) (xj xa2 (xj zQ xc (xj vA xc xc)) xc)) (xj vA xc xc)) xc))))),?_⟩
  walk_at"w";refine⟨c,k,rfl,?_⟩;walk_at"w";refine xeL fun d hd=>?_;walk_at"w";have bd:0≤d∧d<2147483647:=by rw[hd];exact uK _
  clear hd;walk_at"ss";refine⟨fun _=>?_,fun _=>?_⟩
  ·walk_at"w";walk_at"ss";refine q _ ?_;have:=aY (d / 3) (show(4:Int)≠0 by decide);have:=aO (d / 3) (show(0:Int)<4 by decide);show(((d / 3%4:Int).natAbs:Nat):Int)<10^60;lia
  ·walk_at"w";walk_at"ss";refine q _ ?_;have e:(10:Int)^(60:Int).toNat=10^60:=rfl;show(((d*d+c)%(2*10^(60:Int).toNat - 1) - 10^(60:Int).toNat+1:Int).natAbs:Int)<10^60;rw[e];have:=aY (d*d+c) (show(2*10^60 - 1:Int)≠0 by decide);have:=aO (d*d+c) (show(0:Int)<2*10^60 - 1 by decide);lia
theorem xaN(T:Txt w K mg a):xx P w K mg base CX0 1 a.q08 a.jq ["_law_cell"] xdG:=by
 refine T.q0V.ok xaK (fun vs H Q E h=>?_) (fun cdv A outer s H vs Q E hr h=>?_)
 ·obtain⟨c,rfl,_⟩:=h;rfl
 ·obtain⟨c,rfl,q⟩:=h;have nd:=xaK.nd;refine⟨_,(xg (xI (xH xcA (xj xX (cv 0) xc) xc) (xh (xn (xj xX (xj yM (cv 0) xc) xc))) xE)
  (xh (xn (xj yy (xj xa2 (xj xX (xj yM (cv 0) xc) (xj xa2 (xj zQ xc (xj vA xc xc)) xc)) (xj vA xc xc)) xc)))),?_⟩
  walk_at"w";walk_at"ss";refine⟨fun _=>?_,fun _=>?_⟩
  ·walk_at"w";walk_at"ss";refine q _ ?_;have:=aY (c / 3) (show(301:Int)≠0 by decide);have:=aO (c / 3) (show(0:Int)<301 by decide);show(((c / 3%301:Int).natAbs:Nat):Int)<10^60;lia
  ·walk_at"w";walk_at"ss";refine q _ ?_;have e:(10:Int)^(60:Int).toNat=10^60:=rfl;show((c / 3%(2*10^(60:Int).toNat - 1) - 10^(60:Int).toNat+1:Int).natAbs:Int)<10^60;rw[e];have:=aY (c / 3) (show(2*10^60 - 1:Int)≠0 by decide);have:=aO (c / 3) (show(0:Int)<2*10^60 - 1 by decide);lia
theorem vv(T:Txt w K mg a):xx P w K mg base CX0 1 a.q07 a.jo ["_law_draw","_law_cell"] xdH:=by
 refine T.q0M.ok xaJ (fun vs H Q E h=>?_) (fun cdv A outer s H vs Q E hr h=>?_)
 ·obtain⟨d,c,rfl,_⟩:=h;rfl
 ·obtain⟨d,c,rfl,h0,h1,q⟩:=h;have nd:=xaJ.nd;refine⟨_,(xh (xn (xt yg (xP (xa (xj xX (cv 0) xc) (xa (xj xX (cv 0) xc) (xa (xj yy (xj xX (cv 1) (xj vA xc xc)) (cv 0)) xb)))) (xj xX (xj yM (cv 0) xc) xc) (fun _ _=>rfl)))),?_⟩;walk_at"w";walk_at"ss";intro l hl;generalize hUl:upd H l _=H1;have sH1:=xf.of_eq hl hUl;have el:=xi hUl;clear hUl;walk_at"w";walk_at"ss";have b3:(0:Int)≤d / 301%3∧d / 301%3<3:=⟨aY _ (by decide),aO _ (by decide)⟩;have e:(10:Int)^(59:Int).toNat=10^59:=rfl;obtain⟨v,hv,v0,v1⟩:∃v:Int,[d%10,d%301,c%10^(59:Int).toNat+d][(d / 301%3).toNat]? =some v∧0≤v∧v<10^60 - 1:=by
   rw[e];have t1:=aY d (show(10:Int)≠0 by decide);have t2:=aO d (show(0:Int)<10 by decide);have t3:=aY d (show(301:Int)≠0 by decide);have t4:=aO d (show(0:Int)<301 by decide);have t5:=aY c (show(10^59:Int)≠0 by decide);have t6:=aO c (show(0:Int)<10^59 by decide);have hk:d / 301%3=0∨d / 301%3=1∨d / 301%3=2:=by lia
   rcases hk with z|z|z
   ·rw[z];exact⟨_,rfl,by lia,by lia⟩
   ·rw[z];exact⟨_,rfl,by lia,by lia⟩
   ·rw[z];exact⟨_,rfl,by lia,by lia⟩
  refine⟨l,_,_,.int v,rfl,rfl,SqL.of el,?_,?_⟩
  ·exact xdn (xs:=[d%10,d%301,c%10^(59:Int).toNat+d]) b3.1 hv
  exact q v H1 sH1 v0 v1
theorem xe9(T:Txt w K mg a):xx P w K mg base CX0 3 a.q1q a.xbs ["_law_script"] (xe7 K):=by
 refine T.q1s.ok xco (fun vs H Q E h=>?_) (fun cdv A outer s H vs Q E hr h=>?_)
 ·obtain⟨l,ns,rfl,_⟩:=h;rfl
 ·obtain⟨l,ns,rfl,hl,hlen,q⟩:=h;have nd:=xco.nd;refine⟨_,(xg (xr (i:=1) nd rfl (aB rfl) (xP xb))
  (xg (zy bt rfl (xdk (by rfl) T.q1v (xa xc (xa (xv (xfJ rfl) (by rfl) T.q1R xfH (xa (xv xQ (by rfl) T.q1e yO (xa (cv 0) xb)) (xa xc xb))) xb))) (yf (i:=2) nd rfl (Or.inr rfl)) (xg (xr (i:=3) nd rfl (aB rfl) (xm (xbM T) (hr.mono (by decide)) (by rfl) T.xcm T.q1b.kp T.xcl .nil xo (xa (xt yg (cv 0) (cv 2) (fun _ _=>rfl)) (xa (cv 2) xb))))
  (xg (xr (i:=4) nd rfl (aB rfl) (xm (vv T) (hr.mono (by decide)) (by rfl) T.jt T.q0M.kp T.jr .nil xo (xa (xj yM (cv 3) xc) (xa (xt yg (cv 0) (cv 2) (fun _ _=>rfl)) xb))))
  (xh (xI (xH xcA (xj xX (cv 3) xc) xc) (xg (jK (i:=5) (yo (cap:=[0,2]) (ys:=["_law_script","_law_k"]) rfl rfl rfl rfl rfl ⟨⟨rfl,rfl,.inl rfl⟩,⟨⟨rfl,rfl,.inl rfl⟩,trivial⟩⟩ (by decide+kernel)) rfl nd rfl rfl (xaw (by rfl) T.q1v (xa (xj yy xc (xj xX (xj yM (cv 3) xc) xc)) xb)) (fun _ _ _ _=>(xm (xe8 T) (hr.mono (by decide)) (by rfl) T.xfR T.q1r.kp T.xfQ .nil xo (xa (xt (xd2 (K:=K) rfl) (cv 1) (cv 2) (fun _ _=>rfl)) (xa (cv 0) xb)))) (fun _ _ _ _=>yi))
  (xh (yt (yw PySem.F.plainAttrs_list PySem.F.slot_list_append PySem.F.type_list_append yJ (cv 1) (xa (yB (xa xC (xa (cv 4) (xa (xF ye (by rfl) T.q0j xO (xa (cv 5) xb)) xb)))) xb))))) (xh (yt (yw PySem.F.plainAttrs_list PySem.F.slot_list_append PySem.F.type_list_append yJ (cv 1) (xa (yB (xa xC (xa (cv 4) (xa (xm (vv T) (hr.mono (by decide)) (by rfl) T.jt T.q0M.kp T.jr .nil xo (xa (xj yM (cv 3) xc) (xa (xt yg (cv 0) (cv 2) (fun _ _=>rfl)) xb))) (xa (xj yy xc (xm (vv T) (hr.mono (by decide)) (by rfl) T.jt T.q0M.kp T.jr .nil xo (xa (xj yM (cv 3) xc) (xa (xt yg (cv 0) (cv 2) (fun _ _=>rfl)) xb)))) xb))))) xb)))))))))
  (xh (xn (xF ye (by rfl) T.q0j xO (xa (cv 1) xb)))))),?_⟩
  walk_at"w";walk_at"ss";intro rl hrl;generalize hUrl:upd H rl _=H1;have sH1:=xf.of_eq hrl hUrl;have erl:=xi hUrl;clear hUrl;walk_at"w";refine⟨l,_,rfl,.inl (sH1.seq hl),?_⟩;walk_at"w";generalize hn:yW 3 _ 1=n;have bn:n≤20∧∀i:Nat,i<n→3+i<ns.length:=by
   rw[←hn,xbg,ab];refine⟨by lia,fun i hi=>by lia⟩
  clear hn;refine xax (fun i σ G=>xf H G∧∃ts rs x2 x3 x4 x5,σ=[some (.ref l),some (.ref rl),x2,x3,x4,x5]∧G rl=some (.lst (ts.map V.ref))∧Paired (TupAt K G) ts rs∧rs.length=i∧∀r∈rs,r.ok∧r.ln.ok)
   ⟨sH1,[],[],_,_,_,_,rfl,erl,.nil,rfl,by simp⟩ (fun i σ G hi hP=>?_) (fun σ G hP=>?_)
  ·obtain⟨sG,ts,rs,x2,x3,x4,x5,rfl,eG,hts,hrl2,hok⟩:=hP;have hi':=bn.2 i hi;have tl:ts.length=rs.length:=hts.length;obtain⟨y,hy⟩:∃y,ns[(3+(i:Int)*1).toNat]? =some y:=⟨_,a5 (by lia)⟩;have aty:atI (ns.map V.int) (3+(i:Int)*1)=some (.int y):=xdn (by lia) hy;generalize hk:3+(i:Int)*1=k at aty;walk_at"w";refine⟨l,_,_,.int y,rfl,rfl,sG.seq hl,aty,?_⟩;walk_at"w";refine⟨y,k,rfl,?_⟩;have b0:=uK ((y%2147483647+7919*k+1)*48271%2147483647*((y%2147483647+7919*k+1)*48271%2147483647 / 1009+69621));generalize hm:mixed y k=m;have bm:0≤m∧m<2147483647:=by rw[←hm];exact b0
   clear hm b0;walk_at"w";walk_at"ss";refine⟨l,_,_,.int y,rfl,rfl,sG.seq hl,aty,?_⟩;walk_at"w";refine⟨_,_,rfl,by lia,by lia,fun to G1 s1 t0 t1=>?_⟩;walk_at"w";walk_at"ss";have sG1:=sG.trans s1;have fin:∀(t:Addr) (r:xq) (H5:Hp) (z5:Option V),xf G1 H5→TupAt K H5 t r→r.ok→r.ln.ok→∃(l':Addr) (xs:List V) (x:V),V.ref rl= .ref l'∧[V.ref t]=[x]∧H5 l'=some (.lst xs)∧xs.length<ak∧(xf H (upd H5 l' (.lst (xs++[x])))∧∃ts rs x2 x3 x4 x5,[some (.ref l),some (.ref rl),some (.int k),some (.int m),some (.int to),z5]=[some (V.ref l),some (.ref rl),x2,x3,x4,x5]∧upd H5 l' (.lst (xs++[x])) rl=some (.lst (ts.map V.ref))∧Paired (TupAt K (upd H5 l' (.lst (xs++[x])))) ts rs∧rs.length=i+1∧∀r∈rs,r.ok∧r.ln.ok):=by
    intro t r H5 z5 s5 hT ok1 ok2;have e5:=(s1.trans s5).at eG;refine⟨rl,_,_,rfl,rfl,e5,by rw[ab,af];lia,(sG1.trans s5).put hrl,ts++[t],rs++[r],_,_,_,_,rfl,?_,?_,by simp[hrl2],fun r' hr'=>?_⟩
    ·rw[xl,aP];rfl
    ·exact yC (hT.off e5) (L2.Paired.imp' (fun _ _ (z:TupAt K G _ _)=>(z.same (s1.trans s5)).off e5) hts)
    ·rcases bf.mp hr' with z|z
     ·exact hok r' z
     ·rw[br.mp z];exact⟨ok1,ok2⟩
   refine⟨fun _=>?_,fun _=>?_⟩
   ·walk_at"w";walk_at"ss";have b1:(0:Int)≤m / 2%6∧m / 2%6<6:=⟨aY _ (by decide),aO _ (by decide)⟩;generalize hn2:yW 0 (1+m / 2%6) 1=n2;have bn2:1≤n2∧n2≤6:=by rw[←hn2,xbg];lia
    clear hn2;refine xdm (fun i acc _=>∃sg:List Int,acc=sg.map V.int∧sg.length=i∧∀x∈sg,Sm x) (by rw[af];lia) ⟨[],rfl,rfl,by simp⟩ (fun i acc H3 H3' hi s3 s3' hP R hR=>?_) (fun D acc H3 H3' hD hD3 s3 s3' hP hle he=>?_)
    ·obtain⟨sg,rfl,hsl,hss⟩:=hP;walk_at"w";refine⟨l,_,_,.int y,rfl,rfl,(sG1.trans (s3.trans s3')).seq hl,aty,?_⟩;walk_at"w";refine⟨_,_,rfl,fun v hv=>hR _ _ (xf.refl _) fun H6 _ _=>⟨sg++[v],by simp,by simp[hsl],fun x hx=>?_⟩⟩;rcases bf.mp hx with z|z
     ·exact hss x z
     ·rw[br.mp z];exact hv
    obtain⟨sg,rfl,hsl,hss⟩:=hP;have sB:=s3.trans s3';walk_at"w";refine a6 (.inl ⟨rfl,_,SqL.of ((s1.trans sB).at eG)⟩) ?_;walk_at"w";refine⟨D,_,rfl,.inl ⟨SqL.of he,?_⟩⟩;intro u hu;generalize hUu:upd H3' u _=H4;have sH4:=xf.of_eq hu hUu;have eu:=xi hUu;clear hUu;walk_at"w";walk_at"ss";intro t ht;generalize hUt:upd H4 t _=H5;have sH5:=xf.of_eq ht hUt;have et:=xi hUt;clear hUt;walk_at"w";refine fin t (.put to sg) H5 _ (sB.trans (sH4.trans sH5)) ⟨u,et,sH5.at eu⟩ ⟨t0,fun z=>?_,by lia,hss⟩ ⟨by simp[vF,xq.ln],by simp[xq.ln],?_,?_⟩
    ·rw[z]at hsl;simp at hsl;lia
    ·show(to::sg).length≤7;rw[aw];lia
    ·intro x hx;rcases aC.mp hx with rfl|hx
     ·unfold Sm;lia
     ·exact hss x hx
   ·walk_at"w";refine a6 (.inl ⟨rfl,_,SqL.of (s1.at eG)⟩) ?_;walk_at"w";walk_at"ss";refine⟨l,_,_,.int y,rfl,rfl,sG1.seq hl,aty,?_⟩;walk_at"w";refine⟨_,_,rfl,by lia,by lia,fun st G2 s2 st0 st1=>?_⟩;walk_at"w";walk_at"ss";refine⟨l,_,_,.int y,rfl,rfl,(sG1.trans s2).seq hl,aty,?_⟩;walk_at"w";refine⟨_,_,rfl,by lia,by lia,fun c G3 s3 c0 c1=>?_⟩;walk_at"w";walk_at"ss";intro t ht;generalize hUt:upd G3 t _=G4;have sG4:=xf.of_eq ht hUt;have et:=xi hUt;clear hUt;walk_at"w";refine fin t (.take to st (1+c)) G4 _ (s2.trans (s3.trans sG4)) et ⟨t0,st0,by lia⟩ ⟨by simp[vF,xq.ln],by simp[xq.ln],by simp[xq.ln],?_⟩;intro x hx;simp only[xq.ln,aC,bE,or_false]at hx;unfold Sm;rcases hx with rfl|rfl|rfl<;> lia
  ·obtain⟨sG,ts,rs,x2,x3,x4,x5,rfl,eG,hts,hrl2,hok⟩:=hP;walk_at"w";refine⟨rl,_,rfl,.inl ⟨SqL.of eG,?_⟩⟩;intro t ht;generalize hUt:upd G t _=G1;have sG1:=xf.of_eq ht hUt;have et:=xi hUt;clear hUt;walk_at"w";exact q t ts rs G1 (sG.trans sG1) et (L2.Paired.imp' (fun _ _ z=>z.same sG1) hts) (by lia) hok
theorem xdI(o n:Int):("paper ":Str)++xD o++(" ":Str)++xD n=Ln.txt ⟨"paper",1,[o,n]⟩:=by
 refine vC ?_;unfold Ln.txt Ln.ws;rw[bb,bb,List.map_nil,yc,yc,zt,zt,zt];show("paper ":Str).cps.toList++(xD o).cps.toList++[32]++(xD n).cps.toList=("paper":Str).cps.toList++32::((xD o).cps.toList++32::(xD n).cps.toList);rw[show("paper ":Str).cps.toList=("paper":Str).cps.toList++[32]from rfl];simp only[List.append_assoc,List.singleton_append,List.cons_append,List.nil_append]
theorem xaO(ls:List Ln)(l:Ln):xU (ls++[l])=xU ls++l.c::l.ns:=by
 unfold xU;rw[cK];simp
theorem jx{o n:Int}{rs:List xq}{i:Nat}{r:xq}(h:rs[i]? =some r):lns o n (rs.take (i+1))=lns o n (rs.take i)++[r.ln]:=by
 unfold lns;rw[aL,h,aP];rfl
theorem xej(T:Txt w K mg a):xx P w K mg base CX0 1 a.q1g a.xai ["_law_paper"] (xeh K):=by
 refine T.q1i.ok xbA (fun vs H Q E h=>?_) (fun cdv A outer s H vs Q E hr h=>?_)
 ·obtain⟨p,o,n,rs,rfl,_⟩:=h;rfl
 ·obtain⟨p,o,n,rs,rfl,⟨t,ts,hp,ht,hts⟩,ok,q⟩:=h;have nd:=xbA.nd;refine⟨_,(xg (xfi (cv 0) (xfh rfl (vX (yf (i:=1) nd rfl (aB rfl)) (vX (yf (i:=2) nd rfl (aB rfl)) (vX (yf (i:=3) nd rfl (aB rfl)) xew)))))
  (xg (xr (i:=4) nd rfl (aB rfl) (xP (xa (xj zm (xj zm (xj zm xC (xF yZ (by rfl) T.q1o zA (xa (cv 1) xb))) xC) (xF yZ (by rfl) T.q1o zA (xa (cv 2) xb))) xb)))
  (xg (xr (i:=5) nd rfl (aB rfl) (xP (xa xc (xa (cv 1) (xa (cv 2) xb)))))
  (xg (zy bt rfl (uS (cv 3)) (yf (i:=6) nd rfl (aB rfl)) (xg (xr (i:=7) nd rfl (aB rfl) (xP (xa (xt xu (cv 6) xc (fun _ _=>rfl)) xb)))
  (xg (xdg (xI (xH jF (xt xu (cv 6) xc (fun _ _=>rfl)) xC) (xg (xr (i:=7) nd rfl (aB rfl) (xj yn (cv 7) (xP (xa (xt xu (cv 6) xc (fun _ _=>rfl)) (xa (xt xu (cv 6) xc (fun _ _=>rfl)) xb)))))
  (xh (xr (i:=5) nd rfl (aB rfl) (xj yn (xj yn (cv 5) (xP (xa xc xb))) (cv 7))))) (xg (xr (i:=7) nd rfl (aB rfl) (xj yn (cv 7) (xF uW (by rfl) T.q1A xcg (xa (xt xu (cv 6) xc (fun _ _=>rfl)) xb))))
  (xh (xr (i:=5) nd rfl (aB rfl) (xj yn (xj yn (cv 5) (xP (xa xc xb))) (cv 7)))))))
  (xh (yt (yw PySem.F.plainAttrs_list PySem.F.slot_list_append PySem.F.type_list_append yJ (cv 4) (xa (yw PySem.F.plainAttrs_str PySem.F.slot_str_join PySem.F.type_str_join vB xC (xa (xj yn (xP (xa (xt xu (cv 6) xc (fun _ _=>rfl)) xb)) (yz (yo (cap:=[]) (ys:=[]) rfl rfl rfl rfl rfl trivial (by decide+kernel)) rfl (yu (cv 7)) (fun _ _ _ _=>(xF yZ (by rfl) T.q1o zA (xa (cv 0) xb))) (fun _ _ _ _=>yi))) xb)) xb)))))))
  (xg (xr (i:=8) nd rfl (aB rfl) xc)
  (xg (zy bt rfl (yu (cv 5)) (yf (i:=9) nd rfl (aB rfl)) (xh (xr (i:=8) nd rfl (aB rfl) (xj xX (xj yy (xj yy (xj zQ (cv 8) xc) (cv 9)) xc) xc))))
  (xh (xn (xj yn (cv 4) (xP (xa (xj zm xC (xF yZ (by rfl) T.q1o zA (xa (cv 8) xb))) xb))))))))))),?_⟩
  have tl:ts.length=rs.length:=hts.length;have few:=ok.few;have lo:=za ok.o;have ln:=za ok.n;have okl:=ok.lns;have ll21:(lns o n rs).length=rs.length+1:=by unfold lns;simp
  have lenN:∀i,(xU (lns o n (rs.take i))).length≤8*(i+1):=by
   intro i
   induction i with
   |zero=>simp[xU,lns]
   |succ i ih=>
    cases hr0:rs[i]? with
    |none=>
     have e:rs.take (i+1)=rs.take i:=by rw[aL,hr0];simp
     rw[e];lia
    |some r=>
     have:=(ok.ln r (aA hr0)).2.2.1;rw[jx hr0,xaO,aV,aw];lia
  walk_at"w";refine⟨p,_,rfl,SqT.of hp,rfl,?_⟩;walk_at"w";refine⟨_,_,rfl,?_⟩;walk_at"w";refine⟨_,_,rfl,?_⟩;walk_at"w";refine⟨_,_,rfl,?_⟩;walk_at"w";refine a6 rfl ?_;walk_at"w";refine⟨_,_,rfl,rfl,fun i e=>(by injection e with e;rw[←e];exact zd ok.o),?_⟩;walk_at"w";refine⟨_,_,rfl,rfl,?_,?_⟩
  ·show 6+(xD o).length≤_;rw[af];lia
  walk_at"w";refine⟨_,_,rfl,rfl,?_,?_⟩
  ·rw[len_app];show 6+(xD o).length+1≤_;rw[af];lia
  walk_at"w";refine⟨_,_,rfl,rfl,fun i e=>(by injection e with e;rw[←e];exact zd ok.n),?_⟩;walk_at"w";refine⟨_,_,rfl,rfl,?_,?_⟩
  ·rw[len_app,len_app];show 6+(xD o).length+1+(xD n).length≤_;rw[af];lia
  have ePT:aI "paper "++aI (toString o)++aI " "++aI (toString n)=Ln.txt ⟨"paper",1,[o,n]⟩:=xdI o n;rw[ePT];walk_at"w";walk_at"ss";intro ll hll;generalize hUll:upd H ll _=H1;have sH1:=xf.of_eq hll hUll;have ell:=xi hUll;clear hUll;walk_at"w";walk_at"ss";intro nl0 hnl0;generalize hUnl0:upd H1 nl0 _=H2;have sH2:=xf.of_eq hnl0 hUnl0;have enl0:=xi hUnl0;clear hUnl0;walk_at"w";refine⟨t,rfl,⟨_,SqT.of ((sH1.trans sH2).at ht)⟩,?_⟩;have ne0:nl0≠ll:=fun z=>by rw[z,ell]at hnl0;cases hnl0
  refine xay (xs:=ts.map V.ref) (fun i σ G=>xf H G∧∃nl x6 x7 x8 x9,σ=[some (.ref p),some (.int o),some (.int n),some (.ref t),some (.ref ll),some (.ref nl),x6,x7,x8,x9]∧nl≠ll∧G ll=some (.lst ((lns o n (rs.take i)).map fun x=>V.str x.txt))∧G nl=some (.lst ((xU (lns o n (rs.take i))).map V.int)))
   ⟨sH1.trans sH2,nl0,_,_,_,_,rfl,ne0,sH2.at ell,enl0⟩ (fun i σ G hi hP=>SqT.of (hP.1.at ht)) (fun i x σ G hx hP=>?_) (fun σ G hP=>?_)
  ·obtain⟨sG,nl,x6,x7,x8,x9,rfl,ne,eL,eN⟩:=hP;rw[ay]at hx;obtain⟨t0,ht0,rfl⟩:=aD.mp hx;obtain⟨r,hr0,pr⟩:=xZ hts ht0;have hrm:r∈rs:=aA hr0;have hil:i<rs.length:=(aW.mp hr0).1;have okr:=ok.ln r hrm;have r7:=okr.2.2.1;have lN:=lenN i;have prG:=pr.same sG;have at1:∀G',xf G G'→∃xs v2,SqT K G' t0 (.str r.ln.w:: .int r.ln.ns.head! ::v2::xs):=by
    intro G' s';cases r with
    |take to st c=>exact⟨_,_,SqT.of (s'.at prG)⟩
    |put to sg=>obtain⟨u,h1,h2⟩:=prG;exact⟨_,_,SqT.of (s'.at h1)⟩
   obtain⟨xs1,v2,sq1⟩:=at1 G (xf.refl _);walk_at"w";refine⟨t0,_,_,.int r.ln.ns.head!,rfl,rfl,sq1,yv (j:=1) rfl,?_⟩;walk_at"w";walk_at"ss";intro s0 hs0;generalize hUs0:upd G s0 _=G1;have sG1:=xf.of_eq hs0 hUs0;have es0:=xi hUs0;clear hUs0;walk_at"w";have es0':G1 s0=some (.lst [V.int r.ln.ns.head!]):=es0;refine⟨fun σ' G'=>xf G1 G'∧∃sl nl',σ'=[some (.ref p),some (.int o),some (.int n),some (.ref t),some (.ref ll),some (.ref nl'),some (.ref t0),some (.ref sl),x8,x9]∧nl'≠ll∧G' sl=some (.lst (r.ln.ns.map V.int))∧G' nl'=some (.lst ((xU (lns o n (rs.take (i+1)))).map V.int)),?_,?_⟩
   ·rw[jx hr0,xaO];obtain⟨xs2,v3,sq2⟩:=at1 G1 sG1;refine⟨t0,_,_,.str r.ln.w,rfl,rfl,sq2,yv (j:=0) rfl,?_⟩;have eN1:=sG1.at eN;have eL1:=sG1.at eL;cases r with
    |take to st c=>
     have hT:G1 t0=some (.tup [.str "take",.int to,.int st,.int c]):=sG1.at prG;refine⟨fun _=>?_,by walk_at"no"⟩;walk_at"w";refine⟨t0,_,_,.int st,rfl,rfl,SqT.of hT,rfl,?_⟩;walk_at"w";refine⟨t0,_,_,.int c,rfl,rfl,SqT.of hT,rfl,?_⟩;walk_at"w";walk_at"ss";intro c1 hc1;generalize hUc1:upd G1 c1 _=G2;have sG2:=xf.of_eq hc1 hUc1;have ec1:=xi hUc1;clear hUc1;walk_at"w";refine⟨s0,c1,_,_,rfl,rfl,sG2.at es0',ec1,by simp[af],?_⟩;intro s1 hs1;generalize hUs1:upd G2 s1 _=G3;have sG3:=xf.of_eq hs1 hUs1;have es1:=xi hUs1;clear hUs1;walk_at"w";walk_at"ss";intro c2 hc2;generalize hUc2:upd G3 c2 _=G4;have sG4:=xf.of_eq hc2 hUc2;have ec2:=xi hUc2;clear hUc2;walk_at"w";refine⟨nl,c2,_,_,rfl,rfl,(sG2.trans (sG3.trans sG4)).at eN1,ec2,by rw[ab,af];simp;lia,?_⟩;intro c3 hc3;generalize hUc3:upd G4 c3 _=G5;have sG5:=xf.of_eq hc3 hUc3;have ec3:=xi hUc3;clear hUc3;walk_at"w";refine⟨c3,s1,_,_,rfl,rfl,ec3,(sG4.trans sG5).at es1,by simp[af];lia,?_⟩;intro c4 hc4;generalize hU:upd G5 c4 _=G6;have sG6:=xf.of_eq hc4 hU;have ec4:=xi hU;have sZ:=sG2.trans (sG3.trans (sG4.trans (sG5.trans sG6)));refine⟨sZ,s1,c4,rfl,fun z=>?_,(sG4.trans (sG5.trans sG6)).at es1,?_⟩
     ·rw[z,(sG2.trans (sG3.trans (sG4.trans sG5))).at eL1]at hc4;cases hc4
     ·rw[ec4];simp[xq.ln];rfl
    |put to sg=>
     obtain⟨u,h1,h2⟩:=prG;have hT:G1 t0=some (.tup [.str "put",.int to,.ref u]):=sG1.at h1;have hu1:=sG1.at h2;have r6:(to::sg).length≤7:=r7;rw[aw]at r6;refine⟨by walk_at"no",fun _=>?_⟩;walk_at"w";refine⟨t0,_,_,.ref u,rfl,rfl,SqT.of hT,rfl,?_⟩;walk_at"w";refine⟨u,_,rfl,.inr (SqT.of hu1),?_⟩;intro c1 hc1;generalize hUc1:upd G1 c1 _=G2;have sG2:=xf.of_eq hc1 hUc1;have ec1:=xi hUc1;clear hUc1;walk_at"w";refine⟨s0,c1,_,_,rfl,rfl,sG2.at es0',ec1,by simp[af];lia,?_⟩;intro s1 hs1;generalize hUs1:upd G2 s1 _=G3;have sG3:=xf.of_eq hs1 hUs1;have es1:=xi hUs1;clear hUs1;walk_at"w";walk_at"ss";intro c2 hc2;generalize hUc2:upd G3 c2 _=G4;have sG4:=xf.of_eq hc2 hUc2;have ec2:=xi hUc2;clear hUc2;walk_at"w";refine⟨nl,c2,_,_,rfl,rfl,(sG2.trans (sG3.trans sG4)).at eN1,ec2,by rw[ab,af];simp;lia,?_⟩;intro c3 hc3;generalize hUc3:upd G4 c3 _=G5;have sG5:=xf.of_eq hc3 hUc3;have ec3:=xi hUc3;clear hUc3;walk_at"w";refine⟨c3,s1,_,_,rfl,rfl,ec3,(sG4.trans sG5).at es1,by simp[af];lia,?_⟩;intro c4 hc4;generalize hU:upd G5 c4 _=G6;have sG6:=xf.of_eq hc4 hU;have ec4:=xi hU;have sZ:=sG2.trans (sG3.trans (sG4.trans (sG5.trans sG6)));refine⟨sZ,s1,c4,rfl,fun z=>?_,(sG4.trans (sG5.trans sG6)).at es1,?_⟩
     ·rw[z,(sG2.trans (sG3.trans (sG4.trans sG5))).at eL1]at hc4;cases hc4
     ·rw[ec4];simp[xq.ln];rfl
   ·rintro σ G2 ⟨s2,sl,nl',rfl,ne',eS,eN2⟩;have s02:=sG1.trans s2;have eL2:=s02.at eL;walk_at"w";refine a6 (.inl ⟨rfl,_,SqL.of eL2⟩) ?_;walk_at"w";refine a6 rfl ?_;walk_at"w";obtain⟨xs3,v4,sq3⟩:=at1 G2 s02;refine⟨t0,_,_,.str r.ln.w,rfl,rfl,sq3,yv (j:=0) rfl,?_⟩;walk_at"w";walk_at"ss";intro c1 hc1;generalize hUc1:upd G2 c1 _=G3;have sG3:=xf.of_eq hc1 hUc1;have ec1:=xi hUc1;clear hUc1;walk_at"w";refine⟨sl,rfl,⟨_,SqL.of (sG3.at eS)⟩,?_⟩;refine yP (fun i acc _=>acc=((r.ln.ns.take i).map xD).map V.str) (SqL.of (sG3.at eS)) (by rw[ab,af];lia) rfl (fun j y acc H3 H3' hy t3 t3' hP R hR=>?_) (fun D acc H3 H3' hD hD3 t3 t3' hP hle he=>?_)
    ·rw[ay]at hy;obtain⟨m,hm,rfl⟩:=aD.mp hy;walk_at"w";refine⟨_,xD m,rfl,rfl,fun i e=>(by injection e with e;rw[←e];exact zd (okr.2.2.2 m (aA hm))),hR _ _ (xf.refl _) fun H7 _ _=>?_⟩;rw[hP,aL,hm];simp
    rw[ab,aR]at hP;rw[hP]at he;have sD:=t3.trans t3';walk_at"w";refine⟨c1,D,_,_,rfl,rfl,sD.at ec1,he,by simp[af];lia,?_⟩;intro c2 hc2;generalize hUc2:upd H3' c2 _=H4;have sH4:=xf.of_eq hc2 hUc2;have ec2:=xi hUc2;clear hUc2;walk_at"w";have ec2':H4 c2=some (.lst (r.ln.ws.map V.str)):=ec2;have h1:=okr.uu;have h2:=okr.len;refine⟨_,c2,r.ln.ws,rfl,rfl,SqL.of ec2',ax h1 (by rw[af];decide),?_,?_⟩
    ·rw[yr];exact ax h2 (by rw[af];decide)
    rw[yr];walk_at"w";have sE:=sG3.trans (sD.trans sH4);refine⟨ll,_,_,rfl,rfl,sE.at eL2,?_,?_⟩
    ·rw[ab];unfold lns;rw[aw,ab,bp,af];lia
    refine⟨(sG.trans (s02.trans sE)).put hll,nl',_,_,_,_,rfl,ne',?_,?_⟩
    ·rw[xl,jx hr0,aP];rfl
    ·rw[xA ne'];exact sE.at eN2
  ·obtain⟨sG,nl,x6,x7,x8,x9,rfl,ne,eL,eN⟩:=hP;have eT:rs.take (ts.map V.ref).length=rs:=by rw[ab,tl,aR]
   rw[eT]at eL eN;walk_at"w";refine⟨nl,rfl,⟨_,SqL.of eN⟩,?_⟩;refine ur (xs:=(xU (lns o n rs)).map V.int) (fun i σ G1=>G1=G∧∃x,σ=[some (.ref p),some (.int o),some (.int n),some (.ref t),some (.ref ll),some (.ref nl),x6,x7,some (.int (yS ((xU (lns o n rs)).take i))),x]) ⟨rfl,_,rfl⟩ (fun i σ G1 hi hP=>by obtain⟨rfl,_⟩:=hP;exact SqL.of eN) (fun i x σ G1 hx hP=>?_) (fun σ G1 hP=>?_)
   ·obtain⟨rfl,x0,rfl⟩:=hP;rw[ay]at hx;obtain⟨m,hm,rfl⟩:=aD.mp hx;walk_at"w";walk_at"ss";refine⟨rfl,some (.int m),?_⟩;have e9:(xU (lns o n rs)).take (i+1)=(xU (lns o n rs)).take i++[m]:=by rw[aL,hm];rfl
    rw[e9,xaL];rfl
   ·obtain⟨rfl,x0,rfl⟩:=hP;rw[ab,aR];walk_at"w";refine⟨_,_,rfl,rfl,fun i e=>(by injection e with e;rw[←e];exact zd (xbJ _)),?_⟩;walk_at"w";have hS:=jv (lns o n rs);refine⟨_,_,rfl,rfl,?_,?_⟩
    ·unfold vo at hS;rw[len_app]at hS;exact ax hS (by rw[af];decide)
    have eS:aI "sum "++aI (toString (yS (xU (lns o n rs))))=vo (lns o n rs):=rfl;rw[eS];walk_at"w";walk_at"ss";intro c1 hc1;generalize hUc1:upd G1 c1 _=G2;have sG2:=xf.of_eq hc1 hUc1;have ec1:=xi hUc1;clear hUc1;walk_at"w";refine⟨ll,c1,_,_,rfl,rfl,sG2.at eL,ec1,?_,?_⟩
    ·rw[ab,af];simp;lia
    intro c2 hc2;refine q c2 _ (sG.trans (sG2.trans (xf.new hc2))) ?_;rw[xl];unfold xT;rw[aP,dU];rfl
theorem xek(T:Txt w K mg a):xx P w K mg base CX0 1 a.q1h a.xaj ["_law_paper"] (xei K):=by
 refine T.q1j.ok xbB (fun vs H Q E h=>?_) (fun cdv A outer s H vs Q E hr h=>?_)
 ·obtain⟨p,o,n,rs,rfl,_⟩:=h;rfl
 ·obtain⟨p,o,n,rs,rfl,⟨t,ts,hp,ht,hts⟩,ok,q⟩:=h;have nd:=xbB.nd;refine⟨_,(xg (xr (i:=1) nd rfl (aB rfl) (xP (xa (xt xu (cv 0) xc (fun _ _=>rfl)) (xa (xt xu (cv 0) xc (fun _ _=>rfl)) xb))))
  (xg (zy bt rfl (uS (xt xu (cv 0) xc (fun _ _=>rfl))) (yf (i:=2) nd rfl (aB rfl)) (xg (xI (yA (xY (xv xR (by rfl) T.q0a xy (xa (cv 2) (xa (xV (v:=.ty "tuple") (by rfl) T.q0j xO rfl) xb))))) (xh (xn vx)) xE)
  (xg (xr (i:=1) nd rfl (aB rfl) (xj yn (cv 1) (xP (xa (xt xu (cv 2) xc (fun _ _=>rfl)) xb))))
  (xh (xI (xH jF (xt xu (cv 2) xc (fun _ _=>rfl)) xC) (xg (xI (yA (xY (xv xR (by rfl) T.q0a xy (xa (xt xu (cv 2) xc (fun _ _=>rfl)) (xa (xV (v:=.ty "tuple") (by rfl) T.q0j xO rfl) xb))))) (xh (xn vx)) xE)
  (xh (xr (i:=1) nd rfl (aB rfl) (xj yn (cv 1) (xF uW (by rfl) T.q1A xcg (xa (xt xu (cv 2) xc (fun _ _=>rfl)) xb)))))) (xh (xr (i:=1) nd rfl (aB rfl) (xj yn (cv 1) (xP (xa (xt xu (cv 2) xc (fun _ _=>rfl)) (xa (xt xu (cv 2) xc (fun _ _=>rfl)) xb)))))))))))
  (xh (xn (zx (xes hr.units) (yz (yo (cap:=[]) (ys:=[]) rfl rfl rfl rfl rfl trivial (by decide+kernel)) rfl (yu (cv 1)) (fun _ _ _ _=>(cv 0)) (fun _ _ _ _=>(xeM (PW.pt (zp (yA (xY (xv (xfK (K:=K) rfl) (by rfl) T.q0a xy (xa (cv 0) (xa (xV (v:=.ty "int") (by rfl) T.q1z xbi rfl) xb))))) (uR (xY (xv (xfK (K:=K) rfl) (by rfl) T.q0a xy (xa (cv 0) (xa (xV (v:=.ty "bool") (by rfl) T.q1y xch rfl) xb)))))))))) (xP xb)))))),?_⟩
  have tl:ts.length=rs.length:=hts.length;have few:=ok.few;walk_at"w";refine⟨p,_,_,.int o,rfl,rfl,SqT.of hp,rfl,?_⟩;walk_at"w";refine⟨p,_,_,.int n,rfl,rfl,SqT.of hp,rfl,?_⟩;walk_at"w";walk_at"ss";intro nl0 hnl0;generalize hUnl0:upd H nl0 _=H1;have sH1:=xf.of_eq hnl0 hUnl0;have enl0:=xi hUnl0;clear hUnl0;walk_at"w";refine⟨p,_,_,.ref t,rfl,rfl,SqT.of (sH1.at hp),rfl,?_⟩;walk_at"w";refine⟨t,rfl,⟨_,SqT.of (sH1.at ht)⟩,?_⟩;refine xay (xs:=ts.map V.ref) (fun i σ G=>xf H G∧∃nl x2 xs,σ=[some (.ref p),some (.ref nl),x2]∧G nl=some (.lst (xs.map V.int))∧xs.length≤2+8*i) ⟨sH1,nl0,_,[o,n],rfl,enl0,by simp⟩ (fun i σ G hi hP=>SqT.of (hP.1.at ht)) (fun i x σ G hx hP=>?_) (fun σ G hP=>?_)
  ·obtain⟨sG,nl,x2,xs,rfl,eN,hxl⟩:=hP;rw[ay]at hx;obtain⟨t0,ht0,rfl⟩:=aD.mp hx;obtain⟨r,hr0,pr⟩:=xZ hts ht0;have hrm:r∈rs:=aA hr0;have hil:i<rs.length:=(aW.mp hr0).1;have okr:=ok.ln r hrm;have r7:=okr.2.2.1;have prG:=pr.same sG;walk_at"w";cases r with
   |take to st c=>
    have hT:G t0=some (.tup [.str "take",.int to,.int st,.int c]):=prG;refine⟨_,_,_,_,true,rfl,rfl,xJ.tup hT,rfl,?_⟩;walk_at"w";refine⟨by walk_at"no",fun _=>?_⟩;walk_at"w";refine⟨t0,_,_,.int to,rfl,rfl,SqT.of hT,rfl,?_⟩;walk_at"w";walk_at"ss";intro c1 hc1;generalize hUc1:upd G c1 _=G1;have sG1:=xf.of_eq hc1 hUc1;have ec1:=xi hUc1;clear hUc1;walk_at"w";refine⟨nl,c1,_,_,rfl,rfl,sG1.at eN,ec1,by rw[ab,af];simp;lia,?_⟩;intro n1 hn1;generalize hUn1:upd G1 n1 _=G2;have sG2:=xf.of_eq hn1 hUn1;have en1:=xi hUn1;clear hUn1;walk_at"w";have hT2:=(sG1.trans sG2).at hT;refine⟨t0,_,_,.str "take",rfl,rfl,SqT.of hT2,rfl,?_⟩;walk_at"w";refine⟨by walk_at"no",fun _=>?_⟩;walk_at"w";refine⟨t0,_,_,.int st,rfl,rfl,SqT.of hT2,rfl,?_⟩;walk_at"w";refine⟨t0,_,_,.int c,rfl,rfl,SqT.of hT2,rfl,?_⟩;walk_at"w";walk_at"ss";intro c2 hc2;generalize hUc2:upd G2 c2 _=G3;have sG3:=xf.of_eq hc2 hUc2;have ec2:=xi hUc2;clear hUc2;walk_at"w";refine⟨n1,c2,_,_,rfl,rfl,sG3.at en1,ec2,by simp[af];lia,?_⟩;intro c3 hc3;exact⟨sG.trans (sG1.trans (sG2.trans (sG3.trans (xf.new hc3)))),c3,_,xs++[to]++[st,c],rfl,by rw[xl];simp,by simp;lia⟩
   |put to sg=>
    obtain⟨u,hT,hu⟩:=prG;have r6:(to::sg).length≤7:=r7;rw[aw]at r6;refine⟨_,_,_,_,true,rfl,rfl,xJ.tup hT,rfl,?_⟩;walk_at"w";refine⟨by walk_at"no",fun _=>?_⟩;walk_at"w";refine⟨t0,_,_,.int to,rfl,rfl,SqT.of hT,rfl,?_⟩;walk_at"w";walk_at"ss";intro c1 hc1;generalize hUc1:upd G c1 _=G1;have sG1:=xf.of_eq hc1 hUc1;have ec1:=xi hUc1;clear hUc1;walk_at"w";refine⟨nl,c1,_,_,rfl,rfl,sG1.at eN,ec1,by rw[ab,af];simp;lia,?_⟩;intro n1 hn1;generalize hUn1:upd G1 n1 _=G2;have sG2:=xf.of_eq hn1 hUn1;have en1:=xi hUn1;clear hUn1;walk_at"w";have hT2:=(sG1.trans sG2).at hT;have hu2:=(sG1.trans sG2).at hu;refine⟨t0,_,_,.str "put",rfl,rfl,SqT.of hT2,rfl,?_⟩;walk_at"w";refine⟨fun _=>?_,by walk_at"no"⟩;walk_at"w";refine⟨t0,_,_,.ref u,rfl,rfl,SqT.of hT2,rfl,?_⟩;walk_at"w";refine⟨_,_,_,_,true,rfl,rfl,xJ.tup hu2,rfl,?_⟩;walk_at"w";refine⟨by walk_at"no",fun _=>?_⟩;walk_at"w";refine⟨t0,_,_,.ref u,rfl,rfl,SqT.of hT2,rfl,?_⟩;walk_at"w";refine⟨u,_,rfl,.inr (SqT.of hu2),?_⟩;intro c2 hc2;generalize hUc2:upd G2 c2 _=G3;have sG3:=xf.of_eq hc2 hUc2;have ec2:=xi hUc2;clear hUc2;walk_at"w";refine⟨n1,c2,_,_,rfl,rfl,sG3.at en1,ec2,by simp[af];lia,?_⟩;intro c3 hc3;exact⟨sG.trans (sG1.trans (sG2.trans (sG3.trans (xf.new hc3)))),c3,_,xs++[to]++sg,rfl,by rw[xl];simp,by simp;lia⟩
  ·obtain⟨sG,nl,x2,xs,rfl,eN,hxl⟩:=hP;rw[ab]at hxl;walk_at"w";refine⟨nl,rfl,⟨_,SqL.of eN⟩,?_⟩;refine xcF (fun _=>false) id (SqL.of eN) (by rw[ab,af];lia) (fun x H3 hx s3 R hR=>?_) (fun x H3 hx z=>by cases z) (fun D H3 hD s3 he=>?_)
   ·obtain⟨m,_,rfl⟩:=bM.mp hx;walk_at"w";refine⟨_,_,_,_,true,rfl,rfl,xJ.int _,rfl,?_⟩;walk_at"w";refine⟨by walk_at"no",fun _=>?_⟩;walk_at"w";refine⟨_,_,_,_,false,rfl,rfl,xJ.int _,rfl,?_⟩;exact hR H3 (xf.refl _)
   ·have he':H3 D=some (.lst (([]:List Int).map V.int)):=by rw[he];simp
    walk_at"w";walk_at"ss";intro e0 he0;generalize hUe0:upd H3 e0 _=H4;have sH4:=xf.of_eq he0 hUe0;have ee0:=xi hUe0;clear hUe0;walk_at"w";refine xeP (f:=fun b=>b) ⟨D,e0,[],[],rfl,rfl,SqL.of (sH4.at he'),SqL.of ee0,?_⟩;exact q H4 (sG.trans (s3.trans sH4))
def xel(o n:Int)(rs:List xq):cg:=.tuple [.int o,.int n,.tuple (rs.map xq.dat)]
theorem yE.rp{H:Hp}{p:Addr}{o n:Int}{rs:List xq}(h:yE K H p o n rs):Rp K H (.ref p) (xel o n rs):=by
 obtain⟨t,ts,h1,h2,h3⟩:=h;exact .tup (SqT.of h1) (.cons (.int _) (.cons (.int _) (.cons (.tup (SqT.of h2) (xcp h3)) .nil)))
theorem xb4(o n:Int)(rs:List xq):cE (xel o n rs)=true:=by
 unfold cE xel;have h1:=xbD rs;have h2:=jV rs;have e1:cb (.tuple [.int o,.int n,.tuple (rs.map xq.dat)])=true:=by
  simp[cb,bx,h1]
 have e2:cF (.tuple [.int o,.int n,.tuple (rs.map xq.dat)])≤64:=by
  simp[cF,bI];lia
 rw[e1,decide_eq_true e2];rfl
theorem xfV(T:Txt w K mg a):xx P w K mg base CX0 9 a.q1t a.xcJ ["_law_script"] (xbK K):=by
 refine T.xa6.ok xdw (fun vs H Q E h=>?_) (fun cdv A outer s H vs Q E hr h=>?_)
 ·obtain⟨l,ns,rfl,_⟩:=h;rfl
 ·obtain⟨l,ns,rfl,hl,hlen,k⟩:=h;have nd:=xdw.nd;refine⟨_,(xg (xr (i:=1) nd rfl (aB rfl) (xm (xaN T) (hr.mono (by decide)) (by rfl) T.xby T.q0V.kp T.xbx .nil xo (xa (xm (jY T) (hr.mono (by decide)) (by rfl) T.xaF T.q0G.kp T.xaE .nil xo (xa (cv 0) (xa xc xb))) xb)))
  (xg (xr (i:=2) nd rfl (aB rfl) (xm (xaN T) (hr.mono (by decide)) (by rfl) T.xby T.q0V.kp T.xbx .nil xo (xa (xm (jY T) (hr.mono (by decide)) (by rfl) T.xaF T.q0G.kp T.xaE .nil xo (xa (cv 0) (xa xc xb))) xb)))
  (xg (xr (i:=3) nd rfl (aB rfl) (yB (xa (cv 1) (xa (cv 2) (xa (xm (xe9 T) (hr.mono (by decide)) (by rfl) T.xfT T.q1s.kp T.xfS .nil xo (xa (cv 0) xb)) xb)))))
  (xg (xr (i:=4) nd rfl (aB rfl) (yw PySem.F.plainAttrs_str PySem.F.slot_str_join PySem.F.type_str_join vB xC (xa (xm (xej T) (hr.mono (by decide)) (by rfl) T.xeY T.q1i.kp T.xeX .nil xo (xa (cv 3) xb)) xb)))
  (xg (zy bt rfl (xaw (by rfl) T.q1v (xa xc xb)) (yf (i:=5) nd rfl (aB rfl)) (xg (xI (xH jG (xm (zi T) (hr.mono (by decide)) (by rfl) T.zK T.q0g.kp T.zJ .nil xo (xa (cv 3) xb)) (cv 4)) (xh (xn vx)) xE)
  (xg (xr (i:=6) nd rfl (aB rfl) (xm (uP T) (hr.mono (by decide)) (by rfl) T.vi T.q0i.kp T.vh .nil xo (xa (cv 4) xb)))
  (xh (xI (PW.pt (zp (yA (xY (xv xR (by rfl) T.q0a xy (xa (cv 6) (xa (xV (v:=.ty "tuple") (by rfl) T.q0j xO rfl) xb))))) (zp (yA (xY (xv xR (by rfl) T.q0a xy (xa (xt xu (cv 6) xc (fun _ _=>rfl)) (xa (xV (v:=.ty "tuple") (by rfl) T.q0j xO rfl) xb))))) (zp (xH (xet hr.units) (cv 6) (cv 3)) (uR (yA (xY (xm (xek T) (hr.mono (by decide)) (by rfl) T.xe0 T.q1j.kp T.xeZ .nil xo (xa (cv 6) xb))))))))) (xh (xn vx)) xE)))))
  (xh (xn (zx jF (xm (zi T) (hr.mono (by decide)) (by rfl) T.zK T.q0g.kp T.zJ .nil xo (xa (xm (uP T) (hr.mono (by decide)) (by rfl) T.vi T.q0i.kp T.vh .nil xo (xa (cv 4) xb)) xb)) (cv 4))))))))),?_⟩
  walk_at"w";refine⟨l,ns,_,rfl,hl,by decide,?_⟩;walk_at"w";refine⟨_,rfl,fun o ho=>?_⟩;walk_at"w";refine⟨l,ns,_,rfl,hl,by decide,?_⟩;walk_at"w";refine⟨_,rfl,fun n hn=>?_⟩;walk_at"w";refine⟨l,ns,rfl,hl,hlen,fun t ts rs H1 s1 et hts few hok=>?_⟩;have ok:Pok o n rs:=⟨ho,hn,few,fun r hr=>(hok r hr).1,fun r hr=>(hok r hr).2⟩;have okl:=ok.lns;have ll:(lns o n rs).length=rs.length+1:=by unfold lns;simp
  walk_at"w";walk_at"ss";intro p hp;generalize hUp:upd H1 p _=H2;have sH2:=xf.of_eq hp hUp;have ep:=xi hUp;clear hUp;walk_at"w";have pap:yE K H2 p o n rs:=⟨t,ts,ep,sH2.at et,L2.Paired.imp' (fun _ _ z=>z.same sH2) hts⟩;refine a6 rfl ?_;walk_at"w";refine⟨p,o,n,rs,rfl,pap,ok,fun sl H3 s3 es=>?_⟩;walk_at"w";have h1:=jW okl (by lia);have h2:=vq okl (by lia);refine⟨_,sl,xT (lns o n rs),rfl,rfl,SqL.of es,ax h1 (by rw[af];decide),?_,?_⟩
  ·rw[yr];exact ax h2 (by rw[af];decide)
  have eJ:jM (aI "\n") (xT (lns o n rs))=zb (lns o n rs):=yr _ _;rw[eJ];have pap3:=pap.same s3;have same:decide (zb (lns o n rs)=zb (lns o n rs))=true:=decide_eq_true rfl;generalize hX:zb (lns o n rs)=X at same;walk_at"w";walk_at"ss";refine xax (fun _ σ G=>xf H3 G∧∃x5 x6,σ=[some (.ref l),some (.int o),some (.int n),some (.ref p),some (.str X),x5,x6]) ⟨xf.refl _,_,_,rfl⟩ (fun i σ G hi hP=>?_) (fun σ G hP=>?_)
  ·obtain⟨sG,x5,x6,rfl⟩:=hP;walk_at"w";refine⟨p,o,n,rs,rfl,pap3.same sG,ok,fun G1 s1=>?_⟩;rw[hX];walk_at"w";refine⟨fun z=>(by rw[same]at z;cases z),fun _=>?_⟩;walk_at"w";refine⟨o,n,rs,(by rw[hX];rfl),ok,fun g G2 s2 hg=>?_⟩;walk_at"w";obtain⟨t2,ts2,eg,et2,hts2⟩:=id hg;refine⟨_,_,_,_,true,rfl,rfl,xJ.tup eg,rfl,?_⟩;walk_at"w";refine⟨by walk_at"no",fun _=>?_⟩;walk_at"w";refine⟨g,_,_,.ref t2,rfl,rfl,SqT.of eg,rfl,?_⟩;walk_at"w";refine⟨_,_,_,_,true,rfl,rfl,xJ.tup et2,rfl,?_⟩;walk_at"w";refine⟨by walk_at"no",fun _=>?_⟩;walk_at"w";refine xd1 hg.rp (pap3.same (sG.trans (s1.trans s2))).rp (xb4 o n rs) ?_;walk_at"w";refine⟨by walk_at"no",fun _=>?_⟩;walk_at"w";refine⟨g,o,n,rs,rfl,hg,ok,fun G3 s3'=>?_⟩;walk_at"w";refine⟨by walk_at"no",fun _=>?_⟩;exact⟨sG.trans (s1.trans (s2.trans s3')),_,_,rfl⟩
  ·obtain⟨sG,x5,x6,rfl⟩:=hP;walk_at"w";refine⟨o,n,rs,(by rw[hX];rfl),ok,fun g G2 s2 hg=>?_⟩;walk_at"w";refine⟨g,o,n,rs,rfl,hg,ok,fun G1 s1=>?_⟩;rw[hX];walk_at"w";show Q (.bl (decide (X=X))) G1;rw[same];exact k G1
end
abbrev NI(K:ae)(x:Str)(f:Addr):Prop:=b6 K aX x=some (some (.ref f))
abbrev NN(K:ae)(x:Str):Prop:=b6 K aX x=some none
def FL(K:ae)(x q:Str)(st:Stmt)(f:Addr):Prop:=∃fd,Fun K x q st f fd
theorem ya{n:Nat}{us:List Value}(h:us.length=n+1):∃u r,us=u::r∧r.length=n:=by
 cases us with
 |nil=>cases h
 |cons u r=>exact⟨u,r,rfl,Nat.succ.inj h⟩
theorem vH{us:List Value}(h:us.length=0):us=[]:=dh.mp h
theorem bn1{K:ae}{x q:Str}{st:Stmt}{f:Addr}{fd:au}{p1:Str}(F:Fun K x q st f fd)(h:∀(kV doc pm:Value) (an:Option Addr) (cdv ct u1:Value),c7 (cf x q (yx st) (yh st) (xk st) .none kV doc pm an cdv ct) ⟨[u1],[]⟩=pure [(p1,u1)]:=by intros;exact rfl):Binds K fd [p1] []:=by
 refine F.binds fun kV doc pm an cdv ct us hl=>?_;obtain⟨u1,r1,rfl,k1⟩:=ya hl;obtain rfl:=vH k1;exact h kV doc pm an cdv ct u1
theorem bn2{K:ae}{x q:Str}{st:Stmt}{f:Addr}{fd:au}{p1 p2:Str}(F:Fun K x q st f fd)(h:∀(kV doc pm:Value) (an:Option Addr) (cdv ct u1 u2:Value),c7 (cf x q (yx st) (yh st) (xk st) .none kV doc pm an cdv ct) ⟨[u1,u2],[]⟩=pure [(p1,u1),(p2,u2)]:=by intros;exact rfl):Binds K fd [p1,p2] []:=by
 refine F.binds fun kV doc pm an cdv ct us hl=>?_;obtain⟨u1,r1,rfl,k1⟩:=ya hl;obtain⟨u2,r2,rfl,k2⟩:=ya k1;obtain rfl:=vH k2;exact h kV doc pm an cdv ct u1 u2
theorem bn3{K:ae}{x q:Str}{st:Stmt}{f:Addr}{fd:au}{p1 p2 p3:Str}(F:Fun K x q st f fd)(h:∀(kV doc pm:Value) (an:Option Addr) (cdv ct u1 u2 u3:Value),c7 (cf x q (yx st) (yh st) (xk st) .none kV doc pm an cdv ct) ⟨[u1,u2,u3],[]⟩=pure [(p1,u1),(p2,u2),(p3,u3)]:=by intros;exact rfl):Binds K fd [p1,p2,p3] []:=by
 refine F.binds fun kV doc pm an cdv ct us hl=>?_;obtain⟨u1,r1,rfl,k1⟩:=ya hl;obtain⟨u2,r2,rfl,k2⟩:=ya k1;obtain⟨u3,r3,rfl,k3⟩:=ya k2;obtain rfl:=vH k3;exact h kV doc pm an cdv ct u1 u2 u3
theorem bn4{K:ae}{x q:Str}{st:Stmt}{f:Addr}{fd:au}{p1 p2 p3 p4:Str}(F:Fun K x q st f fd)(h:∀(kV doc pm:Value) (an:Option Addr) (cdv ct u1 u2 u3 u4:Value),c7 (cf x q (yx st) (yh st) (xk st) .none kV doc pm an cdv ct) ⟨[u1,u2,u3,u4],[]⟩=pure [(p1,u1),(p2,u2),(p3,u3),(p4,u4)]:=by intros;exact rfl):Binds K fd [p1,p2,p3,p4] []:=by
 refine F.binds fun kV doc pm an cdv ct us hl=>?_;obtain⟨u1,r1,rfl,k1⟩:=ya hl;obtain⟨u2,r2,rfl,k2⟩:=ya k1;obtain⟨u3,r3,rfl,k3⟩:=ya k2;obtain⟨u4,r4,rfl,k4⟩:=ya k3;obtain rfl:=vH k4;exact h kV doc pm an cdv ct u1 u2 u3 u4
theorem xfW{l:W.OpenLaw}{w:World}{K:ae}{h:Heap}{mg:Str→Option Value}{fa:Addr}{q0w q0o q0p q0x q0y q04 q0q q0A q0B q0Q q0f q0H q0r q0I q0R q0s q05 q0t q0J q06 q0e q0k q0l q0S q1f q1p q07 q1q q1g q08 q1h q1t q0X q0d q0h:Addr}{q0Y:Tok}{q0F:Addr}{q1F:Array DictEntry}{q14:Nat}{q1S q1T q1U:Tok}{q2w q2x:Option Addr}{q2y:Array (Option Value)}{q2z q2A q2B q2C q2i q2D:Value}(X:K.In h)(G:h.Ns aX mg)(hfa:mg "law"=some (.ref fa))
  (q2j:NI K "Row" q0X)
  (q2e:NI K "Take" q0d)
  (q2k:NI K "Put" q0h)
  (q2p:bg K (.ref q0X) "__init__"=some (some (.ref q0w)))
  (q0Z:FL K "__init__" "Row.__init__" uv q0w)
  (q2n:bg K (.ref q0d) "__init__"=some (some (.ref q0o)))
  (q0O:FL K "__init__" "Take.__init__" zW q0o)
  (q2o:bg K (.ref q0d) "told"=some (some (.ref q0p)))
  (q0P:FL K "told" "Take.told" zX q0p)
  (q2q:bg K (.ref q0h) "__init__"=some (some (.ref q0x)))
  (q00:FL K "__init__" "Put.__init__" uw q0x)
  (q2r:bg K (.ref q0h) "told"=some (some (.ref q0y)))
  (q01:FL K "told" "Put.told" ux q0y)
  (q15:NI K "row_of" q04)
  (q0C:FL K "row_of" "row_of" jg q04)
  (q1K:NI K "tells_take" q0q)
  (q0u:FL K "tells_take" "tells_take" zB q0q)
  (q1O:NI K "tells_put" q0A)
  (q0D:FL K "tells_put" "tells_put" zY q0A)
  (q1P:NI K "are_signs" q0B)
  (q0E:FL K "are_signs" "are_signs" zZ q0B)
  (q11:NI K "is_sign" q0Q)
  (q0T:FL K "is_sign" "is_sign" vb q0Q)
  (q1B:NI K "is_whole_from" q0f)
  (q0b:FL K "is_whole_from" "is_whole_from" yQ q0f)
  (q1V:NI K "is_whole" q0H)
  (q0z:FL K "is_whole" "is_whole" uy q0H)
  (q1L:NI K "paper_text" q0r)
  (q0g:FL K "paper_text" "paper_text" zC q0r)
  (q1W:NI K "lines_of" q0I)
  (q0K:FL K "lines_of" "lines_of" uz q0I)
  (q12:NI K "line_of" q0R)
  (q0U:FL K "line_of" "line_of" vc q0R)
  (q1M:NI K "numbers_in" q0s)
  (q0v:FL K "numbers_in" "numbers_in" zD q0s)
  (q16:NI K "sum_of" q05)
  (q09:FL K "sum_of" "sum_of" jh q05)
  (q1N:NI K "read_paper" q0t)
  (q0i:FL K "read_paper" "read_paper" zE q0t)
  (q1X:NI K "paper_in" q0J)
  (q0L:FL K "paper_in" "paper_in" uA q0J)
  (q17:NI K "row_in" q06)
  (q1a:FL K "row_in" "row_in" ji q06)
  (q1x:NI K "numbers_behind" q0e)
  (q0c:FL K "numbers_behind" "numbers_behind" yG q0e)
  (q1G:NI K "read_number" q0k)
  (q0m:FL K "read_number" "read_number" ze q0k)
  (q1H:NI K "are_figures" q0l)
  (q0n:FL K "are_figures" "are_figures" zf q0l)
  (q13:NI K "_law_cell_at" q0S)
  (q0G:FL K "_law_cell_at" "_law_cell_at" vd q0S)
  (q2f:NI K "_law_mixed" q1f)
  (q1b:FL K "_law_mixed" "_law_mixed" xae q1f)
  (q2l:NI K "_law_sign" q1p)
  (q1r:FL K "_law_sign" "_law_sign" xbp q1p)
  (q18:NI K "_law_number" q07)
  (q0M:FL K "_law_number" "_law_number" jj q07)
  (q2m:NI K "_law_rows" q1q)
  (q1s:FL K "_law_rows" "_law_rows" xbq q1q)
  (q2g:NI K "_law_shown" q1g)
  (q1i:FL K "_law_shown" "_law_shown" xaf q1g)
  (q19:NI K "_law_length" q08)
  (q0V:FL K "_law_length" "_law_length" jk q08)
  (q2h:NI K "_law_plain" q1h)
  (q1j:FL K "_law_plain" "_law_plain" xag q1h)
  (q2s:NI K "law" q1t)
  (q2t:K.lookup q1t=some ⟨q2z,q2w,.func (cf "law" "law" (yx vE) (yh vE) (xk vE) .none q2A q2B q2C q2x q2i q2D),q2y⟩)
  (q2u:W.codeIn K q2i "law"=true)
  (q2v:cL K (.ref q1t)=true)
  (q2d:Cls K q0X)
  (q1w:xB K q0X "count")
  (q1E:xB K q0X "to")
  (q03:Cls K q0d)
  (q0N:xB K q0d "count")
  (q02:xB K q0d "source")
  (q1n:xB K q0d "to")
  (q1D:Mk K q0d q0o)
  (q1k:Cls K q0h)
  (q1c:xB K q0h "count")
  (q0W:xB K q0h "signs")
  (q1u:xB K q0h "to")
  (q1J:Mk K q0h q0x)
  (q1l:Meth K q0h "told" q0y)
  (q1d:Meth K q0d "told" q0p)
  (q1m:xd0 K q0X "__init__" q0w)
  (q1C:b6 K aX "MOST_FIGURES"=some (some (.int 60 q0Y)))
  (q2a:NI K "WORDS" q0F)
  (q2b:K.lookup q0F=some ⟨.type "dict",none,.dict q1F q14,#[]⟩)
  (q2c:W.KeysLit w.params q1F.toList)
  (q1Y:b6 K q0F "paper"=some (some (.int 1 q1S)))
  (q1Z:b6 K q0F "take"=some (some (.int 2 q1T)))
  (q10:b6 K q0F "put"=some (some (.int 3 q1U)))
  (q1Q:NN K "abs")
  (q1I:NN K "all")
  (q1y:NN K "bool")
  (q1z:NN K "int")
  (q0a:NN K "isinstance")
  (q1e:NN K "len")
  (q1A:NN K "list")
  (q1R:NN K "min")
  (q1v:NN K "range")
  (q1o:NN K "str")
  (q0j:NN K "tuple")
  :∃fd:au,(∀(s:aa) (v:Value),dv s fd ⟨[v],[]⟩ [("_law_script",v)])∧∀base:Heap,K.In base→base.Ns aX mg→xx l.prog w K mg base CX0 9 fa fd ["_law_script"] (xbK K):=by
 have e:=hfa.symm.trans (W.mg_of X G q2s);have e2:q1t=fa:=by injection e with e;injection e with e;exact e.symm
 subst e2;obtain⟨_,q0Z⟩:=q0Z;obtain⟨_,q0O⟩:=q0O;obtain⟨_,q0P⟩:=q0P;obtain⟨_,q00⟩:=q00;obtain⟨_,q01⟩:=q01;obtain⟨_,q0C⟩:=q0C;obtain⟨_,q0u⟩:=q0u;obtain⟨_,q0D⟩:=q0D;obtain⟨_,q0E⟩:=q0E;obtain⟨_,q0T⟩:=q0T;obtain⟨_,q0b⟩:=q0b;obtain⟨_,q0z⟩:=q0z;obtain⟨_,q0g⟩:=q0g;obtain⟨_,q0K⟩:=q0K;obtain⟨_,q0U⟩:=q0U;obtain⟨_,q0v⟩:=q0v;obtain⟨_,q09⟩:=q09;obtain⟨_,q0i⟩:=q0i;obtain⟨_,q0L⟩:=q0L;obtain⟨_,q1a⟩:=q1a;obtain⟨_,q0c⟩:=q0c;obtain⟨_,q0m⟩:=q0m;obtain⟨_,q0n⟩:=q0n;obtain⟨_,q0G⟩:=q0G;obtain⟨_,q1b⟩:=q1b;obtain⟨_,q1r⟩:=q1r;obtain⟨_,q0M⟩:=q0M;obtain⟨_,q1s⟩:=q1s;obtain⟨_,q1i⟩:=q1i;obtain⟨_,q0V⟩:=q0V;obtain⟨_,q1j⟩:=q1j;have xa6:=xde (st:=vE) q2t q2u q2v;have g {x v} (q:b6 K aX x=some (some v)):=W.mg_of X G q;have g0 {x} (q:b6 K aX x=some none):=W.mg_none_of X G q;have T:Txt w K mg ⟨q0w,_,q0o,_,q0p,_,q0x,_,q0y,_,q04,_,q0q,_,q0A,_,q0B,_,q0Q,_,q0f,_,q0H,_,q0r,_,q0I,_,q0R,_,q0s,_,q05,_,q0t,_,q0J,_,q06,_,q0e,_,q0k,_,q0l,_,q0S,_,q1f,_,q1p,_,q07,_,q1q,_,q1g,_,q08,_,q1h,_,q1t,_,q0X,q0d,q0h,q0Y,q0F⟩:=⟨q0Z,bn2 q0Z,q0O,bn4 q0O,q0P,bn1 q0P,q00,bn3 q00,q01,bn1 q01,q0C,bn1 q0C,g q15,q0u,bn1 q0u,g q1K,q0D,bn1 q0D,g q1O,q0E,bn1 q0E,g q1P,q0T,bn1 q0T,g q11,q0b,bn2 q0b,g q1B,q0z,bn1 q0z,g q1V,q0g,bn1 q0g,g q1L,q0K,bn1 q0K,g q1W,q0U,bn1 q0U,g q12,q0v,bn1 q0v,g q1M,q09,bn1 q09,g q16,q0i,bn1 q0i,g q1N,q0L,bn1 q0L,g q1X,q1a,bn1 q1a,g q17,q0c,bn1 q0c,g q1x,q0m,bn1 q0m,g q1G,q0n,bn1 q0n,g q1H,q0G,bn2 q0G,g q13,q1b,bn2 q1b,g q2f,q1r,bn2 q1r,g q2l,q0M,bn2 q0M,g q18,q1s,bn1 q1s,g q2m,q1i,bn1 q1i,g q2g,q0V,bn1 q0V,g q19,q1j,bn1 q1j,g q2h,xa6,bn1 xa6,g q2j,q2d,q1w,q1E,g q2e,q03,q0N,q02,q1n,q1D,g q2k,q1k,q1c,q0W,q1u,q1J,g q1C,g q2a,⟨⟨_,_,q2b,q2c⟩,(xad q1Y (xad q1Z (xad q10 (fun _ _ z=>nomatch z))))⟩,q1l,q1d,q1m,g0 q1Q,g0 q1I,g0 q1y,g0 q1z,g0 q0a,g0 q1e,g0 q1A,g0 q1R,g0 q1v,g0 q1o,g0 q0j⟩;exact⟨_,fun s v=>.of_eq rfl,fun base _ _=>xfV T⟩
end K62
open PySem PySem.W PyProof.Rows
namespace PySem.W.Fast
theorem tw1757893434621405442:True:=trivial
theorem tw1605558302317798787:True:=trivial
theorem tw4379502605342232805:True:=trivial
theorem tw5836558239407600101:True:=trivial
theorem tw4705582753765288268:True:=trivial
theorem tw10047510718996265836:True:=trivial
theorem tw6748716353670443085:True:=trivial
theorem tw1860033693388564174:True:=trivial
theorem tw18328561535026078451:True:=trivial
theorem tw2761533597443357332:True:=trivial
theorem tw9650809958722438325:True:=trivial
theorem tw5096533599238839221:True:=trivial
theorem tw16802153640319761846:True:=trivial
theorem tw13677085965751720375:True:=trivial
theorem tw239208901872896983:True:=trivial
theorem tw1787593445696839258:True:=trivial
theorem tw3054639903494689402:True:=trivial
theorem tw1807442461463198362:True:=trivial
theorem tw10276289960883264987:True:=trivial
theorem tw6465480899543504574:True:=trivial
theorem tw18101162912574835582:True:=trivial
theorem tw9658011264714415391:True:=trivial
theorem tw9027966595609090815:True:=trivial
theorem tw14053955604467018179:True:=trivial
theorem tw383976524426207502:True:=trivial
theorem tw9737962205906398298:True:=trivial
theorem tw4226709295401011050:True:=trivial
theorem tw12063821762707690039:True:=trivial
theorem tw3049687155059423581:True:=trivial
theorem tw933339833210255677:True:=trivial
theorem tw5248851067499411368:True:=trivial
theorem tw249583220505696635:True:=trivial
theorem tw6558872916252396926:True:=trivial
theorem tw10820498866578629882:True:=trivial
theorem tw15594002830276696617:True:=trivial
theorem tw16974177387746592834:True:=trivial
theorem tw17446161967485992424:True:=trivial
theorem tw3093912141800283357:True:=trivial
theorem tw4325502762248915450:True:=trivial
theorem tw11106116831429134291:True:=trivial
theorem tw1960896631199256837:True:=trivial
theorem tw14031884030826171648:True:=trivial
theorem tw17218872347699012846:True:=trivial
theorem tw1230168020564749077:True:=trivial
theorem tw7727670376048442731:True:=trivial
theorem tw10146243846997280363:True:=trivial
theorem tw6015283710298781677:True:=trivial
theorem tw5934324652489404695:True:=trivial
theorem tw4542547987472355711:True:=trivial
theorem tw2147379915227427174:True:=trivial
theorem tw17392188927000561611:True:=trivial
theorem tw1733253424616555043:True:=trivial
theorem tw2358307659378044817:True:=trivial
theorem tw160182513571831123:True:=trivial
theorem tw633816771437368111:True:=trivial
theorem tw4961630233834487737:True:=trivial
theorem tw4831318451778424648:True:=trivial
theorem tw15155018150815376531:True:=trivial
theorem tw7731164588203281344:True:=trivial
theorem tw5271714715617247293:True:=trivial
theorem tw15857014271312933463:True:=trivial
theorem tw16332690376286379062:True:=trivial
theorem tw12198428743664876720:True:=trivial
theorem tw2966471459398208342:True:=trivial
theorem tw12267748549637818474:True:=trivial
theorem tw9054935615397468016:True:=trivial
theorem tw8337250493583272303:True:=trivial
theorem tw9869417309404581893:True:=trivial
theorem tw9081232986504096803:True:=trivial
theorem tw3092822968766624604:True:=trivial
theorem tw3153467530579212776:True:=trivial
theorem tw6065817228640214853:True:=trivial
theorem tw17911967591105293307:True:=trivial
theorem tw11377686716389140279:True:=trivial
theorem tw875202147320248347:True:=trivial
theorem tw6241696518243907876:True:=trivial
theorem tw11218665354352836466:True:=trivial
theorem tw1828065457618931714:True:=trivial
theorem tw15753603200618160760:True:=trivial
theorem tw4625041121542070607:True:=trivial
theorem tw5083672805696717545:True:=trivial
theorem tw5715113013565361200:True:=trivial
theorem tw17257845876993359388:True:=trivial
theorem tw13070704310884307591:True:=trivial
theorem tw4153533433063990227:True:=trivial
theorem tw17287999094084603618:True:=trivial
theorem tw1525844444248548632:True:=trivial
theorem tw7166463897503106356:True:=trivial
theorem tw4130981091809890506:True:=trivial
theorem tw3395206651944971860:True:=trivial
theorem tw7731222299492008195:True:=trivial
theorem tw6702907669551818164:True:=trivial
theorem tw12916345020500247957:True:=trivial
theorem tw10433497542299418980:True:=trivial
theorem tw5317300695597825537:True:=trivial
theorem tw12998635283540476778:True:=trivial
theorem tw12150961668618878899:True:=trivial
theorem tw12799400391492713125:True:=trivial
theorem tw13828401509959285571:True:=trivial
theorem tw1680509144418773347:True:=trivial
theorem tw5347179635075730079:True:=trivial
theorem tw10657205289762959768:True:=trivial
theorem tw4054142224922499800:True:=trivial
theorem tw16288792638297341260:True:=trivial
theorem tw4164650568880771981:True:=trivial
theorem tw2994944270706729029:True:=trivial
theorem tw12821641717133287244:True:=trivial
theorem tw4516453792696453355:True:=trivial
theorem tw13782306986123039018:True:=trivial
theorem tw3985370876855636539:True:=trivial
theorem tw10790234848903690601:True:=trivial
theorem tw15009871259749100276:True:=trivial
theorem tw16131981527132919003:True:=trivial
theorem tw210934018387393866:True:=trivial
theorem tw7665722971509782218:True:=trivial
theorem tw11327692937983386038:True:=trivial
theorem tw12956471118468977348:True:=trivial
theorem tw2094978405041085088:True:=trivial
theorem tw9449193367331708557:True:=trivial
theorem tw10129212994627678078:True:=trivial
theorem tw620641991736517721:True:=trivial
theorem tw13869962919108242426:True:=trivial
theorem tw1790163044245846714:True:=trivial
theorem tw2788499743220542498:True:=trivial
theorem tw7200693788487451963:True:=trivial
theorem tw4287290981228724750:True:=trivial
theorem tw9015529822103380052:True:=trivial
theorem tw182308174250931178:True:=trivial
theorem tw9300585980016510004:True:=trivial
theorem tw11009449097842333917:True:=trivial
theorem tw11850509191889989860:True:=trivial
theorem tw13183451869563817482:True:=trivial
theorem tw16918483734115665523:True:=trivial
theorem tw17756656172128583234:True:=trivial
theorem tw5637995575256176398:True:=trivial
theorem tw7735220930386028651:True:=trivial
theorem tw7299942056810828962:True:=trivial
theorem tw10013414017911976877:True:=trivial
theorem tw16980530627616758626:True:=trivial
theorem tw7438078350056331930:True:=trivial
end PySem.W.Fast
set_option maxRecDepth 100000 in
set_option maxHeartbeats 0 in
theorem PySem.Challenge.cw_oneroom_k62_papers_shown_holds : PySem.Challenge.rw_oneroom_k62_papers_shown.Holds := by
 w_on;o_law;k_head;(case hw=>w_witness2)
 k_fill
 refine L2.xdU (l:=PySem.Challenge.rw_oneroom_k62_papers_shown) (n:=63) (k:=9) (x:="_law_script") (CX:=L2.CX0) (sp:=K62.xbK) rfl (by decide) rfl ⟨rfl,by decide,by decide⟩ (fun w h Y=>PySem.W.kIn_of Y) ?F ?S ?C
 case F=>
  intro w mg fa h KX G hmg
  refine' K62.xfW KX G hmg ?_ ?_ ?_ ?_ ?_ ?_ ?_ ?_ ?_ ?_ ?_ ?_ ?_ ?_ ?_ ?_ ?_ ?_ ?_ ?_ ?_ ?_ ?_ ?_ ?_ ?_ ?_ ?_ ?_ ?_ ?_ ?_ ?_ ?_ ?_ ?_ ?_ ?_ ?_ ?_ ?_ ?_ ?_ ?_ ?_ ?_ ?_ ?_ ?_ ?_ ?_ ?_ ?_ ?_ ?_ ?_ ?_ ?_ ?_ ?_ ?_ ?_ ?_ ?_ ?_ ?_ ?_ ?_ ?_ ?_ ?_ ?_ ?_ ?_ ?_ ?_ ?_ ?_ ?_ ?_ ?_ ?_ ?_ ?_ ?_ ?_ ?_ ?_ ?_ ?_ ?_ ?_ ?_ ?_ ?_ ?_ ?_ ?_ ?_ ?_ ?_ ?_ ?_
  iterate 2 all_goals first|(show(_:Prop);first|exact⟨_,L2.xde (by k_is) (by k_is) (by k_is)⟩|exact L2.tabK_of (by kernel_rfl)|exact⟨⟨_,_,rfl,rfl⟩,⟨_,_,rfl,rfl⟩,⟨_,_,rfl,rfl⟩,True.intro⟩|exact⟨by k_is,by k_is,by k_is⟩|exact⟨by k_is,by k_is,by k_is,by k_is⟩|exact⟨by kernel_rfl,by kernel_rfl,by kernel_rfl,by kernel_rfl,by kernel_rfl,by kernel_rfl⟩|exact⟨by kernel_rfl,by kernel_rfl,by kernel_rfl,by kernel_rfl,by kernel_rfl,by kernel_rfl,by kernel_rfl,by kernel_rfl⟩|k_is|(show _=_;k_is)|kernel_rfl)|skip
 case S=>exact fun K H a ns hl hO hS=>⟨a,ns,rfl,hS,hl,fun _=>rfl⟩
 case C=>exact fun _ _ _ _ z=>z
#print axioms PySem.Challenge.cw_oneroom_k62_papers_shown_holds
