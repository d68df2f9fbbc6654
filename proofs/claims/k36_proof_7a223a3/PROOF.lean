import PyProof.Rows.All
import Wide.All
import OpenK.AllK
import Wide.FinOn
import PySem.Challenge.RW_shoretold_k36_whole_grounds_that_meet
set_option bootstrap.genMatcherCode false
noncomputable section
set_option Elab.async false
set_option linter.all false
set_option maxRecDepth 100000
abbrev Tc := @if_neg
abbrev Td := @if_pos
abbrev Te := @decide_eq_true
abbrev Tf := @decide_eq_false
abbrev Tg := @of_decide_eq_true
abbrev Th := @of_decide_eq_false
local macro_rules | `(tactic| walk_at "s") => `(tactic| exact ⟨rfl,rfl,rfl,by decide +kernel,rfl,by decide +kernel,by decide +kernel⟩)
local macro_rules | `(tactic| walk_at "l") => `(tactic| (intro vs H Q E h;(repeat (obtain ⟨_,h⟩ := h));subst_vars;rfl))
local macro_rules | `(tactic| walk_at "i") => do let v:=#["cdv","A","outer","s","H","vs","Q","E","hr","h"].map fun x=>Lean.mkIdent (.mkSimple x);`(tactic| intro $[$v]*)
open PySem in
abbrev Za:=List Str
open PySem in
abbrev Zb:=Value→Shared→Prop
open List renaming length_map→Oc,getElem?_eq_getElem→Od,mem_singleton→Oe,size_toArray→Oh,mem_filter→Oi,mem_cons_self→Oj,mem_cons_of_mem→Ol,mem_append→Om,map_append→Oo,length_append→Op,length_take→Os,mem_cons→Ot,getElem?_map→Ou,take_succ_eq_append_getElem→Ow,getElem?_eq_some_iff→Ox,getD_eq_getElem?_getD→Oy,mem_map→O0,filter_append→O2,getElem_mem→O5,all_eq_true→O6,pairwise_append→O7,map_cons→O8,take_append_drop→O9,append_assoc→Pa,mem_append_right→Pc,length_eq_zero_iff→Pd,length_cons→Pe,map_map→Ph,mem_iff_getElem→Pi,length_drop→Pj,length_filter_le→Pk,take_length→Pl,mem_of_mem_take→Pm,mem_of_mem_drop→Pn,filter_eq_self→Po,filter_cons→Pp,length_singleton→Pq,lookup_cons→Pr,append_nil→Ps,mem_range→Pu,mem_append_left→Pw,take_sublist→Px,length_range→Py,range_succ→P0,map_congr_left→P2,countP_cons→P3,getElem?_append_left→P4,take_of_length_le→P5,filter_eq_nil_iff→P6,nodup_cons→P7,nodup_append→Qa,drop_eq_nil_of_le→Qc,exists_mem_of_ne_nil→Qd,mem_singleton_self→Qg,drop_sublist→Qh,pairwise_iff_getElem→Qi,getElem?_toArray→Qk,perm_append_comm→Ql,pairwise_cons→Qn,filterMap_cons→Qr,replicate_succ→Qs,length_nil→Qu,dropWhile_cons→Qw,takeWhile_cons→Qx,getElem?_append_right→Qy,getElem_map→Qz,sum_cons→Q0,getElem?_drop→Q3,drop_eq_getElem_cons→Q4,mem_of_getElem?→Q5,nil_append→Q7,count_append→Q9,pairwise_map→Ra,length_reverse→Rb,any_eq_true→Rc,perm_middle→Rf,dropLast_concat_getLast→Rg,count_eq_zero→Rh,countP_eq_length_filter→Ri,find?_cons→Rj,getElem?_eq_none→Rk,count_cons_self→Ro,getElem_inj→Rq,ext_getElem→Rr,getElem?_take_of_lt→Rt,filter_cons_of_pos→Rv,filter_cons_of_neg→Rw,getElem?_set_self→Ry,length_eq_one_iff→R0,flatten_cons→R1,getElem_take→R4,drop_zero→R5,drop_take→R6,set_set→R7,not_mem_nil→R8,getElem?_set_ne→R9,getElem_toArray→Sa,any_cons→Sb,map_take→Sc,map_drop→Sd,of_mem_zip→Sf,filter_nil→Sh,flatMap_append→Si,length_pos_iff→Sl,mem_filterMap→Sm,count_pos_iff→So,map_inj_right→Sq,getElem?_take→Sr,reverse_cons→Ss,flatMap_cons→Sv,getElem_drop→Sw,map_nil→S0
open Nat renaming le_refl→Og,ne_of_lt→Oq,lt_of_lt_of_le→O3,le_trans→Pb,zero_le→Pg,lt_irrefl→Pt,not_lt_zero→P8,lt_succ_of_lt→P9,le_succ→Qb,lt_trans→Qj,zero_add→Qq,min_eq_left→Qv,le_of_lt→Rs,lt_of_le_of_lt→Ru,lt_of_succ_lt→Sx,ne_of_gt→Sz
open Option.some renaming inj→Ov
open Bool renaming false_ne_true→Oz,and_eq_true→O4,false_eq_true→Pz,false_and→Qe,eq_iff_iff→Qf,true_and→Qp,eq_false_iff→Q8,or_eq_true→Rm,or_eq_true_iff→Sg,not_eq_true'→Su,or_false→Sy,or_true→S5
open Array renaming length_toList→O1,getElem?_toList→Rl
open Int renaming eq_ofNat_of_zero_le→Pf,toNat_natCast→Q6,emod_lt_of_pos→Rx,emod_nonneg→Sk,zero_add→S6
open List.Perm renaming append_left→P1,refl→Rp
open Option renaming isSome_iff_exists→Qm,map_some→Qt,map_eq_some_iff→Rz,isSome_some→Sn
open Sum.inr renaming inj→Qo
open List.cons renaming inj→Se
open Array.Perm renaming refl→Sj
open PySem renaming wpAny_bind→S7,wpAny_pure→S8,sizeLine_eq→Tb
open PyProof.Rows renaming wpS_bind→S9,wpS_pure→Ta
open PySem.Heap renaming lt_size→Ti,get?_push_of_some→Tj
open PySem.Heap.SameBut renaming update→Tk
open PySem PySem.Spec PyProof.Rows
open PySem renaming Value→aa,Addr→ae,Shared→af,model→ag,PyData→ah,wpAny→ai,Str→aj,mainGlobals→ak,Heap→am,Program→ao,starEach→aq,Builtin→au,World→av,Around→aw,foldedSetIterable→az,wpAny_holding→a8,NameKind→aA,SetTable→aB,Expr→aC,compareOp→aF,wpAny_mono→aG,Stmt→aK,wpAny_truthy_bool→aL,Obj→aM,PassesOwn→aN,wpAny_rule→aO,wpAny_standAt→aQ,boot_len→aR,scanBound→aT,codeAny_builtin→aV,wpAny_call_entry→aX,wpAny_askSetting→aY,rawInt→bc,codeAny→bf,sysModules→bg,cLine→bj,backTo→bp,assignEach→bq,codeAny_mono→br,binaryOp→bu,wpAny_setState_of→bz,wpAny_newObj_type→bD,keywordEach→bE,wpAny_setField→bF,bootBuiltins→bG,cellsFrom→bH,FuncData→bK,plainId_quiet→bL,wpAny_Call_Name_kw→bN,pushCells→bQ,Scope→bX,pickOrder→bY,standAt→bZ,Pos→ce,sliceBounds→cf,setField→ci,reprText→cj,letOwnedTupleGo→cq,wpAny_passesOwn→cr,wpAny_ite_split→cu,wpAny_typeOf→cx,tupleText→cy,backToKw→c5,evalEach→c6,isSubtype_type→c7,compTurn→c9,wpAny_pyIter_list→cD,Keyword→cE,fits_of_scanBound→cF,wpAny_newList→cG,builtinsNs→cJ,pyNext→cK,call_meets→cL,wpAny_execs_nil→cO,pushCells_keeps→cR,builtinLookup_eq_fast→cS,codeAny_call_builtin→cV,relayAll→cW,tupleKind→db,swapsWith→dc,clausesOf→dg,behindInMarks→dC,attributeBase→dD,wpAny_attempt→dE,tupleKind_room_in1→dG,setsByText→dH,Thread→dL,getItem→dP,BindsTo→dQ,bindArgs→dR,slot_list_getitem→dU,valueAt→dY,callerA→dZ,wpAny_pyIter_slot→ed,wpAny_pyIter_dict→eg,Env→eJ,noFill_tuple_add→eM,checkBuiltinCall→eN,codeAny_of_tree→fm,typeLookup_type→fo,pyIter→fH,wpAny_call→fI,wpAny_newFunctionEnv_cells→fJ,typeLookup→fK,atKey→fO,newFunctionEnv→fP,isInstance→fS,strKind_is→fT,wpAny_runValue→fV,wpAny_newTuple→fW,raiseNew→fX,wpAny_seqItems→fZ,wpAny_FormattedValue_repr→gI,seq_tuple_add→gQ,evalPart_none→gR,wpAny_getItem_list_slice→gU,strLen_append→gZ,wpAny_comprehension_free→h9,bindL→iq,bindC→ir,isSubtype→iy,wpAny_callSpecial?_slot→iz,Sem→i9,Result→iB,concat_meets→iC,setNext→iH,seqIndex_of→ji,wpAny_alloc→jo,getAttr?→ju,Moved→jv,wpAny_of_eq→jw,entryFor→jx,wpAny_setEntries_of→jR,wpAny_dictSet_pairs→jS,wpAny_Name→ki,wpAny_load→kj,wpAny_pyIter_tuple→km,typeIs_str→kt,typeIs_int→kw,closureFor→kD,newExc→kJ,checkCount→kM,getattributeRaised→lc,wpAny_assign_Name→lE,Walks→lG,ElemsOf→lK,wpAny_storeSet_of→lM,wpAny_setEpoch_of→lN,wpAny_pyIter_enum→lQ,wpAny_eqBool_int→mw,wpAny_execs_cons→m4,DictEntry→m7,Arguments→mD,entryFor_of_tree→mI,drawOrder→mJ,wpAny_isInstance→mM,wpAny_specialOf→oI,wpAny_updateSeq→oO,importedModules→pO,recursionLimit→pU,typeOf→qa,cellOf→qg,compEnvC→qh,entryFor_alias→qD,argsOk→qE,firstArgMember→qF,intBits_le_64→sW,evalPart_some→sX,call_list_seq→sY,setItem→uA,Data→uD,call_meetsIn→uK,setAddHashed→uW,setNextDrawn→uZ,IsRangeIter→xP,wpAny_Slice→xT,Tok→AB,IsPart→AD,PlainAttrs→AF,Slot→AG,OldK→AJ,getAttrBy?→BA,layNew→BC,setAdd→BG,newSet→DE,Params→Is,storeName→IN,lastMarks→IQ,seqIndex?→IR,slicePick→IS,getAttrBy→IZ,putSet_of→J',updateSeq→JC,noteFrame→JD,compStart→JE,treeTable→KJ
open PyProof.Rows renaming Keyed→ap,seqObj→ar,StrsAre→aD,wpS_forRange→aE,envOfC→aH,pendingOf→aU,wpS_mono→aW,SortSt→bd,boot_isinstance→be,arrOf→bh,failedOf→bv,wpS_get→bI,listUpdate_at→bM,size_push'→bO,wpS_modify→bP,SortKind→bT,AllBare→cC,wpS_lift→cI,seqEpoch_at→cX,gallopOf→cY,sortedS→el,wpS→eG,entry_list_sort→fq,formatField_str→fr,get?_update_seq→ft,IsTup→fG,Subscript_→fM,joinParts_cons→fR,slot_list_sort→gc,subscriptTail→gT,subscriptTail_builtinR→iD,IntsAre→iE,plain_sorted→iI,entry_sorted→iJ,listItems_at→iN,setArr→iO,kind_sorted→j0,bubble_perm→j8,getElem?_mirror_all→jT,setPending→kZ,strOf→lL,getElem?_bubble→oR,tail_any→pZ,args_list_sort→qI,keyLt'→qQ,mergeAt'→qX,isTrue_plain→u9,args_sorted1→vd,collect_list→vB,strsAre_map→yc,mirror_perm→yy,isTrue_and→As,boot_range→AA,sortedHeap→BQ,isTrue_or→IP,sortedAll→JG,sortRuns'→JH
open PySem.W renaming Frag→KL,mg_none_of→KM,kitOne→KN,nsIn→KO,subIn→KP,kia_one→KQ,keepIn→KR,findIn→KS,cellsFrom_some→KU,codeHdIn→KW,tabObj→KY,mg_of→KZ,fnOf→Le,kla_fn→L',codeIn→LA,excIn→LB,isClsIn→LC,exmOne→LD,typeIn→LF,methodObj→LG,hideAll_get→LH,codeHd_of_K→LJ,instObj→LK,hideAll→LL,kitMeta→LM,of_hideAll→LN,callWith_K→LO,clsIn→LP,lookIn→LQ,specialIn→LR,kitx_list→LS,kitx_dict→LU,plainGet→LV,OpenLaw→LW,kitCls→LX,Looks→LY,WalkO→LZ,isFn→M'
namespace L2
abbrev Key:=Sum Int aj
def Ed:Key->aa->Bool
 | .inl k,v=>aa.isInt k v
 | .inr x,v=>aa.isStrOf x v
def keyH (w:av):Key->Int
 | .inl k=>hashInt k
 | .inr x=>hashStr w x
theorem Dx:∀{k:Key} {v:aa},Ed k v=true->(∃i t,k=Sum.inl i/\v=aa.int i t)\/(∃x t,k=Sum.inr x/\v=aa.str x t)
 | .inl i,v,h=>by
  obtain⟨t,e⟩:=aa.isInt_shape (k:=i) (v:=v) h;exact .inl ⟨i,t,rfl,e⟩
 | .inr x,v,h=>by
  obtain⟨t,e⟩:=aa.isStrOf_shape (x:=x) (v:=v) h;exact .inr ⟨x,t,rfl,e⟩
def Xf7(i)(t):Ed (.inl i) (.int i t)=true:=by simp[Ed,aa.isInt]
def Xf8(x)(t):Ed (.inr x) (.str x t)=true:=by simp[Ed,aa.isStrOf]
def Xf9(a b):decide ((Sum.inl a:Key)=Sum.inl b)=(a==b):=by
 by_cases e:a=b
 ·subst e;simp
 ·have h:¬(Sum.inl a:Key)=Sum.inl b:=λq=>e (Sum.inl.inj q);rw[Tf h];exact(beq_eq_false_iff_ne.mpr e).symm
def Xga(a b):decide ((Sum.inr a:Key)=Sum.inr b)=decide (a=b):=by
 by_cases e:a=b
 ·subst e;simp
 ·have h:¬(Sum.inr a:Key)=Sum.inr b:=λq=>e (Qo q);rw[Tf h,Tf e]
def Xgb(a)(b):decide ((Sum.inl a:Key)=Sum.inr b)=false:=Tf (λq=>nomatch q)
def Xgc(a)(b):decide ((Sum.inr a:Key)=Sum.inl b)=false:=Tf (λq=>nomatch q)
def A7 (prog:ao) (w:av):PySem.KeyKind prog w Key where
 is:=Ed
 hash:=keyH w
 inj:=λv a b ha hb=>by
  rcases Dx ha with ⟨i,t,rfl,rfl⟩ | ⟨x,t,rfl,rfl⟩
  ·rcases Dx hb with ⟨j,u,rfl,e⟩ | ⟨y,u,rfl,e⟩
   ·injection e with e1 _;rw[e1]
   ·exact nomatch e
  ·rcases Dx hb with ⟨j,u,rfl,e⟩ | ⟨y,u,rfl,e⟩
   ·exact nomatch e
   ·injection e with e1 _;rw[e1]
 byValue:=λk v h=>by
  rcases Dx h with ⟨i,t,rfl,rfl⟩ | ⟨x,t,rfl,rfl⟩<;>rfl
 pyHash:=λhv h=>by
  rcases Dx hv with ⟨i,t,rfl,rfl⟩ | ⟨x,t,rfl,rfl⟩
  ·exact wpAny_pyHash_int h
  ·exact wpAny_pyHash_str h
 eqBool:=λhu hv h=>by
  rcases Dx hu with ⟨i,t,rfl,rfl⟩ | ⟨x,t,rfl,rfl⟩
  ·rcases Dx hv with ⟨j,u,rfl,rfl⟩ | ⟨y,u,rfl,rfl⟩
   ·rw[Xf9] at h;exact mw h
   ·rw[Xgb] at h;exact SeqAt.EqAt.int_str i t y u _ _ _ _ h
  ·rcases Dx hv with ⟨j,u,rfl,rfl⟩ | ⟨y,u,rfl,rfl⟩
   ·rw[Xgc] at h;exact SeqAt.EqAt.str_int x t j u _ _ _ _ h
   ·rw[Xga] at h;exact wpAny_eqBool_str h
 «strs»:=λk x t v h=>by
  rcases Dx h with ⟨i,u,rfl,e⟩ | ⟨y,u,rfl,e⟩
  ·exact nomatch e
  ·injection e with e1 _
   subst e1;cases v<;>rfl
def Xgd(prog)(w)(i)(t):(A7 prog w).is (.inl i) (.int i t)=true:=Xf7 i t
def Xge(prog)(w)(x)(t):(A7 prog w).is (.inr x) (.str x t)=true:=Xf8 x t
inductive V where
 | non | bl (b:Bool) | int (i:Int) | str (x:aj) | byt (b:Array UInt8) | flt (b:UInt64) | ref (a:ae) | ty (n:String)
 deriving DecidableEq
def Ah:V->aa->Prop
 | .non,u=>u=aa.none
 | .bl b,u=>u=aa.bool b
 | .int i,u=>∃t,u=aa.int i t
 | .str x,u=>∃t,u=aa.str x t
 | .byt b,u=>∃t,u=aa.bytes b t
 | .flt b,u=>∃t,u=aa.float b t
 | .ref a,u=>u=aa.ref a
 | .ty n,u=>u=aa.type n
abbrev Vals:List V->List aa->Prop:=Paired Ah
def Vals.length{xs}(r:Vals xs us):xs.length=us.length:=Paired.length r
theorem Vals.get:∀{xs:List V} {us:List aa} {i:Nat} {x:V},Vals xs us->xs[i]? = some x->∃u,us[i]? = some u/\Ah x u
 | _,_,_,_,.nil,e=>by simp at e
 | _,_,0,_,.cons r _,e=>by simp at e;subst e;exact⟨_,rfl,r⟩
 | _,_,i+1,x,.cons _ t,e=>by
  obtain⟨u,h1,h2⟩:=Vals.get (i:=i) (x:=x) t (by simpa using e);exact⟨u,by simpa using h1,h2⟩
theorem Vals.set  (r:Ah x u):∀{xs:List V} {us:List aa} (i:Nat),Vals xs us->Vals (xs.set i x) (us.set i u)
 | _,_,_,.nil=>.nil
 | _,_,0,.cons _ t=>.cons r t
 | _,_,i+1,.cons q t=>.cons q (Vals.set r i t)
theorem Vals.append:∀{xs ys:List V} {us ws:List aa},Vals xs us->Vals ys ws->Vals (xs++ys) (us++ws)
 | _,_,_,_,.nil,s=>s
 | _,_,_,_,.cons r t,s=>.cons r (Vals.append t s)
theorem Vals.take:∀{xs:List V} {us:List aa} (n:Nat),Vals xs us->Vals (xs.take n) (us.take n)
 | _,_,0,_=>.nil
 | _,_,_+1,.nil=>.nil
 | _,_,n+1,.cons r t=>.cons r (Vals.take n t)
theorem Vals.drop:∀{xs:List V} {us:List aa} (n:Nat),Vals xs us->Vals (xs.drop n) (us.drop n)
 | _,_,0,r=>r
 | _,_,_+1,.nil=>.nil
 | _,_,n+1,.cons _ t=>Vals.drop n t
def Cy:Option V->Option aa->Prop
 | some v,some u=>Ah v u
 | none,none=>True
 | _,_=>False
def KV {κ : Type}:List (κ × V)->List (κ × aa)->Prop:=Paired λ(p : κ × V) (q : κ × aa)=>p.1=q.1/\Ah p.2 q.2
def kV:Key->V
 | .inl i=>.int i
 | .inr x=>.str x
inductive HO where
 | lst (xs:List V)
 | tup (xs:List V)
 | dK (kvs:List (Key×V)) | dT (kvs:List (List Key×V))
 | set (S:Int->Bool) (n:Nat)
 | ins (C dx:ae) (fs:List (aj×V))
 | own (x:ae)
 | xd (fs:List (aj×V))
 | met (f x:ae)
 | rng (lo hi:Int)
 | frz (o:aM) (u:HO)
 | tbl (ps:Array aa)
 | ext (φ : am->Prop)
abbrev Hp:=ae->Option HO
def upd (H:Hp) (a:ae) (o:HO):Hp:=λb=>if b=a then some o else H b
def Ab{H}{a}{o}:upd H a o a=some o:=by unfold upd;rw[Td rfl]
def Ad{H}{o}(h:b≠a):upd H a o b=H b:=by unfold upd;rw[Tc h]
def Xaa{H:Hp}  (h:H a=some o)(h':H b=some u)(d:o≠u):a≠b:=by
 intro e;subst e;rw[h] at h';exact d (Ov h')
def Am{H:Hp}{a b}{o}(h:H a=some o)(h':H b=none):a≠b:=by
 intro e;subst e;rw[h] at h';cases h'
section
variable (P:ao) (w:av)
def A4 (H:Hp) (h:am) (a:ae):HO->Prop
 | .lst xs=>xs.length<=sizeLine/\∃(ax:List aa) (n:Nat),Vals xs ax/\h.get? a=some {cls:=.type "list",data:=.seq ax.toArray n}
 | .tup xs=>xs.length<=sizeLine/\∃ax:List aa,Vals xs ax/\fG h a ax.toArray
 | .dK kvs=>kvs.length<=sizeLine/\(a==bg)=false/\∃vs,KV kvs vs/\h.DictOf (A7 P w) a vs
 | .dT kvs=>kvs.length<=sizeLine/\(a==bg)=false/\∃xs:List (List Key×ae×aa),
   Paired (λ(p:List Key×V) (q:List Key×ae×aa)=>p.1=q.1/\H q.2.1=some (.tup (p.1.map kV))/\Ah p.2 q.2.2) kvs xs /\
   ∃o es ep,h.get? a=some o/\o.ExactDict/\o.data = .dict es ep/\es.toList=xs.map (entryOfKey (db (A7 P w)))/\(xs.map (·.1)).Nodup
 | .set S n=>h.SetOf (intKind P w) a S n
 | .ins C dx fs=>H dx=some (.own a)/\fs.length<=1000/\dx≠a/\h.get? a=some (LK C dx) /\
   ∃mA,h.Ns1 dx mA/\(∀f,Cy (fs.lookup f) (mA f))/\PySem.Within mA (fs.map (·.1))
 | .own _=>∃o,h.get? a=some o
 | .xd fs=>∃mA,h.Ns1 a mA/\∀f,Cy (fs.lookup f) (mA f)
 | .rng lo hi=>∃t u v,h.get? a=some {cls:=.type "range",data:=.fields #[.int lo t,.int hi u,.int 1 v]}
 | .frz o u=>h.get? a=some o/\A4 H h a u
 | .tbl ps=>h.get? a=some {cls:=.none,data:=.fields ps}
 | .met f x=>h.get? a=some (LG (.ref f) (.ref x))
 | .ext φ => φ h/\(∃o,h.get? a=some o)/\∀h1 h2:am, φ h1->(∀o,h1.get? a=some o->h2.get? a=some o) -> φ h2
def HOk (H:Hp) (h:am):Prop:=∀a o,H a=some o->A4 P w H h a o
end
section
variable {P:ao}{w:av}{H H':Hp}{h h':am}{a:ae}{o:HO}
def A4.lt(x:A4 P w H h a o):a<h.objs.size:=by
 cases o with
 | lst xs=>obtain⟨_,_,_,_,e⟩:=x;exact Ti e
 | tup xs=>obtain⟨_,_,_,p⟩:=x;exact p.lt
 | dK kvs=>obtain⟨_,_,_,_,o,_,_,e,_⟩:=x;exact Ti e
 | dT kvs=>obtain⟨_,_,_,_,o,_,_,e,_⟩:=x;exact Ti e
 | set S n=>obtain⟨o,_,_,_,e,_⟩:=x;exact Ti e
 | ins C dx fs=>obtain⟨_,_,_,e,_⟩:=x;exact Ti e
 | own y=>obtain⟨_,e⟩:=x;exact Ti e
 | xd fs=>obtain⟨_,⟨_,_,_,e,_⟩,_⟩:=x;exact Ti e
 | rng lo hi=>obtain⟨_,_,_,e⟩:=x;exact Ti e
 | frz ob u=>obtain⟨e,_⟩:=x;exact Ti e
 | tbl ps=>exact Ti (show h.get? a=some _ from x)
 | met f y=>exact Ti (show h.get? a=some _ from x)
 | ext φ=>obtain⟨_,⟨_,e⟩,_⟩:=x;exact Ti e
theorem Paired.mapP{α β : Type}{F G}:∀{l₁ : List α} {l₂ : List β},Paired F l₁ l₂->(∀a b,F a b->G a b)->Paired G l₁ l₂
 | _,_,.nil,_=>.nil
 | _,_,.cons r t,f=>.cons (f _ _ r) (Paired.mapP t f)
def A4.stay(x:A4 P w H h a o)(k:∀b u,(b=a\/H b=some (.own a))->h.get? b=some u->h'.get? b=some u)
  (ho:∀b,H b=some (.own a)->H' b=some (.own a)) (ht:∀b xs,H b=some (.tup xs)->H' b=some (.tup xs)):A4 P w H' h' a o:=by
 induction o with
 | lst xs=>obtain⟨z,ax,n,r,e⟩:=x;exact⟨z,ax,n,r,k _ _ (.inl rfl) e⟩
 | tup xs=>obtain⟨z,ax,r,ob,e,c⟩:=x;exact⟨z,ax,r,ob,k _ _ (.inl rfl) e,c⟩
 | dK kvs=>obtain⟨z,y,vs,r,ob,es,ep,e,c⟩:=x;exact⟨z,y,vs,r,ob,es,ep,k _ _ (.inl rfl) e,c⟩
 | dT kvs=>
  obtain⟨z,y,xs,r,ob,es,ep,e,c⟩:=x;exact⟨z,y,xs,Paired.mapP r λp q z=>⟨z.1,ht _ _ z.2.1,z.2.2⟩,ob,es,ep,k _ _ (.inl rfl) e,c⟩
 | set S n=>obtain⟨ob,es,ep,t,e,c⟩:=x;exact⟨ob,es,ep,t,k _ _ (.inl rfl) e,c⟩
 | ins C dx fs=>
  obtain⟨d,z,ne,e,mA,⟨od,es,ep,e2,c⟩,r⟩:=x;exact⟨ho _ d,z,ne,k _ _ (.inl rfl) e,mA,⟨od,es,ep,k _ _ (.inr d) e2,c⟩,r⟩
 | own y=>obtain⟨ob,e⟩:=x;exact⟨ob,k _ _ (.inl rfl) e⟩
 | xd fs=>obtain⟨mA,⟨od,es,ep,e,c⟩,r⟩:=x;exact⟨mA,⟨od,es,ep,k _ _ (.inl rfl) e,c⟩,r⟩
 | rng lo hi=>obtain⟨t,u,v,e⟩:=x;exact⟨t,u,v,k _ _ (.inl rfl) e⟩
 | frz ob u ih=>obtain⟨e,q⟩:=x;exact⟨k _ _ (.inl rfl) e,ih q⟩
 | tbl ps=>
  have e:h.get? a=some {cls:=.none,data:=.fields ps}:=x;show h'.get? a=some {cls:=.none,data:=.fields ps};exact k a _ (.inl rfl) e
 | met f y=>
  have e:h.get? a=some (LG (.ref f) (.ref y)):=x;show h'.get? a=some (LG (.ref f) (.ref y));exact k a _ (.inl rfl) e
 | ext φ=>obtain⟨p,⟨o,e⟩,st⟩:=x;exact⟨st _ _ p λo q=>k _ _ (.inl rfl) q,⟨o,k _ _ (.inl rfl) e⟩,st⟩
def HOk.lt(x:HOk P w H h)(e:H a=some o):a<h.objs.size:=(x a o e).lt
def HOk.fresh(x:HOk P w H h)(e:h.objs.size<=a):H a=none:=by
 cases q:H a with
 | none=>rfl
 | some u=>exact absurd (O3 (x.lt q) e) (Pt _)
def HOk.kept(x:HOk P w H h)(k:∀b u,h.get? b=some u->h'.get? b=some u):HOk P w H h':=λa o e=>
 (x a o e).stay (λb u _ q=>k b u q) (λ_ q=>q) λ_ _ q=>q
def HOk.laid(x:HOk P w H h)(k:∀b u,h.get? b=some u->h'.get? b=some u)(hp:h.objs.size<=a)(new:A4 P w (upd H a o) h' a o):HOk P w (upd H a o) h':=λb u e=>by
 have hn:=x.fresh hp;by_cases hb:b=a
 ·subst hb;rw[Ab] at e;cases e;exact new
 ·rw[Ad hb] at e;exact(x b u e).stay (λc v _ q=>k c v q) (λc q=>by rw[Ad (Am q hn)];exact q) λc xs q=>by rw[Ad (Am q hn)];exact q
end
def Rd (H:Hp) (a:ae) (u:HO):Prop:=H a=some u \/ ∃o,H a=some (.frz o u)
def Rd.ok      (r:Rd H a u) (x:HOk P w H h):A4 P w H h a u:=by
 rcases r with r | ⟨o,r⟩
 ·exact x a u r
 ·obtain⟨_,q⟩:=x a _ r;exact q
def Mut:Option HO->Prop
 | some (.lst _)=>True
 | some (.dK _)=>True
 | some (.dT _)=>True
 | some (.set _ _)=>True
 | some (.ins _ _ _)=>True
 | some (.ext _)=>True
 | _=>False
section
variable {P:ao}{w:av}{H:Hp}{h h':am}{x e:ae}{o':HO}
def HOk.write(ok:HOk P w H h)(mu:Mut (H x))(he:e=x\/H e=some (.own x))(k:∀b u,b≠e->h.get? b=some u->h'.get? b=some u)(oF:∃u,h'.get? e=some u)
  (new:A4 P w (upd H x o') h' x o'):HOk P w (upd H x o') h':=λb u q=>by
 have pQ:∀c y,H c=some (.own y)->c≠x:=λc y r z=>by subst z;rw[r] at mu;exact mu
 have ntup:∀c xs,H c=some (.tup xs)->c≠x:=λc xs r z=>by subst z;rw[r] at mu;exact mu
 by_cases hb:b=x
 ·subst hb;rw[Ab] at q;cases q;exact new
 ·rw[Ad hb] at q;by_cases m3:b=e
  ·have q':H b=some (.own x):=by
    rcases he with z | z
    ·exact absurd (m3.trans z) hb
    ·rw[m3];exact z
   rw[q] at q';cases q';obtain⟨v,hv⟩:=oF;exact⟨v,by rw[m3];exact hv⟩
  ·refine(ok b u q).stay (λc v hc r=>k c v ?_ r) (λc r=>by rw[Ad (pQ c b r)];exact r) λc xs r=>by rw[Ad (ntup c xs r)];exact r
   rcases hc with rfl | hc
   ·exact m3
   ·rintro rfl;rcases he with z | z
    ·exact pQ c b hc z
    ·rw[hc] at z;cases z;exact hb rfl
end
structure Un (fs ex:List ae) (H H':Hp) (h h':am):Prop where
 keep:∀b o,h.get? b=some o->H b=none->b∉fs->b∉ex->h'.get? b=some o
 slot:∀b o,h.get? b=some o->H b=none->b∈fs->b∉ex->∃sl,h'.get? b=some {o with slots:=sl}
 free:∀b o,h.get? b=some o->H b=none->b∉ex->H' b=none
 there:∀b o,h.get? b=some o->b∉ex->∃o',h'.get? b=some o'
 tups:∀b xs,H b=some (.tup xs)->H' b=some (.tup xs)
 frzs:∀b o u,H b=some (.frz o u)->H' b=some (.frz o u)
 tbls:∀b ps,H b=some (.tbl ps)->∃more,H' b=some (.tbl (ps++more))
section
variable {fs gM ex xL:List ae}{H H1 H2:Hp}{h h1 h2 h':am}{a x e:ae}{o:HO}
def Un.any(u:Un fs ex H H1 h h1)  (q:h.get? b=some ob)(n:H b=none)(hx:b∉ex):∃sl,h1.get? b=some {ob with slots:=sl}:=by
 by_cases hb:b∈fs
 ·exact u.slot b ob q n hb hx
 ·exact⟨ob.slots,u.keep b ob q n hb hx⟩
def Un.kept(k:∀b u,h.get? b=some u->h'.get? b=some u):Un fs ex H H h h':=
 ⟨λb ob q _ _ _=>k b ob q,λb ob q _ _ _=>⟨ob.slots,k b ob q⟩,λ_ _ _ n _=>n,λb ob q _=>⟨ob,k b ob q⟩,λ_ _ q=>q,λ_ _ _ q=>q,λ_ ps q=>⟨#[],by rw[q];simp⟩⟩
def Un.refl:Un fs ex H H h h:=Un.kept λ_ _ q=>q
def Un.laid(k:∀b u,h.get? b=some u->h'.get? b=some u)(hp:h.objs.size<=a)(hn:H a=none):Un fs ex H (upd H a o) h h' where
 keep:=λb u q _ _ _=>k b u q
 slot:=λb u q _ _ _=>⟨u.slots,k b u q⟩
 free:=λb u q n _=>by rw[Ad (Oq (O3 (Ti q) hp))];exact n
 there:=λb u q _=>⟨u,k b u q⟩
 tups:=λb xs q=>by rw[Ad (Am q hn)];exact q
 frzs:=λb u xs q=>by rw[Ad (Am q hn)];exact q
 tbls:=λb ps q=>⟨#[],by rw[Ad (Am q hn),q];simp⟩
def Un.write(mu:Mut (H x))(he:e=x\/H e=some (.own x))(k:∀b u,b≠e->h.get? b=some u->h'.get? b=some u)(oF:∃u,h'.get? e=some u):Un fs ex H (upd H x o) h h':=by
 have hx:∀b,H b=none->b≠x:=λb n z=>by subst z;rw[n] at mu;exact mu
 have hb:∀b,H b=none->b≠e:=λb n z=>by
  subst z;rcases he with r | r
  ·exact hx b n r
  ·rw[n] at r;cases r
 have hm:∀b u,H b=some u->¬Mut (some u)->b≠x:=λb u q nm z=>by subst z;rw[q] at mu;exact nm mu
 refine⟨λb u q n _ _=>k b u (hb b n) q,λb u q n _ _=>⟨u.slots,k b u (hb b n) q⟩,λb u q n _=>by rw[Ad (hx b n)];exact n,λb u q _=>?_,
  λb xs q=>by rw[Ad (hm b _ q λz=>z)];exact q,λb u xs q=>by rw[Ad (hm b _ q λz=>z)];exact q,λb ps q=>⟨#[],by rw[Ad (hm b _ q λz=>z),q];simp⟩⟩
 by_cases m3:b=e
 ·subst m3;exact oF
 ·exact⟨u,k b u m3 q⟩
end
def trk (h:am) (H:Hp):List ae:=(List.range h.objs.size).filter λa=>(H a).isSome
def Dy (h:am) (H:Hp):am:=LL h (trk h H)
def Xgf(h)(H):(Dy h H).objs.size=h.objs.size:=PySem.W.hideAll_size _ _
def Xgg    (e:h.get? b=some o) (n:H b=none):(Dy h H).get? b=some o:=
 LH _ e λhm=>by
  have q:(H b).isSome=true:=(Oi.mp hm).2;rw[n] at q;simp at q
def Xgh    (e:(Dy h H).get? b=some o):h.get? b=some o/\H b=none:=by
 have e':h.get? b=some o:=LN (trk h H) e;refine⟨e',?_⟩;cases q:H b with
 | none=>rfl
 | some x=>
  have hm:b∈trk h H:=Oi.mpr ⟨Pu.mpr (Ti e'),by simp[q]⟩;have z:(Dy h H).get? b=none:=PySem.W.hideAll_none (trk h H) hm;rw[z] at e;cases e
def Xgi (g h:am) (L:ae):List (ae×aM):=(List.range h.objs.size).filterMap λa=>if a=L\/(g.get? a).isSome=true then none else (h.get? a).map λo=>(a,o)
def rest (g h:am) (L d:ae):List (ae×aM):=(Xgi g h L).filter λp=>decide (p.1≠d)
structure Mod (K:KL) (mg:aj->Option aa) (base:am):Prop where
 kin:K.In base
 glob:base.Ns ak mg
 blt:∃mb,base.Ns cJ mb/\∀x:aj,x ≠ "__name__" -> mb x=bG x
 nolimit:base.NoLimit
structure Cx where
 prog:ao
 w:av
 K:KL
 mg:aj->Option aa
 base:am
 A:aw
 N:Za
 s₀ : af
 H₀ : Hp
 env:eJ
 outer:List eJ
 stack:List eJ
 ex:List ae
 fn:aj->Bool
 calm:Bool
 pn:List (ae×aM)
 xe:Zb
def frs (l:List eJ):List ae:=l.filterMap (·.frame)
abbrev Cx.fs (X:Cx):List ae:=frs X.outer
def Vis (sc:bX) (x:aj):Prop:=sc.names.lookup x=some .local\/sc.names.lookup x=some .cell\/sc.names.lookup x=some .free
def Loc (sc:bX) (x:aj):Prop:=sc.names.lookup x=some .local\/sc.names.lookup x=some .cell
def Look (env:eJ) (h:am) (m:aj->Option aa) (x:aj) (u:aa):Prop:=
 (env.kindOf x=some .local/\m x=some u)\/((env.kindOf x=some .cell\/env.kindOf x=some .free)/\∃c,env.cells.lookup x=some c/\h.IsCell c (some u))
structure Cx.Ok (X:Cx):Prop where
 mod:Mod X.K X.mg X.base
 kind:X.env.scope.kind = .function
 glob:X.env.globals=ak
 blt:X.env.builtins=cJ
 above:X.s₀.heap.objs.size<=X.env.locals
 inj:∀x y c,X.env.cells.lookup x=some c->X.env.cells.lookup y=some c->x=y
 has:∀x,(X.env.kindOf x=some .cell\/X.env.kindOf x=some .free)->∃c,X.env.cells.lookup x=some c
 cab:∀x c,X.fn x=true->X.env.cells.lookup x=some c->X.s₀.heap.objs.size<=c
 hd:X.calm=true->X.A.handled=none
 frames:X.A.frames=some X.stack
 stk:X.stack=X.outer\/(X.stack=X.env::X.outer/\X.env.frame=some X.env.locals)
 exf:∀b∈X.ex,b≠X.env.locals/\∀x c,X.env.cells.lookup x=some c->c≠b
 bs:∀b o,X.base.get? b=some o->X.s₀.heap.get? b=some o/\X.H₀ b=none
 bsz:X.base.objs.size<=X.s₀.heap.objs.size
 noex:∀b o,X.base.get? b=some o->b∉X.ex
 exfs:∀b∈X.ex,b∉X.fs
 funs:X.s₀.heap.FunFrames X.base X.outer
 frf:∀b∈X.fs,X.H₀ b=none
structure Inv (X:Cx) (pins:List (ae×aM)) (Z:List (Option V)) (H:Hp) (s:af):Prop where
 ok:X.Ok
 os:s.os=X.s₀.os
 bare:cC s.gens
 base:Un X.fs X.ex X.H₀ H X.s₀.heap s.heap
 loc:∃m,s.heap.Ns X.env.locals m/\∀(i:Nat) (x:aj) (v:V),X.N[i]? = some x -> Z[i]? = some (some v)->Vis X.env.scope x->∃u,Ah v u/\Look X.env s.heap m x u
 cell:∀x c,X.env.cells.lookup x=some c->∃v,s.heap.IsCell c v
 free:H X.env.locals=none
 freeC:∀x c,X.env.cells.lookup x=some c->H c=none
 pin:∀p∈X.pn++pins,s.heap.get? p.1=some p.2/\H p.1=none/\p.1≠X.env.locals/\p.1∉X.fs/\∀v,p.2.data ≠ .cell v
 hok:HOk X.prog X.w H s.heap
 len : Z.length=X.N.length
section
variable {X:Cx}{pins:List (ae×aM)}{Z:List (Option V)}{H H':Hp}{s:af}{h':am}
def Cx.Ok.nofr(ok:X.Ok)  (e:X.base.get? b=some o):b∉X.fs:=λhb=>by
 have:=(ok.funs.mem hb).1;rw[e] at this;cases this
def Inv.bs(I:Inv X pins Z H s):∀b o,X.base.get? b=some o->s.heap.get? b=some o/\H b=none:=λb o e=>
 ⟨I.base.keep b o (I.ok.bs b o e).1 (I.ok.bs b o e).2 (I.ok.nofr e) (I.ok.noex b o e),I.base.free b o (I.ok.bs b o e).1 (I.ok.bs b o e).2 (I.ok.noex b o e)⟩
def Inv.bk(I:Inv X pins Z H s):∀b o,X.base.get? b=some o->s.heap.get? b=some o:=λb o e=>(I.bs b o e).1
def Inv.mod(I:Inv X pins Z H s):Mod X.K X.mg X.base:=I.ok.mod
def Inv.kIn(I:Inv X pins Z H s):X.K.In s.heap:=I.ok.mod.kin.keeps I.bk
def Inv.lt(I:Inv X pins Z H s):X.env.locals<s.heap.objs.size:=let ⟨_,hn,_⟩:=I.loc;hn.lt
def Inv.sz(I:Inv X pins Z H s):X.s₀.heap.objs.size<=s.heap.objs.size:=Pb I.ok.above (Rs I.lt)
def Inv.nofs(I:Inv X pins Z H s)(h:s.heap.objs.size<=a):a∉X.fs:=λhb=>by
 obtain⟨_,o,ho,_⟩:=I.ok.funs.mem hb;exact absurd (O3 (Ti ho) (Pb I.sz h)) (Pt _)
def Inv.cne(I:Inv X pins Z H s):∀x c,X.env.cells.lookup x=some c->c≠X.env.locals:=λx c e z=>by
 obtain⟨v,o,ho,hd⟩:=I.cell x c e;obtain⟨m,⟨o',es,ep,dF,im,_⟩,_⟩:=I.loc;rw[z,dF] at ho;cases ho;rw[im] at hd;cases hd
def Inv.funs(I:Inv X pins Z H s):s.heap.FunFrames X.base X.outer:=by
 have all:∀(l:List eJ),(∀b∈frs l,b∈X.fs)->X.s₀.heap.FunFrames X.base l->s.heap.FunFrames X.base l:=by
  intro l
  induction l with
  | nil=>intro _ _;trivial
  | cons env r ih=>
   intro hs hl;obtain⟨hk,⟨L,o,hf,hn,ho,hd⟩,hr⟩:=hl;have hL:L∈X.fs:=hs L (by unfold frs;rw[Qr,hf];exact Oj);obtain⟨sl,e⟩:=I.base.slot L o ho (I.ok.frf L hL) hL λz=>I.ok.exfs L z hL;exact⟨hk,⟨L,_,hf,hn,e,hd⟩,ih (λb hb=>hs b (by unfold frs;rw[Qr,hf];exact Ol _ hb)) hr⟩
 exact all X.outer (λ_ hb=>hb) I.ok.funs
def Inv.stack(I:Inv X pins Z H s):s.heap.FunFrames X.base X.stack:=by
 rcases I.ok.stk with e | ⟨e,hf⟩
 ·rw[e];exact I.funs
 ·rw[e];obtain⟨m,hn,_⟩:=I.loc;refine .cons (by rw[I.ok.kind];decide) hf hn ?_ I.funs;exact am.get?_none_of_le (Pb I.ok.bsz I.ok.above)
def Inv.stkSub(I:Inv X pins Z H s):∀b∈frs X.stack,b∈X.env.locals::X.fs:=λb hb=>by
 rcases I.ok.stk with e | ⟨e,hf⟩
 ·rw[e] at hb;exact Ol _ hb
 ·rw[e] at hb;unfold frs at hb;rw[Qr,hf] at hb;exact hb
def Inv.stkFree(I:Inv X pins Z H s):∀b∈frs X.stack,H b=none:=λb hb=>by
 rcases Ot.mp (I.stkSub b hb) with e | hb
 ·rw[e];exact I.free
 ·obtain⟨_,o,ho,_⟩:=I.ok.funs.mem hb;exact I.base.free b o ho (I.ok.frf b hb) λz=>I.ok.exfs b z hb
def Inv.step{g'}{t'}{d'}{ch:List ae}(I:Inv X pins Z H s)
  (jJ:∀b∈ch,(b∈X.ex\/X.s₀.heap.objs.size<=b)/\b≠X.env.locals/\(∀x c,X.env.cells.lookup x=some c->c≠b)/\∀p∈X.pn++pins,p.1≠b)
  (keep:∀b o,b≠X.env.locals->b∉X.fs->b∉ch->s.heap.get? b=some o->H b=none->h'.get? b=some o)
  (slot:∀b o,b≠X.env.locals->b∈X.fs->b∉ch->s.heap.get? b=some o->H b=none->∃sl,h'.get? b=some {o with slots:=sl}) (free:∀b o,b∉ch->s.heap.get? b=some o->H b=none->H' b=none)
  (there:∀b o,b∉ch->s.heap.get? b=some o->∃o',h'.get? b=some o')
  (tups:∀b xs,H b=some (.tup xs)->H' b=some (.tup xs)) (frzs:∀b o u,H b=some (.frz o u)->H' b=some (.frz o u)) (tbls:∀b ps,H b=some (.tbl ps)->∃more,H' b=some (.tbl (ps++more)))
  (ns:∀m,s.heap.Ns X.env.locals m->h'.Ns X.env.locals m) (hok:HOk X.prog X.w H' h') (hg:cC g'):
  Inv X pins Z H' {s with heap:=h',gens:=g',drawn:=d',toks:=t'}:=by
 have xM:∀b o,X.s₀.heap.get? b=some o->b≠X.env.locals:=λb o e=>Oq (O3 (Ti e) I.ok.above);have sR:∀b o,X.s₀.heap.get? b=some o->b∉X.ex->b∉ch:=λb o e hx hb=>by
  rcases (jJ b hb).1 with z | z
  ·exact hx z
  ·exact absurd (O3 (Ti e) z) (Pt _)
 have lB:∀x c,X.env.cells.lookup x=some c->∀v,s.heap.IsCell c v->h'.IsCell c v:=λx c e v ⟨o,ho,hd⟩=>by
  have pR:c∉ch:=λz=>(jJ c z).2.2.1 x c e rfl;by_cases hc:c∈X.fs
  ·obtain⟨sl,q⟩:=slot c o (I.cne x c e) hc pR ho (I.freeC x c e);exact⟨_,q,hd⟩
  ·exact⟨o,keep c o (I.cne x c e) hc pR ho (I.freeC x c e),hd⟩
 refine⟨I.ok,I.os,hg,⟨λb o e n hb hx=>?_,λb o e n hb hx=>?_,λb o e n hx=>?_,λb o e hx=>?_,λb xs e=>tups b xs (I.base.tups b xs e),λb o xs e=>frzs b o xs (I.base.frzs b o xs e),λb ps e=>?_⟩,?_,λx c e=>?_,?_,λx c e=>?_,λp hp=>?_,hok,I.len⟩
 ·exact keep b o (xM b o e) hb (sR b o e hx) (I.base.keep b o e n hb hx) (I.base.free b o e n hx)
 ·obtain⟨sl,e1⟩:=I.base.slot b o e n hb hx;obtain⟨gE,e2⟩:=slot b _ (xM b o e) hb (sR b o e hx) e1 (I.base.free b o e n hx);exact⟨gE,e2⟩
 ·obtain⟨o',e1⟩:=I.base.there b o e hx;exact free b o' (sR b o e hx) e1 (I.base.free b o e n hx)
 ·obtain⟨o',e1⟩:=I.base.there b o e hx;exact there b o' (sR b o e hx) e1
 ·obtain⟨m1,e1⟩:=I.base.tbls b ps e;obtain⟨m2,e2⟩:=tbls b _ e1;exact⟨m1++m2,by rw[e2,Array.append_assoc]⟩
 ·obtain⟨m,hn,hl⟩:=I.loc;refine⟨m,ns m hn,λi x v e1 e2 e3=>?_⟩;obtain⟨u,r,l⟩:=hl i x v e1 e2 e3;refine⟨u,r,?_⟩;rcases l with l | ⟨k,c,e,z⟩
  ·exact .inl l
  ·exact .inr ⟨k,c,e,lB x c e _ z⟩
 ·obtain⟨v,z⟩:=I.cell x c e;exact⟨v,lB x c e v z⟩
 ·obtain⟨m,⟨o,_,_,ho,_⟩,_⟩:=I.loc;exact free _ o (λz=>(jJ _ z).2.1 rfl) ho I.free
 ·obtain⟨v,o,ho,hd⟩:=I.cell x c e;exact free c o (λz=>(jJ c z).2.2.1 x c e rfl) ho (I.freeC x c e)
 ·obtain⟨e,n,ne,nf,d⟩:=I.pin p hp;have pR:p.1∉ch:=λz=>(jJ p.1 z).2.2.2 p hp rfl;exact⟨keep p.1 p.2 ne nf pR e n,free p.1 p.2 pR e n,ne,nf,d⟩
def Inv.un{t'}(I:Inv X pins Z H s)(u:Un X.fs [] H H' s.heap h')(hok:HOk X.prog X.w H' h'):Inv X pins Z H' {s with heap:=h',toks:=t'}:=by
 obtain⟨m,⟨o,es,ep,ho,r⟩,_⟩:=id I.loc;obtain⟨sl,hL⟩:=u.any ho I.free (by simp);exact I.step (g':=s.gens) (d':=s.drawn) (ch:=[]) (λ_ z=>nomatch z) (λb o _ hb _ e n=>u.keep b o e n hb (by simp)) (λb o _ hb _ e n=>u.slot b o e n hb (by simp)) (λb o _ e n=>u.free b o e n (by simp)) (λb o _ e=>u.there b o e (by simp)) u.tups u.frzs u.tbls (λm' hm=>by
  obtain⟨o',gF,kg,dF,r'⟩:=hm;rw[ho] at dF;cases dF;exact⟨_,gF,kg,hL,r'⟩) hok I.bare
def Inv.call{g'}{t'}{d'}{ch}(I:Inv X pins Z H s)(u:Un (frs X.stack) ch H H' s.heap h')(hok:HOk X.prog X.w H' h')(hg:cC g')
  (jJ:∀b∈ch,(b∈X.ex\/X.s₀.heap.objs.size<=b)/\b≠X.env.locals/\(∀x c,X.env.cells.lookup x=some c->c≠b)/\∀p∈X.pn++pins,p.1≠b):
  Inv X pins Z H' {s with heap:=h',gens:=g',drawn:=d',toks:=t'}:=by
 obtain⟨m,⟨o,es,ep,ho,r⟩,_⟩:=id I.loc;obtain⟨sl,hL⟩:=u.any ho I.free λz=>(jJ _ z).2.1 rfl;exact I.step (ch:=ch) jJ (λb o hL hb hc e n=>u.keep b o e n (λz=>(Ot.mp (I.stkSub b z)).elim hL hb) hc) (λb o _ _ hc e n=>u.any e n hc) (λb o hc e n=>u.free b o e n hc) (λb o hc e=>u.there b o e hc) u.tups u.frzs u.tbls (λm' hm=>by
  obtain⟨o',gF,kg,dF,r'⟩:=hm;rw[ho] at dF;cases dF;exact⟨_,gF,kg,hL,r'⟩) hok hg
def Inv.turned{t'}(I:Inv X pins Z H s)(k:∀b o,b≠it->s.heap.get? b=some o->h'.get? b=some o)(hn:H it=none)(hL:it≠X.env.locals)
  (h1:it∈X.ex\/X.s₀.heap.objs.size<=it) (h2:∀x c,X.env.cells.lookup x=some c->c≠it) (h3:∀p∈X.pn++pins,p.1≠it):Inv X pins Z H {s with heap:=h',toks:=t'}:=by
 have xN:∀b u,H b=some u->b≠it:=λb u e z=>by rw[z,hn] at e;cases e
 refine I.step (g':=s.gens) (d':=s.drawn) (ch:=[it]) (λb hb=>?_) (λb o _ _ hc e _=>k b o (λz=>hc (by simp[z])) e) (λb o _ _ hc e _=>⟨o.slots,k b o (λz=>hc (by simp[z])) e⟩) (λ_ _ _ _ n=>n)
  (λb o hc e=>⟨o,k b o (λz=>hc (by simp[z])) e⟩) (λ_ _ e=>e) (λ_ _ _ e=>e) (λb ps e=>⟨#[],by rw[e];simp⟩) (λm hm=>?_) (λb u e=>?_) I.bare
 ·have e:b=it:=by simpa using hb
  subst e;exact⟨h1,hL,h2,h3⟩
 ·obtain⟨o,es,ep,ho,r⟩:=hm;exact⟨o,es,ep,k _ o (Ne.symm hL) ho,r⟩
 ·refine(I.hok b u e).stay (λc v hc q=>k c v ?_ q) (λ_ q=>q) λ_ _ q=>q;rcases hc with z | z
  ·rw[z];exact xN b u e
  ·exact xN c _ z
def Inv.tok(I:Inv X pins Z H s)(t):Inv X pins Z H {s with toks:=t}:=I.un (h':=s.heap) (t':=t) Un.refl I.hok
def Inv.kept{t'}(I:Inv X pins Z H s)(k:∀b u,s.heap.get? b=some u->h'.get? b=some u):Inv X pins Z H {s with heap:=h',toks:=t'}:=I.un (Un.kept k) (I.hok.kept k)
def Inv.laid{a:ae}{o}{t'}(I:Inv X pins Z H s)(k:∀b u,s.heap.get? b=some u->h'.get? b=some u)(hp:s.heap.objs.size<=a)(new:A4 X.prog X.w (upd H a o) h' a o):
  Inv X pins Z (upd H a o) {s with heap:=h',toks:=t'}:=I.un (Un.laid k hp (I.hok.fresh hp)) (I.hok.laid k hp new)
def Inv.write{x e}  (I:Inv X pins Z H s)(mu:Mut (H x))(he:e=x\/H e=some (.own x))(k:∀b u,b≠e->s.heap.get? b=some u->h'.get? b=some u)(oF:∃u,h'.get? e=some u)
  (new:A4 X.prog X.w (upd H x o) h' x o):Inv X pins Z (upd H x o) {s with heap:=h',toks:=t'}:=I.un (Un.write mu he k oF) (I.hok.write mu he k oF new)
def Inv.pins_of(I:Inv X pins Z H s)(h:∀p∈pins',s.heap.get? p.1=some p.2/\H p.1=none/\p.1≠X.env.locals/\p.1∉X.fs/\∀v,p.2.data ≠ .cell v):Inv X pins' Z H s:=
 ⟨I.ok,I.os,I.bare,I.base,I.loc,I.cell,I.free,I.freeC,λp hp=>(Om.mp hp).elim (λz=>I.pin p (Pw _ z)) (h p),I.hok,I.len⟩
def Lb{N:Za}(hN:N.Nodup){i j:Nat}(a:N[i]? = some x)(b:N[j]? = some x):i=j:=by
 obtain⟨h1,e1⟩:=Ox.mp a;obtain⟨h2,e2⟩:=Ox.mp b;exact(Rq hN).mp (e1.trans e2.symm)
def Lc        (I:Inv X pins Z H s) (hN:X.N.Nodup) (hi:X.N[i]? = some x) (hx:Loc X.env.scope x) (r:Ah v u)
  (h:∀s',Inv X pins (Z.set i (some v)) H s'->(∃a,am.SameBut a s.heap s'.heap/\(a=X.env.locals\/X.env.cells.lookup x=some a))->Q () s') (hf:X.fn x=true\/X.env.scope.names.lookup x=some .local:=by first | exact .inl rfl | exact .inr rfl | assumption):ai M A (IN X.env x u) Q E s:=by
 obtain⟨m,hn,hl⟩:=id I.loc;have fe:(X.env.scope.kind == .class||(X.env.scope.kind == .module&&X.env.locals != X.env.globals))=false:=by rw[I.ok.kind];rfl
 have sT:i < Z.length:=by rw[I.len];exact(Ox.mp hi).1
 have cne:=I.cne;have io:∀{a:ae} {h':am},(∃o,s.heap.get? a=some o/\H a=none)->am.SameBut a s.heap h'->HOk X.prog X.w H h':=λ{a h'} ha hs b ob e=>by
  obtain⟨_,_,lC⟩:=ha;refine(I.hok b ob e).stay (λc w' hc q=>(hs.2 c ?_).trans q) (λ_ q=>q) λ_ _ q=>q;rintro rfl;rcases hc with rfl | hc
  ·rw[lC] at e;cases e
  ·rw[lC] at hc;cases hc
 rcases hx with hk | hk
 ·refine wpAny_storeName_local hk hn (λh' u6 hs=>?_) fe;obtain⟨oL,_,_,kh,_⟩:=id hn;refine h _ ⟨I.ok,I.os,I.bare,⟨λb o e n hb hx=>?_,λb o e n hb hx=>?_,I.base.free,λb o e hx=>?_,I.base.tups,I.base.frzs,I.base.tbls⟩,⟨_,u6,λj y v' e1 e2 e3=>?_⟩,λy c e=>?_,I.free,I.freeC,λp hp=>?_,io ⟨oL,kh,I.free⟩ hs,by simpa using I.len⟩ ⟨_,hs,.inl rfl⟩
  ·exact(hs.2 b (Oq (O3 (Ti e) I.ok.above))).trans (I.base.keep b o e n hb hx)
  ·obtain⟨sl,e1⟩:=I.base.slot b o e n hb hx;exact⟨sl,(hs.2 b (Oq (O3 (Ti e) I.ok.above))).trans e1⟩
  ·obtain⟨o',e1⟩:=I.base.there b o e hx;exact⟨o',(hs.2 b (Oq (O3 (Ti e) I.ok.above))).trans e1⟩
  ·by_cases hj:j=i
   ·subst hj;rw[hi] at e1;cases e1;rw[Ry sT] at e2;cases e2;exact⟨u,r,.inl ⟨hk,by simp⟩⟩
   ·rw[R9 (Ne.symm hj)] at e2;obtain⟨u',r',q⟩:=hl j y v' e1 e2 e3;refine⟨u',r',?_⟩;rcases q with ⟨k,e⟩ | ⟨k,c,e,z⟩
    ·refine .inl ⟨k,?_⟩;have:y≠x:=λe=>hj (Lb hN e1 (e ▸ hi));simp[this,e]
    ·exact .inr ⟨k,c,e,z.sameBut hs (cne y c e)⟩
  ·obtain⟨w',z⟩:=I.cell y c e;exact⟨w',z.sameBut hs (cne y c e)⟩
  ·obtain⟨e,n,ne,nf,d⟩:=I.pin p hp;exact⟨(hs.2 p.1 ne).trans e,n,ne,nf,d⟩
 ·have u7:X.fn x=true:=by
   rcases hf with z | z
   ·exact z
   ·rw[z] at hk;cases hk
  obtain⟨c,hc⟩:=I.ok.has x (.inl hk);obtain⟨w',z⟩:=I.cell x c hc;refine wpAny_storeName_cell I.ok.kind hk hc z (λh' sU hs=>?_);obtain⟨oc,pS,u8⟩:=id z;refine h {s with heap:=h'} ⟨I.ok,I.os,I.bare,⟨λb o e n hb hx=>?_,λb o e n hb hx=>?_,I.base.free,λb o e hx=>?_,I.base.tups,I.base.frzs,I.base.tbls⟩,⟨m,hn.sameBut hs (Ne.symm (cne x c hc)),λj y v' e1 e2 e3=>?_⟩,λy c' e=>?_,I.free,I.freeC,λp hp=>?_,io ⟨oc,pS,I.freeC x c hc⟩ hs,by simpa using I.len⟩ ⟨c,hs,.inr hc⟩
  ·exact(hs.2 b (Oq (O3 (Ti e) (I.ok.cab x c u7 hc)))).trans (I.base.keep b o e n hb hx)
  ·obtain⟨sl,e1⟩:=I.base.slot b o e n hb hx;exact⟨sl,(hs.2 b (Oq (O3 (Ti e) (I.ok.cab x c u7 hc)))).trans e1⟩
  ·obtain⟨o',e1⟩:=I.base.there b o e hx;exact⟨o',(hs.2 b (Oq (O3 (Ti e) (I.ok.cab x c u7 hc)))).trans e1⟩
  ·by_cases hj:j=i
   ·subst hj;rw[hi] at e1;cases e1;rw[Ry sT] at e2;cases e2;exact⟨u,r,.inr ⟨.inl hk,c,hc,sU⟩⟩
   ·rw[R9 (Ne.symm hj)] at e2;obtain⟨u',r',q⟩:=hl j y v' e1 e2 e3;refine⟨u',r',?_⟩;rcases q with q | ⟨k,c',e,z'⟩
    ·exact .inl q
    ·refine .inr ⟨k,c',e,z'.sameBut hs ?_⟩;rintro rfl;exact hj (Lb hN e1 (I.ok.inj _ _ _ e hc ▸ hi))
  ·by_cases xO:c'=c
   ·subst xO;exact⟨_,sU⟩
   ·obtain⟨w2,z2⟩:=I.cell y c' e;exact⟨w2,z2.sameBut hs xO⟩
  ·obtain⟨e,n,ne,nf,d⟩:=I.pin p hp;refine⟨(hs.2 p.1 ?_).trans e,n,ne,nf,d⟩;intro q;rw[q,pS] at e;have q':oc=p.2:=Ov e;exact d w' (by rw[<-q'];exact u8)
def Xab        (I:Inv X pins Z H s) (hN:X.N.Nodup) (hi:X.N[i]? = some x) (hx:Loc X.env.scope x) (r:Ah v u)
  (h:∀s',Inv X pins (Z.set i (some v)) H s'->Q () s') (hf:X.fn x=true\/X.env.scope.names.lookup x=some .local:=by first | exact .inl rfl | exact .inr rfl | assumption):ai M A (IN X.env x u) Q E s:=
 Lc I hN hi hx r (λs' I' _=>h s' I') hf
def Inv.call'{ch}(I:Inv X pins Z H s)(ho:s'.os=s.os)(u:Un (frs X.stack) ch H H' s.heap s'.heap)(hok:HOk X.prog X.w H' s'.heap)(hg:cC s'.gens)
  (jJ:∀b∈ch,(b∈X.ex\/X.s₀.heap.objs.size<=b)/\b≠X.env.locals/\(∀x c,X.env.cells.lookup x=some c->c≠b)/\∀p∈X.pn++pins,p.1≠b):Inv X pins Z H' s':=by
 obtain⟨h',g',d',t',o'⟩:=s';have e:o'=s.os:=ho;subst e;exact I.call (g':=g') (t':=t') (d':=d') u hok hg jJ
end
abbrev XK:=aa->Option ae->Hp->Prop
abbrev St:=List (Option V)
abbrev VK:=V->Hp->Prop
abbrev TE:=St->Hp->VK->Prop
abbrev TT:=St->Hp->(Bool->Hp->Prop)->Prop
abbrev TA:=St->Hp->(List V->Hp->Prop)->Prop
structure Ends where
 nx:St->Hp->Prop
 rt:VK
 bk:St->Hp->Prop:=λ_ _=>False
 ct:St->Hp->Prop:=λ_ _=>False
abbrev TS:=Ends->St->Hp->Prop
def EP (X:Cx) (pins:List (ae×aM)) (Z:St) (Q:VK) (u:aa) (s':af):Prop:=∃v H',Inv X pins Z H' s'/\Ah v u/\Q v H'
def TP (X:Cx) (pins:List (ae×aM)) (Z:St) (Q:Bool->Hp->Prop) (b:Bool) (s':af):Prop:=∃H',Inv X pins Z H' s'/\Q b H'
def AP (X:Cx) (pins:List (ae×aM)) (Z:St) (Q:List V->Hp->Prop) (us:List aa) (s':af):Prop:=∃vs H',Inv X pins Z H' s'/\Vals vs us/\Q vs H'
def SP (X:Cx) (pins:List (ae×aM)) (D:Ends) (f:Flow) (s':af):Prop:=
 match f with
 | .next=>∃Z' H',Inv X pins Z' H' s'/\D.nx Z' H'
 | .brk=>∃Z' H',Inv X pins Z' H' s'/\D.bk Z' H'
 | .cont=>∃Z' H',Inv X pins Z' H' s'/\D.ct Z' H'
 | .ret u=>∃v Z' H',Inv X pins Z' H' s'/\Ah v u/\D.rt v H'
def PE (X:Cx) (e:aC) (t:TE):Prop:=
 ∀pins s Z H (Q:VK),Inv X pins Z H s->t Z H Q->ai (ag X.prog X.w) X.A (eval e X.env) (EP X pins Z Q) X.xe s
def PT (X:Cx) (e:aC) (t:TT):Prop:=
 ∀pins s Z H (Q:Bool->Hp->Prop),Inv X pins Z H s->t Z H Q->ai (ag X.prog X.w) X.A (isTrue e X.env (eval e X.env)) (TP X pins Z Q) X.xe s
def PW (X:Cx) (e:aC) (t:TT):Prop:=
 ∀(dO:i9 aa) (pins:List (ae×aM)) (s:af) (Z:St) (H:Hp) (Q:Bool->Hp->Prop),Inv X pins Z H s->t Z H Q->ai (ag X.prog X.w) X.A (isTrue e X.env dO) (TP X pins Z Q) X.xe s
def PW.pt   (h:PW X e t):PT X e t:=h _
def PA (X:Cx) (es:List aC) (t:TA):Prop:=
 ∀(pos:ce) (pins:List (ae×aM)) (s:af) (Z:St) (H:Hp) (Q:List V->Hp->Prop),Inv X pins Z H s->t Z H Q->ai (ag X.prog X.w) X.A (spliced (bp pos (aq es X.env))) (AP X pins Z Q) X.xe s
def PS (X:Cx) (st:aK) (t:TS):Prop:=
 ∀pins s Z H (D:Ends),Inv X pins Z H s->t D Z H->ai (ag X.prog X.w) X.A (exec st X.env) (SP X pins D) X.xe s
def PSs (X:Cx) (st:List aK) (t:TS):Prop:=
 ∀pins s Z H (D:Ends),Inv X pins Z H s->t D Z H->ai (ag X.prog X.w) X.A (execs st X.env) (SP X pins D) X.xe s
def thn{α : Type}{t:i9 α}{Q Q'}    (h:ai M A t Q E s)(hQ:∀a s,Q a s->Q' a s):ai M A t Q' E s:=aG h hQ λ_ _ x=>x
section
variable {X:Cx}
def Eu (i:Nat):TE:=fun Z H Q=>∃v, Z[i]? = some (some v)/\Q v H
def tC (v:V):TE:=λ_ H Q=>Q v H
def Xgj   (hN:X.N[i]? = some x) (hv:Vis X.env.scope x) (hd:(x==("__debug__" : aj))=false:=by decide) (gG:(x==("__classdict__" : aj))=false:=by decide):PE X (.Name x pos) (Eu i):=by
 intro pins s Z H Q I h;obtain⟨v,e,h⟩:=h;obtain⟨m,hn,hl⟩:=I.loc;obtain⟨u,r,l⟩:=hl i x v hN e hv;have fin:EP X pins Z Q u s:=⟨v,H,I,r,h⟩;rcases l with ⟨hk,hm⟩ | ⟨hk,c,hc,lD⟩
 ·exact ki (wpAny_loadName_local I.ok.kind hk hn hm fin) hd
 ·rcases hk with hk | hk
  ·exact ki (wpAny_loadName_cell I.ok.kind hk hc lD fin) hd
  ·exact ki (wpAny_loadName_free I.ok.kind hk hc lD fin gG) hd
def Af{i j pos}:PE X (.Constant (.int i) j pos) (tC (.int i)):=λ_ _ _ H _ I h=>wpAny_Constant_int ⟨.int i,H,I.tok _,⟨_,rfl⟩,h⟩
def Ff:PE X (.Constant (.bool b) j pos) (tC (.bl b)):=λ_ _ _ H _ I h=>Constant_bool ⟨.bl b,H,I,rfl,h⟩
def Aw:PE X (.Constant (.str x) j pos) (tC (.str x)):=λ_ _ _ H _ I h=>Calls.Constant_str ⟨.str x,H,I.tok _,⟨_,rfl⟩,h⟩
def Gl (X:Cx) (x:aj):Prop:=X.env.kindOf x=some .globalImplicit
def G5         (I:Inv X pins Z H s) (hg:Gl X x) (hm:X.mg x=some u) (h:Q u s)
  (hd:(x==("__debug__" : aj))=false:=by decide):ai (ag X.prog X.w) X.A (eval (.Name x pos) X.env) Q E s:=
 Calls.Name_function_global I.ok.kind hg (Calls.loadGlobal_global (by rw[I.ok.glob];exact I.mod.glob.keeps I.bk) hm h) hd
def Fg         (I:Inv X pins Z H s) (hg:Gl X x) (hm:X.mg x=none) (hv:bG x=some u) (h:Q u s)
  (hn:x ≠ "__name__" := by decide) (hd:(x==("__debug__" : aj))=false:=by decide):ai (ag X.prog X.w) X.A (eval (.Name x pos) X.env) Q E s:=by
 obtain⟨mb,h1,h2⟩:=I.mod.blt;exact Calls.Name_function_global I.ok.kind hg (Calls.loadGlobal_builtin (by rw[I.ok.glob];exact I.mod.glob.keeps I.bk) hm (by rw[I.ok.blt];exact h1.keeps I.bk) ((h2 x hn).trans hv) h) hd
def Xac  {v:V}  (hg:Gl X x) (hm:X.mg x=some u) (r:Ah v u) (hd:(x==("__debug__" : aj))=false:=by decide):PE X (.Name x pos) (tC v):=
 λ_ _ _ H _ I h=>G5 I hg hm ⟨v,H,I,r,h⟩ hd
def F5  {v:V}  (hg:Gl X x) (hm:X.mg x=none) (hv:bG x=some u) (r:Ah v u) (hn:x ≠ "__name__" := by decide) (hd:(x==("__debug__" : aj))=false:=by decide):PE X (.Name x pos) (tC v):=
 λ_ _ _ H _ I h=>Fg I hg hm hv ⟨v,H,I,r,h⟩ hn hd
def t2I (ta tb:TE) (k:Int->Int->Hp->Prop):St->Hp->Prop:=fun Z H=>ta Z H λx H1=>tb Z H1 λy H2=>∃i j,x = .int i/\y = .int j/\k i j H2
def tMul (ta tb:TE):TE:=fun Z H Q=>t2I ta tb (λi j H2=>(-(2 ^ 64)<i/\i<2 ^ 64)/\Q (.int (i * j)) H2) Z H
variable {a b:aC}{ta tb:TE}{pos:ce}
def tIsN (ta:TE):TE:=fun Z H Q=>ta Z H λx H1=>Q (.bl (decide (x = .non))) H1
def tB (t:TE):TT:=fun Z H Q=>t Z H λx H1=>∃c,x = .bl c/\Q c H1
def Dz  (h:PE X e t) (he:∀dO,isTrue e X.env dO=(do       let v <-dO;bZ e.pos;holding [v] (truthy v)):=by intro _;rfl):PT X e (tB t):=by
 intro pins s Z H Q I hw;refine u9 (thn (h pins s Z H _ I hw) λv s1 ⟨x,H1,I1,r1,q1⟩=>?_) (he _);obtain⟨d,rfl,q⟩:=q1;cases r1;exact aL ⟨H1,I1,q⟩
variable {tA sV:TT}{rest:List aC}
def tAnd (t u:TT):TT:=fun Z H Q=>t Z H λc H1=>if c=true then u Z H1 Q else Q false H1
def tOr (t u:TT):TT:=fun Z H Q=>t Z H λc H1=>if c=true then Q true H1 else u Z H1 Q
def tNot (t:TT):TT:=fun Z H Q=>t Z H λc H1=>Q (!c) H1
def Ew(ha:PT X a tA):PW X (.BoolOp .And [a] pos) tA:=by
 intro wh pins s Z H Q I h;refine As (thn (ha pins s Z H Q I h) λc s1 e=>?_);cases c with
 | true=>exact isTrue_and_nil e
 | false=>exact e
def G6(ha:PT X a tA):PW X (.BoolOp .Or [a] pos) tA:=by
 intro wh pins s Z H Q I h;refine IP (thn (ha pins s Z H Q I h) λc s1 e=>?_);cases c with
 | false=>exact isTrue_or_nil e
 | true=>exact e
def Ex(ha:PT X a tA)(hb:PW X (.BoolOp .And (b::rest) pos) sV):PW X (.BoolOp .And (a::b::rest) pos) (tAnd tA sV):=by
 intro wh pins s Z H Q I h;refine As (thn (ha pins s Z H _ I h) λc s1 ⟨H1,I1,q1⟩=>?_);cases c with
 | true=>exact hb wh pins s1 Z H1 Q I1 q1
 | false=>exact⟨H1,I1,q1⟩
def F6(ha:PT X a tA)(hb:PW X (.BoolOp .Or (b::rest) pos) sV):PW X (.BoolOp .Or (a::b::rest) pos) (tOr tA sV):=by
 intro wh pins s Z H Q I h;refine IP (thn (ha pins s Z H _ I h) λc s1 ⟨H1,I1,q1⟩=>?_);cases c with
 | true=>exact⟨H1,I1,q1⟩
 | false=>exact hb wh pins s1 Z H1 Q I1 q1
def Jg(ha:PT X a tA):PT X (.UnaryOp .Not a pos) (tNot tA):=by
 intro pins s Z H Q I h;exact isTrue_not (ha pins s Z H (λc H1=>Q (!c) H1) I h)
def Xgk (ta tb:TE):TE:=fun Z H Q=>ta Z H λx H1=>∃c,x = .bl c/\if c=true then tb Z H1 Q else Q (.bl false) H1
def Xgl (ta:TE):TE:=fun Z H Q=>ta Z H λx H1=>∃c,x = .bl c/\Q (.bl (!c)) H1
def Jh  (h:PE X a t):PE X (.BoolOp op [a] pos) t:=λpins s Z H Q I hw=>BoolOp_one (h pins s Z H Q I hw)
def Ji(ha:PE X a ta)(hb:PE X (.BoolOp .And (b::rest) pos) tb):PE X (.BoolOp .And (a::b::rest) pos) (Xgk ta tb):=by
 intro pins s Z H Q I h;refine BoolOp_and (thn (ha pins s Z H _ I h) λv s1 ⟨x,H1,I1,r1,q1⟩=>?_);obtain⟨c,rfl,q1⟩:=q1;cases r1;refine aL ?_;cases c with
 | true=>exact hb pins s1 Z H1 Q I1 q1
 | false=>exact⟨.bl false,H1,I1,rfl,q1⟩
def Xgm(ha:PE X a ta):PE X (.UnaryOp .Not a pos) (Xgl ta):=by
 intro pins s Z H Q I h;refine UnaryOp_ (thn (ha pins s Z H _ I h) λv s1 ⟨x,H1,I1,r1,q1⟩=>?_);obtain⟨c,rfl,q1⟩:=q1;cases r1;exact not_of (aL ⟨.bl (!c),H1,I1,rfl,q1⟩)
def tIf (t:TT) (ta tb:TE):TE:=fun Z H Q=>t Z H λc H1=>if c=true then ta Z H1 Q else tb Z H1 Q
def Fh(hc:PT X c tA)(ha:PE X a ta)(hb:PE X b tb):PE X (.IfExp c a b pos) (tIf tA ta tb):=by
 intro pins s Z H Q I h;refine wpAny_IfExp (thn (hc pins s Z H _ I h) λd s1 ⟨H1,I1,q1⟩=>?_);cases d with
 | true=>exact ha pins s1 Z H1 Q I1 q1
 | false=>exact hb pins s1 Z H1 Q I1 q1
end
def SqL (K:KL) (H:Hp) (a:ae) (xs:List V):Prop:=
 Rd H a (.lst xs) \/
  ∃(o:aM) (ax:Array aa) (n:Nat),K.lookup a=some o/\o.cls = .type "list" /\ o.dict=none/\o.data = .seq ax n/\ax.size<=sizeLine/\Vals xs ax.toList
def SqT (K:KL) (H:Hp) (a:ae) (xs:List V):Prop:=
 Rd H a (.tup xs) \/
  ∃(o:aM) (ax:Array aa) (n:Nat),K.lookup a=some o/\o.cls = .type "tuple" /\ o.data = .seq ax n/\ax.size<=sizeLine/\Vals xs ax.toList
def absV:aa->Option V
 | .none=>some .non
 | .bool b=>some (.bl b)
 | .int i _=>some (.int i)
 | .str x _=>some (.str x)
 | .bytes b _=>some (.byt b)
 | .float b _=>some (.flt b)
 | .ref a=>some (.ref a)
 | .type n=>some (.ty n)
 | _=>none
def Ah.abs  (r:Ah x u):absV u=some x:=by
 cases x with
 | non=>cases r;rfl
 | bl _=>cases r;rfl
 | int _=>obtain⟨t,rfl⟩:=r;rfl
 | str _=>obtain⟨t,rfl⟩:=r;rfl
 | byt _=>obtain⟨t,rfl⟩:=r;rfl
 | flt _=>obtain⟨t,rfl⟩:=r;rfl
 | ref _=>cases r;rfl
 | ty _=>cases r;rfl
def Ah.inj{x y}(r:Ah x u)(q:Ah y u):x=y:=Ov (r.abs.symm.trans q.abs)
theorem Vals.inj:∀{xs ys:List V} {us:List aa},Vals xs us->Vals ys us->xs=ys
 | _,_,_,.nil,.nil=>rfl
 | _,_,_,.cons r t,.cons r' t'=>by rw[r.inj r',Vals.inj t t']
section
variable {X:Cx}{pins:List (ae×aM)}{Z:St}{H:Hp}{s:af}{a:ae}{xs ys:List V}
def SqL.of{K}(h:H a=some (.lst xs)):SqL K H a xs:=.inl (.inl h)
def SqT.of{K}(h:H a=some (.tup xs)):SqT K H a xs:=.inl (.inl h)
def Inv.list(I:Inv X pins Z H s)(h:SqL X.K H a xs):∃ax:List aa,Vals xs ax/\PlainL s.heap a ax.toArray/\xs.length<=sizeLine:=by
 rcases h with h | ⟨o,ax,n,hk,hc,hd,hs,hz,r⟩
 ·obtain⟨z,ax,n,r,e⟩:=h.ok I.hok;exact⟨ax,r,⟨_,n,e,rfl,rfl,rfl⟩,z⟩
 ·refine⟨ax.toList,r,⟨o,n,I.kIn a o hk,hc,hd,by simpa using hs⟩,?_⟩;have e:=r.length;simp only[O1] at e
  lia
def Inv.tuple(I:Inv X pins Z H s)(h:SqT X.K H a xs):∃ax:List aa,Vals xs ax/\fG s.heap a ax.toArray/\xs.length<=sizeLine:=by
 rcases h with h | ⟨o,ax,n,hk,hc,hs,hz,r⟩
 ·obtain⟨z,ax,r,p⟩:=h.ok I.hok;exact⟨ax,r,p,z⟩
 ·refine⟨ax.toList,r,⟨o,I.kIn a o hk,hc,n,by simpa using hs⟩,?_⟩;have e:=r.length;simp only[O1] at e
  lia
def Inv.list_inj(I:Inv X pins Z H s)(h:SqL X.K H a xs)(h':SqL X.K H a ys):xs=ys:=by
 obtain⟨ax,r,⟨o,n,e,_,_,d⟩,_⟩:=I.list h;obtain⟨its',r',⟨o',n',e',_,_,d'⟩,_⟩:=I.list h';rw[e] at e';cases e';rw[d] at d';injection d' with d1 _
 have:ax=its':=by simpa using congrArg Array.toList d1
 subst this;exact r.inj r'
def Inv.tuple_inj(I:Inv X pins Z H s)(h:SqT X.K H a xs)(h':SqT X.K H a ys):xs=ys:=by
 obtain⟨ax,r,⟨o,e,_,n,d⟩,_⟩:=I.tuple h;obtain⟨its',r',⟨o',e',_,n',d'⟩,_⟩:=I.tuple h';rw[e] at e';cases e';rw[d] at d';injection d' with d1 _
 have:ax=its':=by simpa using congrArg Array.toList d1
 subst this;exact r.inj r'
end
abbrev Cx.wish (X:Cx) (E:Zb):Cx:={X with xe:=E}
abbrev Cx.nox (X:Cx):Cx:=X.wish λ_ _=>False
def Cx.Ok.wish{X:Cx}(ok:X.Ok)(E):(X.wish E).Ok:=
 ⟨ok.mod,ok.kind,ok.glob,ok.blt,ok.above,ok.inj,ok.has,ok.cab,ok.hd,ok.frames,ok.stk,ok.exf,ok.bs,ok.bsz,ok.noex,ok.exfs,ok.funs,ok.frf⟩
def Cx.Ok.unwish{X:Cx}(ok:(X.wish E).Ok):X.Ok:=
 ⟨ok.mod,ok.kind,ok.glob,ok.blt,ok.above,ok.inj,ok.has,ok.cab,ok.hd,ok.frames,ok.stk,ok.exf,ok.bs,ok.bsz,ok.noex,ok.exfs,ok.funs,ok.frf⟩
section
variable {X:Cx}{pins:List (ae×aM)}{Z:St}{H:Hp}{s:af}{E:Zb}
def Inv.wish(I:Inv X pins Z H s)(E):Inv (X.wish E) pins Z H s:=⟨I.ok.wish E,I.os,I.bare,I.base,I.loc,I.cell,I.free,I.freeC,I.pin,I.hok,I.len⟩
def Inv.unwish(I:Inv (X.wish E) pins Z H s):Inv X pins Z H s:=⟨I.ok.unwish,I.os,I.bare,I.base,I.loc,I.cell,I.free,I.freeC,I.pin,I.hok,I.len⟩
def SP.unwish   (h:SP (X.wish E) pins D f s'):SP X pins D f s':=by
 cases f with
 | next=>obtain⟨Z',H',I,q⟩:=h;exact⟨Z',H',I.unwish,q⟩
 | brk=>obtain⟨Z',H',I,q⟩:=h;exact⟨Z',H',I.unwish,q⟩
 | cont=>obtain⟨Z',H',I,q⟩:=h;exact⟨Z',H',I.unwish,q⟩
 | ret u=>obtain⟨v, Z',H',I,r,q⟩:=h;exact⟨v, Z',H',I.unwish,r,q⟩
def PSs.nox{st}(h:PSs X.nox st t):PSs X st t:=λpins s Z H D I hw=>
 aG (h pins s Z H D (I.wish _) hw) (λ_ _ q=>q.unwish) λ_ _ z=>False.elim z
end
section
variable {X:Cx}{st:aK}{rest:List aK}{t u:TS}{e:aC}{te:TE}{pos:ce}
def Jj:TS:=λD Z H=>D.nx Z H
def Jk (t u:TS):TS:=λD Z H=>t {D with nx:=u D} Z H
def Bc:PSs X [] Jj:=λ_ _ Z H _ I h=>cO ⟨Z,H,I,h⟩
def Ae(h1:PS X st t)(h2:PSs X rest u):PSs X (st::rest) (Jk t u):=by
 intro pins s Z H D I h;refine m4 (thn (h1 pins s Z H {D with nx:=u D} I h) λf s1 q=>?_);cases f with
 | next=>
  obtain⟨Z',H',I',q⟩:=q;exact h2 pins s1 Z' H' D I' q
 | ret v=>exact q
 | brk=>exact q
 | cont=>exact q
def Ag(h1:PS X st t):PSs X [st] t:=by
 intro pins s Z H D I h;refine m4 (thn (h1 pins s Z H D I h) λf s1 q=>?_);cases f with
 | next=>exact cO q
 | ret v=>exact q
 | brk=>exact q
 | cont=>exact q
def Inv.quiet    (I:Inv X pins Z H s):interactive X.env=false:=by simp[interactive,I.ok.kind]
def Xad (te:TE):TS:=λD Z H=>te Z H λ_ H1=>D.nx Z H1
def F7(he:PE X e te)(hs:dc e none pos.line X.env=pure false:=by rfl):PS X (.Expr e pos) (Xad te):=by
 intro pins s Z H D I h;exact wpAny_Expr_any (thn (he pins s Z H _ I h) λv s1 ⟨x,H1,I1,r1,q1⟩=>⟨Z,H1,I1,q1⟩) I.quiet hs
def Xae (te:TE):TS:=λD Z H=>te Z H D.rt
def Ao(he:PE X e te):PS X (.Return (some e) pos) (Xae te):=by
 intro pins s Z H D I h;exact wpAny_Return_some (thn (he pins s Z H _ I h) λv s1 ⟨x,H1,I1,r1,q1⟩=>⟨x, Z,H1,I1,r1,q1⟩)
def Jl (c:TT) (t u:TS):TS:=λD Z H=>c Z H λb H1=>if b=true then t D Z H1 else u D Z H1
def Ba   (hc:PT X c tc) (ha:PSs X a t) (hb:PSs X b u):PS X (.If c a b pos) (Jl tc t u):=by
 intro pins s Z H D I h;refine wpAny_If (thn (hc pins s Z H _ I h) λd s1 ⟨H1,I1,q1⟩=>?_);cases d with
 | true=>exact ha pins s1 Z H1 D I1 q1
 | false=>exact hb pins s1 Z H1 D I1 q1
def Xqm:TS:=λ_ _ _=>False
end
abbrev TG:=V->St->Hp->(St->Hp->Prop)->Prop
abbrev TGs:=List V->St->Hp->(St->Hp->Prop)->Prop
def PG (X:Cx) (m5:aC) (t:TG):Prop:=
 ∀pins s Z H (v:V) (u:aa) (Q:St->Hp->Prop),Inv X pins Z H s->Ah v u->t v Z H Q ->
  ai (ag X.prog X.w) X.A (assign m5 X.env u) (λ_ s'=>∃Z' H',Inv X pins Z' H' s'/\Q Z' H') X.xe s
def PGs (X:Cx) (ts:List aC) (t:TGs):Prop:=
 ∀pins s Z H (vs:List V) (us:List aa) (Q:St->Hp->Prop),Inv X pins Z H s->Vals vs us->t vs Z H Q ->
  ai (ag X.prog X.w) X.A (assignInOrder ((bq ts X.env).map (·.2)) us) (λ_ s'=>∃Z' H',Inv X pins Z' H' s'/\Q Z' H') X.xe s
abbrev TSet:=V->V->V->Hp->(Hp->Prop)->Prop
def PSet (X:Cx) (t:TSet):Prop:=
 ∀pins s Z H (o i v:V) (ov iv u:aa) (Q:Hp->Prop),Inv X pins Z H s->Ah o ov->Ah i iv->Ah v u->t o i v H Q ->
  ai (ag X.prog X.w) X.A (uA ov iv u) (λ_ s'=>∃H',Inv X pins Z H' s'/\Q H') X.xe s
abbrev TIp:=V->V->Hp->VK->Prop
section
variable {X:Cx}{pos:ce}
def Ax (i:Nat):TG:=λv Z H Q=>Q (Z.set i (some v)) H
def pg_name{i:Nat}(hN:X.N.Nodup)(hi:X.N[i]? = some x)(hx:Loc X.env.scope x)(hf:X.fn x=true\/X.env.scope.names.lookup x=some .local:=by first | exact .inl rfl | exact .inr rfl | assumption):PG X (.Name x pos) (Ax i):=by
 intro pins s Z H v u Q I r h;exact lE (Xab I hN hi hx r (λs' I'=>⟨_,H,I',h⟩) hf)
def Ld:TGs:=λvs Z H Q=>vs=[]/\Q Z H
def G7 (t:TG) (u:TGs):TGs:=λvs Z H Q=>∃v r,vs=v::r/\t v Z H fun Z' H'=>u r Z' H' Q
def D0:PGs X [] Ld:=by
 intro pins s Z H vs us Q I r h;obtain⟨e,h⟩:=h;subst e;cases r;exact assignInOrder_nil ⟨Z,H,I,h⟩
def Bz    (h1:PG X e t) (h2:PGs X es u)
  (hs:(bq (e::es) X.env).map (·.2)=assign e X.env::(bq es X.env).map (·.2):=by rfl):PGs X (e::es) (G7 t u):=by
 intro pins s Z H vs us Q I r h;obtain⟨v,vr,e1,h⟩:=h;subst e1;cases r with
 | cons r rr=>
  rw[hs];refine assignInOrder_cons (thn (h1 pins s Z H _ _ _ I r h) λ_ s1 ⟨Z1,H1,I1,q1⟩=>?_);exact h2 pins s1 Z1 H1 _ _ Q I1 rr q1
def Jm (K:KL) (n:Nat) (t:TGs):TG:=λv Z H Q=>∃a xs,v = .ref a/\SqT K H a xs/\xs.length=n/\t xs Z H Q
def Lf   {n:Nat} (hc:X.calm=true) (h:PGs X es t)
  (hn:(bq es X.env).length=n:=by rfl) (bi:(bq es X.env).findIdx? (·.1)=none:=by rfl):PG X (.Tuple es k pos) (Jm X.K n t):=by
 intro pins s Z H v u Q I r hw;obtain⟨a,xs,e1,hq,hl,hw⟩:=hw;subst e1;cases r;obtain⟨ax,rv,ht,hz⟩:=I.tuple hq;refine assign_Tuple_tuple (I.ok.hd hc) ht (by simp[hn,<-hl,rv.length]) bi λh' hx=>?_;have I1:Inv X pins Z H {s with heap:=h'}:=I.kept (t':=s.toks) λb o e=>hx b o (Oq (Ti e)) e;exact h pins _ Z H xs _ Q I1 (by simpa using rv) hw
def gSub (to ti:TE) (t:TSet):TG:=λv Z H Q=>to Z H λo H1=>ti Z H1 λi H2=>t o i v H2 λH3=>Q Z H3
def Fi   (ho:PE X o to) (hi:PE X i ti) (hs:PSet X t)
  (ha:∀v,assign (.Subscript o i pos) X.env v=(do
   let ov <-holding [v] (eval o X.env)
   let iv <-holding [v,ov] (eval i X.env)
   bZ pos
   holding [v,ov,iv] (uA ov iv v)
   release [v,ov,iv] []):=by intro _;rfl):PG X (.Subscript o i pos) (gSub to ti t):=by
 intro pins s Z H v u Q I r h;rw[ha];refine S7 (a8 (thn (ho pins s Z H _ I h) λov s1 ⟨x,H1,I1,r1,q1⟩=>?_));refine S7 (a8 (thn (hi pins s1 Z H1 _ I1 q1) λiv s2 ⟨y,H2,I2,r2,q2⟩=>?_));refine S7 (aQ (S7 (a8 (thn (hs pins s2 Z H2 x y v ov iv u _ I2 r1 r2 r q2) λ_ s3 ⟨H3,I3,q3⟩=>?_))));exact wpAny_release ⟨Z,H3,I3,q3⟩
def Lg (te:TE) (g:TG):TS:=λD Z H=>te Z H λx H1=>g x Z H1 D.nx
def Ee   (he:PE X e te) (hg:PG X tg g) (hs:swapsWithSole [tg] e pos.line X.env=pure false:=by rfl) (hw:swappedStores [tg] e X.env=pure none:=by rfl)
  (h1:(bq [tg] X.env).map (·.2)=[assign tg X.env]:=by rfl):PS X (.Assign [tg] e pos) (Lg te g):=by
 intro pins s Z H D I h;refine wpAny_Assign_stores (thn (he pins s Z H _ I h) λv s1 ⟨x,H1,I1,r1,q1⟩=>?_) hs hw;rw[h1];exact thn (hg pins s1 Z H1 x v _ I1 r1 q1) λ_ s2 q=>q
def Ap{i:Nat}    (hN:X.N.Nodup)(hi:X.N[i]? = some x)(hx:Loc X.env.scope x)(he:PE X e te)(hs:dc e (some (.Name x jh)) pos.line X.env=pure false:=by rfl)(hf:X.fn x=true\/X.env.scope.names.lookup x=some .local:=by first | exact .inl rfl | exact .inr rfl | assumption):
  PS X (.Assign [.Name x jh] e pos) (Lg te (Ax i)):=by
 intro pins s Z H D I h;refine wpAny_Assign_Name (thn (he pins s Z H _ I h) λv s1 ⟨y,H1,I1,r1,q1⟩=>?_) hs;exact Xab I1 hN hi hx r1 (λs2 I2=>⟨_,H1,I2,q1⟩) hf
def tPar (i j:Nat) (ta:TA):TS:=λD Z H=>ta Z H λvs H1=>∃v w,vs=[v,w]/\D.nx ((Z.set i (some v)).set j (some w)) H1
def tAug (i:Nat) (te:TE) (ti:TIp):TS:=λD Z H=>∃x, Z[i]? = some (some x)/\te Z H λy H1=>ti x y H1 λz H2=>D.nx (Z.set i (some z)) H2
def tAugS (to ti te:TE) (uB:V->V->Hp->VK->Prop) (At:TIp) (uC:TSet):TS:=λD Z H=>to Z H λo H1=>ti Z H1 λi H2=>uB o i H2 λx H3=>te Z H3 λy H4=>At x y H4 λz H5=>uC o i z H5 λH6=>D.nx Z H6
def PGet (X:Cx) (t:V->V->Hp->VK->Prop):Prop:=
 ∀pins s Z H (o i:V) (ov iv:aa) (Q:VK),Inv X pins Z H s->Ah o ov->Ah i iv->t o i H Q ->
  ai (ag X.prog X.w) X.A (dP ov iv) (EP X pins Z Q) X.xe s
def ipI (f:Int->Int->Int):TIp:=λx y H Q=>∃i j,x = .int i/\y = .int j/\Q (.int (f i j)) H
end
section
variable {X:Cx}{pos:ce}
def Xqn (c:TT) (tb:TS):TS:=λD Z H=>∃W:Nat->St->Hp->Prop,(∃m,W m Z H)/\∀m Z H,W m Z H ->
 c Z H λb H1=>if b=true then ∃N:St->Hp->Prop,(∀Z' H',N Z' H'->∃m',m'<m/\W m' Z' H')/\tb {D with nx:=N,ct:=N,bk:=D.nx} Z H1 else D.nx Z H1
end
structure It where
 go:Nat->Hp->Prop
 yld:Nat->Hp->V->Hp->Prop
 stop:Nat->Hp->Prop
def FpOk (X:Cx) (pins:List (ae×aM)) (H:Hp) (b:ae):Prop:=
 H b=none/\b≠X.env.locals/\b∉X.fs/\(b∈X.ex\/X.s₀.heap.objs.size<=b)/\(∀x c,X.env.cells.lookup x=some c->c≠b)/\∀p∈X.pn++pins,p.1≠b
def Inv.fpOk      (I:Inv X pins Z H s) (hb:s.heap.objs.size<=b) (hn:H' b=none):FpOk X pins H' b:=by
 refine⟨hn,Sz (O3 I.lt hb),I.nofs hb,.inr (Pb I.sz hb),λx c e z=>?_,λp hp z=>?_⟩
 ·obtain⟨v,q⟩:=I.cell x c e;exact absurd (O3 q.lt (by rw[z];exact hb)) (Pt _)
 ·exact absurd (O3 (Ti (I.pin p hp).1) (by rw[z];exact hb)) (Pt _)
structure Turn (P:ao) (w:av) (K:KL) (tg:aC) (J:It) (fp:List ae) (it:ae) (tn:Nat->am->Prop):Prop where
 mem:it∈fp
 obj:∀i h,tn i h->∀b∈fp,∃o,h.get? b=some o/\∀v,o.data ≠ .cell v
 keep:∀i h h',tn i h->(∀b∈fp,∀o,h.get? b=some o->h'.get? b=some o)->tn i h'
 item:∀(X:Cx),X.prog=P->X.w=w->X.K=K->X.calm=true->∀(i:Nat) (pins:List (ae×aM)) (s:af) (Z:St) (H:Hp) (E:Zb),Inv X pins Z H s->(∀b∈fp,FpOk X pins H b)->tn i s.heap->J.go i H ->
  ai (ag P w) X.A (cK (.ref it)) (λr s1=>∃u,r=some u /\
   ai (ag P w) X.A (cq tg (.ref it) u) (λ_ s2=>∃x H',Inv X pins Z H' s2/\Ah x u/\J.yld i H x H'/\tn (i+1) s2.heap/\∀b∈fp,H' b=none) E s1) E s
 done:∀(X:Cx),X.prog=P->X.w=w->X.K=K->X.calm=true->∀(i:Nat) (pins:List (ae×aM)) (s:af) (Z:St) (H:Hp) (E:Zb),Inv X pins Z H s->(∀b∈fp,FpOk X pins H b)->tn i s.heap->J.stop i H ->
  ai (ag P w) X.A (cK (.ref it)) (λr s1=>r=none/\Inv X pins Z H s1) E s
 self:∀(A:aw) (i:Nat) (s:af) (Q:Zb) (E:Zb),tn i s.heap->Q (.ref it) s->ai (ag P w) A (fH (.ref it)) Q E s
abbrev TI:=St->Hp->(It->Hp->Prop)->Prop
def PIE (X:Cx) (pins:List (ae×aM)) (Z:St) (tg:aC) (R:It->Hp->Prop) (lF:aa) (s2:af):Prop:=
 ∃(it:ae) (fp:List ae) (tn:Nat->am->Prop) (J:It) (H':Hp),lF = .ref it/\Inv X pins Z H' s2/\Turn X.prog X.w X.K tg J fp it tn/\tn 0 s2.heap/\(∀b∈fp,FpOk X pins H' b)/\R J H'
def PI (X:Cx) (tg iter:aC) (wi:TI):Prop:=
 ∀pins s Z H (R:It->Hp->Prop),Inv X pins Z H s->wi Z H R ->
  ai (ag X.prog X.w) X.A (eval iter X.env) (λv s1=>ai (ag X.prog X.w) X.A (fH v) (PIE X pins Z tg R) X.xe s1) X.xe s
def Jn    {s}     {n}  (ho:s.heap.get? it=some o) (hc:o.cls = .type n) (hd:o.data = .fields vs)
    (hn:["enumerate", "zip", "dict_itemiterator", "dict_reverseitemiterator", "odict_iterator", "itertools.zip_longest", "itertools.pairwise"].contains n=false) (hQ:Q () s):ai M A (cq tg (.ref it) u) Q E s:=by
  unfold cq;cases tg<;>first
    | exact S8 hQ
    | (cases u<;>first
        | exact S8 hQ
        | (refine S7 (kj ho ?_)
           rw[hc,hd];show ai M A (if (["enumerate", "zip", "dict_itemiterator", "dict_reverseitemiterator", "odict_iterator", "itertools.zip_longest", "itertools.pairwise"].contains n&&vs[0]? == some (bc _))=true then _ else _) Q E s;rw[Tc (by intro h;rw[hn,Qe] at h;cases h)];exact S8 hQ))
def Itl (K:KL) (a:ae):It:=
 ⟨λi H=>∃xs x,SqL K H a xs/\xs[i]? = some x,λi H x H'=>H'=H/\∀xs,SqL K H a xs->xs[i]? = some x,λi H=>∃xs,SqL K H a xs/\xs.length<=i⟩
def Itt (K:KL) (a:ae):It:=
 ⟨λi H=>∃xs x,SqT K H a xs/\xs[i]? = some x,λi H x H'=>H'=H/\∀xs,SqT K H a xs->xs[i]? = some x,λi H=>∃xs,SqT K H a xs/\xs.length<=i⟩
def Itr (lo:Int) (n:Nat):It:=⟨λi _=>i<n,λi H x H'=>H'=H/\x = .int (lo+i),λi _=>n<=i⟩
def Xgn{P:ao}{w:av}{K:KL}{tg:aC}(a it:ae):Turn P w K tg (Itl K a) [it] it (λi h=>h.IsListIter it a i) where
 mem:=by simp
 obj:=λi h st b hb=>by
  have e:b=it:=by simpa using hb
  subst e;obtain⟨o,e,c,d⟩:=st;exact⟨o,e,λv z=>by rw[d] at z;cases z⟩
 keep:=λi h h' st k=>st.at λo e=>k it (by simp) o e
 item:=by
  intro X hP hw hK hc i pins s Z H E I hf st hg;subst hP hw hK;obtain⟨xs,x,hq,hx⟩:=hg;obtain⟨ax,rv,p,hz⟩:=I.list hq;obtain⟨u,hu,ru⟩:=rv.get hx;obtain⟨f0,f1,f2,f3,f4,f5⟩:=hf it (by simp);refine wpAny_pyNext_list_item st p.isList (x:=u) (by simpa using hu) λh' ay sb=>?_;have I1:Inv X pins Z H {s with heap:=h'}:=I.turned (t':=s.toks) (λb o hb e=>(sb.2 b hb).trans e) f0 f1 f3 f4 f5;obtain⟨o,e,c,d⟩:=id ay;exact⟨u,rfl,Jn (s:={s with heap:=h'}) e c d (by decide) ⟨x,H,I1,ru,⟨rfl,λys hy=>by rw[I.list_inj hy hq];exact hx⟩,ay,λb hb=>(hf b hb).1⟩⟩
 done:=by
  intro X hP hw hK hc i pins s Z H E I hf st hg;subst hP hw hK;obtain⟨xs,hq,hx⟩:=hg;obtain⟨ax,rv,p,hz⟩:=I.list hq;obtain⟨f0,f1,f2,f3,f4,f5⟩:=hf it (by simp);have hl:=rv.length;exact wpAny_pyNext_list_end (I.ok.hd hc) st p.isList (by simp;lia) λh' eb=>⟨rfl,I.turned (t':=s.toks) (λb o hb e=>eb b o hb e) f0 f1 f3 f4 f5⟩
 self:=λ_ _ _ _ _ st h=>wpAny_pyIter_listiter st h
def Xgo{P:ao}{w:av}{K:KL}{tg:aC}(a it:ae):Turn P w K tg (Itt K a) [it] it (λi h=>h.IsTupleIter it a i) where
 mem:=by simp
 obj:=λi h st b hb=>by
  have e:b=it:=by simpa using hb
  subst e;obtain⟨o,e,c,d⟩:=st;exact⟨o,e,λv z=>by rw[d] at z;cases z⟩
 keep:=λi h h' st k=>st.at λo e=>k it (by simp) o e
 item:=by
  intro X hP hw hK hc i pins s Z H E I hf st hg;subst hP hw hK;obtain⟨xs,x,hq,hx⟩:=hg;obtain⟨ax,rv,p,hz⟩:=I.tuple hq;obtain⟨u,hu,ru⟩:=rv.get hx;obtain⟨f0,f1,f2,f3,f4,f5⟩:=hf it (by simp);refine wpAny_pyNext_tuple_item st (show s.heap.IsTuple a ax.toArray from p) (x:=u) (by simpa using hu) λh' ay sb=>?_;have I1:Inv X pins Z H {s with heap:=h'}:=I.turned (t':=s.toks) (λb o hb e=>(sb.2 b hb).trans e) f0 f1 f3 f4 f5;obtain⟨o,e,c,d⟩:=id ay;exact⟨u,rfl,Jn (s:={s with heap:=h'}) e c d (by decide) ⟨x,H,I1,ru,⟨rfl,λys hy=>by rw[I.tuple_inj hy hq];exact hx⟩,ay,λb hb=>(hf b hb).1⟩⟩
 done:=by
  intro X hP hw hK hc i pins s Z H E I hf st hg;subst hP hw hK;obtain⟨xs,hq,hx⟩:=hg;obtain⟨ax,rv,p,hz⟩:=I.tuple hq;obtain⟨f0,f1,f2,f3,f4,f5⟩:=hf it (by simp);have hl:=rv.length;exact wpAny_pyNext_tuple_end (I.ok.hd hc) st (show s.heap.IsTuple a ax.toArray from p) (by simp;lia) λh' eb=>⟨rfl,I.turned (t':=s.toks) (λb o hb e=>eb b o hb e) f0 f1 f3 f4 f5⟩
 self:=λ_ _ _ _ _ st h=>wpAny_pyIter_tupleiter st h
def Xgp{P:ao}{w:av}{K:KL}{tg:aC}(it:ae)(lo:Int)(n:Nat):Turn P w K tg (Itr lo n) [it] it (λi h=>xP h it (lo+(i:Nat) * 1) ((n:Int) - (i:Nat)) 1) where
 mem:=by simp
 obj:=λi h st b hb=>by
  have e:b=it:=by simpa using hb
  subst e;exact⟨_,st,λv z=>by
   have z':uD.fields _=uD.cell v:=z;cases z'⟩
 keep:=λi h h' st k=>k it (by simp) _ st
 item:=by
  intro X hP hw hK hc i pins s Z H E I hf st hg;subst hP hw hK;obtain⟨f0,f1,f2,f3,f4,f5⟩:=hf it (by simp);have W:=lG.range (prog:=X.prog) (w:=X.w) (I.ok.hd hc) it lo 1 n;refine W.item i s _ _ hg st λv h' tk hv ay kk=>?_;obtain⟨t,rfl⟩:=hv;have I1:Inv X pins Z H {s with heap:=h',toks:=tk}:=I.turned (λb o hb e=>kk b o (by simpa using hb) e) f0 f1 f3 f4 f5;refine⟨_,rfl,Jn (s:={s with heap:=h',toks:=tk}) (n := "range_iterator") ay rfl rfl (by decide) ⟨.int (lo+i),H,I1,⟨t,?_⟩,⟨rfl,rfl⟩,ay,λb hb=>(hf b hb).1⟩⟩;rw[Int.mul_one]
 done:=by
  intro X hP hw hK hc i pins s Z H E I hf st hg;subst hP hw hK;obtain⟨f0,f1,f2,f3,f4,f5⟩:=hf it (by simp);exact wpAny_pyNext_range_end (I.ok.hd hc) st (by have:n<=i:=hg;lia) λh' eb=>⟨rfl,I.turned (t':=s.toks) (λb o hb e=>eb b o hb e) f0 f1 f3 f4 f5⟩
 self:=λ_ _ _ _ _ st h=>wpAny_pyIter_rangeiter st h
section
variable {X:Cx}{tg:aC}
def Xaf (K:KL) (tl:TE):TI:=fun Z H R=>tl Z H λx H1=>∃a,x = .ref a/\(∃xs,SqL K H1 a xs)/\R (Itl K a) H1
def iTup (K:KL) (tl:TE):TI:=fun Z H R=>tl Z H λx H1=>∃a,x = .ref a/\(∃xs,SqT K H1 a xs)/\R (Itt K a) H1
def pi_list  (hl:PE X l tl):PI X tg l (Xaf X.K tl):=by
 intro pins s Z H R I h;refine thn (hl pins s Z H _ I h) λv s1 ⟨x,H1,I1,r1,q1⟩=>?_;obtain⟨a,e,⟨xs,hq⟩,q⟩:=q1;subst e;cases r1;obtain⟨ax,rv,p,hz⟩:=I1.list hq;refine cD p.isList ?_;refine⟨s1.heap.objs.size,[s1.heap.objs.size],_,_,H1,rfl,I1.kept (t':=s1.toks) λb o e=>Tj _ e,Xgn a _,⟨_,am.get?_push_size _ rfl,rfl,rfl⟩,λb hb=>?_,q⟩;have e:b=s1.heap.objs.size:=by simpa using hb
 subst e;exact I1.fpOk (Og _) (I1.hok.fresh (Og _))
def Xgq  (hl:PE X l tl):PI X tg l (iTup X.K tl):=by
 intro pins s Z H R I h;refine thn (hl pins s Z H _ I h) λv s1 ⟨x,H1,I1,r1,q1⟩=>?_;obtain⟨a,e,⟨xs,hq⟩,q⟩:=q1;subst e;cases r1;obtain⟨ax,rv,p,hz⟩:=I1.tuple hq;refine km (show s1.heap.IsTuple a ax.toArray from p) ?_;refine⟨s1.heap.objs.size,[s1.heap.objs.size],_,_,H1,rfl,I1.kept (t':=s1.toks) λb o e=>Tj _ e,Xgo a _,⟨_,am.get?_push_size _ rfl,rfl,rfl⟩,λb hb=>?_,q⟩;have e:b=s1.heap.objs.size:=by simpa using hb
 subst e;exact I1.fpOk (Og _) (I1.hok.fresh (Og _))
def Xag       {lo hi}  (I:Inv X pins Z H s) (h1 : -(2 ^ 62)<=lo) (h2:lo<2 ^ 62) (h3 : -(2 ^ 62)<=hi) (h4:hi<2 ^ 62)
  (q:R (Itr lo (hi - lo).toNat) H):ai (ag X.prog X.w) X.A (fH (.ref s.heap.objs.size)) (PIE X pins Z tg R) E {s with heap:=s.heap.push {cls:=.type "range",data:=.fields #[.int lo t,.int hi u,.int 1 v]},toks:=tk}:=by
 refine wpAny_pyIter_range (IsRange.new ..) (small_one h1 h2 h3 h4) ?_;have I1:Inv X pins Z H {s with heap:=s.heap.push {cls:=.type "range",data:=.fields #[.int lo t,.int hi u,.int 1 v]},toks:=tk}:=I.kept λb o e=>Tj _ e;refine⟨(s.heap.push {cls:=.type "range",data:=.fields #[.int lo t,.int hi u,.int 1 v]}).objs.size,[(s.heap.push {cls:=.type "range",data:=.fields #[.int lo t,.int hi u,.int 1 v]}).objs.size],_,_,H,rfl,
  I1.kept (t':=tk) λb o e=>Tj _ e,Xgp _ lo (hi - lo).toNat,?_,λb hb=>?_,q⟩
 ·have e1:lo+((0:Nat):Int) * 1=lo:=by simp
  have e2:(((hi - lo).toNat:Nat):Int) - ((0:Nat):Int)=au.Range.rangeSize lo hi 1:=by rw[rangeSize_one];split<;>lia
  show xP _ _ (lo+((0:Nat):Int) * 1) ((((hi - lo).toNat:Nat):Int) - ((0:Nat):Int)) 1;rw[e1,e2];exact am.get?_push_size _ rfl
 ·have e:b=(s.heap.push {cls:=.type "range",data:=.fields #[.int lo t,.int hi u,.int 1 v]}).objs.size:=by simpa using hb
  subst e;exact I1.fpOk (Og _) (I1.hok.fresh (Og _))
def Xgr (ta:TA):TI:=fun Z H R=>ta Z H λvs H1=>∃j:Int,vs=[.int j] /\ -(2 ^ 62)<=j/\j<2 ^ 62/\R (Itr 0 j.toNat) H1
def Xgs (ta:TA):TI:=fun Z H R=>ta Z H λvs H1=>∃i j:Int,vs=[.int i,.int j]/\(-(2 ^ 62)<=i/\i<2 ^ 62 /\ -(2 ^ 62)<=j/\j<2 ^ 62)/\R (Itr i (j - i).toNat) H1
def Fj   (hg:Gl X "range") (hm:X.mg "range" = none) (ha:PA X [a] ta) (hs:aq [a] X.env=[(false,eval a X.env)]:=by rfl):PI X tg (.Call (.Name "range" p) [a] [] pos) (Xgr ta):=by
 intro pins s Z H R I h;refine Call_ (Fg I hg hm AA (PyProof.Rows.callWith_type1 (thn (ha pos pins s Z H _ I h) λus s1 ⟨vs,H1,I1,r1,q1⟩=>?_) hs rfl));obtain⟨j,e,q1,q2,q⟩:=q1;subst e;cases r1 with
 | cons r rr=>
  cases rr;obtain⟨t,rfl⟩:=r;exact call_range_1 (Xag I1 (by lia) (by lia) q1 q2 (by simpa using q))
def Xah   (hg:Gl X "range") (hm:X.mg "range" = none) (ha:PA X [a,b] ta) (hs:aq [a,b] X.env=[(false,eval a X.env),(false,eval b X.env)]:=by rfl) (oG:aq [b] X.env=[(false,eval b X.env)]:=by rfl):
  PI X tg (.Call (.Name "range" p) [a,b] [] pos) (Xgs ta):=by
 intro pins s Z H R I h;refine Call_ (Fg I hg hm AA (PyProof.Rows.callWith_type1 (thn (ha pos pins s Z H _ I h) λus s1 ⟨vs,H1,I1,r1,q1⟩=>?_) (by rw[hs,oG]) (by rw[oG];rfl)));obtain⟨i,j,e,⟨q1,q2,q3,q4⟩,q⟩:=q1;subst e;cases r1 with
 | cons r rr=>
  cases rr with
  | cons r' rr=>
   cases rr;obtain⟨t,rfl⟩:=r;obtain⟨t',rfl⟩:=r';exact call_range_2 (Xag I1 q1 q2 q3 q4 q)
def tFor (wi:TI) (g:TG) (tb:TS):TS:=λD Z H=>wi Z H λJ H1=>∃W:Nat->Nat->St->Hp->Prop,(∃m,W 0 m Z H1)/\∀i m Z H,W i m Z H ->
 (J.stop i H/\D.nx Z H)\/(J.go i H/\∃N:St->Hp->Prop,(∀Z' H',N Z' H'->∃m',m'<m/\W (i+1) m' Z' H')/\∀x H',J.yld i H x H'->g x Z H' fun Z2 H2=>tb {D with nx:=N,ct:=N,bk:=D.nx} Z2 H2)
def G8 (fp:List ae) (h:am):List (ae×aM):=fp.filterMap λb=>(h.get? b).map λo=>(b,o)
def Jo    (hb:b∈fp) (e:h.get? b=some o):(b,o)∈G8 fp h:=Sm.mpr ⟨b,hb,by rw[e];rfl⟩
def Xgt   (hp:p∈G8 fp h):p.1∈fp/\h.get? p.1=some p.2:=by
 obtain⟨b,hb,e⟩:=Sm.mp hp;cases q:h.get? b with
 | none=>rw[q] at e;cases e
 | some o=>
  rw[q] at e;have e':(b,o)=p:=Ov e;subst e';exact⟨hb,q⟩
def Inv.pinned     (I:Inv X pins Z H s) (hf:∀b∈fp,FpOk X pins H b) (ho:∀b∈fp,∃o,s.heap.get? b=some o/\∀v,o.data ≠ .cell v):Inv X (pins++G8 fp s.heap) Z H s:=
 I.pins_of λp hp=>(Om.mp hp).elim (λz=>I.pin p (Pc _ z)) λz=>by
  obtain⟨hb,e⟩:=Xgt z;obtain⟨f0,f1,f2,_⟩:=hf p.1 hb;obtain⟨o,e',d⟩:=ho p.1 hb;rw[e] at e';cases e';exact⟨e,f0,f1,f2,d⟩
def Inv.unpinned    (I:Inv X (pins++pl) Z H s):Inv X pins Z H s:=I.pins_of λp hp=>I.pin p (Pc _ (Pw _ hp))
def Cg      (hp:aN (ag X.prog X.w) X.A X.env X.xe) (hc:X.calm=true) (hi:PI X tg iter wi) (hg:PG X tg g) (hb:PSs X body tb)
  (hs:∀x,az iter X.env x=pure x:=by intro _;rfl):PS X (.For tg iter body [] pos) (tFor wi g tb):=by
 intro pins s Z H D I h;refine wpAny_For (thn (hi pins s Z H _ I h) λv s1 h1=>thn h1 λlF s2 h2=>?_) hs;obtain⟨it,fp,tn,J,H2,e,I2,T,dz,f2,W,⟨m0,w0⟩,turn⟩:=h2;subst e;have gN:∀{H':Hp},(∀b∈fp,H' b=none)->∀b∈fp,FpOk X pins H' b:=λhn b hb=>⟨hn b hb,(f2 b hb).2⟩;refine codeAny_forLoop_any (λn s'=>∃i Z' H',Inv X pins Z' H' s'/\tn i s'.heap/\(∀b∈fp,H' b=none)/\W i n Z' H') ?_ m0 ⟨0, Z,H2,I2,dz,λb hb=>(f2 b hb).1,w0⟩;rintro n s3 ⟨i, Z3,H3,I3,oH,xQ,w3⟩;rcases turn i n Z3 H3 w3 with ⟨stop,qn⟩ | ⟨go,N,hN,step⟩
 ·refine cr hp (thn (T.done X rfl rfl rfl hc i pins s3 Z3 H3 X.xe I3 (gN xQ) oH stop) λr s4 ⟨hr,I4⟩=>?_);subst hr;exact cO ⟨Z3,H3,I4,qn⟩
 ·refine cr hp (thn (T.item X rfl rfl rfl hc i pins s3 Z3 H3 X.xe I3 (gN xQ) oH go) λr s4 ⟨u,hr,h4⟩=>?_);subst hr;refine cr hp (thn h4 λ_ s5 ⟨x,H5,I5,r5,y5,m6,uE⟩=>?_);have uF:=I5.pinned (gN uE) (T.obj _ _ m6);refine cr hp (thn (hg _ s5 Z3 H5 x u _ uF r5 (step x H5 y5)) λ_ s6 ⟨Z6,H6,I6,q6⟩=>?_);refine cr hp (thn (hb _ s6 Z6 H6 _ I6 q6) λf s7 q7=>?_);have again:∀{Z7:St} {H7:Hp},Inv X (pins++G8 fp s5.heap) Z7 H7 s7->N Z7 H7->∃m,m<n/\∃i Z' H',Inv X pins Z' H' s7/\tn i s7.heap/\(∀b∈fp,H' b=none)/\W i m Z' H':=λ{Z7 H7} I7 n7=>by
   obtain⟨m',hm,w7⟩:=hN Z7 H7 n7;refine⟨m',hm,i+1, Z7,H7,I7.unpinned,T.keep _ _ _ m6 λb hb o e=>(I7.pin (b,o) (Pc _ (Pc _ (Jo hb e)))).1,λb hb=>?_,w7⟩;obtain⟨o,e,d⟩:=T.obj _ _ m6 b hb;exact(I7.pin (b,o) (Pc _ (Pc _ (Jo hb e)))).2.1
  cases f with
  | next=>obtain⟨Z7,H7,I7,n7⟩:=q7;exact again I7 n7
  | cont=>obtain⟨Z7,H7,I7,n7⟩:=q7;exact again I7 n7
  | brk=>obtain⟨Z7,H7,I7,q7⟩:=q7;exact⟨Z7,H7,I7.unpinned,q7⟩
  | ret v=>obtain⟨x7, Z7,H7,I7,r7,q7⟩:=q7;exact⟨x7, Z7,H7,I7.unpinned,r7,q7⟩
end
def Ef{K}{a}{xs}{g:TG}{tb:TS}{D:Ends}  (Pv:Nat->St->Hp->Prop)(h0:Pv 0 Z H)(hl:∀i Z H,i<=xs.length->Pv i Z H->SqL K H a xs)
  (hs:∀i x Z H,xs[i]? = some x->Pv i Z H->g x Z H fun Z2 H2=>tb {D with nx:=Pv (i+1),ct:=Pv (i+1),bk:=D.nx} Z2 H2) (hd:∀Z H,Pv xs.length Z H->D.nx Z H):
  ∃W:Nat->Nat->St->Hp->Prop,(∃m,W 0 m Z H)/\∀i m Z H,W i m Z H ->
   ((Itl K a).stop i H/\D.nx Z H)\/((Itl K a).go i H/\∃N:St->Hp->Prop,(∀Z' H',N Z' H'->∃m',m'<m/\W (i+1) m' Z' H')/\∀x H',(Itl K a).yld i H x H'->g x Z H' fun Z2 H2=>tb {D with nx:=N,ct:=N,bk:=D.nx} Z2 H2):=by
 refine⟨λi m Z H=>m=xs.length - i/\i<=xs.length/\Pv i Z H,⟨xs.length,by simp,Pg _,h0⟩,?_⟩;rintro i m Z H ⟨rfl,hi,p⟩;have q:=hl i Z H hi p;by_cases aZ:i<xs.length
 ·refine .inr ⟨⟨xs,xs[i],q,by simp[aZ]⟩,Pv (i+1),fun Z' H' p'=>⟨xs.length - (i+1),by lia,rfl,aZ,p'⟩,λx H' y=>?_⟩;obtain⟨e,y⟩:=y;subst e;exact hs i x Z _ (y xs q) p
 ·have e:i=xs.length:=by lia
  subst e;exact .inl ⟨⟨xs,q,Og _⟩,hd Z H p⟩
def Fl{lo}{n}{g:TG}{tb:TS}{D:Ends}  (Pv:Nat->St->Hp->Prop)(h0:Pv 0 Z H)
  (hs:∀i Z H,i<n->Pv i Z H->g (.int (lo+i)) Z H fun Z2 H2=>tb {D with nx:=Pv (i+1),ct:=Pv (i+1),bk:=D.nx} Z2 H2) (hd:∀Z H,Pv n Z H->D.nx Z H):
  ∃W:Nat->Nat->St->Hp->Prop,(∃m,W 0 m Z H)/\∀i m Z H,W i m Z H ->
   ((Itr lo n).stop i H/\D.nx Z H)\/((Itr lo n).go i H/\∃N:St->Hp->Prop,(∀Z' H',N Z' H'->∃m',m'<m/\W (i+1) m' Z' H')/\∀x H',(Itr lo n).yld i H x H'->g x Z H' fun Z2 H2=>tb {D with nx:=N,ct:=N,bk:=D.nx} Z2 H2):=by
 refine⟨λi m Z H=>m=n - i/\i<=n/\Pv i Z H,⟨n,by simp,Pg _,h0⟩,?_⟩;rintro i m Z H ⟨rfl,hi,p⟩;by_cases aZ:i<n
 ·refine .inr ⟨aZ,Pv (i+1),fun Z' H' p'=>⟨n - (i+1),by lia,rfl,aZ,p'⟩,λx H' y=>?_⟩;obtain⟨e,y⟩:=y;subst e y;exact hs i Z _ aZ p
 ·have e:i=n:=by lia
  subst e;exact .inl ⟨Og _,hd Z H p⟩
abbrev R2:=V->V->Hp->VK->Prop
def OpR (X:Cx) (f:aa->aa->i9 aa) (r:R2):Prop:=
 ∀pins s Z H (x y:V) (v u:aa) (Q:VK),Inv X pins Z H s->Ah x v->Ah y u->r x y H Q ->
  ai (ag X.prog X.w) X.A (f v u) (EP X pins Z Q) X.xe s
def UnR (X:Cx) (f:aa->i9 aa) (r:V->Hp->VK->Prop):Prop:=
 ∀pins s Z H (x:V) (v:aa) (Q:VK),Inv X pins Z H s->Ah x v->r x H Q ->
  ai (ag X.prog X.w) X.A (f v) (EP X pins Z Q) X.xe s
def B1 (X:Cx) (f:aa) (r:List V->Hp->VK->Prop):Prop:=
 ∀pins s Z H (xs:List V) (us:List aa) (Q:VK),Inv X pins Z H s->Vals xs us->r xs H Q ->
  ai (ag X.prog X.w) X.A (call f us) (EP X pins Z Q) X.xe s
def TruR (X:Cx) (r:V->Hp->(Bool->Hp->Prop)->Prop):Prop:=
 ∀pins s Z H (x:V) (v:aa) (Q:Bool->Hp->Prop),Inv X pins Z H s->Ah x v->r x H Q ->
  ai (ag X.prog X.w) X.A (truthy v) (TP X pins Z Q) X.xe s
def tOp (r:R2) (ta tb:TE):TE:=fun Z H Q=>ta Z H λx H1=>tb Z H1 λy H2=>r x y H2 Q
def tUn (r:V->Hp->VK->Prop) (ta:TE):TE:=fun Z H Q=>ta Z H λx H1=>r x H1 Q
def rI (C:Int->Int->Prop) (g:Int->Int->V):R2:=λx y H Q=>∃i j,x = .int i/\y = .int j/\C i j/\Q (g i j) H
def rI0 (g:Int->Int->V):R2:=λx y H Q=>∃i j,x = .int i/\y = .int j/\Q (g i j) H
def rU (g:Int->V):V->Hp->VK->Prop:=λx H Q=>∃i,x = .int i/\Q (g i) H
section
variable {X:Cx}{a b c:aC}{ta tb tc:TE}{pos:ce}
def binT(ha:PE X a ta)(hb:PE X b tb)     {R:V->V->Hp->Prop}(I:Inv X pins Z H s)
  (h:ta Z H λx H1=>tb Z H1 λy H2=>R x y H2) {f:aa->aa->i9 aa}
  (hf:∀v u s2 x y H2,Inv X pins Z H2 s2->Ah x v->Ah y u->R x y H2->ai (ag X.prog X.w) X.A (f v u) Q X.xe s2):
  ai (ag X.prog X.w) X.A (eval a X.env) (λv s₁=>ai (ag X.prog X.w) X.A (eval b X.env) (λu s₂=>ai (ag X.prog X.w) X.A (f v u) Q X.xe s₂) X.xe s₁) X.xe s:=by
 refine thn (ha pins s Z H _ I h) λv s1 ⟨x,H1,I1,r1,q1⟩=>?_;refine thn (hb pins s1 Z H1 _ I1 q1) λu s2 ⟨y,H2,I2,r2,q2⟩=>?_;exact hf v u s2 x y H2 I2 r1 r2 q2
def Ak  (ho:OpR X (bu op) r) (ha:PE X a ta) (hb:PE X b tb):PE X (.BinOp a op b pos) (tOp r ta tb):=by
 intro pins s Z H Q I h;exact wpAny_BinOp (binT ha hb I h λv u s2 x y H2 I2 rx ry q=>ho pins s2 Z H2 x y v u Q I2 rx ry q)
def Xgu  (ho:UnR X (unaryOp op) r) (ha:PE X a ta):PE X (.UnaryOp op a pos) (tUn r ta):=by
 intro pins s Z H Q I h;exact UnaryOp_ (thn (ha pins s Z H _ I h) λv s1 ⟨x,H1,I1,r1,q1⟩=>ho pins s1 Z H1 x v Q I1 r1 q1)
def opI  {g:Int->Int->Int}
  (rule:∀(i j:Int) (t u:AB) (s:af) (Q:Zb) (E:Zb),C i j->Q (.int (g i j) s.toks) {s with toks:=s.toks+1}->ai (ag X.prog X.w) X.A (f (.int i t) (.int j u)) Q E s):
  OpR X f (rI C λi j=>.int (g i j)):=by
 intro pins s Z H x y v u Q I rx ry h;obtain⟨i,j,rfl,rfl,hc,q⟩:=h;obtain⟨t,rfl⟩:=rx;obtain⟨t',rfl⟩:=ry;exact rule i j t t' s _ _ hc ⟨.int (g i j),H,I.tok _,⟨_,rfl⟩,q⟩
def Xai{g:Int->Int->Int}
  (rule:∀(i j:Int) (t u:AB) (s:af) (Q:Zb) (E:Zb),Q (.int (g i j) s.toks) {s with toks:=s.toks+1}->ai (ag X.prog X.w) X.A (f (.int i t) (.int j u)) Q E s):
  OpR X f (rI0 λi j=>.int (g i j)):=by
 intro pins s Z H x y v u Q I rx ry h;obtain⟨i,j,rfl,rfl,q⟩:=h;obtain⟨t,rfl⟩:=rx;obtain⟨t',rfl⟩:=ry;exact rule i j t t' s _ _ ⟨.int (g i j),H,I.tok _,⟨_,rfl⟩,q⟩
def Lh{g:Int->Int->Bool}
  (rule:∀(i j:Int) (t u:AB) (s:af) (Q:Zb) (E:Zb),Q (.bool (g i j)) s->ai (ag X.prog X.w) X.A (f (.int i t) (.int j u)) Q E s):
  OpR X f (rI0 λi j=>.bl (g i j)):=by
 intro pins s Z H x y v u Q I rx ry h;obtain⟨i,j,rfl,rfl,q⟩:=h;obtain⟨t,rfl⟩:=rx;obtain⟨t',rfl⟩:=ry;exact rule i j t t' s _ _ ⟨.bl (g i j),H,I,rfl,q⟩
def CDiv (i j:Int):Prop:=0<j/\j<1073741824
def CPow (i j:Int):Prop:=0<=j/\j<=1000000/\i.natAbs<2 ^ 64
def CMul (i j:Int):Prop:=(-(2 ^ 64)<i/\i<2 ^ 64)\/(-(2 ^ 64)<j/\j<2 ^ 64)
def CMul.ok{i j}(h:CMul i j):IntMulOk i j:=by
 rcases h with ⟨h1,h2⟩ | ⟨h1,h2⟩
 ·exact .of_left (sW h1 h2)
 ·exact .of_right (sW h1 h2)
def Bw:OpR X (bu .Add) (rI0 λi j=>.int (i+j)):=Xai λ_ _ _ _ _ _ _ q=>add_int q
def Xgv:OpR X (bu .Sub) (rI0 λi j=>.int (i - j)):=Xai λ_ _ _ _ _ _ _ q=>sub_int q
def Xaj:OpR X (bu .Mult) (rI CMul λi j=>.int (i * j)):=opI λ_ _ _ _ _ _ _ hc q=>mul_int q hc.ok
def Xak:OpR X (bu .FloorDiv) (rI CDiv λi j=>.int (i / j)):=opI λi j _ _ _ _ _ hc q=>by
 have h1:(0:Int)<j:=hc.1;have h2:j<1073741824:=hc.2;exact floordiv_int (by lia) (by rw[Int.fdiv_eq_ediv_of_nonneg i (by lia)];exact q) (.inl (PyProof.noPylong_small (by lia)))
def F8:OpR X (bu .Mod) (rI (λ_ j=>0<j) λi j=>.int (i % j)):=opI λi j _ _ _ _ _ hc q=>by
 have h1:(0:Int)<j:=hc;exact mod_int' (by lia) (by rw[Int.fmod_eq_emod_of_nonneg i (by lia)];exact q)
def Xal:OpR X (bu .Pow) (rI CPow λi j=>.int (i ^ j.toNat)):=opI λ_ _ _ _ _ _ _ hc q=>pow_int_small hc.1 hc.2.1 hc.2.2 q
def unI{g:Int->Int}
  (rule:∀(i:Int) (t:AB) (s:af) (Q:Zb) (E:Zb),Q (.int (g i) s.toks) {s with toks:=s.toks+1}->ai (ag X.prog X.w) X.A (f (.int i t)) Q E s):
  UnR X f (rU λi=>.int (g i)):=by
 intro pins s Z H x v Q I rx h;obtain⟨i,rfl,q⟩:=h;obtain⟨t,rfl⟩:=rx;exact rule i t s _ _ ⟨.int (g i),H,I.tok _,⟨_,rfl⟩,q⟩
def Xgw:UnR X (unaryOp .USub) (rU λi=>.int (-i)):=unI λ_ _ _ _ _ q=>neg_int q
end
def scal:V->V->Bool
 | .non,.non=>true | .non,.int _=>true | .int _,.non=>true | .non,.bl _=>true | .bl _,.non=>true | .non,.str _=>true | .str _,.non=>true
 | .int _,.int _=>true | .bl _,.bl _=>true | .str _,.str _=>true | .byt _,.byt _=>true
 | .int _,.str _=>true | .str _,.int _=>true | .bl _,.str _=>true | .str _,.bl _=>true
 | _,_=>false
def rEq:R2:=λx y H Q=>scal x y=true/\Q (.bl (decide (x=y))) H
def rNe:R2:=λx y H Q=>scal x y=true/\Q (.bl (!decide (x=y))) H
def Xam:decide (V.int i=V.int j)=(i==j):=by
 rw[Qf];simp
def Li:decide (V.bl i=V.bl j)=(i==j):=by
 rw[Qf];simp
def Xan:decide (V.str i=V.str j)=(i==j):=by
 rw[Qf];simp
def Xao:decide (V.byt i=V.byt j)=(i.toList==j.toList):=by
 rw[Qf];cases i;cases j;simp
section
variable {X:Cx}{a b c:aC}{ta tb tc:TE}{pos:ce}
def Bd      (I:Inv X pins Z H s) (q:Q (.bl k) H) (e:k=k'):EP X pins Z Q (.bool k') s:=by
 subst e;exact⟨.bl k,H,I,rfl,q⟩
def Bh:OpR X (aF .Eq) rEq:=by
 intro pins s Z H x y v u Q I rx ry h;obtain⟨hs,q⟩:=h;cases x with
 | non=>
  cases rx;cases y with
  | non=>cases ry;exact PySem.EqNone.eq_none_none (Bd I q (by simp))
  | bl j=>cases ry;exact PySem.EqNone.eq_none_bool (Bd I q (by simp))
  | int j=>obtain⟨t',rfl⟩:=ry;exact PySem.EqNone.eq_none_int (Bd I q (by simp))
  | str j=>obtain⟨t',rfl⟩:=ry;exact PySem.EqNone.eq_none_str (Bd I q (by simp))
  | _=>exact absurd (show false=true from hs) Oz
 | bl i=>
  cases rx;cases y with
  | non=>cases ry;exact PySem.EqNone.eq_bool_none (Bd I q (by simp))
  | bl j=>cases ry;exact eq_bool (Bd I q Li)
  | str j=>obtain⟨t',rfl⟩:=ry;exact PySem.EqMixed.eq_bool_str (Bd I q (by simp))
  | _=>exact absurd (show false=true from hs) Oz
 | int i=>
  obtain⟨t,rfl⟩:=rx;cases y with
  | non=>cases ry;exact PySem.EqNone.eq_int_none (Bd I q (by simp))
  | int j=>obtain⟨t',rfl⟩:=ry;exact eq_int (Bd I q Xam)
  | str j=>obtain⟨t',rfl⟩:=ry;exact PySem.EqMixed.eq_int_str (Bd I q (by simp))
  | _=>exact absurd (show false=true from hs) Oz
 | str i=>
  obtain⟨t,rfl⟩:=rx;cases y with
  | non=>cases ry;exact PySem.EqNone.eq_str_none (Bd I q (by simp))
  | bl j=>cases ry;exact PySem.EqMixed.eq_str_bool (Bd I q (by simp))
  | int j=>obtain⟨t',rfl⟩:=ry;exact PySem.EqMixed.eq_str_int (Bd I q (by simp))
  | str j=>obtain⟨t',rfl⟩:=ry;exact eq_str (Bd I q Xan)
  | _=>exact absurd (show false=true from hs) Oz
 | byt i=>
  obtain⟨t,rfl⟩:=rx;cases y with
  | byt j=>obtain⟨t',rfl⟩:=ry;exact PySem.W.eq_bytes (Bd I q Xao)
  | _=>exact absurd (show false=true from hs) Oz
 | _=>cases y<;>exact absurd (show false=true from hs) Oz
def Jp:OpR X (aF .NotEq) rNe:=by
 intro pins s Z H x y v u Q I rx ry h;obtain⟨hs,q⟩:=h;cases x with
 | non=>
  cases rx;cases y with
  | non=>cases ry;exact PySem.EqNone.ne_none_none (Bd I q (by simp))
  | bl j=>cases ry;exact PySem.EqNone.ne_none_bool (Bd I q (by simp))
  | int j=>obtain⟨t',rfl⟩:=ry;exact PySem.EqNone.ne_none_int (Bd I q (by simp))
  | str j=>obtain⟨t',rfl⟩:=ry;exact PySem.EqNone.ne_none_str (Bd I q (by simp))
  | _=>exact absurd (show false=true from hs) Oz
 | bl i=>
  cases rx;cases y with
  | non=>cases ry;exact PySem.EqNone.ne_bool_none (Bd I q (by simp))
  | bl j=>cases ry;exact ne_bool (Bd I q (congrArg not Li))
  | str j=>obtain⟨t',rfl⟩:=ry;exact PySem.EqMixed.ne_bool_str (Bd I q (by simp))
  | _=>exact absurd (show false=true from hs) Oz
 | int i=>
  obtain⟨t,rfl⟩:=rx;cases y with
  | non=>cases ry;exact PySem.EqNone.ne_int_none (Bd I q (by simp))
  | int j=>obtain⟨t',rfl⟩:=ry;exact ne_int (Bd I q (congrArg not Xam))
  | str j=>obtain⟨t',rfl⟩:=ry;exact PySem.EqMixed.ne_int_str (Bd I q (by simp))
  | _=>exact absurd (show false=true from hs) Oz
 | str i=>
  obtain⟨t,rfl⟩:=rx;cases y with
  | non=>cases ry;exact PySem.EqNone.ne_str_none (Bd I q (by simp))
  | bl j=>cases ry;exact PySem.EqMixed.ne_str_bool (Bd I q (by simp))
  | int j=>obtain⟨t',rfl⟩:=ry;exact PySem.EqMixed.ne_str_int (Bd I q (by simp))
  | str j=>obtain⟨t',rfl⟩:=ry;exact ne_str (Bd I q (congrArg not Xan))
  | _=>exact absurd (show false=true from hs) Oz
 | byt i=>
  obtain⟨t,rfl⟩:=rx;cases y with
  | byt j=>obtain⟨t',rfl⟩:=ry;exact PySem.W.ne_bytes (Bd I q (congrArg not Xao))
  | _=>exact absurd (show false=true from hs) Oz
 | _=>cases y<;>exact absurd (show false=true from hs) Oz
def Dc:OpR X (aF .Lt) (rI0 λi j=>.bl (decide (i<j))):=Lh λ_ _ _ _ _ _ _ q=>lt_int q
def Xgx:OpR X (aF .Gt) (rI0 λi j=>.bl (decide (j<i))):=Lh λ_ _ _ _ _ _ _ q=>gt_int q
def Xap:OpR X (aF .GtE) (rI0 λi j=>.bl (decide (j<=i))):=Lh λ_ _ _ _ _ _ _ q=>ge_int q
def Xaq:OpR X (aF .Lt) (λx y H Q=>∃i j,x = .str i/\y = .str j/\Q (.bl (decide (i.cps.toList<j.cps.toList))) H):=by
 intro pins s Z H x y v u Q I rx ry h;obtain⟨i,j,rfl,rfl,q⟩:=h;obtain⟨t,rfl⟩:=rx;obtain⟨t',rfl⟩:=ry;exact lt_str (Bd I q rfl)
def isObj:HO->Bool
 | .lst _=>true
 | .ins _ _ _=>true
 | _=>false
def Au(b:aC)(h:op ≠ .In:=by decide)(h2:op ≠ .NotIn:=by decide):dC op b=false:=by
 have e1:(op==CmpOp.In)=false:=by cases op<;>first | rfl | exact absurd rfl h
 have e2:(op==CmpOp.NotIn)=false:=by cases op<;>first | rfl | exact absurd rfl h2
 cases b<;>simp[dC,e1,e2]
def Cz  (ho:OpR X (aF op) r) (ha:PE X a ta) (hb:PE X b tb) (hm:dC op b=false):PE X (.Compare a [op] [b] pos) (tOp r ta tb):=by
 intro pins s Z H Q I h;exact wpAny_Compare1 (binT ha hb I h λv u s2 x y H2 I2 rx ry q=>ho pins s2 Z H2 x y v u Q I2 rx ry q) hm
def Lj (t:TE):TT:=fun Z H Q=>t Z H λx H'=>∃k,x = .bl k/\Q k H'
def Av  (ho:OpR X (aF op) r) (ha:PE X a ta) (hb:PE X b tb) (hm:dC op b=false):PT X (.Compare a [op] [b] pos) (Lj (tOp r ta tb)):=by
 intro pins s Z H Q I h;refine wpAny_isTrue_Compare1 (thn (ha pins s Z H _ I h) λv s1 ⟨x,H1,I1,r1,q1⟩=>thn (hb pins s1 Z H1 _ I1 q1) λu s2 ⟨y,H2,I2,r2,q2⟩=>
  thn (ho pins s2 Z H2 x y v u _ I2 r1 r2 q2) λc s3 ⟨z,H3,I3,r3,k,e,q3⟩=>?_) hm
 subst e;cases r3;exact aL ⟨H3,I3,q3⟩
def Lk (r r':R2) (ta tb tc:TE):TE:=fun Z H Q=>ta Z H λx H1=>tb Z H1 λy H2=>r x y H2 λz H3=>∃k,z = .bl k /\
 (if k=true then tc Z H3 λw' H4=>r' y w' H4 Q else Q (.bl false) H3)
def Xar  (ho:OpR X (aF op) r) (dF:OpR X (aF pT) r') (ha:PE X a ta) (hb:PE X b tb) (hc:PE X c tc)
  (hm:IQ [op,pT] [b,c]=false:=by with_unfolding_all rfl):PE X (.Compare a [op,pT] [b,c] pos) (Lk r r' ta tb tc):=by
 intro pins s Z H Q I h;refine Compare_chain (thn (ha pins s Z H _ I h) λv s1 ⟨x,H1,I1,r1,q1⟩=>chain_link (thn (hb pins s1 Z H1 _ I1 q1) λu s2 ⟨y,H2,I2,r2,q2⟩=>
  thn (ho pins s2 Z H2 x y v u _ I2 r1 r2 q2) λd s3 ⟨z,H3,I3,r3,k,e,q3⟩=>?_)) hm
 subst e;cases r3;refine aL ?_;cases k with
 | false=>exact ite_ff ⟨.bl false,H3,I3,rfl,q3⟩
 | true=>exact ite_tt (chain_last (thn (hc pins s3 Z H3 _ I3 q3) λw' s4 ⟨z',H4,I4,r4,q4⟩=>dF pins s4 Z H4 y z' u w' Q I4 r2 r4 q4))
def Xgy  (ho:OpR X (aF op) r) (dF:OpR X (aF pT) r') (ha:PE X a ta) (hb:PE X b tb) (hc:PE X c tc)
  (hm:IQ [op,pT] [b,c]=false:=by with_unfolding_all rfl):PT X (.Compare a [op,pT] [b,c] pos) (Lj (Lk r r' ta tb tc)):=by
 intro pins s Z H Q I h;refine isTrue_chain (thn (ha pins s Z H _ I h) λv s1 ⟨x,H1,I1,r1,q1⟩=>test_link (thn (hb pins s1 Z H1 _ I1 q1) λu s2 ⟨y,H2,I2,r2,q2⟩=>
  thn (ho pins s2 Z H2 x y v u _ I2 r1 r2 q2) λd s3 ⟨z,H3,I3,r3,k,e,q3⟩=>?_)) hm
 subst e;cases r3;refine aL ?_;cases k with
 | false=>
  obtain⟨k',e',q'⟩:=q3;cases e';exact ite_ff ⟨H3,I3,q'⟩
 | true=>
  refine ite_tt (test_last (thn (hc pins s3 Z H3 _ I3 q3) λw' s4 ⟨z',H4,I4,r4,q4⟩=>thn (dF pins s4 Z H4 y z' u w' _ I4 r2 r4 q4) λd' s5 ⟨z2,H5,I5,r5,k2,e2,q5⟩=>?_));subst e2;cases r5;exact aL ⟨H5,I5,q5⟩
def Xas (K:KL) (x:V) (H:Hp) (k:Bool):Prop:=
 match x with
 | .non=>k=false
 | .bl b=>k=b
 | .int i=>k=(i != 0)
 | .str y=>y.length<=sizeLine/\k=((y.length:Int) != 0)
 | .byt y=>y.size<=sizeLine/\k=((y.size:Int) != 0)
 | .ref p=>(∃xs,SqL K H p xs/\k = !xs.isEmpty)\/(∃xs,SqT K H p xs/\k = !xs.isEmpty) \/ ∃kvs,H p=some (.dK kvs)/\k = !kvs.isEmpty
 | _=>False
def Xgz{κ : Type}{kvs:List (κ × V)}{vs}(r:KV kvs vs):(!vs.isEmpty) = !kvs.isEmpty:=by
 cases r<;>rfl
def Xat  (r:Vals xs ax):(!ax.toArray.isEmpty) = !xs.isEmpty:=by
 cases r<;>simp
def line63:(sizeLine:Nat)<2 ^ 63:=by rw[Tb];decide
def Xg0:TruR X (λx H Q=>∃k,Xas X.K x H k/\Q k H):=by
 intro pins s Z H x v Q I rx h;obtain⟨k,e,q⟩:=h;have hl:=line63;have hs:sizeLine=16777216:=Tb;cases x with
 | non=>
  cases rx;have e':k=false:=e;subst e';exact truthy_none ⟨H,I,q⟩
 | bl b=>
  cases rx;have e':k=b:=e;subst e';exact aL ⟨H,I,q⟩
 | int i=>
  obtain⟨t,rfl⟩:=rx;have e':k=(i != 0):=e;subst e';exact PySem.P.truthy_int ⟨H,I,q⟩
 | str y=>
  obtain⟨t,rfl⟩:=rx;obtain⟨hy,e'⟩:y.length<=sizeLine/\k=((y.length:Int) != 0):=e;subst e';exact PySem.P.truthy_str (by lia) ⟨H,I.tok _,q⟩
 | byt y=>
  obtain⟨t,rfl⟩:=rx;obtain⟨hy,e'⟩:y.size<=sizeLine/\k=((y.size:Int) != 0):=e;subst e';exact PySem.W.truthy_bytes (by lia) ⟨H,I.tok _,q⟩
 | ref p=>
  cases rx;have e':(∃xs,SqL X.K H p xs/\k = !xs.isEmpty)\/(∃xs,SqT X.K H p xs/\k = !xs.isEmpty) \/ ∃kvs,H p=some (.dK kvs)/\k = !kvs.isEmpty:=e;rcases e' with ⟨xs,hx,e'⟩ | ⟨xs,hx,e'⟩ | ⟨kvs,hx,e'⟩
  ·subst e';obtain⟨ax,r,pl,hz⟩:=I.list hx;have aI:=r.length;exact wpAny_truthy_list pl.isList (by simp only[Oh];lia) ⟨H,I.tok _,by rw[Xat r];exact q⟩
  ·subst e';obtain⟨ax,r,pl,hz⟩:=I.tuple hx;have aI:=r.length;exact truthy_tuple pl (by simp only[Oh];lia) ⟨H,I.tok _,by rw[Xat r];exact q⟩
  ·subst e';obtain⟨hz,hS,vs,r,m⟩:kvs.length<=sizeLine/\(p==bg)=false/\∃vs,KV kvs vs/\s.heap.DictOf (A7 X.prog X.w) p vs:=I.hok p _ hx;have aI:kvs.length=vs.length:=Paired.length r;exact wpAny_truthy_dict hS m (by lia) ⟨H,I.tok _,by rw[Xgz r];exact q⟩
 | _=>exact(show False from e).elim
def Ll(ha:PE X a ta)(he:∀dO,isTrue a X.env dO=(do       let v <-dO;bZ a.pos;holding [v] (truthy v))):
  PT X a (fun Z H Q=>ta Z H λx H'=>∃k,Xas X.K x H' k/\Q k H'):=by
 intro pins s Z H Q I h;exact u9 (thn (ha pins s Z H _ I h) λv s1 ⟨x,H1,I1,r1,q1⟩=>Xg0 pins s1 Z H1 x v Q I1 r1 q1) (he _)
def Jq:OpR X (bu .Add) (λx y H Q=>∃i j,x = .str i/\y = .str j/\i.length+j.length<=sizeLine/\Q (.str (i++j)) H):=by
 intro pins s Z H x y v u Q I rx ry h;obtain⟨i,j,rfl,rfl,hz,q⟩:=h;obtain⟨t,rfl⟩:=rx;obtain⟨t',rfl⟩:=ry;exact add_str (λt' tk=>⟨.str (i++j),H,I.tok _,⟨_,rfl⟩,q⟩) hz
def Co  (r:Vals [x] us):∃u,us=[u]/\Ah x u:=by
 cases r with
 | cons r1 r2=>cases r2;exact⟨_,rfl,r1⟩
def vals2  (r:Vals [x,y] us):∃u w',us=[u,w']/\Ah x u/\Ah y w':=by
 cases r with
 | cons r1 r2=>
  cases r2 with
  | cons r3 r4=>cases r4;exact⟨_,_,rfl,r1,r3⟩
def Xg1(hc:X.calm=true):B1 X (.builtin "min") (λxs H Q=>∃i j,xs=[.int i,.int j]/\Q (.int (if j<i then j else i)) H):=by
 intro pins s Z H xs us Q I r h;obtain⟨i,j,rfl,q⟩:=h;obtain⟨u,w',rfl,⟨t,rfl⟩,⟨t',rfl⟩⟩:=vals2 r;refine min_two_ints (I.ok.hd hc) λh' tk k=>⟨_,H,I.kept k,?_,q⟩;by_cases hj:j<i
 ·rw[Td hj,Td hj];exact⟨_,rfl⟩
 ·rw[Tc hj,Tc hj];exact⟨_,rfl⟩
def Jr:B1 X (.type "int") (λxs H Q=>(∃i,xs=[.int i]/\Q (.int i) H) \/ ∃k,xs=[.bl k]/\Q (.int (if k then 1 else 0)) H):=by
 intro pins s Z H xs us Q I r h;rcases h with ⟨i,rfl,q⟩ | ⟨k,rfl,q⟩
 ·obtain⟨u,rfl,t,rfl⟩:=Co r;exact call_int_int ⟨.int i,H,I,⟨_,rfl⟩,q⟩
 ·obtain⟨u,rfl,r1⟩:=Co r;cases r1;exact call_int_bool ⟨.int (if k then 1 else 0),H,I.tok _,⟨_,rfl⟩,q⟩
def LenV (K:KL) (x:V) (H:Hp) (n:Nat):Prop:=
 match x with
 | .str y=>y.length<=sizeLine/\n=y.length
 | .byt y=>y.size<=sizeLine/\n=y.size
 | .ref p=>(∃xs,SqL K H p xs/\n=xs.length) \/ ∃xs,SqT K H p xs/\n=xs.length
 | _=>False
end
structure ObjM (h:am) (x dx C:ae) (mA:aj->Option aa):Prop where
 obj:h.get? x=some (LK C dx)
 ns:h.Ns1 dx mA
 ne:dx≠x
def Xg2{h:am}  (n:h.Ns1 dx mA):∃od,h.get? dx=some od/\∀name,LQ name od=some (mA name):=by
 obtain⟨o,es,ep,ho,hd,hk,_,hm⟩:=n;refine⟨o,ho,λname=>?_⟩;have e:=hm name;unfold nsFind findBy at e;rw[<-Array.find?_toList] at e;unfold LQ;rw[hd];dsimp only;split
 ·rename_i y q;rw[q] at e;exact congrArg some e
 ·rename_i q;rw[q] at e;have a:es.toList.any (·.refKey)=false:=by
   rw[List.any_eq_false];intro y hy;obtain⟨z,t,iA⟩:=hk y (Array.mem_toList_iff.mp hy);simp[m7.refKey,iA]
  have a':¬es.toList.any (·.refKey)=true:=by rw[a];exact Oz
  rw[Tc a'];exact congrArg some e
def ObjM.look  {x dx C} (I:ObjM h x dx C mA):∃od,PySem.W.InstAt h x (LK C dx) C (some od)/\∀name,LQ name od=some (mA name):=
 let ⟨od,ho,hl⟩:=Xg2 I.ns
 ⟨od,⟨I.obj,rfl,rfl,ho⟩,hl⟩
section
variable {prog:ao}{w:av}{A:aw}{E:Zb}{s:af}{K:KL}{x dx C f:ae}{mA:aj->Option aa}{name:aj}{v:aa}
end
def Lm (f:aj) (v:V):List (aj×V)->List (aj×V)
 | []=>[(f,v)]
 | (g,x)::r=>if g=f then (g,v)::r else (g,x)::Lm f v r
def Cy.some_of{v}{o}(r:Cy (some v) o):∃u,o=some u/\Ah v u:=by
 cases o with
 | none=>exact(show False from r).elim
 | some u=>exact⟨u,rfl,r⟩
section
variable {P:ao}{w:av}{H H':Hp}{h h':am}{a C dx:ae}{fs gM:List (aj×V)}
def Xg3(hok:HOk P w H h)(e:H a=some (.ins C dx fs)):∃mA,ObjM h a dx C mA/\(∀f,Cy (fs.lookup f) (mA f))/\PySem.Within mA (fs.map (·.1))/\fs.length<=1000/\H dx=some (.own a):=by
 obtain⟨d,z,ne,ob,mA,n,r,q⟩:=(show A4 P w H h a (.ins C dx fs) from hok a _ e);exact⟨mA,⟨ob,n,ne⟩,r,q,z,d⟩
end
structure Cls (K:KL) (C:ae):Prop where
 pg:LV K C aj.empty=true
 hd:PySem.W.hasDictIn K C=true
 po:PySem.W.plainOver K C=true
 sa:KS K (.ref C) "__setattr__" = some (some (.builtin "object.__setattr__"))
def Cls.get{K}(c:Cls K C)(f):LV K C f=true:=c.pg
def Ln (K:KL) (C:ae) (f:aj):Prop:=KS K (.ref C) f=some none
structure Con (K:KL) (C:ae) (f:aj) (v:V) (u:aa):Prop where
 cT:KS K (.ref C) f=some (some u)
 cP:Ah v u
 get:LR K u "__get__" = some none
 cp:PySem.W.copiedNames.contains f=false
structure Meth (K:KL) (C:ae) (m:aj) (f:ae):Prop where
 cT:KS K (.ref C) m=some (some (.ref f))
 fn:M' K (.ref f)=true
 kp:KR K (.ref f)=true
section
variable {X:Cx}{pins:List (ae×aM)}{Z:St}{H:Hp}{s:af}{a C dx:ae}{fs:List (aj×V)}{f:aj}{v:V}{A:aw}{E:Zb}
end
def tFld (K:KL) (ta:TE) (f:aj):TE:=fun Z H Q=>ta Z H λx H1=>∃a C dx fs v,x = .ref a/\H1 a=some (.ins C dx fs)/\Cls K C/\Ln K C f/\fs.lookup f=some v/\Q v H1
def tCon (K:KL) (ta:TE) (f:aj):TE:=fun Z H Q=>ta Z H λx H1=>∃a C dx fs v u,x = .ref a/\H1 a=some (.ins C dx fs)/\Cls K C/\Con K C f v u/\fs.lookup f=none/\Q v H1
def sFld (K:KL) (ta tv:TE) (f:aj):TS:=λD Z H=>tv Z H λy H1=>ta Z H1 λx H2=>∃a C dx fs,x = .ref a/\H2 a=some (.ins C dx fs)/\Cls K C/\Ln K C f/\fs.length<1000 /\
 D.nx Z (upd H2 a (.ins C dx (Lm f y fs)))
def InOp (X:Cx) (op:Operator) (rd:V->V->Hp->VK->Prop):Prop:=
 ∀pins s Z H (x y:V) (u v:aa) (Q:VK),Inv X pins Z H s->Ah x u->Ah y v->rd x y H Q->ai (ag X.prog X.w) X.A (inplaceOp op u v) (EP X pins Z Q) X.xe s
def Xqo (K:KL) (ta tv:TE) (rd:V->V->Hp->VK->Prop) (f:aj):TS:=λD Z H=>ta Z H λx H1=>∃a C dx fs v,x = .ref a/\H1 a=some (.ins C dx fs)/\Cls K C/\Ln K C f/\fs.lookup f=some v /\
 tv Z H1 λy H2=>rd v y H2 λz H3=>∃xR gM,H3 a=some (.ins C xR gM)/\gM.length<1000/\D.nx Z (upd H3 a (.ins C xR (Lm f z gM)))
section
variable {X:Cx}{o e value:aC}{f:aj}{pos jh uG:ce}{ta tv:TE}
end
section
variable {X:Cx}{pins:List (ae×aM)}{Z:St}{H:Hp}{s:af}{A:aw}{E:Zb}{Q:Zb}{c:aa}{b:Bool}
inductive TyOf (K:KL) (H:Hp):V->aa->Prop where
 | non:TyOf K H .non (.type "NoneType")
 | bl (x:Bool):TyOf K H (.bl x) (.type "bool")
 | int (i:Int):TyOf K H (.int i) (.type "int")
 | str (x:aj):TyOf K H (.str x) (.type "str")
 | flt (x:UInt64):TyOf K H (.flt x) (.type "float")
 | lst {a:ae} {xs:List V} (e:H a=some (.lst xs)):TyOf K H (.ref a) (.type "list")
 | frz {a:ae} {o:aM} {xs:List V} (e:H a=some (.frz o (.lst xs))):TyOf K H (.ref a) (.type "list")
 | tup {a:ae} {xs:List V} (e:H a=some (.tup xs)):TyOf K H (.ref a) (.type "tuple")
 | dK {a:ae} {kvs:List (Key×V)} (e:H a=some (.dK kvs)):TyOf K H (.ref a) (.type "dict")
 | dT {a:ae} {kvs:List (List Key×V)} (e:H a=some (.dT kvs)):TyOf K H (.ref a) (.type "dict")
 | ins {a C dx:ae} {fs:List (aj×V)} (e:H a=some (.ins C dx fs)) (cl:Cls K C) (ha:KS K (.ref C) "__class__" = some (some (.builtin "object.__class__")))
   (hn:LR K (.builtin "object.__class__") "__get__" = some (some (.builtin "getset_descriptor.__get__"))) (df:PySem.W.takesIn K (.builtin "object.__class__")=some true)
   (hm:PySem.W.mroIn K C (.type "object")=some true):TyOf K H (.ref a) (.ref C)
def Xg4  (I:Inv X pins Z H s) (rx:Ah x u) (ty:TyOf X.K H x t) (e:KN X.K t c=some b) (h:∀tk,Q (.bool b) {s with toks:=tk}):
  ai (ag X.prog X.w) A (call (.builtin "isinstance") [u,c]) Q E s:=by
 cases ty with
 | non=>cases (show u=aa.none from rx);exact KQ PySem.W.kitx_none I.kIn True.intro e (λz=>nomatch z) h
 | bl y=>cases (show u=aa.bool y from rx);exact KQ PySem.W.kitx_bool I.kIn True.intro e (λz=>nomatch z) h
 | int i=>obtain⟨t,q⟩:=(show ∃t,u=aa.int i t from rx);cases q;exact KQ PySem.W.kitx_int I.kIn True.intro e (λz=>nomatch z) h
 | str y=>obtain⟨t,q⟩:=(show ∃t,u=aa.str y t from rx);cases q;exact KQ PySem.W.kitx_str I.kIn True.intro e (λz=>nomatch z) h
 | flt y=>obtain⟨t,q⟩:=(show ∃t,u=aa.float y t from rx);cases q;exact KQ PySem.W.kitx_float I.kIn True.intro e (λz=>nomatch z) h
 | @lst a xs ea=>
  cases (show u=aa.ref a from rx);obtain⟨_,_,n,_,h1⟩:=(show A4 X.prog X.w H s.heap a (.lst xs) from I.hok a _ ea);exact KQ LS I.kIn ⟨_,h1,rfl⟩ e (λz=>nomatch z) h
 | @frz a ob xs ea=>
  cases (show u=aa.ref a from rx);obtain⟨_,_,_,n,_,h1⟩:=(show A4 X.prog X.w H s.heap a (.frz ob (.lst xs)) from I.hok a _ ea);exact KQ LS I.kIn ⟨_,h1,rfl⟩ e (λz=>nomatch z) h
 | @tup a xs ea=>
  cases (show u=aa.ref a from rx);obtain⟨_,_,_,p⟩:=(show A4 X.prog X.w H s.heap a (.tup xs) from I.hok a _ ea);obtain⟨o,h1,h2,_⟩:=p;exact KQ PySem.W.kitx_tuple I.kIn ⟨o,h1,h2⟩ e (λz=>nomatch z) h
 | @dK a kvs ea=>
  cases (show u=aa.ref a from rx);obtain⟨_,_,vs,_,p⟩:=(show A4 X.prog X.w H s.heap a (.dK kvs) from I.hok a _ ea);obtain⟨o,es,ep,h1,h2,_⟩:=p;exact KQ LU I.kIn ⟨o,h1,h2.1⟩ e (λz=>nomatch z) h
 | @dT a kvs ea=>
  cases (show u=aa.ref a from rx);obtain⟨_,_,xs,_,o,es,ep,h1,h2,_⟩:=(show A4 X.prog X.w H s.heap a (.dT kvs) from I.hok a _ ea);exact KQ LU I.kIn ⟨o,h1,h2.1⟩ e (λz=>nomatch z) h
 | @ins a C dx fs ea cl ha hn df hm=>
  cases (show u=aa.ref a from rx);obtain⟨mA,O,_⟩:=Xg3 I.hok ea;obtain⟨od,J,_⟩:=O.look;exact KQ (PySem.W.kitx_own (cl.get _) cl.hd ha hn df hm) I.kIn J e (λz=>nomatch z) h
end
structure Room (k:Nat) (A:aw):Prop where
 hd:A.handled=none
 dp:A.depth+3 * k+5<pU
 un:A.units+16 * k+200<bj
 gd:A.guards=some []
def Room.mono  (r:Room k A) (h:j<=k):Room j A:=⟨r.hd,by have:=r.dp;lia,by have:=r.un;lia,r.gd⟩
def Room.deeper  (r:Room (k+1) A) (env):Room k (A.deeper env):=
 ⟨r.hd,by have:=r.dp;show A.depth+1+3 * k+5<_;lia,by have:=r.un;show A.units+3+16 * k+200<_;lia,r.gd⟩
def Room.in1{k}{A}(r:Room (k+1) A):Room k A.in1:=
 ⟨r.hd,by have:=r.dp;show A.depth+3 * k+5<_;lia,by have:=r.un;show A.units+1+16 * k+200<_;lia,r.gd⟩
def Room.depth  (r:Room k A):A.depth<pU:=by have:=r.dp;lia
def Room.units  (r:Room k A):A.units+64<bj:=by have:=r.un;lia
def Room.units0  (r:Room k A):A.units<bj:=by have:=r.un;lia
def Js:TA:=λ_ H Q=>Q [] H
def F9 (ta:TE) (tr:TA):TA:=fun Z H Q=>ta Z H λx H1=>tr Z H1 λxs H2=>Q (x::xs) H2
section
variable {X:Cx}{e:aC}{es:List aC}{te:TE}{t:TA}{pos:ce}
def Ac:PA X [] Js:=λ_ _ _ _ H Q I h=>Calls.spliced_nil ⟨[],H,I,.nil,h⟩
def Aa(ha:PE X e te)(hr:PA X es t)(hs:aq (e::es) X.env=(false,eval e X.env)::aq es X.env:=by rfl):PA X (e::es) (F9 te t):=by
 intro pos pins s Z H Q I h;rw[hs];show ai _ _ (spliced ((false,eval e X.env)::bp pos (aq es X.env))) _ _ s;refine Calls.spliced_cons (thn (ha pins s Z H _ I h) λu s1 ⟨x,H1,I1,r1,q1⟩=>?_);exact thn (hr pos pins s1 Z H1 _ I1 q1) λus s2 ⟨xs,H2,I2,r2,q2⟩=>⟨x::xs,H2,I2,.cons r1 r2,q2⟩
def Xau (t:TA):TE:=fun Z H Q=>t Z H λxs H1=>xs.length<=sizeLine/\∀p,H1 p=none->Q (.ref p) (upd H1 p (.tup xs))
def tLst (t:TA):TE:=fun Z H Q=>t Z H λxs H1=>xs.length<=sizeLine/\∀p,H1 p=none->Q (.ref p) (upd H1 p (.lst xs))
def Bi(h:PA X es t):PE X (.Tuple es x1 pos) (Xau t):=by
 intro pins s Z H Q I hq;refine wpAny_Tuple_spliced (thn (h pos pins s Z H _ I hq) λus s1 ⟨xs,H1,I1,r,z,q⟩=>⟨by rw[<-r.length];exact z,?_⟩);have hf:H1 s1.heap.objs.size=none:=I1.hok.fresh (Og _);refine⟨.ref s1.heap.objs.size,upd H1 s1.heap.objs.size (.tup xs),I1.laid (t':=s1.toks) (λb u e=>Tj _ e) (Og _) ?_,rfl,q _ hf⟩;exact⟨z,us,r,⟨_,am.get?_push_size _ rfl,rfl,_,rfl⟩⟩
def Bg(h:PA X es t):PE X (.List es pos) (tLst t):=by
 intro pins s Z H Q I hq;refine wpAny_List_spliced (thn (h pos pins s Z H _ I hq) λus s1 ⟨xs,H1,I1,r,z,q⟩=>⟨by rw[<-r.length];exact z,?_⟩);have hf:H1 s1.heap.objs.size=none:=I1.hok.fresh (Og _);refine⟨.ref s1.heap.objs.size,upd H1 s1.heap.objs.size (.lst xs),I1.laid (t':=s1.toks) (λb u e=>Tj _ e) (Og _) ?_,rfl,q _ hf⟩;exact⟨z,us,0,r,am.get?_push_size _ rfl⟩
end
abbrev Sp:=List V->Hp->VK->XK->Prop
abbrev CXT:=List eJ->Hp->af->XK->aa->af->Prop
structure Env0 (P:ao) (w:av) (K:KL) (mg:aj->Option aa) (base:am) (A:aw) (outer:List eJ) (s:af) (H:Hp):Prop where
 frames:A.frames=some outer
 mod:Mod K mg base
 bs:∀b o,base.get? b=some o->s.heap.get? b=some o/\H b=none
 bsz:base.objs.size<=s.heap.objs.size
 funs:s.heap.FunFrames base outer
 frf:∀b∈frs outer,H b=none
 hok:HOk P w H s.heap
 bare:cC s.gens
def CE (outer:List eJ) (P:ao) (w:av) (H:Hp) (s:af) (Q:VK) (u:aa) (s':af):Prop:=
 ∃v H',s'.os=s.os/\cC s'.gens/\Un (frs outer) [] H H' s.heap s'.heap/\HOk P w H' s'.heap/\Ah v u/\Q v H'
def CR (CX:CXT) (outer:List eJ) (P:ao) (w:av) (H:Hp) (s:af) (Q:VK) (E:XK) (r:iB) (s':af):Prop:=
 match r with
 | .ok (.ret u)=>CE outer P w H s Q u s'
 | .ok _=>False
 | .error e=>CX outer H s E e s'
structure FnOk (P:ao) (w:av) (K:KL) (mg:aj->Option aa) (base:am) (CX:CXT) (k:Nat) (f:ae) (fd:bK) (ps:Za) (sp:Sp):Prop where
 len:∀vs H Q E,sp vs H Q E->vs.length=ps.length
 run:∀(A:aw) (outer:List eJ) (s:af) (H:Hp) (args:Args) (us:List aa) (vs:List V) (Q:VK) (E:XK),Room k A->Env0 P w K mg base A outer s H->dQ s fd args (ps.zip us)->Vals vs us->sp vs H Q E ->
  bf (ag P w) A (.call (.ref f) args) (CR CX outer P w H s Q E) s
def Env0.in1   {K}   {A}  {s} (e:Env0 P w K mg base A outer s H):
  Env0 P w K mg base A.in1 outer s H:=⟨e.frames,e.mod,e.bs,e.bsz,e.funs,e.frf,e.hok,e.bare⟩
section
variable {X:Cx}{pins:List (ae×aM)}{Z:St}{H:Hp}{s s':af}
def Inv.env0(I:Inv X pins Z H s):Env0 X.prog X.w X.K X.mg X.base X.A X.stack s H:=
 ⟨I.ok.frames,I.ok.mod,I.bs,Pb I.ok.bsz I.sz,I.stack,I.stkFree,I.hok,I.bare⟩
def Inv.after  (I:Inv X pins Z H s) (h:CE X.stack X.prog X.w H s Q u s'):EP X pins Z Q u s':=by
 obtain⟨v,H',os,bare,un,hok,r,q⟩:=h;obtain⟨hh,g,d,t,AC⟩:=s';obtain rfl:AC=s.os:=os;exact⟨v,H',I.call (h':=hh) (g':=g) (d':=d) (t':=t) (ch:=[]) un hok bare (λb z=>absurd z (by simp)),r,q⟩
end
def Xav (sp:Sp) (fg:List V) (E:XK) (t:TA):TE:=fun Z H Q=>t Z H λvs H1=>sp (vs++fg) H1 Q E
def tMeth (C:ae) (m:aj) (sp:Sp) (fg:List V) (E:XK) (ta:TE) (t:TA):TE:=fun Z H Q=>ta Z H λx H1=>∃a dx fs,x = .ref a/\H1 a=some (.ins C dx fs)/\fs.lookup m=none /\
 t Z H1 λvs H2=>sp (x::(vs++fg)) H2 Q E
def tMake (C:ae) (sp:Sp) (fg:List V) (E:XK) (t:TA):TE:=fun Z H Q=>t Z H λvs H1=>∀x dx,H1 x=none->H1 dx=none->dx≠x ->
 sp (.ref x::(vs++fg)) (upd (upd H1 dx (.own x)) x (.ins C dx [])) (λv H2=>v = .non/\Q (.ref x) H2) E
def Binds (K:KL) (fd:bK) (ps:Za) (ds:List aa):Prop:=
 ∀(s:af) (us:List aa),K.In s.heap->(us++ds).length=ps.length->dQ s fd ⟨us,[]⟩ (ps.zip (us++ds))
def Binds.all{K}  (h:∀us:List aa,us.length=ps.length->dR fd ⟨us,[]⟩=pure (ps.zip us)):Binds K fd ps []:=λs us _ hl=>by
 rw[Ps] at hl ⊢;exact .of_eq (h us hl)
def Passes (CX:CXT) (X:Cx) (E:XK):Prop:=∀(pins:List (ae×aM)) (Z:St) (H:Hp) (s:af) (e:aa) (s':af),Inv X pins Z H s->CX X.stack H s E e s'->X.xe e s'
section
variable {X:Cx}{CX:CXT}{k:Nat}{f C:ae}{fd:bK}{ps:Za}{sp:Sp}{fg:List V}{ds:List aa}{E:XK}{x m:aj}{p pos dm:ce}{e o:aC}{es:List aC}{ta:TE}{t:TA}
def Xg5       (F:FnOk X.prog X.w X.K X.mg X.base CX k f fd ps sp) (hr:Room k X.A) (hb:Binds X.K fd ps ds) (hd:Vals fg ds) (hx:Passes CX X E)
  (I:Inv X pins Z H s) (r:Vals vs us) (h:sp (vs++fg) H Q E):ai (ag X.prog X.w) X.A (call (.ref f) us) (EP X pins Z Q) X.xe s:=by
 have r2:Vals (vs++fg) (us++ds):=r.append hd;have hl:(us++ds).length=ps.length:=by rw[<-r2.length];exact F.len _ _ _ _ h
 refine fI (br (F.run X.A X.stack s H ⟨us,[]⟩ (us++ds) (vs++fg) Q E hr I.env0 (hb s us I.kIn hl) r2 h) λr s' hq=>?_);cases r with
 | error e=>exact hx pins Z H s e s' I hq
 | ok fl=>
  cases fl with
  | ret u=>exact I.after hq
  | next=>exact False.elim hq
  | brk=>exact False.elim hq
  | cont=>exact False.elim hq
def Xg6(F:FnOk X.prog X.w X.K X.mg X.base CX k f fd ps sp)(hr:Room k X.A)(hg:Gl X x)(hm:X.mg x=some (.ref f))(hk:KR X.K (.ref f)=true)(hb:Binds X.K fd ps ds)(hd:Vals fg ds)(hx:Passes CX X E)
  (ha:PA X (e::es) t) (gO:(x==("__debug__" : aj))=false:=by decide) (he:aq (e::es) X.env=(false,eval e X.env)::aq es X.env:=by rfl) (cz:(bp pos (aq es X.env)).any (·.1)=false:=by rfl):
  PE X (.Call (.Name x p) (e::es) [] pos) (Xav sp fg E t):=by
 intro pins s Z H Q I h;refine bN (G5 I hg hm ?_ gO);refine LO (h₀:=X.base) I.ok.mod.kin hk (thn (ha pos pins s Z H _ I h) λus s1 ⟨vs,H1,I1,r,q⟩=>⟨I1.kIn,?_⟩) he cz;exact Xg5 F hr hb hd hx I1 r q
structure Mk (K:KL) (C f:ae):Prop where
 makes:PySem.W.makesIn K C=true
 init:KS K (.ref C) "__init__" = some (some (.ref f))
 fn:M' K (.ref f)=true
 kp:KR K (.ref C)=true
end
def PK (X:Cx) (jK:List cE) (t:TA):Prop:=
 ∀(pos:ce) (pins:List (ae×aM)) (s:af) (Z:St) (H:Hp) (Q:List V->Hp->Prop),Inv X pins Z H s->t Z H Q->ai (ag X.prog X.w) X.A (evalAll ((c5 pos (bE jK X.env)).map (·.2))) (AP X pins Z Q) X.xe s
section
variable {X:Cx}{CX:CXT}{k:Nat}{f C:ae}{fd:bK}{ps ks:Za}{sp:Sp}{E:XK}{x m:aj}{p pos dm uH:ce}{e o:aC}{es:List aC}{jK:List cE}{te ta:TE}{t tk:TA}{nm:Option aj}
def Xg7:PK X [] Js:=λ_ _ _ _ H Q I h=>wpAny_evalAll_nil ⟨[],H,I,.nil,h⟩
def Xg8(ha:PE X e te)(hr:PK X jK t):PK X (⟨nm,e,uH⟩::jK) (F9 te t):=by
 intro pos pins s Z H Q I h
 show ai _ _ (evalAll ((do    let v <-eval e X.env;bZ pos;pure v)::(c5 pos (bE jK X.env)).map (·.2))) _ _ s;refine wpAny_evalAll_cons (S7 (thn (ha pins s Z H _ I h) λu s1 ⟨x,H1,I1,r1,q1⟩=>S7 (aQ (S8 ?_))));exact thn (hr pos pins s1 Z H1 _ I1 q1) λus s2 ⟨xs,H2,I2,r2,q2⟩=>⟨x::xs,H2,I2,.cons r1 r2,q2⟩
structure KBinds (K:KL) (fd:bK) (ps ks:Za) (g:List aa->List aa->List aa) (gV:List V->List V->List V):Prop where
 to:∀(s:af) (us ws:List aa),K.In s.heap->(g us ws).length=ps.length->dQ s fd ⟨us,ks.zip ws⟩ (ps.zip (g us ws))
 cP:∀{vs:List V} {us:List aa} {zs:List V} {ws:List aa},Vals vs us->Vals zs ws->Vals (gV vs zs) (g us ws)
variable {g:List aa->List aa->List aa}{gV:List V->List V->List V}
end
structure FnScope (N P:Za) (sc:bX):Prop where
 kind:sc.kind = .function
 co:sc.isCoroutine=false
 gen:sc.isGenerator=false
 nd:N.Nodup
 pre:N.take P.length=P
 par:∀x∈P,sc.names.lookup x=some .local\/sc.names.lookup x=some .cell
 nofree:∀y∈sc.names,y.2 ≠ .free
theorem Xaw{kindOf}:∀{binds:List (aj×aa)} {m:aj->Option aa},(∀v,(x,v)∉binds)->iq kindOf binds m x=m x
 | [],_,_=>rfl
 | (n,v)::r,m,h=>by
  unfold iq;rw[Xaw λw hw=>h w (Ol _ hw)];split
  ·have:x≠n:=by rintro rfl;exact h v Oj
   simp[this]
  ·rfl
theorem Xax{kindOf}:∀{binds:List (aj×aa)} {m:aj->Option aa},(∀v,(x,v)∉binds)->ir kindOf binds m x=m x
 | [],_,_=>rfl
 | (n,v)::r,m,h=>by
  unfold ir;rw[Xax λw hw=>h w (Ol _ hw)];split
  ·rfl
  ·have:x≠n:=by rintro rfl;exact h v Oj
   simp[this]
theorem Xay{kindOf}  : ∀{P:Za} {vs:List aa} {i:Nat} {m:aj->Option aa},P.Nodup->P[i]? = some x->vs[i]? = some v->kindOf x=some .local ->
  iq kindOf (P.zip vs) m x=some v
 | [],_,_,_,_,h,_,_=>by simp at h
 | _::_,[],_,_,_,_,h,_=>by simp at h
 | p::P,w::vs,0,m,nd,h1,h2,hk=>by
  simp at h1 h2;subst h1;subst h2;show iq kindOf ((p,w)::P.zip vs) m p=_;unfold iq;rw[Xaw λv hv=>(P7.mp nd).1 (Sf hv).1,Td hk];simp
 | p::P,w::vs,i+1,m,nd,h1,h2,hk=>by
  show iq kindOf ((p,w)::P.zip vs) m x=_;unfold iq;exact Xay (i:=i) (P7.mp nd).2 (by simpa using h1) (by simpa using h2) hk
theorem Xaz{kindOf}  : ∀{P:Za} {vs:List aa} {i:Nat} {m:aj->Option aa},P.Nodup->P[i]? = some x->vs[i]? = some v->kindOf x≠some .local ->
  ir kindOf (P.zip vs) m x=some v
 | [],_,_,_,_,h,_,_=>by simp at h
 | _::_,[],_,_,_,_,h,_=>by simp at h
 | p::P,w::vs,0,m,nd,h1,h2,hk=>by
  simp at h1 h2;subst h1;subst h2;show ir kindOf ((p,w)::P.zip vs) m p=_;unfold ir;rw[Xax λv hv=>(P7.mp nd).1 (Sf hv).1,Tc hk];simp
 | p::P,w::vs,i+1,m,nd,h1,h2,hk=>by
  show ir kindOf ((p,w)::P.zip vs) m x=_;unfold ir;exact Xaz (i:=i) (P7.mp nd).2 (by simpa using h1) (by simpa using h2) hk
def start (N:Za) (vs:List V):St:=vs.map some++List.replicate (N.length - vs.length) none
def Cp (CX:CXT) (P:ao) (w:av) (K:KL) (mg:aj->Option aa) (base:am) (N:Za) (qual:aj) (scope:bX) (f:ae) (cd:aa) (A:aw) (outer:List eJ) (s:af) (H:Hp) (E:XK):Cx where
 prog:=P
 w:=w
 K:=K
 mg:=mg
 base:=base
 A:=A.deeper (aH qual scope s.heap.objs.size f cd)
 N:=N
 s₀:=s
 H₀:=H
 env:=aH qual scope s.heap.objs.size f cd
 outer:=outer
 stack:=aH qual scope s.heap.objs.size f cd::outer
 ex:=[]
 calm:=true
 fn:=λ_=>true
 pn:=[]
 xe:=λe s'=>ai (ag P w) (A.deeper (aH qual scope s.heap.objs.size f cd)) (leaving (aH qual scope s.heap.objs.size f cd) e) (λ_ kr=>CX outer H s E e kr) (λe' kr=>CX outer H s E e' kr) s'
def Xa0{sc:bX}{n}(h:sc.names.lookup x=some .cell):∃c,(bH n sc.names []).lookup x=some c:=by
 have q:=KU sc.names n [] (.inl h);exact Qm.mp q
def Xa1    {K}              (S:FnScope N ps scope) (hd:A.handled=none) (e0:Env0 P w K mg base A outer s H) (hl:vs.length=ps.length) (r:Vals vs us)
  (x:InCallC s s.heap.objs.size (iq (aH qual scope s.heap.objs.size f cd).kindOf (ps.zip us) λ_=>none) (bH (s.heap.objs.size+1) scope.names []) (ir (aH qual scope s.heap.objs.size f cd).kindOf (ps.zip us) λ_=>none) s1):
  Inv (Cp CX P w K mg base N qual scope f cd A outer s H E) [] (start N vs) H s1:=by
 have cz:ps.length<=N.length:=by have:=congrArg List.length S.pre;rw[Os] at this;lia
 obtain⟨h1,tk,rfl,hk⟩:=x.done;have pV:∀b:ae,b∉(Cp CX P w K mg base N qual scope f cd A outer s H E).ex:=λb z=>absurd (show b∈([]:List ae) from z) (by simp);refine⟨⟨e0.mod,S.kind,rfl,rfl,Og _,λy z c h1 h2=>?_,λy hy=>?_,λy c _ h=>?_,λ_=>hd,aw.frames_deeper e0.frames,.inr ⟨rfl,rfl⟩,λb z=>absurd z (pV b),e0.bs,e0.bsz,λb _ _=>pV b,λb z=>absurd z (pV b),e0.funs,e0.frf⟩,
  rfl,e0.bare,Un.kept hk,⟨_,x.toInCall.ns,λi y v h1 h2 h3=>?_⟩,λy c h=>⟨_,x.cell y c h⟩,e0.hok.fresh (Og _),λy c h=>?_,λp hp=>absurd (show p∈([]:List (ae×aM)) from hp) (by simp),e0.hok.kept hk,?_⟩
 ·exact name_of_addr x.apart (PySem.mem_of_lookup h1) (PySem.mem_of_lookup h2)
 ·have hy:scope.names.lookup y=some .cell\/scope.names.lookup y=some .free:=hy;rcases hy with hy | hy
  ·exact Xa0 hy
  ·exact absurd rfl (S.nofree _ (PySem.mem_of_lookup hy))
 ·exact Rs (x.above y c (PySem.mem_of_lookup h))
 ·have hi:i<vs.length:=by
   unfold start at h2;by_cases hi:i<vs.length
   ·exact hi
   ·rw[Qy (by simpa using hi)] at h2;rw[List.getElem?_replicate] at h2;split at h2<;>cases h2
  have ha:vs[i]? = some v:=by
   unfold start at h2;rw[P4 (by simpa using hi),Ou] at h2;cases e:vs[i]? with
   | none=>rw[e] at h2;cases h2
   | some a=>rw[e] at h2;cases h2;rfl
  obtain⟨u,hu,rv⟩:=r.get ha;have hp:ps[i]? = some y:=by
   rw[<-S.pre,Rt (by lia)];exact h1
  have xS:ps.Nodup:=by rw[<-S.pre];exact S.nd.sublist (Px _ _)
  refine⟨u,rv,?_⟩;rcases S.par y (Q5 hp) with k | k
  ·exact .inl ⟨k,Xay xS hp hu k⟩
  ·obtain⟨c,e⟩:=Xa0 (n:=s.heap.objs.size+1) k;refine .inr ⟨.inl k,c,e,?_⟩;have q:=x.cell y c e;rw[Xaz xS hp hu (by show scope.names.lookup y≠_;rw[k];decide)] at q;exact q
 ·exact e0.hok.fresh (Rs (x.above y c (PySem.mem_of_lookup h)))
 ·unfold start;show _=N.length;rw[Op,Oc,List.length_replicate]
  lia
def Lo    {K}         {dV kV cQ pm cdv ct oc}    (lk:K.lookup f=some ⟨oc,od,.func (Le name qual params body scope dV kV cQ pm an cdv ct),iu⟩) (gG:LA K cdv qual=true) (S:FnScope N ps scope)
  (len:∀vs H Q E,sp vs H Q E->vs.length=ps.length)
  (dS:∀(A:aw) (outer:List eJ) (s:af) (H:Hp) (vs:List V) (Q:VK) (E:XK),Room k (A.deeper (aH qual scope s.heap.objs.size f cdv))->sp vs H Q E ->
   ∃t,PSs (Cp CX P w K mg base N qual scope f cdv A outer s H E) body t/\t {nx:=λ_ H'=>Q .non H',rt:=Q} (start N vs) H):
  FnOk P w K mg base CX (k+1) f (Le name qual params body scope dV kV cQ pm an cdv ct) ps sp:=by
 refine⟨len,λA outer s H args us vs Q E hr e0 hb r fD=>?_⟩;have hl:=len _ _ _ _ fD;have KX:K.In s.heap:=e0.mod.kin.keeps λb o e=>(e0.bs b o e).1;have uI:s.heap.NoLimit:=e0.mod.nolimit.keeps λb o e=>(e0.bs b o e).1;have eU:∀y∈ps.zip us,scope.names.lookup y.1=some .local\/(scope.names.lookup y.1=some .cell/\((bH (s.heap.objs.size+1) scope.names []).lookup y.1).isSome=true):=λ⟨n,v⟩ hy=>by
  rcases S.par n (Sf hy).1 with q | q
  ·exact .inl q
  ·exact .inr ⟨q,KU _ _ _ (.inl q)⟩
 refine codeAny_call_function hr.depth (KX _ _ lk) rfl S.co S.gen rfl (PySem.W.codeRec_of KX gG) (hb _ _ _ _ ?_);refine fJ S.kind eU λenv he s1 x=>?_;subst he;refine⟨uI.keeps x.toInCall.keep,codeAny_func ?_⟩;obtain⟨t,ht,hq⟩:=dS A outer s H vs Q E (hr.deeper _) fD;have I:Inv (Cp CX P w K mg base N qual scope f cdv A outer s H E) [] (start N vs) H s1:=Xa1 S hr.hd e0 hl r x;refine aG (ht [] s1 (start N vs) H _ I hq) (λfl s' hs=>?_) λe s' hs=>hs;have fin:∀{Z':St} {H':Hp} {v:V} {u:aa},Inv (Cp CX P w K mg base N qual scope f cdv A outer s H E) [] Z' H' s'->Ah v u->Q v H'->CE outer P w H s Q u s':=
  λ{Z' H' v u} J rv q=>⟨v,H',J.os,J.bare,J.base,J.hok,rv,q⟩
 cases fl with
 | ret u=>
  obtain⟨v, Z',H',J,rv,q⟩:=hs;exact fin J rv q
 | next=>
  obtain⟨Z',H',J,q⟩:=hs;exact fin (v:=V.non) (u:=aa.none) J rfl q
 | brk=>
  obtain⟨_,_,_,q⟩:=hs;exact False.elim q
 | cont=>
  obtain⟨_,_,_,q⟩:=hs;exact False.elim q
section
variable {X:Cx}{x:aj}{p pos:ce}{e:aC}{es:List aC}{t:TA}{id T:String}{r:List V->Hp->VK->Prop}
def tCB (r:List V->Hp->VK->Prop) (t:TA):TE:=fun Z H Q=>t Z H λvs H1=>r vs H1 Q
def A0(hc:B1 X (.builtin id) r)(hg:Gl X x)(hm:X.mg x=none)(hv:bG x=some (.builtin id))(ha:PA X (e::es) t)(hn:x ≠ "__name__" := by decide)(gO:(x==("__debug__" : aj))=false:=by decide)
  (he:aq (e::es) X.env=(false,eval e X.env)::aq es X.env:=by rfl) (cz:(bp pos (aq es X.env)).any (·.1)=false:=by rfl):PE X (.Call (.Name x p) (e::es) [] pos) (tCB r t):=by
 intro pins s Z H Q I h;refine bN (Fg I hg hm hv ?_ hn gO);exact PyProof.Rows.callWith_builtin1 (thn (ha pos pins s Z H _ I h) λus s1 ⟨vs,H1,I1,r1,q1⟩=>hc pins s1 Z H1 vs us Q I1 r1 q1) he cz
def Cq(hc:B1 X (.type T) r)(hg:Gl X x)(hm:X.mg x=none)(hv:bG x=some (.type T))(ha:PA X (e::es) t)(hn:x ≠ "__name__" := by decide)(gO:(x==("__debug__" : aj))=false:=by decide)
  (he:aq (e::es) X.env=(false,eval e X.env)::aq es X.env:=by rfl) (cz:(bp pos (aq es X.env)).any (·.1)=false:=by rfl):PE X (.Call (.Name x p) (e::es) [] pos) (tCB r t):=by
 intro pins s Z H Q I h;refine bN (Fg I hg hm hv ?_ hn gO);exact PyProof.Rows.callWith_type1 (thn (ha pos pins s Z H _ I h) λus s1 ⟨vs,H1,I1,r1,q1⟩=>hc pins s1 Z H1 vs us Q I1 r1 q1) he cz
end
end L2
namespace HT
open PySem PyProof.Rows
def Xg9:List Int->List Int->Bool
 | [],[]=>false
 | [],_::_=>true
 | _::_,[]=>false
 | x::xs,y::ys=>if x=y then Xg9 xs ys else decide (x<y)
section
open PySem.SeqAt
open PySem.AutoSeq1 (wpAny_loadPart')
open PySem.MeetsSeq PySem.MeetsSeq2 PySem.MeetsSeq3
end
section
variable {prog:ao}{w:av}{A:aw}{E:Zb}{s:af}
def cat_tup   (ht:fG s.heap t vs.toArray) (hb:fG s.heap b ws.toArray) (hv:vs≠[])
  (h1:ws=[]->Q (.ref t) s) (h2:ws≠[]->Q (.ref s.heap.objs.size) {s with heap:=s.heap.push {cls:=.type "tuple",data:=.seq (vs++ws).toArray} })
  (hsz:vs.length+ws.length<=sizeLine):ai (ag prog w) A (bu .Add (.ref t) (.ref b)) Q E s:=by
 obtain⟨⟨cls,dd,data,sl⟩,ho,hc,n,hd⟩:=id ht;obtain⟨⟨pY,jL,data2,lH⟩,iY,eK,n2,cU⟩:=id hb;simp only at hc hd eK cU;subst hc hd eK cU;have e:vs.toArray++ws.toArray=(vs++ws).toArray:=by simp
 by_cases hw:ws=[]
 ·exact iC ⟨_,ho,rfl⟩ ⟨_,iY,rfl⟩ eM gQ PySem.F.slot_tuple_add PySem.F.entry_tuple_add (PySem.F.args_tuple_add_2 _ _)
   (tuple_addW1 t b vs.toArray ws.toArray n n2 dd jL sl lH (by simpa using hv) (by simp[hw])) ⟨ho,iY,h1 hw⟩
 ·refine iC ⟨_,ho,rfl⟩ ⟨_,iY,rfl⟩ eM gQ PySem.F.slot_tuple_add PySem.F.entry_tuple_add (PySem.F.args_tuple_add_2 _ _)
   (tuple_addW2 t b vs.toArray ws.toArray n n2 dd jL sl lH (by simpa using hv) (by simpa using hw) (by rw[Oh,Oh];exact hsz)) ⟨ho,iY,?_⟩
  rw[e];exact h2 hw
def sIx (n d:Nat):Option Int->Nat
 | none=>d
 | some v=>if v<0 then (v+(n:Int)).toNat else min v.toNat n
def sIx_none(n d):sIx n d none=d:=rfl
def sIx_nat(n d k:Nat):sIx n d (some (k:Int))=min k n:=by
 show (if (k:Int)<0 then ((k:Int)+(n:Int)).toNat else min (k:Int).toNat n)=min k n;rw[Tc (by lia),Q6]
end
end HT
namespace L2
abbrev TO:=St->Hp->(Option Int->Hp->Prop)->Prop
def PO (X:Cx) (e:Option aC) (t:TO):Prop:=
 ∀pins s Z H (Q:Option Int->Hp->Prop),Inv X pins Z H s->t Z H Q ->
  ai (ag X.prog X.w) X.A (evalPart e X.env) (λu s'=>∃o H',Inv X pins Z H' s'/\AD u o/\Q o H') X.xe s
def Xha:TO:=λ_ H Q=>Q none H
def Xhb (t:TE):TO:=fun Z H Q=>t Z H λx H1=>∃i,x = .int i/\Q (some i) H1
section
variable {X:Cx}{e:aC}{te:TE}{lo hi:Option aC}{tl th:TO}{pos p2:ce}
def B2:PO X none Xha:=by
 intro pins s Z H Q I h;rw[gR];exact S8 ⟨none,H,I,.none,h⟩
def Bt(h:PE X e te):PO X (some e) (Xhb te):=by
 intro pins s Z H Q I hw;rw[sX];refine thn (h pins s Z H _ I hw) λu s1 ⟨x,H1,I1,r1,q1⟩=>?_;obtain⟨i,rfl,q⟩:=q1;obtain⟨t,rfl⟩:=r1;exact⟨some i,H1,I1,.int i t,q⟩
def SlR (X:Cx) (r:V->Option Int->Option Int->Hp->VK->Prop):Prop:=
 ∀pins s Z H (x:V) (v vl vu:aa) (lo hi:Option Int) (sl:ae) (Q:VK),Inv X pins Z H s->Ah x v->s.heap.IsSliceOf sl vl vu .none->AD vl lo->AD vu hi->r x lo hi H Q ->
  ∃T id,fK (.type T) "__getitem__" = pure (some (.builtin id))/\s.TypeIs v T/\ai (ag X.prog X.w) X.A (dP v (.ref sl)) (EP X pins Z Q) X.xe s
def tSl (r:V->Option Int->Option Int->Hp->VK->Prop) (te:TE) (tl th:TO):TE:=fun Z H Q=>te Z H λx H1=>tl Z H1 λl H2=>th Z H2 λu H3=>r x l u H3 Q
def Bx(hr:SlR X r)(he:PE X e te)(hl:PO X lo tl)(hu:PO X hi th):PE X (.Subscript e (.Slice lo hi none p2) pos) (tSl r te tl th):=by
 intro pins s Z H Q I h;refine fM (thn (he pins s Z H _ I h) λv s1 ⟨x,H1,I1,r1,q1⟩=>?_);refine xT (thn (hl pins s1 Z H1 _ I1 q1) λvl s2 ⟨l,H2,I2,pl,q2⟩=>thn (hu pins s2 Z H2 _ I2 q2) λvu s3 ⟨u,H3,I3,pu,q3⟩=>?_);rw[gR];refine S8 ?_;have I4:Inv X pins Z H3 {s3 with heap:=s3.heap.push {cls:=.type "slice",data:=.fields #[vl,vu,.none]} }:=I3.kept (t':=s3.toks) λb ob q=>Tj _ q;obtain⟨T,id,hT,ht,hg⟩:=hr pins {s3 with heap:=s3.heap.push {cls:=.type "slice",data:=.fields #[vl,vu,.none]} } Z H3 x v vl vu l u s3.heap.objs.size Q I4 r1 (am.IsSliceOf.new ..) pl pu q3;show ai (ag X.prog X.w) X.A (gT e (.Slice lo hi none p2) v (.ref s3.heap.objs.size)) (EP X pins Z Q) X.xe {s3 with heap:=s3.heap.push {cls:=.type "slice",data:=.fields #[vl,vu,.none]} };exact pZ (ops:=[.ref s3.heap.objs.size,v]) ht hT hg (by with_unfolding_all rfl)
def C2 (xs:List V) (lo hi:Option Int):List V:=(xs.drop (HT.sIx xs.length 0 lo)).take (HT.sIx xs.length xs.length hi - HT.sIx xs.length 0 lo)
def Xhc(xs)(lo hi):(C2 xs lo hi).length<=xs.length:=by
 unfold C2;rw[Os,Pj]
 lia
def rSlT (K:KL):V->Option Int->Option Int->Hp->VK->Prop:=λx lo hi H Q=>∃a xs,x = .ref a/\SqT K H a xs /\
 ¬(HT.sIx xs.length 0 lo=0/\HT.sIx xs.length xs.length hi=xs.length)/\∀p,H p=none->Q (.ref p) (upd H p (.tup (C2 xs lo hi)))
def Xhd (K:KL):R2:=λx y H Q=>∃a b xs ys,x = .ref a/\y = .ref b/\SqT K H a xs/\SqT K H b ys/\xs≠[]/\xs.length+ys.length<=sizeLine /\
 (ys=[]->Q (.ref a) H)/\(ys≠[]->∀p,H p=none->Q (.ref p) (upd H p (.tup (xs++ys))))
def Vals.nil_iff  (r:Vals xs us):us=[]↔xs=[]:=by
 cases r with
 | nil=>simp
 | cons _ _=>simp
def Xhe:OpR X (bu .Add) (Xhd X.K):=by
 intro pins s Z H x y v u Q I rx ry h;obtain⟨a,b,xs,ys,rfl,rfl,ha,hb,hx,hz,q1,q2⟩:=h;cases rx;cases ry;obtain⟨ax,r1,p1,_⟩:=I.tuple ha;obtain⟨fh,r2,p2,_⟩:=I.tuple hb;refine HT.cat_tup p1 p2 (λz=>hx (r1.nil_iff.mp z)) (λz=>⟨.ref a,H,I,rfl,q1 (r2.nil_iff.mp z)⟩) (λz=>?_) (by rw[<-r1.length,<-r2.length];exact hz);refine⟨.ref s.heap.objs.size,_,I.laid (t':=s.toks) (o:=.tup (xs++ys)) (λb ob q=>Tj _ q) (Og _) ?_,rfl,q2 (λw=>z (r2.nil_iff.mpr w)) _ (I.hok.fresh (Og _))⟩;exact⟨by rw[Op];exact hz,_,r1.append r2,fG.new _ _⟩
end
def ixN (n:Nat) (i:Int):Option Nat:=if 0<=i then (if i<n then some i.toNat else none) else if -(n:Int)<=i then some (i+n).toNat else none
def atI {α : Type} (xs:List α) (i:Int):Option α:=(ixN xs.length i).bind λj=>xs[j]?
def Xa2   (h:ixN n i=some j):IR i n=some j/\j<n /\ -(n:Int)<=i/\i<n:=by
 unfold ixN at h;by_cases h0:0<=i
 ·rw[Td h0] at h;by_cases h1:i<n
  ·rw[Td h1] at h;have e:i.toNat=j:=Ov h;exact⟨by rw[ji h0 h1,e],by lia,by lia,h1⟩
  ·rw[Tc h1] at h;cases h
 ·rw[Tc h0] at h;by_cases h1 : -(n:Int)<=i
  ·rw[Td h1] at h;have e:(i+n).toNat=j:=Ov h;exact⟨by rw[seqIndex_neg (by lia) h1,e],by lia,h1,by lia⟩
  ·rw[Tc h1] at h;cases h
def Lp{α : Type}{xs}{v : α}(h:atI xs i=some v):∃j,IR i xs.length=some j/\xs[j]? = some v/\j<xs.length /\ -(xs.length:Int)<=i/\i<xs.length:=by
 unfold atI at h;cases e:ixN xs.length i with
 | none=>rw[e] at h;cases h
 | some j=>
  rw[e] at h;obtain⟨h1,h2,h3,h4⟩:=Xa2 e;exact⟨j,h1,h,h2,h3,h4⟩
def Cf{α : Type}{xs}{j:Nat}{v : α}(h:xs[j]? = some v):atI xs (j:Int)=some v:=by
 have hj:j<xs.length:=(Ox.mp h).1;have e:ixN xs.length (j:Int)=some j:=by
  unfold ixN;rw[Td (by lia),Td (by lia)];simp
 unfold atI;rw[e];exact h
def Xhf (b:aC):Prop:=∀o i,subscripted b false o i=operate [o,i] (dP o i)
def IxR (X:Cx) (r:R2):Prop:=
 ∀(value slice:aC) (pins:List (ae×aM)) (s:af) (Z:St) (H:Hp) (x y:V) (v u:aa) (Q:VK),Inv X pins Z H s->Ah x v->Ah y u->r x y H Q ->
  subscripted slice false v u=operate [v,u] (dP v u)->ai (ag X.prog X.w) X.A (gT value slice v u) (EP X pins Z Q) X.xe s
def MtR (X:Cx) (id:String) (r:V->List V->Hp->VK->Prop):Prop:=
 ∀pins s Z H (x:V) (xs:List V) (v:aa) (us:List aa) (Q:VK),Inv X pins Z H s->Ah x v->Vals xs us->r x xs H Q ->
  ai (ag X.prog X.w) X.A (call (.builtin id) (v::us)) (EP X pins Z Q) X.xe s
section
variable {X:Cx}{a b:aC}{ta tb:TE}{pos:ce}
def Aq(hr:IxR X r)(ha:PE X a ta)(hb:PE X b tb)(hs:Xhf b):PE X (.Subscript a b pos) (tOp r ta tb):=by
 intro pins s Z H Q I h;exact fM (binT ha hb I h λv u s2 x y H2 I2 rx ry q=>hr a b pins s2 Z H2 x y v u Q I2 rx ry q (hs _ _))
def Lq (K:KL):R2:=λx y H Q=>∃p xs i v,x = .ref p/\y = .int i/\SqL K H p xs/\atI xs i=some v/\Q v H
def Lr (K:KL):R2:=λx y H Q=>∃p xs i v,x = .ref p/\y = .int i/\SqT K H p xs/\atI xs i=some v/\Q v H
def Xa3:R2:=λx y H Q=>∃z i c,x = .str z/\y = .int i/\z.length<=sizeLine/\atI z.cps.toList i=some c/\Q (.str ⟨#[c]⟩) H
def A5:IxR X (Lq X.K):=by
 intro value slice pins s Z H x y v u Q I rx ry h hs;obtain⟨p,xs,i,z,rfl,rfl,hq,he,q⟩:=h;cases rx;obtain⟨t,rfl⟩:=ry;obtain⟨ax,r,pl,hz⟩:=I.list hq;obtain⟨j,h1,h2,h3,h4,h5⟩:=Lp he;obtain⟨w,ew,jj⟩:=r.get h2;have hl:=r.length;have hn:=line63;have fin:EP X pins Z Q w s:=⟨z,H,I,jj,q⟩;by_cases h0:0<=i
 ·have hj:i.toNat=j:=by
   rw[ji h0 h5] at h1;exact Ov h1
  exact item_listR pl.isList h0 (by lia) (by rw[hj];simpa using ew) fin hs
 ·have hj:(i+(ax.toArray.size:Int)).toNat=j:=by
   rw[seqIndex_neg (by lia) h4] at h1;rw[Oh,<-hl];exact Ov h1
  exact iD (x:=w) pl.isList.typeIs dU.lookup
   (wpAny_getItem_list_neg (Q:=λr s'=>r=w/\EP X pins Z Q r s') pl.isList (by lia) (by rw[Oh]<;>lia) (by lia) (by rw[hj];simpa using ew) ⟨rfl,fin⟩) hs
def Eg:IxR X (Lr X.K):=by
 intro value slice pins s Z H x y v u Q I rx ry h hs;obtain⟨p,xs,i,z,rfl,rfl,hq,he,q⟩:=h;cases rx;obtain⟨t,rfl⟩:=ry;obtain⟨ax,r,pl,hz⟩:=I.tuple hq;obtain⟨j,h1,h2,h3,h4,h5⟩:=Lp he;obtain⟨w,ew,jj⟩:=r.get h2;have hl:=r.length;have hn:=line63;have fin:EP X pins Z Q w s:=⟨z,H,I,jj,q⟩;exact iD (x:=w) pl.typeIs slot_tuple_getitem.lookup
  (getItem_tuple (j:=j) (Q:=λr s'=>r=w/\EP X pins Z Q r s') pl (by lia) (by lia) (by rw[Oh,<-hl];exact h1) (by simpa using ew) ⟨rfl,fin⟩) hs
def Xhg:IxR X Xa3:=by
 intro value slice pins s Z H x y v u Q I rx ry h hs;obtain⟨z,i,c,rfl,rfl,hz,he,q⟩:=h;obtain⟨t,rfl⟩:=rx;obtain⟨t',rfl⟩:=ry;obtain⟨j,h1,h2,h3,h4,h5⟩:=Lp he;have hl:z.cps.toList.length=z.length:=by simp[aj.length]
 rw[hl] at h1 h4 h5;have hn:=line63;exact pZ (kt s z t) slot_str_getitem.lookup (getItem_str (c:=c) (by
  have e1:decide (i < -(2 ^ 63:Int))=false:=Tf (by lia);have e2:decide (i ≥ 2 ^ 63)=false:=Tf (by lia);rw[e1,e2,Sy]) (by rw[h1];simpa using h2) ⟨.str ⟨#[c]⟩,H,I.tok _,⟨_,rfl⟩,q⟩) hs
def rIx (K:KL):R2:=λx y H Q=>Lq K x y H Q\/Lr K x y H Q\/Xa3 x y H Q
def Xhh(ax:List aa)(n j)(u):aM.mapSeq (·.setIfInBounds j u) {cls:=.type "list",data:=.seq ax.toArray n} = {cls:=.type "list",data:=.seq (ax.set j u).toArray n}:=by
 simp[aM.mapSeq]
def Inv.lst{pins}{Z:St}{H}{s}{p}{xs}(I:Inv X pins Z H s)(h:H p=some (.lst xs)):
  ∃(ax:List aa) (n:Nat),Vals xs ax/\s.heap.get? p=some {cls:=.type "list",data:=.seq ax.toArray n}/\xs.length<=sizeLine:=by
 obtain⟨z,ax,n,r,e⟩:=I.hok p _ h;exact⟨ax,n,r,e,z⟩
def Inv.lstUpd       {ax its':List aa}  (I:Inv X pins Z H s) (h:H p=some (.lst xs))
  (ho:s.heap.get? p=some {cls:=.type "list",data:=.seq ax.toArray n}) (hf:f {cls:=.type "list",data:=.seq ax.toArray n} = {cls:=.type "list",data:=.seq its'.toArray n'}) (r:Vals ys its') (hz:ys.length<=sizeLine) (t):
  Inv X pins Z (upd H p (.lst ys)) {s with heap:=s.heap.update p f,toks:=t}:=by
 have e:(s.heap.update p f).get? p=some {cls:=.type "list",data:=.seq its'.toArray n'}:=by
  rw[am.get?_update_self f ho (by rw[hf]<;>rfl),hf]
 refine I.write (x:=p) (e:=p) (by rw[h];trivial) (.inl rfl) (λb u hb q=>(am.get?_update_other _ _ (Ne.symm hb)).trans q) ⟨_,e⟩ ?_;exact⟨hz,its',n',r,e⟩
def Xhi:V->V->V->Hp->(Hp->Prop)->Prop:=λo i v H Q=>∃p xs k j,o = .ref p/\i = .int k/\H p=some (.lst xs)/\ixN xs.length k=some j/\Q (upd H p (.lst (xs.set j v)))
def Fm:PSet X Xhi:=by
 intro pins s Z H o i v ov iv u Q I ro ri rv h;obtain⟨p,xs,k,j,rfl,rfl,hp,hj,q⟩:=h;cases ro;obtain⟨t,rfl⟩:=ri;obtain⟨ax,n,r,ho,hz⟩:=I.lst hp;obtain⟨h1,h2,h3,h4⟩:=Xa2 hj;have hl:=r.length;have hn:=line63;have I':Inv X pins Z (upd H p (.lst (xs.set j v))) {s with heap:=s.heap.update p (aM.mapSeq (·.setIfInBounds j u))}:=
  I.lstUpd hp ho (Xhh ax n j u) (r.set rv j) (by rw[List.length_set];exact hz) s.toks
 by_cases h0:0<=k
 ·have hk:k.toNat=j:=by
   rw[ji h0 h4] at h1;exact Ov h1
  exact PySem.W.ki_setAt ho h0 (by lia) (by rw[Oh,<-hl];exact h4) (by rw[hk];exact⟨_,I',q⟩)
 ·have hk:(k+(ax.toArray.size:Int)).toNat=j:=by
   rw[seqIndex_neg (by lia) h3] at h1;rw[Oh,<-hl];exact Ov h1
  exact PySem.W.ki_setBack ho (by lia) (by rw[Oh,<-hl];exact h3) (by lia) (by rw[hk];exact⟨_,I',q⟩)
def Xhj(lo hi)(n):(cf lo hi none n).1=((HT.sIx n 0 lo:Nat):Int)/\(cf lo hi none n).2.1=((HT.sIx n n hi:Nat):Int)/\(cf lo hi none n).2.2=1:=by
 refine⟨?_,?_,rfl⟩
 ·cases lo with
  | none=>simp[cf,HT.sIx]
  | some i=>
   simp only[cf,HT.sIx,Option.getD_none,show (1:Int) > 0 by decide,if_true];by_cases h:i<0
   ·simp only[h,if_true]<;>lia
   ·simp only[h,if_false]<;>lia
 ·cases hi with
  | none=>simp[cf,HT.sIx]
  | some i=>
   simp only[cf,HT.sIx,Option.getD_none,show (1:Int) > 0 by decide,if_true];by_cases h:i<0
   ·simp only[h,if_true]<;>lia
   ·simp only[h,if_false]<;>lia
def Xhk(ax:List aa)(lo hi):IS ax.toArray lo hi none=((ax.drop (HT.sIx ax.length 0 lo)).take (HT.sIx ax.length ax.length hi - HT.sIx ax.length 0 lo)).toArray:=by
 obtain⟨h1,h2,h3⟩:=Xhj lo hi ax.toArray.size;unfold IS;rw[h1,h2,h3];simp only[sliceRange_one,pick_run,Oh]<;>rfl
def rSlL (K:KL):V->Option Int->Option Int->Hp->VK->Prop:=λx lo hi H Q=>∃a xs,x = .ref a/\SqL K H a xs/\∀p,H p=none->Q (.ref p) (upd H p (.lst (C2 xs lo hi)))
def B3:SlR X (rSlL X.K):=by
 intro pins s Z H x v vl vu lo hi sl Q I rx hs pl pu h;obtain⟨a,xs,rfl,hx,q⟩:=h;cases rx;obtain⟨ax,r,ht,hz⟩:=I.list hx;have aI:=r.length;refine⟨"list",_,dU.lookup,ht.isList.typeIs,?_⟩;refine gU ht.isList hs pl pu .none (by simp) ?_ (by rw[Oh]<;>lia);rw[Xhk,<-aI];refine⟨.ref s.heap.objs.size,_,I.laid (t':=s.toks) (o:=.lst (C2 xs lo hi)) (λb ob q=>Tj _ q) (Og _) ?_,rfl,q _ (I.hok.fresh (Og _))⟩;exact⟨Pb (Xhc xs lo hi) hz,_,0,(r.drop (HT.sIx xs.length 0 lo)).take (HT.sIx xs.length xs.length hi - HT.sIx xs.length 0 lo),am.get?_push_size _ rfl⟩
def B8:V->Bool
 | .non=>true
 | .bl _=>true
 | .int _=>true
 | .str _=>true
 | _=>false
def eqV:V->V->Bool
 | .non,.non=>true
 | .bl a,.bl b=>a==b
 | .bl a,.int b=>(if a then 1 else 0)==b
 | .int a,.bl b=>a==(if b then 1 else 0)
 | .int a,.int b=>a==b
 | .str a,.str b=>a==b
 | _,_=>false
def Xa4    (ry:Ah y u) (rx:Ah x v) (fy:B8 y=true) (fx:B8 x=true):SeqAt.EqAt A s u v (eqV y x):=by
 cases y with
 | non=>
  cases ry;cases x with
  | non=>cases rx;exact SeqAt.EqAt.same _
  | bl b=>cases rx;exact SeqAt.EqAt.none_bool b
  | int b=>obtain⟨t,rfl⟩:=rx;exact SeqAt.EqAt.none_int b t
  | str b=>obtain⟨t,rfl⟩:=rx;exact SeqAt.EqAt.none_str b t
  | _=>exact absurd (show false=true from fx) Oz
 | bl a=>
  cases ry;cases x with
  | non=>cases rx;exact SeqAt.EqAt.bool_none a
  | bl b=>cases rx;exact SeqAt.EqAt.bool_bool a b
  | int b=>obtain⟨t,rfl⟩:=rx;exact SeqAt.EqAt.bool_int a b t
  | str b=>obtain⟨t,rfl⟩:=rx;exact SeqAt.EqAt.bool_str a b t
  | _=>exact absurd (show false=true from fx) Oz
 | int a=>
  obtain⟨t',rfl⟩:=ry;cases x with
  | non=>cases rx;exact SeqAt.EqAt.int_none a t'
  | bl b=>cases rx;exact SeqAt.EqAt.int_bool a t' b
  | int b=>obtain⟨t,rfl⟩:=rx;exact SeqAt.EqAt.int_int a t' b t
  | str b=>obtain⟨t,rfl⟩:=rx;exact SeqAt.EqAt.int_str a t' b t
  | _=>exact absurd (show false=true from fx) Oz
 | str a=>
  obtain⟨t',rfl⟩:=ry;cases x with
  | non=>cases rx;exact SeqAt.EqAt.str_none a t'
  | bl b=>cases rx;exact SeqAt.EqAt.str_bool a t' b
  | int b=>obtain⟨t,rfl⟩:=rx;exact SeqAt.EqAt.str_int a t' b t
  | str b=>obtain⟨t,rfl⟩:=rx;exact SeqAt.EqAt.str_str a t' b t
  | _=>exact absurd (show false=true from fx) Oz
 | _=>exact absurd (show false=true from fy) Oz
def eqU (x:V) (u:aa):Bool:=match u with
 | .none=>eqV .non x
 | .bool b=>eqV (.bl b) x
 | .int i _=>eqV (.int i) x
 | .str z _=>eqV (.str z) x
 | _=>false
def Jt  (r:Ah y u) (f:B8 y=true):eqU x u=eqV y x:=by
 cases y with
 | non=>cases r;rfl
 | bl b=>cases r;rfl
 | int i=>obtain⟨t,rfl⟩:=r;rfl
 | str z=>obtain⟨t,rfl⟩:=r;rfl
 | _=>exact absurd (show false=true from f) Oz
theorem G9:∀{xs:List V} {us:List aa},Vals xs us->xs.all B8=true->us.any (eqU x)=xs.any λy=>eqV y x
 | _,_,.nil,_=>rfl
 | y::xs,u::us,.cons r t,f=>by
  rw[List.all_cons,O4] at f;rw[Sb,Sb,Jt r f.1,G9 t f.2]
theorem Fo    (rx:Ah x v) (fx:B8 x=true):∀{xs:List V} {us:List aa},Vals xs us->xs.all B8=true->∀u∈us,SeqAt.EqAt A s u v (eqU x u)
 | _,_,.nil,_=>λu hu=>by cases hu
 | y::xs,u::us,.cons r t,f=>λu' hu=>by
  rw[List.all_cons,O4] at f;rcases Ot.mp hu with rfl | hu
  ·rw[Jt r f.1];exact Xa4 r rx f.1 fx
  ·exact Fo rx fx t f.2 u' hu
def inV (x:V) (xs:List V):Bool:=xs.any λy=>eqV y x
def rIn (K:KL) (AE:Bool):R2:=λx y H Q=>∃p xs,y = .ref p/\(SqL K H p xs\/SqT K H p xs)/\B8 x=true/\xs.all B8=true/\Q (.bl (if AE then !inV x xs else inV x xs)) H
def Ju:OpR X (aF .In) (rIn X.K false):=by
 intro pins s Z H x y v u Q I rx ry h;obtain⟨p,xs,rfl,hq,fx,fs,q⟩:=h;cases ry;rcases hq with hq | hq
 ·obtain⟨ax,r,pl,hz⟩:=I.list hq;refine SeqAt.in_listAt (eqU x) pl.isList (λw hw=>Fo rx fx r fs w (by simpa using hw)) ⟨.bl _,H,I,rfl,?_⟩;rw[show ax.toArray.any (eqU x)=ax.any (eqU x) by simp,G9 r fs];exact q
 ·obtain⟨ax,r,pl,hz⟩:=I.tuple hq;refine SeqAt.in_tupleAt (eqU x) pl (λw hw=>Fo rx fx r fs w (by simpa using hw)) ⟨.bl _,H,I,rfl,?_⟩;rw[show ax.toArray.any (eqU x)=ax.any (eqU x) by simp,G9 r fs];exact q
def Xa5:OpR X (aF .NotIn) (rIn X.K true):=by
 intro pins s Z H x y v u Q I rx ry h;obtain⟨p,xs,rfl,hq,fx,fs,q⟩:=h;cases ry;rcases hq with hq | hq
 ·obtain⟨ax,r,pl,hz⟩:=I.list hq;refine SeqAt.notIn_listAt (eqU x) pl.isList (λw hw=>Fo rx fx r fs w (by simpa using hw)) ⟨.bl _,H,I,rfl,?_⟩;rw[show ax.toArray.any (eqU x)=ax.any (eqU x) by simp,G9 r fs];exact q
 ·obtain⟨ax,r,pl,hz⟩:=I.tuple hq;refine SeqAt.notIn_tupleAt (eqU x) pl (λw hw=>Fo rx fx r fs w (by simpa using hw)) ⟨.bl _,H,I,rfl,?_⟩;rw[show ax.toArray.any (eqU x)=ax.any (eqU x) by simp,G9 r fs];exact q
def B9:B1 X (.builtin "len") (λxs H Q=>∃p ys,xs=[.ref p]/\(SqL X.K H p ys\/SqT X.K H p ys)/\Q (.int ys.length) H):=by
 intro pins s Z H xs us Q I r h;obtain⟨p,ys,rfl,hq,q⟩:=h;obtain⟨u,rfl,rx⟩:=Co r;cases rx;have hn:=line63;rcases hq with hq | hq
 ·obtain⟨ax,r',pl,hz⟩:=I.list hq;have aI:=r'.length;exact Calls.call_len_list pl.isList (by simp only[Oh]<;>lia) ⟨.int ys.length,H,I.tok _,⟨s.toks+1,by rw[Oh,aI]⟩,q⟩
 ·obtain⟨ax,r',pl,hz⟩:=I.tuple hq;have aI:=r'.length;exact len_tuple pl (by simp only[Oh]<;>lia) ⟨.int ys.length,H,I.tok _,⟨s.toks+1,by rw[Oh,aI]⟩,q⟩
def Ls:B1 X (.type "list") (λxs H Q=>∃p ys,xs=[.ref p]/\(SqL X.K H p ys\/SqT X.K H p ys)/\∀l,H l=none->Q (.ref l) (upd H l (.lst ys))):=by
 intro pins s Z H xs us Q I r h;obtain⟨p,ys,rfl,hq,q⟩:=h;obtain⟨u,rfl,rx⟩:=Co r;cases rx;have fin:∀(ax:List aa),Vals ys ax->ys.length<=sizeLine->∀(h':am) (c':Nat),(∀b o',s.heap.get? b=some o'->h'.get? b=some o') ->
   h'.get? s.heap.objs.size=some {cls:=.type "list",dict:=none,data:=.seq ax.toArray c',slots := #[]}->EP X pins Z Q (.ref s.heap.objs.size) {s with heap:=h'}:=λax r' hz h' c' kp e=>
  ⟨.ref s.heap.objs.size,_,I.laid (t':=s.toks) kp (Og _) (show A4 X.prog X.w _ h' _ (.lst ys) from ⟨hz,ax,c',r',e⟩),rfl,q _ (I.hok.fresh (Og _))⟩
 rcases hq with hq | hq
 ·obtain⟨ax,r',pl,hz⟩:=I.list hq;have aI:=r'.length;obtain⟨o,ho,hc,n,hd⟩:=pl.isList;exact sY p (.inl rfl) ho hc hd (λh' c' kp e=>fin ax r' hz h' c' kp e) (by simp only[Oh]<;>lia)
 ·obtain⟨ax,r',pl,hz⟩:=I.tuple hq;have aI:=r'.length;obtain⟨o,ho,hc,n,hd⟩:=pl;exact sY p (.inr rfl) ho hc hd (λh' c' kp e=>fin ax r' hz h' c' kp e) (by simp only[Oh]<;>lia)
def Xa6:B1 X (.type "tuple") (λxs H Q=>∃p ys,xs=[.ref p]/\((SqL X.K H p ys/\∀l,H l=none->Q (.ref l) (upd H l (.tup ys)))\/(SqT X.K H p ys/\Q (.ref p) H))):=by
 intro pins s Z H xs us Q I r h;obtain⟨p,ys,rfl,h⟩:=h;obtain⟨u,rfl,rx⟩:=Co r;cases rx;rcases h with ⟨hq,q⟩ | ⟨hq,q⟩
 ·obtain⟨ax,r',pl,hz⟩:=I.list hq;have aI:=r'.length;refine call_tuple_list pl.isList (λh' kp=>?_) (by simp only[Oh]<;>lia);have I1:Inv X pins Z H {s with heap:=h'}:=I.kept (t':=s.toks) kp;have I2:Inv X pins Z (upd H h'.objs.size (.tup ys)) {s with heap:=h'.push {cls:=.type "tuple",data:=.seq ax.toArray} }:=
   I1.laid (t':=s.toks) (λb o e=>Tj _ e) (Og _) (show A4 X.prog X.w _ _ _ (.tup ys) from ⟨hz,ax,r',fG.new _ _⟩)
  exact⟨.ref h'.objs.size,_,I2,rfl,q _ (I1.hok.fresh (Og _))⟩
 ·obtain⟨ax,r',pl,hz⟩:=I.tuple hq;exact call_tuple_same pl ⟨.ref p,H,I,rfl,q⟩
def tyV (K:KL) (T:String) (x:V) (H:Hp):Prop:=match x with
 | .str _=>T = "str"
 | .int _=>T = "int"
 | .ref p=>(T = "list" /\ ∃xs,SqL K H p xs)\/(T = "tuple" /\ ∃o,K.lookup p=some o/\o.cls = .type "tuple" /\ o.dict=none) \/
   (T = "dict" /\ ((∃kvs,H p=some (.dK kvs)) \/ ∃kvs,H p=some (.dT kvs)))\/(T = "set" /\ ∃S n,H p=some (.set S n))
 | _=>False
def Xhl       (I:Inv X pins Z H s) (r:Ah x v) (ty:tyV X.K T x H):
  s.TypeIs v T/\∀a,v = .ref a->∃ob,s.heap.get? a=some ob/\ob.dict=none:=by
 cases x with
 | str z=>
  obtain⟨t,rfl⟩:=r;cases (show T = "str" from ty);exact⟨kt s z t,λ_ e=>nomatch e⟩
 | int i=>
  obtain⟨t,rfl⟩:=r;cases (show T = "int" from ty);exact⟨kw s i t,λ_ e=>nomatch e⟩
 | ref p=>
  cases r;rcases ty with ⟨rfl,xs,hq⟩ | ⟨rfl,o,hk,hc,hd⟩ | ⟨rfl,hk⟩ | ⟨rfl,S,n,hk⟩
  ·obtain⟨ax,_,pl,_⟩:=I.list hq;refine⟨pl.isList.typeIs,λa e=>?_⟩;cases e;obtain⟨o,n,e,c,hd,_⟩:=pl;exact⟨o,e,hd⟩
  ·refine⟨⟨o,I.kIn p o hk,hc⟩,λa e=>?_⟩;cases e;exact⟨o,I.kIn _ o hk,hd⟩
  ·have z:∃o,s.heap.get? p=some o/\o.ExactDict:=by
    rcases hk with ⟨kvs,hk⟩ | ⟨kvs,hk⟩
    ·obtain⟨_,_,_,_,o,_,_,e,ex,_⟩:=I.hok p _ hk;exact⟨o,e,ex⟩
    ·obtain⟨_,_,_,_,o,_,_,e,ex,_⟩:=I.hok p _ hk;exact⟨o,e,ex⟩
   obtain⟨o,e,ex⟩:=z;refine⟨⟨o,e,ex.1⟩,λa e2=>?_⟩;cases e2;exact⟨o,e,ex.2.1⟩
  ·obtain⟨o,_,_,_,e,ex,_⟩:=I.hok p _ hk;refine⟨⟨o,e,ex.1⟩,λa e2=>?_⟩;cases e2;exact⟨o,e,ex.2.1⟩
 | _=>exact False.elim ty
def tBM (K:KL) (T:String) (r:V->List V->Hp->VK->Prop) (to:TE) (t:TA):TE:=fun Z H Q=>to Z H λx H1=>tyV K T x H1/\t Z H1 λxs H2=>r x xs H2 Q
variable {o e:aC}{es:List aC}{to:TE}{t:TA}{name:aj}{dm bJ:ce}{T id:String}{r:V->List V->Hp->VK->Prop}
def Jv(pa:AF T)(slot:AG T name id)(uJ:qa (.builtin id)=pure (.type "method_descriptor"))(hm:MtR X id r)(ho:PE X o to)(ha:PA X (e::es) t)
  (dW:dD o name X.env (eval o X.env)=eval o X.env:=by rfl)
  (m8:((bp bJ (aq (e::es) X.env)).all (λx => !x.1)&&(c5 bJ (bE [] X.env)).all (λx=>x.1.isSome)
   && decide ((e::es).length+([]:List cE).length+(if ([]:List cE).isEmpty then 0 else 1)<30))=true:=by rfl)
  (jk:(dm.endLine==bJ.line)=true:=by rfl) (hs:aq (e::es) X.env=(false,eval e X.env)::aq es X.env:=by rfl) (dX:(bp bJ (aq es X.env)).any (·.1)=false:=by rfl):
  PE X (.Call (.Attribute o name dm) (e::es) [] bJ) (tBM X.K T r to t):=by
 intro pins s Z H Q I h;refine wpAny_Call_method_late dW m8 jk rfl (thn (ho pins s Z H _ I h) λv s1 ⟨x,H1,I1,r1,ty,q1⟩=>?_);obtain⟨h1,h2⟩:=Xhl I1 r1 ty;refine⟨T,id,pa,slot,uJ,h1,h2,?_⟩;have hA:=ha bJ pins s1 Z H1 _ I1 q1;rw[hs] at hA ⊢;refine Calls.callWith_builtin (by show (false||(bp bJ (aq es X.env)).any (·.1))=false;rw[dX]<;>rfl) (Calls.evalArgs_plain ?_);exact thn hA λus s2 ⟨vs,H2,I2,r2,q2⟩=>hm pins s2 Z H2 x vs v us Q I2 r1 r2 q2
end
def MtM (X:Cx) (id:String) (r:V->List V->Hp->VK->Prop):Prop:=
 ∀pins s Z H (x:V) (xs:List V) (v:aa) (us:List aa) (Q:VK),Inv X pins Z H s->Ah x v->Vals xs us->r x xs H Q ->
  ai (ag X.prog X.w) X.A (call (.builtin id) (v::us)) (EP X pins Z Q) X.xe s
theorem Vals.one:∀{x:V} {us:List aa},Vals [x] us->∃u,us=[u]/\Ah x u
 | _,_,.cons r .nil=>⟨_,rfl,r⟩
def Vals.two  (h:Vals [x,y] us):∃u v,us=[u,v]/\Ah x u/\Ah y v:=by
 cases h with
 | cons r t=>
  cases t with
  | cons q z=>cases z;exact⟨_,_,rfl,r,q⟩
def Vals.reverse  (h:Vals xs us):Vals xs.reverse us.reverse:=by
 induction h with
 | nil=>exact .nil
 | cons r t ih=>rw[Ss,Ss];exact Vals.append ih (.cons r .nil)
theorem Vals.rep  (h:Vals xs us):∀k:Nat,Vals (List.replicate k xs).flatten (List.replicate k us).flatten
 | 0=>.nil
 | k+1=>by
  rw[Qs,Qs,R1,R1];exact Vals.append h (Vals.rep h k)
theorem Xa7(ax):∀(k:Nat) (acc:List aa),
  List.foldl (λx1 x2=>x1++x2) acc.toArray (List.replicate k ax.toArray)=(acc++(List.replicate k ax).flatten).toArray
 | 0,acc=>by simp
 | k+1,acc=>by
  have e:acc.toArray++ax.toArray=(acc++ax).toArray:=by simp
  have e2:(acc++ax)++(List.replicate k ax).flatten=acc++(List.replicate (k+1) ax).flatten:=by
   rw[Qs,R1,Pa]
  rw[<-e2,<-Xa7 ax k (acc++ax),<-e,Qs,List.foldl_cons]
section
variable {X:Cx}{pins:List (ae×aM)}{Z:St}{H:Hp}{s:af}{l b:ae}{xs ys zs:List V}
def Inv.lset{ax its':List aa}{f}{t'}(I:Inv X pins Z H s)(hH:H l=some (.lst xs))
  (e:s.heap.get? l=some {cls:=.type "list",data:=.seq ax.toArray n}) (hf:f ax.toArray=its'.toArray) (hv:Vals ys its') (hz:ys.length<=sizeLine):
  Inv X pins Z (upd H l (.lst ys)) {s with heap:=s.heap.update l (aM.mapSeq f),toks:=t'}:=by
 have q:=PySem.IsL.update e f;rw[hf] at q;refine I.write (x:=l) (e:=l) (by rw[hH];exact trivial) (.inl rfl) (λb' u hb hu=>(am.get?_update_other s.heap (aM.mapSeq f) (Ne.symm hb)).trans hu) ⟨_,q⟩ ?_;exact⟨hz,its',_,hv,q⟩
def Inv.lnew{t'}(I:Inv X pins Z H s)(hv:Vals ys ax)(hz:ys.length<=sizeLine):
  Inv X pins Z (upd H s.heap.objs.size (.lst ys)) {s with heap:=s.heap.push {cls:=.type "list",data:=.seq ax.toArray},toks:=t'}:=
 I.laid (λ_ _ q=>Tj _ q) (Og _) ⟨hz,ax,0,hv,am.get?_push_size _ rfl⟩
def Inv.fresh(I:Inv X pins Z H s):H s.heap.objs.size=none:=I.hok.fresh (Og _)
def Inv.lstM(I:Inv X pins Z H s)(hH:H l=some (.lst xs)):xs.length<=sizeLine/\∃(ax:List aa) (n:Nat),Vals xs ax/\xs.length=ax.length/\s.heap.get? l=some {cls:=.type "list",data:=.seq ax.toArray n}:=by
 obtain⟨z,ax,n,r,e⟩:=I.hok l _ hH;exact⟨z,ax,n,r,r.length,e⟩
def Xhm(h:n<=sizeLine):au.List.listTooLong n=false:=by
 unfold au.List.listTooLong;exact Tf (by lia)
end
section
variable {X:Cx}
def Lu:V->List V->Hp->VK->Prop:=λx vs H Q=>∃l xs y,x = .ref l/\vs=[y]/\H l=some (.lst xs)/\xs.length<sizeLine/\Q .non (upd H l (.lst (xs++[y])))
def Jw:MtM X "list.append" Lu:=by
 intro pins s Z H x vs v us Q I rx rv h;obtain⟨l,xs,y,rfl,rfl,hH,hz,q⟩:=h;cases rx;obtain⟨u,rfl,ru⟩:=rv.one;obtain⟨z,ax,n,r,hl,e⟩:=I.lstM hH;refine cL F.slot_list_append ⟨_,e,rfl⟩ F.entry_list_append (F.args_list_append_2 _ _) (PySem.list_append l ax.toArray n u (by rw[Oh];lia)) ⟨e,?_⟩;refine⟨.non,_,I.lset (its':=ax++[u]) hH e (by simp) (r.append (.cons ru .nil)) ?_,rfl,q⟩;rw[Op,Pq]
 lia
def rCat:R2:=λx y H Q=>∃l b xs zs,x = .ref l/\y = .ref b/\H l=some (.lst xs)/\H b=some (.lst zs)/\xs.length+zs.length<=sizeLine/\∀p,H p=none->Q (.ref p) (upd H p (.lst (xs++zs)))
def Bj:OpR X (bu .Add) rCat:=by
 intro pins s Z H x y v u Q I rx ry h;obtain⟨l,b,xs,zs,rfl,rfl,hH,hB,hz,q⟩:=h;cases rx;cases ry;obtain⟨z,ax,n,r,hl,e⟩:=I.lstM hH;obtain⟨z2,fh,n2,r2,iZ,e2⟩:=I.lstM hB;refine PySem.P.add_list e e2 ?_ (by rw[Oh,Oh];lia);have ea:ax.toArray++fh.toArray=(ax++fh).toArray:=by simp
 rw[ea];exact⟨.ref _,_,I.lnew (t':=s.toks) (r.append r2) (by rw[Op];lia),rfl,q _ I.fresh⟩
def rRep:R2:=λx y H Q=>∃l k xs,x = .ref l/\y = .int k/\H l=some (.lst xs) /\ -(2 ^ 63)<=k/\k<2 ^ 63/\xs.length * k.toNat<=sizeLine /\
 ∀p,H p=none->Q (.ref p) (upd H p (.lst (List.replicate k.toNat xs).flatten))
def Xhn{α : Type}(xs:List α)(k):(List.replicate k xs).flatten.length=k * xs.length:=by
 induction k with
 | zero=>simp
 | succ k ih=>rw[Qs,R1,Op,ih,Nat.succ_mul,Nat.add_comm]
def Xho:OpR X (bu .Mult) rRep:=by
 intro pins s Z H x y v u Q I rx ry h;obtain⟨l,k,xs,rfl,rfl,hH,h1,h2,hz,q⟩:=h;cases rx;obtain⟨t,rfl⟩:=ry;obtain⟨z,ax,n,r,hl,e⟩:=I.lstM hH;have aI:ax.toArray.size * k.toNat<=sizeLine:=by rw[Oh,<-hl];exact hz
 have jl:¬ax.toArray.size * k.toNat > (2 ^ 63 - 1) / 8:=by
  have:(sizeLine:Nat)<=(2 ^ 63 - 1) / 8:=by decide
  lia
 have k8:¬(!au.List.listFitsIndex k)=true:=by
  rw[fitsIndex_both h1 h2];exact Oz
 have qb:¬au.List.listTooLong (ax.toArray.size * k.toNat)=true:=by
  rw[Xhm aI];exact Oz
 have fi:List.foldl (λx1 x2=>x1++x2) #[] (List.replicate (if ax.toArray.isEmpty=true then 0 else k.toNat) ax.toArray)=(List.replicate k.toNat ax).flatten.toArray:=by
  have f0:∀m:Nat,List.foldl (λx1 x2=>x1++x2) #[] (List.replicate m ax.toArray)=(List.replicate m ax).flatten.toArray:=λm=>by
   have:=Xa7 ax m [];rw[Q7] at this;exact this
  rw[f0];cases ax with
  | nil=>simp
  | cons a r'=>rw[Tc (by simp)]
 refine wpAny_binaryOp_repeat_ref (T := "list") (U := "int") (by decide) ⟨_,e,rfl⟩ (λs'=>kw s' k t) noFill_list_mul F.fills_int_mul F.slot_int_rmul repeat_list F.slot_int_index.lookup
  (cL F.slot_int_rmul (kw s k t) F.entry_int_rmul (F.args_int_rmul_2 _ _) (int___rmul___int_list k t l ax.toArray n)
   ⟨e,rfl,⟨_,e,rfl⟩,cL F.slot_list_mul ⟨_,e,rfl⟩ F.entry_list_mul (F.args_list_mul_2 _ _) (AutoListH.list___mul___list_int_3 l ax.toArray n k t k8 jl qb) ⟨e,?_⟩⟩)
 rw[fi];exact⟨.ref _,_,I.lnew (t':=s.toks) (r.rep k.toNat) (by rw[Xhn,Nat.mul_comm];exact hz),rfl,q _ I.fresh⟩
end
section
variable {prog:ao}{w:av}{A:aw}{E:Zb}{s:af}
end
section
variable {X:Cx}
end
section
variable {κ : Type} [DecidableEq κ]
def Ay (kvs:List (κ × V)) (k : κ):Option V:=(kvs.find? λkv=>decide (kv.1=k)).map (·.2)
def Be (kvs:List (κ × V)) (k : κ) (v:V):List (κ × V):=
 if (kvs.any λkv=>decide (kv.1=k))=true then kvs.map (λkv=>if kv.1=k then (kv.1,v) else kv) else kvs++[(k,v)]
def Xa8 (kvs:List (κ × V)) (k : κ):List (κ × V):=kvs.filter λkv=>decide (kv.1≠k)
def Dm{p}{k : κ}(e:p.1=k):Ay (p::r) k=some p.2:=by simp[Ay,Rj,e]
def Dn{p}{k : κ}(e:¬p.1=k):Ay (p::r) k=Ay r k:=by simp[Ay,Rj,e]
theorem Ey(k):∀kvs:List (κ × V),(kvs.any λkv=>decide (kv.1=k))=(Ay kvs k).isSome
 | []=>rfl
 | p::r=>by
  rw[Sb];by_cases e:p.1=k
  ·simp only[Dm e,Te e,Bool.true_or,Sn]
  ·rw[Dn e,Tf e,Bool.false_or];exact Ey k r
theorem Xa9(k j)(y):∀kvs:List (κ × V),Ay (kvs.map λkv=>if kv.1=k then (kv.1,y) else kv) j=(Ay kvs j).map λx=>if j=k then y else x
 | []=>rfl
 | p::r=>by
  have ih:=Xa9 k j y r;rw[O8];by_cases h:p.1=k
  ·rw[Td h];by_cases e:p.1=j
   ·rw[Dm (p:=(p.1,y)) e,Dm e,Qt,Td (e.symm.trans h)]
   ·rw[Dn (p:=(p.1,y)) e,Dn e,ih]
  ·rw[Tc h];by_cases e:p.1=j
   ·rw[Dm (p:=p) e,Dm e,Qt,Tc (λz=>h (e.trans z))]
   ·rw[Dn (p:=p) e,Dn e,ih]
theorem Xba(k j)(y):∀kvs:List (κ × V),Ay kvs k=none->Ay (kvs++[(k,y)]) j=if j=k then some y else Ay kvs j
 | [],_=>by
  by_cases e:k=j
  ·rw[Td e.symm];exact Dm (p:=(k,y)) e
  ·rw[Tc (λz=>e z.symm)];exact Dn (p:=(k,y)) e
 | p::r,hn=>by
  rw[List.cons_append];have hk:¬p.1=k:=λz=>by rw[Dm z] at hn;cases hn
  rw[Dn hk] at hn;have ih:=Xba k j y r hn;by_cases e:p.1=j
  ·rw[Dm e,Dm e,Tc (λz=>hk (e.trans z))]
  ·rw[Dn e,Dn e,ih]
def Ga(kvs)(k j : κ)(y):Ay (Be kvs k y) j=if j=k then some y else Ay kvs j:=by
 unfold Be;by_cases a:(kvs.any λkv=>decide (kv.1=k))=true
 ·rw[Td a,Xa9];rw[Ey] at a;by_cases e:j=k
  ·obtain⟨x,hx⟩:=Qm.mp a;rw[Td e,e,hx,Qt,Td rfl]
  ·rw[Tc e];cases Ay kvs j with
   | none=>rfl
   | some x=>rw[Qt,Tc e]
 ·rw[Tc a];refine Xba k j y kvs ?_;rw[Ey] at a;cases q:Ay kvs k with
  | none=>rfl
  | some x=>rw[q] at a;exact(a rfl).elim
def Gb(kvs)(k : κ)(v):(Be kvs k v).length<=kvs.length+1:=by
 unfold Be;split
 ·rw[Oc];lia
 ·rw[Op,Pe,Qu];lia
def He{k : κ}(v)(h:Ay kvs k=none):Be kvs k v=kvs++[(k,v)]:=by
 unfold Be;rw[Ey,h];exact Tc (by decide)
def Cy.isSome_eq  (r:Cy o u):o.isSome=u.isSome:=by
 cases o with
 | none=>cases u with
  | none=>rfl
  | some _=>exact(show False from r).elim
 | some _=>cases u with
  | none=>exact(show False from r).elim
  | some _=>rfl
def Cy.getD{o}   (r:Cy o u)(rd:Ah d d'):Ah (o.getD d) (u.getD d'):=by
 cases o with
 | none=>cases u with
  | none=>exact rd
  | some _=>exact(show False from r).elim
 | some _=>cases u with
  | none=>exact(show False from r).elim
  | some _=>exact r
def KV.val  (r:KV kvs vs) (k : κ):Cy (Ay kvs k) (dY vs k):=by
 unfold KV at r
 induction r with
 | nil=>exact True.intro
 | @cons p q ps qs h t ih=>
  obtain⟨h1,h2⟩:=h;by_cases e:p.1=k
  ·have e':q.1=k:=h1.symm.trans e;have b:dY (q::qs) k=some q.2:=by simp[dY,Rj,e']
   rw[Dm e,b];exact h2
  ·have e':¬q.1=k:=λz=>e (h1.trans z);have b:dY (q::qs) k=dY qs k:=by simp[dY,Rj,e']
   rw[Dn e,b];exact ih
def KV.any  (r:KV kvs vs) (k : κ):(kvs.any λkv=>decide (kv.1=k))=vs.any λkv=>decide (kv.1=k):=by
 unfold KV at r
 induction r with
 | nil=>rfl
 | cons h t ih=>rw[Sb,Sb,ih,h.1]
def KV.repl   (r:KV kvs vs) (k : κ)  (ry:Ah y u):
  KV (kvs.map λkv=>if kv.1=k then (kv.1,y) else kv) (vs.map λkv=>if kv.1=k then (kv.1,u) else kv):=by
 unfold KV at r ⊢
 induction r with
 | nil=>exact .nil
 | @cons p q ps qs h t ih=>
  rw[O8,O8];refine .cons ?_ ih;obtain⟨h1,h2⟩:=h;by_cases e:p.1=k
  ·rw[Td e,Td (h1.symm.trans e)];exact⟨h1,ry⟩
  ·rw[Tc e,Tc (λz=>e (h1.trans z))];exact⟨h1,h2⟩
def KV.put   (r:KV kvs vs) (k : κ)  (ry:Ah y u):KV (Be kvs k y) (stored vs k u):=by
 unfold Be stored;rw[r.any k];by_cases e:(vs.any λkv=>decide (kv.1=k))=true
 ·rw[Td e,Td e];exact r.repl k ry
 ·rw[Tc e,Tc e];exact Paired.snoc r ⟨rfl,ry⟩
def KV.keys{kvs:List (κ × V)}(r:KV kvs vs):kvs.map (·.1)=vs.map (·.1):=by
 unfold KV at r
 induction r with
 | nil=>rfl
 | cons h t ih=>rw[O8,O8,ih,h.1]
def KV.length{kvs:List (κ × V)}(r:KV kvs vs):kvs.length=vs.length:=Paired.length r
end
def Fp    (r:Ah (kV k) u):(A7 P w).is k u=true:=by
 cases k with
 | inl i=>obtain⟨t,e⟩:=(show ∃t,u=aa.int i t from r);subst e;exact Xgd P w i t
 | inr x=>obtain⟨t,e⟩:=(show ∃t,u=aa.str x t from r);subst e;exact Xge P w x t
theorem Xbb  : ∀{ks:List Key} {us:List aa},Vals (ks.map kV) us->ItemsAre (A7 P w) ks us
 | [],_,r=>by rw[S0] at r;cases r;exact .nil
 | k::ks,_,r=>by
  rw[O8] at r;cases r with
  | cons h t=>exact .cons (Fp h) (Xbb t)
abbrev KT (H:Hp):List (List Key×V)->List (List Key×ae×aa)->Prop:=Paired λp q=>p.1=q.1/\H q.2.1=some (.tup (p.1.map kV))/\Ah p.2 q.2.2
def KT.val   (r:KT H kvs xs) (k):Cy (Ay kvs k) ((fO xs k).map (·.2)):=by
 induction r with
 | nil=>exact True.intro
 | @cons p q ps qs h t ih=>
  obtain⟨h1,_,h2⟩:=h;by_cases e:p.1=k
  ·have e':q.1=k:=h1.symm.trans e;have b:fO (q::qs) k=some q.2:=by simp[fO,Rj,e']
   rw[Dm e,b];exact h2
  ·have e':¬q.1=k:=λz=>e (h1.trans z);have b:fO (q::qs) k=fO qs k:=by simp[fO,Rj,e']
   rw[Dn e,b];exact ih
def KT.repl    (r:KT H kvs xs) (k)  (ry:Ah y u):
  KT H (kvs.map λkv=>if kv.1=k then (kv.1,y) else kv) (xs.map (putAt k u)):=by
 induction r with
 | nil=>exact .nil
 | @cons p q ps qs h t ih=>
  rw[O8,O8];refine .cons ?_ ih;obtain⟨h1,h2,h3⟩:=h;unfold putAt;by_cases e:p.1=k
  ·rw[Td e,Td (h1.symm.trans e)];exact⟨h1,h2,ry⟩
  ·rw[Tc e,Tc (λz=>e (h1.trans z))];exact⟨h1,h2,h3⟩
def KT.put    (r:KT H kvs xs) (k)   (hb:H b=some (.tup (k.map kV))) (ry:Ah y u):
  KT H (Be kvs k y) (storedH xs k b u):=by
 have e:(kvs.any λkv=>decide (kv.1=k))=(fO xs k).isSome:=by
  rw[Ey,(r.val k).isSome_eq,Option.isSome_map]
 unfold Be storedH;rw[e];by_cases q:(fO xs k).isSome=true
 ·rw[Td q,Td q];exact r.repl k ry
 ·rw[Tc q,Tc q];exact Paired.snoc r ⟨rfl,hb,ry⟩
def KT.keeps   (r:KT H kvs xs) (ht:∀b ys,H b=some (.tup ys)->H' b=some (.tup ys)):KT H' kvs xs:=
 Paired.mapP r λ_ _ z=>⟨z.1,ht _ _ z.2.1,z.2.2⟩
section
variable {P:ao}{w:av}{H:Hp}{h:am}{a:ae}
def Xbc(ok:HOk P w H h)(e:Rd H a u):A4 P w H h a u:=e.ok ok
def Gc(ok:HOk P w H h)(e:Rd H a (.dK kvs)):kvs.length<=sizeLine/\(a==bg)=false/\∃vs,KV kvs vs/\h.DictOf (A7 P w) a vs:=
 show A4 P w H h a (.dK kvs) from Xbc ok e
def Lv(ok:HOk P w H h)(e:H a=some (.dK kvs)):kvs.length<=sizeLine/\(a==bg)=false/\∃vs,KV kvs vs/\h.DictOf (A7 P w) a vs:=Gc ok (.inl e)
def Jx(ok:HOk P w H h)(e:H a=some (.tup (ks.map kV))):(db (A7 P w)).is h ks a:=by
 obtain⟨_,ax,r,o,h1,h2,n,h3⟩:=(show A4 P w H h a (.tup (ks.map kV)) from ok a _ e);exact⟨o,ax.toArray,n,h1,h2,h3,by simpa using Xbb r⟩
def Hf(ok:HOk P w H h)(e:Rd H a (.dT kvs)):kvs.length<=sizeLine/\(a==bg)=false /\
  ∃xs,KT H kvs xs/\h.DictOfH (db (A7 P w)) a xs:=by
 obtain⟨z,y,xs,r,o,es,ep,h1,h2,h3,h4,h5⟩:=(show A4 P w H h a (.dT kvs) from Xbc ok e);refine⟨z,y,xs,r,o,es,ep,h1,h2,h3,h4,λx hx=>?_,h5⟩;have all:∀{l:List (List Key×V)} {m:List (List Key×ae×aa)},KT H l m->∀x∈m,(db (A7 P w)).is h x.1 x.2.1:=by
  intro l m q
  induction q with
  | nil=>intro x hx;exact nomatch hx
  | @cons p q ps qs hq t ih=>
   intro x hx;rcases Ot.mp hx with e | hx
   ·subst e;exact Jx ok (by rw[<-hq.1];exact hq.2.1)
   ·exact ih x hx
 exact all r x hx
def Xhp(ok:HOk P w H h)(e:H a=some (.dT kvs)):kvs.length<=sizeLine/\(a==bg)=false /\
  ∃xs,KT H kvs xs/\h.DictOfH (db (A7 P w)) a xs:=Hf ok (.inl e)
end
def DGet (H:Hp) (a:ae) (y:V) (r:Option V):Prop:=
 (∃kvs k,Rd H a (.dK kvs)/\y=kV k/\r=Ay kvs k) \/ ∃kvs k b,Rd H a (.dT kvs)/\y = .ref b/\H b=some (.tup (k.map kV))/\r=Ay kvs k
def DPut (H:Hp) (a:ae) (y v:V) (H':Hp):Prop:=
 (∃kvs k,H a=some (.dK kvs)/\y=kV k/\kvs.length<sizeLine/\H'=upd H a (.dK (Be kvs k v))) \/
 ∃kvs k b,H a=some (.dT kvs)/\y = .ref b/\H b=some (.tup (k.map kV))/\kvs.length<sizeLine/\H'=upd H a (.dT (Be kvs k v))
def DGet.k   {k} (e:H a=some (.dK kvs)):DGet H a (kV k) (Ay kvs k):=.inl ⟨kvs,k,.inl e,rfl,rfl⟩
def DPut.k   {k} {v} (e:H a=some (.dK kvs)) (hl:kvs.length<sizeLine):DPut H a (kV k) v (upd H a (.dK (Be kvs k v))):=.inl ⟨kvs,k,e,rfl,hl,rfl⟩
section
variable {X:Cx}{pins:List (ae×aM)}{Z:St}{H:Hp}{s:af}{a:ae}{y v:V}{u r:aa}{o:Option V}{A:aw}{E:Zb}
def Inv.big(I:Inv X pins Z H s):bg<s.heap.objs.size:=by
 have h:ak<s.heap.objs.size:=(I.mod.glob.keeps I.bk).lt;exact Qj (by decide) h
def d_getItem(hu:A.units+1<bj)(I:Inv X pins Z H s)(g:DGet H a y (some v))(ry:Ah y u)(h:∀w' s',Inv X pins Z H s'->Ah v w'->Q w' s'):
  ai (ag X.prog X.w) A (dP (.ref a) u) Q E s:=by
 rcases g with ⟨kvs,k,e,ey,l⟩ | ⟨kvs,k,b,e,ey,eb,l⟩
 ·subst ey;obtain⟨z,hd,vs,cP,dd⟩:=Gc I.hok e;obtain⟨w',hw,jj⟩:=Cy.some_of (v:=v) (o:=dY vs k) (by rw[l];exact cP.val k);exact wpAny_getItem_of (Fp ry) dd.mapOf hw (h w' _ (I.tok _) jj)
 ·subst ey;cases (show u=aa.ref b from ry);obtain⟨z,hd,xs,cP,dd⟩:=Hf I.hok e;obtain⟨w',hw,jj⟩:=Cy.some_of (v:=v) (o:=(fO xs k).map (·.2)) (by rw[l];exact cP.val k);obtain⟨p,hp,m9⟩:=Rz.mp hw;refine wpAny_getItem_heap (dG hu) (Jx I.hok eb) dd hp ?_;rw[m9];exact h w' _ (I.tok _) jj
def Hg   (I:Inv X pins Z H s) (mu:Mut (H a)) (hs:am.SameBut a s.heap h') (he:∃q,h'.get? a=some q) (new:A4 X.prog X.w (upd H a ob) h' a ob):
  Inv X pins Z (upd H a ob) {s with heap:=h',toks:=t'}:=
 I.write (x:=a) (e:=a) mu (.inl rfl) (λb q hb z=>(hs.2 b hb).trans z) he new
def Lw      (z:kvs.length<=sizeLine) (hd:(a==bg)=false) (cP:KV kvs vs) (dd:h'.DictOf (A7 P w) a vs):
  A4 P w H' h' a (.dK kvs):=⟨z,hd,vs,cP,dd⟩
def Xhq  (hu:A.units+1<bj) (I:Inv X pins Z H s) (g:DPut H a y v H') (ry:Ah y u) (rv:Ah v r) (h:∀s',Inv X pins Z H' s'->Q () s'):
  ai (ag X.prog X.w) A (uA (.ref a) u r) Q E s:=by
 rcases g with ⟨kvs,k,e,ey,l,eH⟩ | ⟨kvs,k,b,e,ey,eb,l,eH⟩
 ·subst ey eH;obtain⟨z,hd,vs,cP,dd⟩:=Lv I.hok e;have hz:vs.length<=sizeLine:=by rw[<-cP.length];exact z
  have hl:(Be kvs k v).length<=sizeLine:=by have:=Gb kvs k v;lia
  refine wpAny_setItem_pairs (hsz:=hz) (Fp ry) dd λh' ja hs=>h _ ?_;have he:∃q,h'.get? a=some q:=let ⟨q,_,_,hq,_⟩:=ja; ⟨q,hq⟩;exact Hg I (by rw[e];exact True.intro) hs he (Lw hl hd (cP.put k rv) ja)
 ·subst ey eH;cases (show u=aa.ref b from ry);obtain⟨z,hd,xs,cP,dd⟩:=Xhp I.hok e;have hz:xs.length<=sizeLine:=by rw[<-Paired.length cP];exact z
  have hl:(Be kvs k v).length<=sizeLine:=by have:=Gb kvs k v;lia
  refine wpAny_setItem_heap (hsz:=hz) (dG hu) (Jx I.hok eb) dd λh' ja hs=>h _ ?_;obtain⟨q,es,ep,hq,h2,h3,h4,_,h5⟩:=ja;refine Hg I (by rw[e];exact True.intro) hs ⟨q,hq⟩ ⟨hl,hd,_,(cP.put k eb rv).keeps λc ys ec=>?_,q,es,ep,hq,h2,h3,h4,h5⟩;rw[Ad (Xaa ec e (λz=>nomatch z))];exact ec
end
section
variable {X:Cx}{pins:List (ae×aM)}{Z:St}{H:Hp}{s:af}{a:ae}{kvs:List (Key×V)}{k:Key}{u:aa}{A:aw}{E:Zb}
end
def Xbd (i:aC):Prop:=∀ov iv,subscripted i false ov iv=operate [ov,iv] (dP ov iv)
def Xhr         {T id} (hl:fK (.type T) "__getitem__" = pure (some (.builtin id))) (hs:Xbd slice)
  (h:ai (ag prog w) A (eval value env) (λo s₁=>ai (ag prog w) A (eval slice env) (λi s₂=>s₂.TypeIs o T/\ai (ag prog w) A (dP o i) Q E s₂) E s₁) E s):
  ai (ag prog w) A (eval (.Subscript value slice pos) env) Q E s:=by
 refine fM (aG h (λo s₁ h₁=>aG h₁ (λi s₂ h₂=>?_) λ_ _ x=>x) λ_ _ x=>x);obtain⟨hT,h₂⟩:=h₂;unfold gT;refine S7 ?_;rw[getitemInPython_of_ne hT.not_modules];refine S7 (oI hT hl ?_);have fin:ai (ag prog w) A (subscripted slice false o i) (λr s₃=>ai (ag prog w) A (letTemporaryGo value o r >>= λ_=>pure r) Q E s₃) E s₂:=by
  rw[hs o i];exact wpAny_operating (aG h₂ (λr s₃ h₃=>S7 (wpAny_letTemporaryGo (S8 h₃))) λ_ _ x=>x)
 first
  | exact S8 (S7 fin)
  | exact S7 (S8 (S7 fin))
  | exact S7 fin
def Xhs        (I:Inv X pins Z H s) (g:DGet H a y o):s.TypeIs (.ref a) "dict" := by
 rcases g with ⟨kvs,k,e,_,_⟩ | ⟨kvs,k,b,e,_,_,_⟩
 ·obtain⟨_,_,vs,_,dd⟩:=Gc I.hok e;exact dd.typeIs
 ·obtain⟨_,_,xs,_,dd⟩:=Hf I.hok e;exact dd.typeIs
def Xht (td ty:TE):TE:=fun Z H Q=>td Z H λx H1=>ty Z H1 λy H2=>∃a v,x = .ref a/\DGet H2 a y (some v)/\Q v H2
def tDIn (ty td:TE):TE:=fun Z H Q=>ty Z H λy H1=>td Z H1 λx H2=>∃a o,x = .ref a/\DGet H2 a y o/\Q (.bl o.isSome) H2
def Xhu (td ty tv:TE):TS:=λD Z H=>tv Z H λv H1=>td Z H1 λx H2=>ty Z H2 λy H3=>∃a H4,x = .ref a/\DPut H3 a y v H4/\D.nx Z H4
def sDAug (td ty tv:TE) (rd:V->V->Hp->VK->Prop):TS:=λD Z H=>td Z H λx H1=>ty Z H1 λy H2=>∃a v,x = .ref a/\DGet H2 a y (some v) /\
 tv Z H2 λy2 H3=>rd v y2 H3 λz H4=>∃H5,DPut H4 a y z H5/\D.nx Z H5
def sDDel (td ty:TE):TS:=λD Z H=>td Z H λx H1=>ty Z H1 λy H2=>∃a kvs k,x = .ref a/\H2 a=some (.dK kvs)/\y=kV k/\(Ay kvs k).isSome=true/\D.nx Z (upd H2 a (.dK (Xa8 kvs k)))
section
variable {X:Cx}{o i e value:aC}{pos jh uG:ce}{td ty tv:TE}
def Cr(hu:X.A.units+1<bj)(ho:PE X o td)(hi:PE X i ty)(hs:Xbd i):PE X (.Subscript o i pos) (Xht td ty):=by
 intro pins s Z H Q I h;refine Xhr PySem.F.slot_dict_getitem.lookup hs (thn (ho pins s Z H _ I h) λu s1 ⟨x,H1,I1,rx,q1⟩=>thn (hi pins s1 Z H1 _ I1 q1) λiv s2 ⟨y,H2,I2,ry,a,v,ex,g,q2⟩=>?_);subst ex;obtain rfl:u=aa.ref a:=rx;exact⟨Xhs I2 g,d_getItem hu I2 g ry λw' s3 I3 jj=>⟨v,H2,I3,jj,q2⟩⟩
def Xhv(hu:X.A.units+1<bj)(ho:PE X o td)(hi:PE X i ty)(hv:PE X value tv)(hs:dc value (some (.Subscript o i jh)) pos.line X.env=pure false):
  PS X (.Assign [.Subscript o i jh] value pos) (Xhu td ty tv):=by
 intro pins s Z H D I h;refine wpAny_Assign_Subscript (thn (hv pins s Z H _ I h) λr s1 ⟨v,H1,I1,rv,q1⟩=>thn (ho pins s1 Z H1 _ I1 q1) λu s2 ⟨x,H2,I2,rx,q2⟩=>thn (hi pins s2 Z H2 _ I2 q2) λiv s3 ⟨y,H3,I3,ry,a,H4,ex,g,q3⟩=>?_) hs;subst ex;obtain rfl:u=aa.ref a:=rx;exact Xhq hu I3 g ry rv λs4 I4=>⟨Z,H4,I4,q3⟩
end
def Lx   (h:am) (hb:bg<h.objs.size):A4 P w H (h.push {cls:=.type "dict",data:=.dict #[]}) h.objs.size (.dK []):=
 ⟨Pg _,beq_eq_false_iff_ne.mpr (Ne.symm (Oq hb)),[],.nil,am.DictOf.new h⟩
def Xhw:TE:=λ_ H Q=>∀p,H p=none->Q (.ref p) (upd H p (.dK []))
section
variable {X:Cx}{pos:ce}
def Xhx:PE X (.Dict [] [] pos) Xhw:=λpins s Z H Q I h=>
 wpAny_Dict_empty ⟨.ref s.heap.objs.size,_,I.laid (a:=s.heap.objs.size) (o:=.dK []) (t':=s.toks) (λ_ _ q=>Tj _ q) (Og _) (Lx s.heap I.big),rfl,h _ (I.hok.fresh (Og _))⟩
end
def Ly:List (TE×TE)->St->Hp->(List (V×V)->Hp->Prop)->Prop
 | [],_,H,Q=>Q [] H
 | (tk,tv)::r, Z,H,Q=>tk Z H λx H1=>tv Z H1 λy H2=>Ly r Z H2 λps H3=>Q ((x,y)::ps) H3
abbrev VV:List (V×V)->List (aa×aa)->Prop:=Paired λp q=>Ah p.1 q.1/\Ah p.2 q.2
def PPs (X:Cx) (pos:ce) (keys:List (Option aC)) (fj:List aC) (mB:List (TE×TE)):Prop:=
 ∀pins s Z H (Q:List (V×V)->Hp->Prop),Inv X pins Z H s->Ly mB Z H Q ->
  ai (ag X.prog X.w) X.A (evalPairs (pairTrees keys fj X.env pos)) (λvs s'=>∃ps H',Inv X pins Z H' s'/\VV ps vs/\Q ps H') X.xe s
def Xhy  : PPs X pos [] [] []:=λpins s Z H Q I h=>pairTrees_nil_walk ⟨[],H,I,.nil,h⟩
def Xbe       (hk:PE X k tk) (hv:PE X v tv) (hr:PPs X pos ks vs mB):
  PPs X pos (some k::ks) (v::vs) ((tk,tv)::mB):=λpins s Z H Q I h=>
 pairTrees_cons_walk (thn (hk pins s Z H _ I h) λu s1 ⟨x,H1,I1,rx,q1⟩=>thn (hv pins s1 Z H1 _ I1 q1) λw2 s2 ⟨y,H2,I2,ry,q2⟩=>
  thn (hr pins s2 Z H2 _ I2 q2) λws s3 ⟨ps,H3,I3,cP,q3⟩=>⟨(x,y)::ps,H3,I3,.cons ⟨rx,ry⟩ cP,q3⟩)
def mergeK (kvs more:List (Key×V)):List (Key×V):=more.foldl (λacc kv=>Be acc kv.1 kv.2) kvs
def KV.merge:∀{more:List (Key×V)} {rs:List (Key×aa)} {kvs:List (Key×V)} {vs:List (Key×aa)},KV more rs->KV kvs vs->KV (mergeK kvs more) (merged vs rs):=by
 intro more rs kvs vs r;unfold KV at r
 induction r generalizing kvs vs with
 | nil=>intro q;exact q
 | @cons p q ps qs h t ih=>
  intro r0;have e:KV (Be kvs p.1 p.2) (stored vs q.1 q.2):=by
   have:=r0.put p.1 h.2;rw[<-h.1];exact this
  exact ih e
theorem Xbf:∀more kvs,(mergeK kvs more).length<=kvs.length+more.length
 | [],kvs=>by show kvs.length<=kvs.length+0;lia
 | p::r,kvs=>by
  have h1:=Xbf r (Be kvs p.1 p.2);have h2:=Gb kvs p.1 p.2;show (mergeK (Be kvs p.1 p.2) r).length<=_;rw[Pe];lia
theorem Xbg{P}{w}:∀{kvs:List (Key×V)} {ws:List (aa×aa)},VV (kvs.map λkv=>(kV kv.1,kv.2)) ws->∃rs,Carries (A7 P w) ws rs/\KV kvs rs
 | [],_,r=>by rw[S0] at r;cases r;exact⟨[],True.intro,.nil⟩
 | p::kvs,_,r=>by
  rw[O8] at r;cases r with
  | @cons a b as bs h t=>
   obtain⟨rs,c,q⟩:=Xbg (P:=P) (w:=w) t;obtain⟨b1,b2⟩:=b;exact⟨(p.1,b2)::rs,⟨Fp h.1,rfl,c⟩,.cons ⟨rfl,h.2⟩ q⟩
def Xhz (mB:List (TE×TE)):TE:=fun Z H Q=>∀p,H p=none->Ly mB Z (upd H p (.dK [])) λps H2=>H2 p=some (.dK [])/\∃kvs:List (Key×V),ps=kvs.map (λkv=>(kV kv.1,kv.2))/\kvs.length<=15/\Q (.ref p) (upd H2 p (.dK (mergeK [] kvs)))
def Xh0     (h:PPs X pos keys fj mB) (bS:keys.all (·.isSome)=true) (hl:keys.length=fj.length) (h0:keys≠[])
  (AH:keys.length<=15):PE X (.Dict keys fj pos) (Xhz mB):=by
 intro pins s Z H Q I q;have hn:=I.hok.fresh (Og s.heap.objs.size);have I1:=I.laid (a:=s.heap.objs.size) (o:=.dK []) (h':=s.heap.push {cls:=.type "dict",data:=.dict #[]}) (t':=s.toks) (λ_ _ q=>Tj _ q) (Og _) (Lx s.heap I.big);refine wpAny_Dict_walk (knd:=A7 X.prog X.w) bS hl h0 AH (thn (h pins _ Z _ _ I1 (q _ hn)) λws s2 ⟨ps,H2,I2,cP,e,kvs,ep,lk,q2⟩=>?_);subst ep;obtain⟨rs,c,rk⟩:=Xbg (P:=X.prog) (w:=X.w) cP;obtain⟨z,hd,IT,r0,dd⟩:=Lv I2.hok e;cases r0;refine⟨rs,c,dd,λh' ja hs=>⟨.ref s.heap.objs.size,_,?_,rfl,q2⟩⟩;have hz:(mergeK [] kvs).length<=sizeLine:=by
  have h1:=Xbf kvs [];rw[Qu] at h1;rw[Tb];lia
 have he:∃q,h'.get? s.heap.objs.size=some q:=let ⟨q,_,_,hq,_⟩:=ja; ⟨q,hq⟩;exact Hg I2 (by rw[e];exact True.intro) hs he (Lw hz hd (rk.merge .nil) ja)
structure M1 (X:Cx) (o:aC) (m:aj) (dm:ce) (e:aC) (bJ:ce):Prop where
 base:dD o m X.env (eval o X.env)=eval o X.env
 few:((bp bJ (aq [e] X.env)).all (λx => !x.1)&&(c5 bJ (bE [] X.env)).all (λx=>x.1.isSome)
  && decide (([e]:List aC).length+([]:List cE).length+(if ([]:List cE).isEmpty then 0 else 1)<30))=true
 line:(dm.endLine==bJ.line)=true
 trees:bp bJ (aq [e] X.env)=[(false,eval e X.env)]
structure M2 (X:Cx) (o:aC) (m:aj) (dm:ce) (e f:aC) (bJ:ce):Prop where
 base:dD o m X.env (eval o X.env)=eval o X.env
 few:((bp bJ (aq [e,f] X.env)).all (λx => !x.1)&&(c5 bJ (bE [] X.env)).all (λx=>x.1.isSome)
  && decide (([e,f]:List aC).length+([]:List cE).length+(if ([]:List cE).isEmpty then 0 else 1)<30))=true
 line:(dm.endLine==bJ.line)=true
 trees:bp bJ (aq [e,f] X.env)=[(false,eval e X.env),(false,eval f X.env)]
def IsD (H:Hp) (a:ae):Prop:=(∃kvs,Rd H a (.dK kvs)) \/ ∃kvs,Rd H a (.dT kvs)
def Xh1      (I:Inv X pins Z H s) (d:IsD H a):
  s.TypeIs (.ref a) "dict" /\ (∀b,aa.ref a = .ref b->∃ob,s.heap.get? b=some ob/\ob.dict=none)/\(a==bg)=false:=by
 rcases d with ⟨kvs,e⟩ | ⟨kvs,e⟩
 ·obtain⟨_,hd,vs,_,dd⟩:=Gc I.hok e;refine⟨dd.typeIs,λb q=>?_,hd⟩;cases q;obtain⟨ob,_,_,h1,h2,_⟩:=dd;exact⟨ob,h1,h2.2.1⟩
 ·obtain⟨_,hd,xs,_,dd⟩:=Hf I.hok e;refine⟨dd.typeIs,λb q=>?_,hd⟩;cases q;obtain⟨ob,_,_,h1,h2,_⟩:=dd;exact⟨ob,h1,h2.2.1⟩
section
variable {X:Cx}{pins:List (ae×aM)}{Z:St}{H:Hp}{s:af}{a:ae}{y d:V}{u r:aa}{o:Option V}{A:aw}{E:Zb}
def Xh2(hu:A.units+1<bj)(I:Inv X pins Z H s)(g:DGet H a y o)(ry:Ah y u)(rd:Ah d r)(h:∀w' s',Inv X pins Z H s'->Ah (o.getD d) w'->Q w' s'):
  ai (ag X.prog X.w) A (call (.builtin "dict.get") [.ref a,u,r]) Q E s:=by
 rcases g with ⟨kvs,k,e,ey,l⟩ | ⟨kvs,k,b,e,ey,eb,l⟩
 ·subst ey;obtain⟨z,hd,vs,cP,dd⟩:=Gc I.hok e;refine uK PySem.F.slot_dict_get dd.typeIs PySem.F.entry_dict_get (PySem.F.args_dict_get_3 _ _ _) (meets_dict_get_default (A7 X.prog X.w) a (Fp ry) hd r) ⟨_,dd.mapOf,h _ _ (I.tok _) ?_⟩;rw[l];exact(cP.val k).getD rd
 ·subst ey;cases (show u=aa.ref b from ry);obtain⟨z,hd,xs,cP,dd⟩:=Hf I.hok e;refine uK PySem.F.slot_dict_get dd.typeIs PySem.F.entry_dict_get (PySem.F.args_dict_get_3 _ _ _) (meetsH_dict_get_default (db (A7 X.prog X.w)) a b hd r) ⟨dG hu,k,xs,Jx I.hok eb,dd,h _ _ (I.tok _) ?_⟩;rw[l];exact(cP.val k).getD rd
end
def Xh3 (td ty tx:TE):TE:=fun Z H Q=>td Z H λx H1=>∃a,x = .ref a/\IsD H1 a/\ty Z H1 λy H2=>tx Z H2 λz H3=>∃o,DGet H3 a y o/\Q (o.getD z) H3
def Xqp (td ty:TE):TE:=fun Z H Q=>td Z H λx H1=>∃a,x = .ref a/\IsD H1 a/\ty Z H1 λy H2=>∃kvs k v,H2 a=some (.dK kvs)/\y=kV k/\Ay kvs k=some v/\Q v (upd H2 a (.dK (Xa8 kvs k)))
section
variable {X:Cx}{o e f:aC}{dm bJ:ce}{td ty tx:TE}
def Lz(hu:X.A.units+1<bj)(ho:PE X o td)(he:PE X e ty)(hf:PE X f tx)(m:M2 X o "get" dm e f bJ):PE X (.Call (.Attribute o "get" dm) [e,f] [] bJ) (Xh3 td ty tx):=by
 intro pins s Z H Q I h;refine wpAny_Call_method m.base m.few m.line PySem.F.plainAttrs_dict PySem.F.slot_dict_get PySem.F.type_dict_get (thn (ho pins s Z H _ I h) λu s1 ⟨x,H1,I1,rx,a,ex,d,q1⟩=>?_);subst ex;obtain rfl:u=aa.ref a:=rx;obtain⟨t1,t2,_⟩:=Xh1 I1 d;refine⟨t1,t2,?_⟩;rw[m.trees];refine Calls.callWith_builtin rfl (Calls.evalArgs_plain (Calls.spliced_cons (thn (he pins s1 Z H1 _ I1 q1) λiv s2 ⟨y,H2,I2,ry,q2⟩=>
  Calls.spliced_cons (thn (hf pins s2 Z H2 _ I2 q2) λfv s3 ⟨z,H3,I3,rz,ov,g,q3⟩=>Calls.spliced_nil ?_))))
 exact Xh2 hu I3 g ry rz λw' s4 I4 jj=>⟨_,H3,I4,jj,q3⟩
end
section
variable {X:Cx}{pins:List (ae×aM)}{Z:St}{H:Hp}{s:af}{a:ae}{kvs:List (Key×V)}{A:aw}{E:Zb}
end
section
variable {X:Cx}{pins:List (ae×aM)}{Z:St}{H:Hp}{s:af}{a:ae}{y:V}{u:aa}{A:aw}{E:Zb}
end
end L2
namespace Att
open PySem PySem.W PySem.Calls PyProof.Rows
def Xh4  : ∀ns vs,WellAll P h vs (ns.map WData.int)->iE vs ns:=by
 intro ns
 induction ns with
 | nil=>
  intro vs w;rw[S0] at w;cases w;exact .nil
 | cons n ns ih=>
  intro vs w;rw[O8] at w;cases w with
  | cons a b=>
   cases a;exact .cons _ _ (ih _ b)
def Xh5{l:OpenLaw}  (hn:l.most=some n)    (k9:l.row.toRowW.claim.pre args=true)(uL:WellAll P h qc args):
  ∃a vs ns,qc=[aa.ref a]/\args=[WData.list (ns.map WData.int)]/\h.get? a=some {cls:=.type "list",data:=.seq vs.toArray}/\iE vs ns/\ns.length<=n:=by
 have AI:WShape.hasAll [] args [.list .int]=true:=(pre_splitW k9).1;have hc:l.pre.holds [] {args:=args}=true:=(pre_splitW k9).2;obtain⟨d,r,rfl,h1,h2⟩:=hasAllW_cons AI;obtain rfl:=hasAllW_nil h2;obtain⟨xs,rfl,h3⟩:=hasW_list h1;obtain⟨ns,rfl⟩:=items_int h3;have aI:ns.length<=n:=by
  unfold OpenLaw.pre at hc;have h4:(WTm.not (.lt (.lit (.int (n:Int))) (.len (.arg 0)))).holds [] {args:=[.list (ns.map .int)]}=true:=by
   have h4:=(holds_andW hc).1;rw[hn] at h4;exact h4
  have h5:=condW_of h4 (w_not (w_lt w_lit (w_len_list (w_arg rfl))));rw[Oc] at h5;refine Nat.le_of_not_lt λq=>?_;have q':(n:Int)<((ns.length:Nat):Int):=by lia
  first
   | (rw[Te q'] at h5;exact absurd h5 (by decide))
   | (simp at h5;lia)
 cases uL with
 | cons w1 w2=>
  cases w2;cases w1 with
  | list ho bS=>exact⟨_,_,ns,rfl,rfl,ho,Xh4 ns _ bS,aI⟩
def Xh6(l:OpenLaw)(args):l.row.toRowW.claim.post args (.bool true) args=true:=
 postW_of (r:=l.row.toRowW) (X:=(true==true))
  (show WShape.has [] (.bool true) .bool=true by first | rfl | decide | simp[WShape.has,WShape.arms,WShape.armsAll])
  (show (WTm.eq .res (.lit (.bool true))).value [] {args:=args,res:=some (.bool true),after:=args}=some (.bool (true==true)) from w_eq_bool (w_res rfl) w_lit) rfl
def attach_call{l:OpenLaw}      (hn:l.most=some n)(qd:d.params.defaults=[])
  (call:∀(w:av) (s₀ s₁ : af) (mg mb:aj->Option aa) (fa:ae) (o:aM) (pm cd cQ:aa) (a:ae) (vs:List aa) (ns:List Int),
   Ground q loose [] XP w s₀ mg mb s₁.heap->YP w s₁.heap ->
   s₁.heap.get? fa=some o->o.data = .func (docDef d.name d.params d.body d.scope pm cd cQ)->s₁.heap.CodeRec cd d.name->mg d.name=some (.ref fa) ->
   s₁.heap.get? a=some {cls:=.type "list",data:=.seq vs.toArray}->iE vs ns->ns.length<=n->s₁.gens = #[] ->
   bf (ag l.prog w) dZ (.call (.ref fa) ⟨[.ref a],[]⟩) (λr s'=>r = .ok (.ret (.bool true))/\AJ s₁.heap s'.heap/\s'.os=s₁.os/\cC s'.gens) s₁):
  WalkO q loose XP YP l.row.toRowW d [] (λf vs=>PySem.call f vs):=by
 intro w s₀ s₁ mg mb G Y fa o pm cd cQ dV kV ho hd gG hD hmg hg args qc as k9 qf IU uL jm;obtain rfl:dV = .none:=Dflts.none hD qd;obtain rfl:kV = .none:=Dflts.noKw hD;obtain⟨a,vs,ns,rfl,rfl,mC,jn,aI⟩:=Xh5 hn k9 uL;refine enter_call (br (call w s₀ s₁ mg mb fa o pm cd cQ a vs ns G Y ho (fd_plain hd) gG hmg mC jn aI hg) λr s' hq=>?_);obtain⟨rfl,h2,h3,h4⟩:=hq;exact⟨.inl ⟨.bool true,.bool true,[],rfl,λ_=>rfl,.bool true,Xh6 l _,λ_=>⟨List.Pairwise.nil,λ_ hm=>(nomatch hm)⟩⟩,h2,h3,h4⟩
section
variable {prog:ao}{w:av}{A:aw}{E:Zb}{s:af}{K:Frag}
def ledger (h:am) (L d:ae):List (ae×aM):=(List.range h.objs.size).filterMap λa=>if a=L\/a=d then none else (h.get? a).map λo=>(a,o)
end
end Att
namespace L2
theorem Xbh:∀{vs:List aa} {ns:List Int},iE vs ns->Vals (ns.map V.int) vs
 | _,_,.nil=>.nil
 | _,_,.cons n t h=>.cons ⟨t,rfl⟩ (Xbh h)
def Only (H:Hp):Prop:=∀b,H b=none \/ ∃o xs,H b=some (.frz o (.lst xs))
abbrev KOf {K:KL} {h:am} (_:K.In h):KL:=K
def Xqq (s:aK) (j:Nat):aK:=match s with
 | .ClassDef _ _ _ body _ _ _ _ _ _ _=>body.getD j (.Pass ⟨0,0,0,0⟩)
 | _=>.Pass ⟨0,0,0,0⟩
def Eh (s:aK):mD:=match s with
 | .FunctionDef _ a _ _ _ _ _ _ _ _=>a
 | _=>{posonlyargs:=[],args:=[],vararg:=none,kwonlyargs:=[],kw_defaults:=[],kwarg:=none,defaults:=[]}
def C3 (s:aK):List aK:=match s with
 | .FunctionDef _ _ b _ _ _ _ _ _ _=>b
 | _=>[]
def defScope (s:aK):bX:=match s with
 | .FunctionDef _ _ _ _ _ _ sc _ _ _=>sc
 | _=>{kind:=.function,names:=[],isGenerator:=false,isCoroutine:=false}
abbrev CX0:CXT:=λ_ _ _ _ _ _=>False
abbrev E0:XK:=λ_ _ _=>False
def Aj:Passes CX0 X E0:=λ_ _ _ _ _ _ _ h=>h.elim
structure Fun (K:KL) (x qual:aj) (st:aK) (f:ae) (fd:bK):Prop where
 ex:∃(oc:aa) (od:Option ae) (kV cQ pm:aa) (an:Option ae) (cdv ct:aa) (iu:Array (Option aa)),
  fd=Le x qual (Eh st) (C3 st) (defScope st) .none kV cQ pm an cdv ct/\K.lookup f=some ⟨oc,od,.func fd,iu⟩/\LA K cdv qual=true
 kp:KR K (.ref f)=true
section
variable {P:ao}{w:av}{K:KL}{mg:aj->Option aa}{base:am}
def Fun.ok{x qual}{st}  {fd}   (F:Fun K x qual st f fd)(S:FnScope N ps (defScope st))(len:∀vs H Q E,sp vs H Q E->vs.length=ps.length)
  (dS:∀(cdv:aa) (A:aw) (outer:List eJ) (s:af) (H:Hp) (vs:List V) (Q:VK) (E:XK),Room k (A.deeper (aH qual (defScope st) s.heap.objs.size f cdv))->sp vs H Q E ->
   ∃t,PSs (Cp CX0 P w K mg base N qual (defScope st) f cdv A outer s H E).nox (C3 st) t/\t {nx:=λ_ H'=>Q .non H',rt:=Q} (start N vs) H):FnOk P w K mg base CX0 (k+1) f fd ps sp:=by
 obtain⟨oc,od,kV,cQ,pm,an,cdv,ct,iu,rfl,lk,gG⟩:=F.ex;refine Lo lk gG S len λA outer s H vs Q E hr fD=>?_;obtain⟨t,h,q⟩:=dS cdv A outer s H vs Q E hr fD;exact⟨t,h.nox,q⟩
def Fun.binds  {st}   (F:Fun K x qual st f fd)
  (h:∀(kV cQ pm:aa) (an:Option ae) (cdv ct:aa) (us:List aa),us.length=ps.length->dR (Le x qual (Eh st) (C3 st) (defScope st) .none kV cQ pm an cdv ct) ⟨us,[]⟩=pure (ps.zip us)):Binds K fd ps []:=by
 obtain⟨oc,od,kV,cQ,pm,an,cdv,ct,iu,rfl,lk,gG⟩:=F.ex;exact .all (h kV cQ pm an cdv ct)
def Xbi  {st}    {kV cQ pm cdv ct} (l:K.lookup f=some ⟨oc,od,.func (Le x qual (Eh st) (C3 st) (defScope st) .none kV cQ pm an cdv ct),iu⟩)
  (c:LA K cdv qual=true) (k:KR K (.ref f)=true):Fun K x qual st f (Le x qual (Eh st) (C3 st) (defScope st) .none kV cQ pm an cdv ct):=⟨⟨oc,od,kV,cQ,pm,an,cdv,ct,iu,rfl,l,c⟩,k⟩
end
def Dp  (hr:Room k A):A.units+1<bj:=Ru (Nat.add_le_add_left (by decide:1<=64) _) hr.units
section
variable {X:Cx}
def pv(i:Nat)  (hN:X.N[i]? = some x:=by rfl)(hv:Vis X.env.scope x:=by first | exact Or.inl rfl | exact Or.inr (.inl rfl) | exact Or.inr (.inr rfl))(hd:(x==("__debug__" : aj))=false:=by decide)
  (gG:(x==("__classdict__" : aj))=false:=by decide):PE X (.Name x pos) (Eu i):=Xgj hN hv hd gG
end
def Bq{A B:Prop}(h:B):if false=true then A else B:=by
 rw[Tc Oz];exact h
def Br{A B:Prop}(h:A):if true=true then A else B:=by
 rw[Td rfl];exact h
def Xh7{c A B:Prop}[Decidable c](hc:c)(h:B):if (!decide c)=true then A else B:=by
 rw[Te hc];exact Bq h
def Same (H H':Hp):Prop:=∀b o,H b=some o->H' b=some o
def Same.refl(H):Same H H:=λ_ _ h=>h
def Same.trans(a:Same H H1)(b:Same H1 H2):Same H H2:=λc o h=>b c o (a c o h)
def Same.free  (e:Same H H') (h:H' l=Option.none):H l=Option.none:=by
 cases q:H l with
 | none=>rfl
 | some o=>
  rw[e l o q] at h;cases h
def Same.seq{K}   (e:Same H H')(h:SqL K H a xs):SqL K H' a xs:=by
 rcases h with (h | ⟨o,h⟩) | h
 ·exact .inl (.inl (e _ _ h))
 ·exact .inl (.inr ⟨o,e _ _ h⟩)
 ·exact .inr h
section
variable {X:Cx}
end
section
variable {κ : Type} [DecidableEq κ]
def Xh8{k : κ}(h:Ay kvs k=none):¬k∈kvs.map (·.1):=by
 intro m;obtain⟨p,hp,e⟩:=O0.mp m;have q:(kvs.any λkv=>decide (kv.1=k))=true:=Rc.mpr ⟨p,hp,Te e⟩;rw[Ey,h] at q;exact absurd q (by simp)
def Hh  {k : κ} (h:Ay kvs k=some v):k∈kvs.map (·.1):=by
 have q:(kvs.any λkv=>decide (kv.1=k))=true:=by
  rw[Ey,h]
  all_goals rfl
 obtain⟨p,hp,e⟩:=Rc.mp q;exact O0.mpr ⟨p,hp,Tg e⟩
theorem nd_snoc:∀{l:List κ} {k : κ},l.Nodup->¬k∈l->(l++[k]).Nodup
 | [],k,_,_=>by simp
 | a::r,k,h,hk=>by
  obtain⟨h1,h2⟩:=P7.mp h;show (a::(r++[k])).Nodup;refine P7.mpr ⟨λm=>?_,nd_snoc h2 λm=>hk (Ot.mpr (Or.inr m))⟩;rcases Om.mp m with q | q
  ·exact h1 q
  ·exact hk (Ot.mpr (Or.inl (Oe.mp q).symm))
def Xh9{k : κ}(v)(hn:(kvs.map (·.1)).Nodup)(h:Ay kvs k=none):((Be kvs k v).map (·.1)).Nodup:=by
 rw[He v h,Oo];exact nd_snoc hn (Xh8 h)
end
def Cn (env:eJ):List (aj×aA)->List (aj×ae)->List (aj×ae)
 | [],cs=>cs
 | (n,k)::r,cs=>if k == .free then Cn env r ((n,(env.cells.lookup n).getD 0)::cs) else Cn env r cs
theorem L3:∀names cs,(∀x∈names,x.2 = .free->∃c,env.cells.lookup x.1=some c) ->
  (forIn names cs fun (x : aj × aA) r => (if (x.2 == .free) = true then do        let c <- qg env x.1; pure (ForInStep.yield ((x.1, c) :: r)) else pure (ForInStep.yield r) : i9 (ForInStep (List (aj × ae))))) = pure (Cn env names cs)
 | [],cs,_=>rfl
 | (n,k)::r,cs,h=>by
  rw[List.forIn_cons];cases hk:(k==aA.free) with
  | true=>
   have eV:k = .free:=by simpa using hk
   obtain⟨c,hc⟩:=h (n,k) Oj eV;have e1:qg env n=pure c:=by unfold qg;rw[hc]
   simp only[hk,if_true,e1,pure_bind];rw[L3 r _ λx hx=>h x (Ol _ hx)];show _=pure (if (k==aA.free)=true then _ else _);rw[hk,Td rfl,hc];rfl
  | false=>
   simp only[hk,Pz,if_false,pure_bind];rw[L3 r _ λx hx=>h x (Ol _ hx)];show _=pure (if (k==aA.free)=true then _ else _);rw[hk,Tc Oz]
def Xbj  (h:∀x∈scope.names,x.2 = .free->∃c,env.cells.lookup x.1=some c):kD scope env=pure (Cn env scope.names []):=by
 have e:=L3 scope.names [] h
 have q : kD scope env = (forIn scope.names [] fun (x : aj × aA) r => (if (x.2 == .free) = true then do                let c <- qg env x.1; pure (ForInStep.yield ((x.1, c) :: r)) else pure (ForInStep.yield r) : i9 (ForInStep (List (aj × ae))))) >>= fun cs => pure cs := rfl
 rw[q,e];rfl
theorem L4   : ∀names cs,(∀x∈names,x.2 = .free->∃c,env.cells.lookup x.1=some c) ->
  (Cn env names cs).lookup x=some c->cs.lookup x=some c\/env.cells.lookup x=some c
 | [],cs,_,h=>.inl h
 | (n,k)::r,cs,hf,h=>by
  unfold Cn at h;split at h
  ·rename_i hk;rcases L4 r _ (λx hx=>hf x (Ol _ hx)) h with q | q
   ·rw[Pr] at q;split at q
    ·rename_i e;have e':x=n:=by simpa using e
     subst e';obtain⟨c',hc⟩:=hf (x,k) Oj (by simpa using hk);have sU:env.cells.lookup x=some c':=hc;rw[sU] at q ⊢;exact .inr q
    ·exact .inl q
   ·exact .inr q
  ·exact L4 r _ (λx hx=>hf x (Ol _ hx)) h
theorem L5  : ∀names cs,((cs.lookup x).isSome=true\/(x,aA.free)∈names)->((Cn env names cs).lookup x).isSome=true
 | [],cs,h=>by
  rcases h with h | h
  ·exact h
  ·cases h
 | (n,k)::r,cs,h=>by
  unfold Cn;split
  ·refine L5 r _ ?_;rw[Pr];rcases h with h | h
   ·left;split
    ·rfl
    ·exact h
   ·rcases Ot.mp h with e | h
    ·left;cases e;simp
    ·exact .inr h
  ·rename_i hk;refine L5 r _ ?_;rcases h with h | h
   ·exact .inl h
   ·rcases Ot.mp h with e | h
    ·cases e;exact absurd rfl hk
    ·exact .inr h
theorem Xbk{env:eJ}{x:aj}{k':aA}:∀{names:List (aj×aA)},
  (names.map λ(n,k)=>if (k==aA.free&&env.scope.kind == .function&&env.kindOf n==some .cell) then (n,aA.cell) else (n,k)).lookup x=some k'->∃k,names.lookup x=some k/\(k'=k\/k = .free)
 | [],h=>by simp at h
 | (n,k)::r,h=>by
  have ih := @Xbk env x k' r;have h':List.lookup x ((if (k==aA.free&&env.scope.kind == .function&&env.kindOf n==some .cell)=true then (n,aA.cell) else (n,k))::_)=_:=h;rw[Pr];by_cases hc:(k==aA.free&&env.scope.kind == .function&&env.kindOf n==some .cell)=true
  ·rw[Td hc,Pr] at h';cases hx:x==n with
   | true=>
    have hk:k = .free:=by
     simp only[O4,beq_iff_eq] at hc;exact hc.1.1
    exact⟨k,rfl,.inr hk⟩
   | false=>
    rw[hx] at h';exact ih h'
  ·rw[Tc hc,Pr] at h';cases hx:x==n with
   | true=>
    rw[hx] at h';exact⟨k,rfl,.inl (Ov h').symm⟩
   | false=>
    rw[hx] at h';exact ih h'
theorem L6:∀(names:List (aj×aA)) (h:am) (acc:List (aj×ae)) (x:aj) (c:ae),(bH h.objs.size names acc).lookup x=some c ->
  (h.objs.size<=c/\(x,aA.cell)∈names/\(bQ h names).IsCell c none)\/acc.lookup x=some c
 | [],_,_,_,_,e=>.inr e
 | (name,kind)::r,h,acc,x,c,e=>by
  unfold bH at e;unfold bQ;by_cases hk:(kind==aA.cell)=true
  ·rw[Td hk] at e ⊢;have eV:kind = .cell:=by simpa using hk
   have sz:(h.push {cls:=.type "cell",data:=.cell none}).objs.size=h.objs.size+1:=am.size_push ..;rw[<-sz] at e;rcases L6 r _ _ x c e with ⟨a1,a2,a3⟩ | a
   ·exact .inl ⟨by lia,Ol _ a2,a3⟩
   ·rw[Pr] at a;cases hx:x==name with
    | true=>
     rw[hx] at a;cases a;have:x=name:=by simpa using hx
     subst this;refine .inl ⟨Og _,by rw[eV];exact Oj,?_⟩;exact⟨_,cR r _ _ _ (am.get?_push_size _ rfl),rfl⟩
    | false=>rw[hx] at a;exact .inr a
  ·rw[Tc hk] at e ⊢;rcases L6 r h acc x c e with ⟨a1,a2,a3⟩ | a
   ·exact .inl ⟨a1,Ol _ a2,a3⟩
   ·exact .inr a
theorem L7:∀(names:List (aj×aA)) (n:Nat) (acc:List (aj×ae)),(∀x y c,acc.lookup x=some c->acc.lookup y=some c->x=y)->(∀x c,acc.lookup x=some c->c<n) ->
  ∀x y c,(bH n names acc).lookup x=some c->(bH n names acc).lookup y=some c->x=y
 | [],_,_,h,_=>h
 | (name,kind)::r,n,acc,h,hb=>by
  unfold bH;by_cases hk:(kind==aA.cell)=true
  ·rw[Td hk];refine L7 r (n+1) _ (λx y c e1 e2=>?_) (λx c e=>?_)
   ·rw[Pr] at e1 e2;cases hx:x==name with
    | true=>
     cases hy:y==name with
     | true=>rw[beq_iff_eq.mp hx,beq_iff_eq.mp hy]
     | false=>
      rw[hx] at e1;rw[hy] at e2;cases e1;exact absurd (hb y _ e2) (Pt _)
    | false=>
     cases hy:y==name with
     | true=>
      rw[hx] at e1;rw[hy] at e2;cases e2;exact absurd (hb x _ e1) (Pt _)
     | false=>rw[hx] at e1;rw[hy] at e2;exact h x y c e1 e2
   ·rw[Pr] at e;cases hx:x==name with
    | true=>rw[hx] at e;cases e;exact Nat.lt_succ_self _
    | false=>rw[hx] at e;exact P9 (hb x c e)
  ·rw[Tc hk];exact L7 r n acc h hb
theorem L8   : ∀names cs,(Cn env names cs).lookup x=some c->cs.lookup x=some c\/(x,aA.free)∈names
 | [],cs,h=>.inl h
 | (n,k)::r,cs,h=>by
  unfold Cn at h;split at h
  ·rename_i hk;have eV:k = .free:=by simpa using hk
   rcases L8 r _ h with q | q
   ·rw[Pr] at q;cases hx:x==n with
    | true=>
     have:x=n:=by simpa using hx
     subst this;exact .inr (by rw[eV];exact Oj)
    | false=>rw[hx] at q;exact .inl q
   ·exact .inr (Ol _ q)
  ·rcases L8 r _ h with q | q
   ·exact .inl q
   ·exact .inr (Ol _ q)
def Xia          (h:Q (newEnv scope s.heap.objs.size globals (bH (s.heap.objs.size+1) scope.names kE) qual none .none (some outer) cJ) {s with heap:=bQ (s.heap.push {cls:=.type "dict",data:=.dict #[]}) scope.names}):
  ai M A (fP scope globals kE [] qual none .none (some outer)) Q E s:=by
 simp only[fP,Sn,if_true];refine S7 (jo ?_);refine S7 (wpAny_layCells _ (λname kind cells=>by cases AK:kind==aA.cell<;>simp[AK]) _ _ _ _ ?_);rw[show ({s with heap:=s.heap.push {cls:=.type "dict",data:=.dict #[]} }:af).heap.objs.size=s.heap.objs.size+1 from am.size_push ..];refine S7 ?_;rw[List.forIn_nil];exact S8 (S8 h)
def Hi (X:Cx) (scope:bX) (s0:af):List (aj×ae):=bH (s0.heap.objs.size+1) scope.names (Cn X.env scope.names [])
def Cx.comp (X:Cx) (N:Za) (scope:bX) (s0:af) (H0:Hp) (ex:List ae):Cx where
 prog:=X.prog
 w:=X.w
 K:=X.K
 mg:=X.mg
 base:=X.base
 A:=X.A
 N:=N
 s₀:=s0
 H₀:=H0
 env:=qh scope (Hi X scope s0) s0.heap.objs.size X.env
 outer:=X.stack
 stack:=X.stack
 ex:=ex
 fn:=λx=>decide (scope.names.lookup x=some .cell)
 calm:=X.calm
 pn:=[]
 xe:=λ_ _=>False
def Bk (cap:List (Option Nat)) (Z:St):St:=cap.map λo=>o.bind λj=>(Z[j]?).join
structure CompScope (X:Cx) (N:Za) (cap:List (Option Nat)) (scope:bX):Prop where
 kind:scope.kind = .function
 uniq:∀y∈scope.names,scope.names.lookup y.1=some y.2
 free:∀y∈scope.names,y.2 = .free->X.env.kindOf y.1=some .cell\/X.env.kindOf y.1=some .free
 len:cap.length=N.length
 cap:∀(i:Nat) (x:aj) (j:Nat),N[i]? = some x->cap[i]? = some (some j)->X.N[j]? = some x/\scope.names.lookup x=some .free
def PIfs (X:Cx) (bV:List aC) (t:TT):Prop:=
 ∀pins s Z H (Q:Bool->Hp->Prop),Inv X pins Z H s->t Z H Q ->
  ai (ag X.prog X.w) X.A (forIn bV true fun c r => if r = true then do        let ok <- isTrue c X.env (eval c X.env); pure (ForInStep.yield ok) else pure (ForInStep.yield r)) (TP X pins Z Q) X.xe s
def Dd:TT:=λ_ H Q=>Q true H
def Ca:PIfs X [] Dd:=λ_ _ _ H _ I h=>wpAny_tests_nil ⟨H,I,h⟩
def C4   (h:PT X c t):PIfs X [c] t:=λpins s Z H Q I hw=>wpAny_tests_one (h pins s Z H Q I hw)
def D1 (cap:List (Option Nat)) (g:TG) (tt:TT) (te:TE) (J:It) (Z:St) (H1:Hp) (F:ae->Hp->Prop):Prop:=
 ∀D,H1 D=none->∃W:Nat->Nat->St->Hp->Prop,(∃m,W 0 m (Bk cap Z) (upd H1 D (.lst [])))/\∀i m Z1 H2,W i m Z1 H2 ->
  (J.stop i H2/\F D H2)\/(J.go i H2/\∀x H3,J.yld i H2 x H3->g x Z1 H3 fun Z2 H4=>tt Z2 H4 λb H5=>
   if b=true then te Z2 H5 λy H6=>∃ys,H6 D=some (.lst ys)/\ys.length<sizeLine/\∃m',m'<m/\W (i+1) m' Z2 (upd H6 D (.lst (ys++[y])))
   else ∃m',m'<m/\W (i+1) m' Z2 H5)
theorem Xbl{env:eJ}{x:aj}:∀{names:List (aj×aA)} {k:aA},names.lookup x=some k ->
  (names.map λ(n,k)=>if (k==aA.free&&env.scope.kind == .function&&env.kindOf n==some .cell) then (n,aA.cell) else (n,k)).lookup x=some (if (k==aA.free&&env.scope.kind == .function&&env.kindOf x==some .cell) then aA.cell else k)
 | [],_,h=>by simp at h
 | (n,q)::r,k,h=>by
  have ih := @Xbl env x r k;show List.lookup x ((if (q==aA.free&&env.scope.kind == .function&&env.kindOf n==some .cell)=true then (n,aA.cell) else (n,q))::_)=_;rw[Pr] at h;cases hx:x==n with
  | true=>
   rw[hx] at h;cases h;have:x=n:=by simpa using hx
   subst this;by_cases hc:(q==aA.free&&env.scope.kind == .function&&env.kindOf x==some .cell)=true
   ·rw[Td hc,Td hc,Pr,hx]
   ·rw[Tc hc,Tc hc,Pr,hx]
  | false=>
   rw[hx] at h;by_cases hc:(q==aA.free&&env.scope.kind == .function&&env.kindOf n==some .cell)=true
   ·rw[Td hc,Pr,hx];exact ih h
   ·rw[Tc hc,Pr,hx];exact ih h
section
variable {X:Cx}{N:Za}{cap:List (Option Nat)}{scope:bX}{pins:List (ae×aM)}{Z:St}{H H':Hp}{s s':af}{fp:List ae}
def L9(C:CompScope X N cap scope)(ok:X.Ok):∀x∈scope.names,x.2 = .free->∃c,X.env.cells.lookup x.1=some c:=λx hx hf=>ok.has x.1 (C.free x hx hf)
def Jy(C:CompScope X N cap scope)(ok:X.Ok)  (h:(Cn X.env scope.names []).lookup x=some c):X.env.cells.lookup x=some c:=by
 rcases L4 scope.names [] (L9 C ok) h with q | q
 ·simp at q
 ·exact q
def Xbm(C:CompScope X N cap scope)(ok:X.Ok)(h:scope.names.lookup x=some .free):∃c,(Cn X.env scope.names []).lookup x=some c:=
 Qm.mp (L5 scope.names [] (.inr (PySem.mem_of_lookup h)))
def Xbn(C:CompScope X N cap scope)(ok:X.Ok)  (hz:h.objs.size=s.heap.objs.size+1)  (e:(Hi X scope s).lookup x=some c):
  (s.heap.objs.size<c/\scope.names.lookup x=some .cell/\(bQ h scope.names).IsCell c none)\/(scope.names.lookup x=some .free/\X.env.cells.lookup x=some c):=by
 unfold Hi at e;rw[<-hz] at e;rcases L6 scope.names h _ x c e with ⟨a1,a2,a3⟩ | a
 ·exact .inl ⟨by lia,C.uniq _ a2,a3⟩
 ·refine .inr ⟨?_,Jy C ok a⟩;rcases L8 scope.names [] a with q | q
  ·simp at q
  ·exact C.uniq _ q
def Xib(C:CompScope X N cap scope)(I:Inv X pins Z H s)(hf:∀b∈fp,FpOk X pins H b)(fQ:∀b∈fp,b<s.heap.objs.size){tk}:
  Inv (X.comp N scope s H fp) [] (Bk cap Z) H {s with heap:=bQ (s.heap.push {cls:=.type "dict",data:=.dict #[]}) scope.names,toks:=tk}:=by
 have hC:H s.heap.objs.size=none:=I.hok.fresh (Og _);have hz:(s.heap.push {cls:=.type "dict",data:=.dict #[]}).objs.size=s.heap.objs.size+1:=am.size_push ..;have oJ:(bQ (s.heap.push {cls:=.type "dict",data:=.dict #[]}) scope.names).Ns s.heap.objs.size λ_=>none:=(am.Ns.new s.heap (.type "dict")).keeps (cR _ _);have hk:∀b o,s.heap.get? b=some o->(bQ (s.heap.push {cls:=.type "dict",data:=.dict #[]}) scope.names).get? b=some o:=λb o e=>cR _ _ b o (Tj _ e);have look:∀{x c},(X.comp N scope s H fp).env.cells.lookup x=some c->_:=λ{x c} h=>Xbn (s:=s) C I.ok hz h;have AL:∀x c,X.env.cells.lookup x=some c->c<s.heap.objs.size:=λx c h=>by
  obtain⟨v,q⟩:=I.cell x c h;exact q.lt
 have kind:∀x k,(relabel scope X.env).names.lookup x=some k->k = .cell\/k = .free->scope.names.lookup x=some .cell\/scope.names.lookup x=some .free:=λx k e hk=>by
  obtain⟨k0,e0,z⟩:=Xbk e;rcases z with z | z
  ·rw[<-z] at e0;rcases hk with q | q
   ·rw[q] at e0;exact .inl e0
   ·rw[q] at e0;exact .inr e0
  ·rw[z] at e0;exact .inr e0
 refine⟨⟨I.ok.mod,C.kind,I.ok.glob,I.ok.blt,Og _,?inj,λx hx=>?has,λx c h e=>?cab,I.ok.hd,I.ok.frames,.inl rfl,λb hb=>⟨Oq (fQ b hb),λx c h=>?exf⟩,
   I.bs,Pb I.ok.bsz I.sz,λb o e hb=>?noex,λb hb hs=>?exfs,I.stack,I.stkFree⟩,
  rfl,I.bare,Un.kept hk,⟨_,oJ,λi x v sZ h2 h3=>?loc⟩,λx c h=>?cell,hC,λx c h=>?freeC,λp hp=>absurd (show p∈([]:List (ae×aM)) from hp) (by simp),I.hok.kept hk,?len⟩
 case inj=>
  refine L7 scope.names _ _ (λx y c e1 e2=>I.ok.inj x y c (Jy C I.ok e1) (Jy C I.ok e2)) λx c e=>P9 (AL x c (Jy C I.ok e))
 case has=>
  have iF:(relabel scope X.env).names.lookup x=some .cell\/(relabel scope X.env).names.lookup x=some .free:=hx;refine Qm.mp (KU scope.names _ _ ?_);rcases (iF.elim (λq=>kind x _ q (.inl rfl)) λq=>kind x _ q (.inr rfl)) with q | q
  ·exact .inl q
  ·obtain⟨c,hc⟩:=Xbm C I.ok q;exact .inr (by rw[hc];rfl)
 case cab=>
  have h:scope.names.lookup x=some .cell:=Tg h;rcases look e with ⟨a,_⟩ | ⟨a,_⟩
  ·exact Rs a
  ·rw[h] at a;cases a
 case exf=>
  rcases look h with ⟨a,_⟩ | ⟨_,a⟩
  ·exact λz=>Pt _ (Qj a (by rw[z];exact fQ b hb))
  ·exact(hf b hb).2.2.2.2.1 x c a
 case noex=>
  obtain⟨_,_,_,z,_⟩:=hf b hb;rcases z with z | z
  ·exact I.ok.noex b o e z
  ·exact absurd (O3 (Ti e) (Pb I.ok.bsz z)) (Pt _)
 case exfs=>
  obtain⟨_,f1,f2,_⟩:=hf b hb;rcases Ot.mp (I.stkSub b hs) with e | e
  ·exact f1 e
  ·exact f2 e
 case loc=>
  have fE:(cap.map λo=>o.bind λj=>(Z[j]?).join)[i]? = some (some v):=h2;rw[Ou] at fE;cases hc:cap[i]? with
  | none=>rw[hc] at fE;cases fE
  | some o=>
   rw[hc] at fE;cases o with
   | none=>cases fE
   | some j=>
    have kF:(Z[j]?).join=some v:=Ov fE;have hZ : Z[j]? = some (some v):=by
     cases hj : Z[j]? with
     | none=>rw[hj] at kF;cases kF
     | some o=>rw[hj] at kF;exact congrArg some kF
    obtain⟨hN,iG⟩:=C.cap i x j sZ hc;obtain⟨m,hn,hl⟩:=I.loc;have eU:X.env.kindOf x=some .cell\/X.env.kindOf x=some .free:=C.free (x,.free) (PySem.mem_of_lookup iG) rfl;obtain⟨u,r,l⟩:=hl j x v hN hZ (by rcases eU with q | q;exact .inr (.inl q);exact .inr (.inr q));refine⟨u,r,.inr ⟨?_,?_⟩⟩
    ·show (relabel scope X.env).names.lookup x=some .cell\/(relabel scope X.env).names.lookup x=some .free;have:=Xbl (env:=X.env) iG;have e:(relabel scope X.env).names.lookup x=_:=this;rw[e];split
     ·exact .inl rfl
     ·exact .inr rfl
    ·obtain⟨c,iw⟩:=Xbm C I.ok iG;obtain⟨c2,eK⟩:=Qm.mp (KU scope.names (s.heap.objs.size+1) (Cn X.env scope.names []) (x:=x) (.inr (by rw[iw];rfl)));rcases look (x:=x) (c:=c2) eK with ⟨_,a,_⟩ | ⟨_,a⟩
     ·rw[iG] at a;cases a
     ·rcases l with ⟨k,_⟩ | ⟨_,c',e,z⟩
      ·rcases eU with q | q
       ·rw[k] at q;cases q
       ·rw[k] at q;cases q
      ·rw[a] at e;cases e;obtain⟨o,ho,hd⟩:=z;exact⟨c2,eK,o,hk c2 o ho,hd⟩
 case cell=>
  rcases look h with ⟨_,_,a⟩ | ⟨_,a⟩
  ·exact⟨none,a⟩
  ·obtain⟨v,o,ho,hd⟩:=I.cell x c a;exact⟨v,o,hk c o ho,hd⟩
 case freeC=>
  rcases look h with ⟨a,_⟩ | ⟨_,a⟩
  ·exact I.hok.fresh (Rs a)
  ·exact I.freeC x c a
 case len=>
  show (cap.map _).length=N.length;rw[Oc,C.len]
end
def Xic (cap:List (Option Nat)) (wi:TI) (g:TG) (tt:TT) (te:TE):TE:=fun Z H Q=>wi Z H λJ H1=>D1 cap g tt te J Z H1 λD H2=>Q (.ref D) H2
def Xid (i:Nat) (cap:List (Option Nat)) (wi:TI) (g:TG) (tt:TT) (te:TE):TS:=λD Z H=>wi Z H λJ H1=>D1 cap g tt te J Z H1 λl H2=>D.nx (Z.set i (some (.ref l))) H2
def A4.there      (x:A4 P w H h a o):∃u,h.get? a=some u:=by
 cases o with
 | lst xs=>obtain⟨_,_,_,_,e⟩:=x;exact⟨_,e⟩
 | tup xs=>obtain⟨_,_,_,o,e,_⟩:=x;exact⟨_,e⟩
 | dK kvs=>obtain⟨_,_,_,_,o,_,_,e,_⟩:=x;exact⟨_,e⟩
 | dT kvs=>obtain⟨_,_,_,_,o,_,_,e,_⟩:=x;exact⟨_,e⟩
 | set S n=>obtain⟨o,_,_,_,e,_⟩:=x;exact⟨_,e⟩
 | ins C dx fs=>obtain⟨_,_,_,e,_⟩:=x;exact⟨_,e⟩
 | own y=>exact x
 | xd fs=>obtain⟨_,⟨_,_,_,e,_⟩,_⟩:=x;exact⟨_,e⟩
 | rng lo hi=>obtain⟨_,_,_,e⟩:=x;exact⟨_,e⟩
 | frz ob u=>obtain⟨e,_⟩:=x;exact⟨_,e⟩
 | tbl ps=>exact⟨_,(show h.get? a=some _ from x)⟩
 | met f y=>exact⟨_,(show h.get? a=some _ from x)⟩
 | ext φ=>obtain⟨_,e,_⟩:=x;exact e
structure Flown (P:ao) (w:av) (outer:List eJ) (H:Hp) (hc:am) (H':Hp) (ex C:ae) (B:am) (a0:aa) (h:am):Prop where
 un:Un (frs outer) [] H H' hc h
 hok:HOk P w H' h
 fly:am.FlyingW B outer ex (.ref C) a0 h
 inB:∀b o,h.get? b=some o->b∉frs outer->((∃o',hc.get? b=some o')\/H' b≠none)->B.get? b=some o
 frf:∀b∈frs outer,H' b=none
def Flown.move       (F:Flown P w outer H hc H' ex C B a0 h) (st:B.StaysIn h') (up:h.UpToSlots h'):
  Un (frs outer) [] H H' hc h'/\HOk P w H' h'/\∀b o,h'.get? b=some o->b∉frs outer->((∃o',hc.get? b=some o')\/H' b≠none)->B.get? b=some o:=by
 have nf:∀b∈frs outer,∀o,h.get? b=some o->∀vs,o.data ≠ .fields vs:=λb hb o e=>by
  obtain⟨_,o',e',d⟩:=F.fly.2.2.1.mem hb;rw[e] at e';cases e';exact d
 have tr:∀b o,H' b=some o->b∉frs outer:=λb o e hb=>by rw[F.frf b hb] at e;cases e
 have gW:∀b,(∃o',hc.get? b=some o')\/H' b≠none->∃o,h.get? b=some o:=λb hb=>by
  rcases hb with ⟨o',e⟩ | hb
  ·obtain⟨o,e'⟩:=F.un.there b o' e (by simp);exact⟨o,e'⟩
  ·cases q:H' b with
   | none=>exact absurd q hb
   | some u=>exact(F.hok b u q).there
 refine⟨⟨λb o e n hb hx=>?_,λb o e n hb hx=>?_,F.un.free,λb o e hx=>?_,F.un.tups,F.un.frzs,F.un.tbls⟩,λa o e=>?_,λb o e hb hw=>?_⟩
 ·exact st b o (F.inB b o (F.un.keep b o e n hb hx) hb (.inl ⟨o,e⟩))
 ·obtain⟨sl,e1⟩:=F.un.slot b o e n hb hx;obtain⟨gE,e2⟩:=up b _ e1 (nf b hb _ e1);exact⟨gE,e2⟩
 ·obtain⟨o1,e1⟩:=F.un.there b o e hx;by_cases hb:b∈frs outer
  ·obtain⟨gE,e2⟩:=up b _ e1 (nf b hb _ e1);exact⟨_,e2⟩
  ·exact⟨o1,st b o1 (F.inB b o1 e1 hb (.inl ⟨o,e⟩))⟩
 ·refine(F.hok a o e).stay (λb u hb q=>?_) (λ_ q=>q) λ_ _ q=>q;have hn:H' b≠none:=by
   rcases hb with z | z
   ·rw[z,e];simp
   ·rw[z];simp
  have dq:b∉frs outer:=λz=>hn (F.frf b z);exact st b u (F.inB b u q dq (.inr hn))
 ·obtain⟨o1,e1⟩:=gW b hw;have e2:=F.inB b o1 e1 hb hw;have e3:=st b o1 e2;rw[e] at e3;cases e3;exact e2
def CX1 (P:ao) (w:av):CXT:=λouter H s E e s'=>
 ∃ex C H' B a0,e = .ref ex/\s'.os=s.os/\cC s'.gens/\Flown P w outer H s.heap H' ex C B a0 s'.heap/\E (.ref C) none H'
section
variable {P:ao}{w:av}{K:KL}{mg:aj->Option aa}{base:am}{N:Za}{qual:aj}{scope:bX}{f:ae}{cd:aa}{A:aw}{outer:List eJ}{s:af}{H:Hp}{E:XK}
def Leaves (X:Cx) (E:XK):Prop:=∀(pins:List (ae×aM)) (Z:St) (H:Hp) (s:af) (h':am) (ex C:ae) (args:List aa),
 Inv X pins Z H s->am.MadeExcOf s.heap h' ex (.ref C) args->E (.ref C) none H->X.xe (.ref ex) {s with heap:=h'}
def leaves1:Leaves (Cp (CX1 P w) P w K mg base N qual scope f cd A outer s H E) E:=by
 intro pins Z H1 s1 h' ex C args I hm hE;show ai (ag P w) (A.deeper (aH qual scope s.heap.objs.size f cd)) (leaving (aH qual scope s.heap.objs.size f cd) (.ref ex)) _ _ {s1 with heap:=h'};have bi:(Cp (CX1 P w) P w K mg base N qual scope f cd A outer s H E).stack=aH qual scope s.heap.objs.size f cd::outer:=rfl;have eE:∀env∈(aH qual scope s.heap.objs.size f cd::outer),∀b,env.frame=some b->b∈frs (aH qual scope s.heap.objs.size f cd::outer):=λenv he b hb=>Sm.mpr ⟨env,he,hb⟩;have qi:s1.heap.FunFrames base (aH qual scope s.heap.objs.size f cd::outer):=I.stack;have hB:(LL s1.heap (frs (aH qual scope s.heap.objs.size f cd::outer))).StaysIn s1.heap:=λb o q=>LN _ q;have kG:∀b o,s1.heap.get? b=some o->b∉frs (aH qual scope s.heap.objs.size f cd::outer)->(LL s1.heap (frs (aH qual scope s.heap.objs.size f cd::outer))).get? b=some o:=λb o e n=>LH _ e n;have sub:∀b,b∈frs (aH qual scope s.heap.objs.size f cd::outer)->b=s.heap.objs.size\/b∈frs outer:=λb hb=>Ot.mp (I.stkSub b hb);have qj:∀b,b∈frs outer->b∈frs (aH qual scope s.heap.objs.size f cd::outer):=λb hb=>by
  unfold frs at hb ⊢;rw[Qr];split
  ·exact hb
  ·exact Ol _ hb
 have gX:∀b,b∈frs (aH qual scope s.heap.objs.size f cd::outer)->H1 b=none:=λb hb=>I.stkFree b hb;refine wpAny_leaves_madeW (A:=A.deeper (aH qual scope s.heap.objs.size f cd)) (L:=s.heap.objs.size) I.ok.frames rfl hB (PySem.W.funFrames_hide qi eE) hm λAM t f1 _ _ up=>?_;have gW:∀b o,s.heap.get? b=some o->b∉frs outer->b∉frs (aH qual scope s.heap.objs.size f cd::outer):=λb o e nb hb=>by
  rcases sub b hb with z | z
  ·exact absurd (Ti e) (by rw[z];exact Pt _)
  ·exact nb z
 have nf:∀b∈frs (aH qual scope s.heap.objs.size f cd::outer),∀o,s1.heap.get? b=some o->∀vs,o.data ≠ .fields vs:=λb hb o e=>by
  obtain⟨_,o',e',d⟩:=qi.mem hb;rw[e] at e';cases e';exact d
 refine⟨ex,C,H1,_,_,rfl,I.os,I.bare,⟨⟨λb o e n hb hx=>?_,λb o e n hb hx=>?_,I.base.free,λb o e hx=>?_,I.base.tups,I.base.frzs,I.base.tbls⟩,λa o e=>?_,f1,λb o e hb hw=>?_,λb hb=>gX b (qj b hb)⟩,hE⟩
 ·exact f1.1 b o (kG b o (I.base.keep b o e n hb hx) (gW b o e hb))
 ·obtain⟨sl,e1⟩:=I.base.slot b o e n hb hx;obtain⟨gE,e2⟩:=up b _ (hm.keeps _ _ e1) (nf b (qj b hb) _ e1);exact⟨gE,e2⟩
 ·obtain⟨o1,e1⟩:=I.base.there b o e hx;by_cases hb:b∈frs (aH qual scope s.heap.objs.size f cd::outer)
  ·obtain⟨gE,e2⟩:=up b _ (hm.keeps _ _ e1) (nf b hb _ e1);exact⟨_,e2⟩
  ·exact⟨o1,f1.1 b o1 (kG b o1 e1 hb)⟩
 ·refine(I.hok a o e).stay (λb u hb q=>?_) (λ_ q=>q) λ_ _ q=>q;have hn:H1 b≠none:=by
   rcases hb with z | z
   ·rw[z,e];simp
   ·rw[z];simp
  exact f1.1 b u (kG b u q λz=>hn (gX b z))
 ·have:∃o1,s1.heap.get? b=some o1/\b∉frs (aH qual scope s.heap.objs.size f cd::outer):=by
   rcases hw with ⟨o',e'⟩ | hw
   ·obtain⟨o1,e1⟩:=I.base.there b o' e' (λz=>absurd (show b∈([]:List ae) from z) (by simp));exact⟨o1,e1,gW b o' e' hb⟩
   ·cases q:H1 b with
    | none=>exact absurd q hw
    | some u=>
     obtain⟨o1,e1⟩:=(I.hok b u q).there;exact⟨o1,e1,λz=>hw (gX b z)⟩
  obtain⟨o1,e1,nb⟩:=this;have e2:=kG b o1 e1 nb;have e3:=f1.1 b o1 e2;rw[e] at e3;cases e3;exact e2
def pass1:Passes (CX1 P w) (Cp (CX1 P w) P w K mg base N qual scope f cd A outer s H E) E:=by
 intro pins Z H1 s1 e s' I h;obtain⟨ex,C,H',B,a0,rfl,oK,jp,F,hE⟩:=h;show ai (ag P w) (A.deeper (aH qual scope s.heap.objs.size f cd)) (leaving (aH qual scope s.heap.objs.size f cd) (.ref ex)) _ _ s';have sub:∀b,b∈frs (aH qual scope s.heap.objs.size f cd::outer)->b=s.heap.objs.size\/b∈frs outer:=λb hb=>Ot.mp (I.stkSub b hb);have qj:∀b,b∈frs outer->b∈frs (aH qual scope s.heap.objs.size f cd::outer):=λb hb=>by
  unfold frs at hb ⊢;rw[Qr];split
  ·exact hb
  ·exact Ol _ hb
 have gW:∀b o,s.heap.get? b=some o->b∉frs outer->b∉frs (aH qual scope s.heap.objs.size f cd::outer):=λb o e nb hb=>by
  rcases sub b hb with z | z
  ·exact absurd (Ti e) (by rw[z];exact Pt _)
  ·exact nb z
 have F':Flown P w (aH qual scope s.heap.objs.size f cd::outer) H1 s1.heap H' ex C B a0 s'.heap:=F;refine wpAny_leaves_onW (A:=A.deeper (aH qual scope s.heap.objs.size f cd)) (L:=s.heap.objs.size) I.ok.frames rfl F'.fly λAM f1 up=>?_;obtain⟨un,hok,inB⟩:=F'.move f1.1 up;refine⟨ex,C,H',B,a0,rfl,oK.trans I.os,jp,⟨?_,hok,f1,λb o e hb hw=>?_,λb hb=>F'.frf b (qj b hb)⟩,hE⟩
 ·have jM:Un (frs outer) [] H H1 s.heap s1.heap:=I.base;refine⟨λb o e n hb hx=>?_,λb o e n hb hx=>?_,λb o e n hx=>?_,λb o e hx=>?_,λb xs e=>un.tups b xs (jM.tups b xs e),λb ob u e=>un.frzs b ob u (jM.frzs b ob u e),λb ps e=>?_⟩
  ·exact un.keep b o (jM.keep b o e n hb hx) (jM.free b o e n hx) (gW b o e hb) hx
  ·obtain⟨sl,e1⟩:=jM.slot b o e n hb hx;obtain⟨gE,e2⟩:=un.slot b _ e1 (jM.free b o e n hx) (qj b hb) hx;exact⟨gE,e2⟩
  ·obtain⟨o1,e1⟩:=jM.there b o e hx;exact un.free b o1 e1 (jM.free b o e n hx) hx
  ·obtain⟨o1,e1⟩:=jM.there b o e hx;exact un.there b o1 e1 hx
  ·obtain⟨m1,e1⟩:=jM.tbls b ps e;obtain⟨m2,e2⟩:=un.tbls b _ e1;exact⟨m1++m2,by rw[e2,Array.append_assoc]⟩
 ·refine inB b o e ?_ ?_
  ·rcases hw with ⟨o',e'⟩ | hw
   ·exact gW b o' e' hb
   ·intro z;exact hw (F'.frf b z)
  ·rcases hw with ⟨o',e'⟩ | hw
   ·obtain⟨o1,e1⟩:=(show Un (frs outer) [] H H1 s.heap s1.heap from I.base).there b o' e' (by simp);exact .inl ⟨o1,e1⟩
   ·exact .inr hw
end
abbrev bmV:List aa:=[.type "ValueError",.type "Exception",.type "BaseException",.type "object"]
def Xie{K}  {C}  (X:K.In h)(q:LB K C AN qk=true):
  ∃bm N nm q bs hdct sn sub ab col dd k0 k1 k2 k3 k5 mN,h.get? C=some (excClassObj nm q C N bs bm hdct sn sub ab col dd k0 k1 k2 k3 k5 qk)/\h.Ns N mN/\mN "__init__" = none/\OwnTail h AN bm:=by
 unfold LB at q;split at q
 ·rename_i dd cd sl ho;split at q
  ·rename_i C' bm k0 k1 k2 k3 n k5 hm hs;simp only[O4,beq_iff_eq,Su] at q;obtain⟨⟨⟨⟨⟨rfl,rfl⟩,qm⟩,ht⟩,hok⟩,tw⟩:=q;obtain⟨nm,bs,mro,ns,qn,hd,sn,sub,ab,col,IV⟩:=cd;dsimp only at hm qm hok tw;subst hm qm;have uM:sl = #[k0,k1,k2,k3,some (.builtin n),k5]:=by
    obtain⟨l⟩:=sl;simp only at hs;rw[hs]
   subst uM;exact⟨bm,ns,nm,qn,bs,hd,sn,sub,ab,col,dd,k0,k1,k2,k3,k5,_,X _ _ ho,.of_isNs (PySem.W.isNs_of_in X hok),PySem.W.nsMap_none_of_in X hok tw,PySem.W.tail_of_in X ht⟩
  ·cases q
 ·cases q
def Xif (C:ae) (E:XK) (t:TA):TS:=λ_ Z H=>t Z H λvs H1=>vs.length<=sizeLine/\E (.ref C) none H1
def Ma  {C:ae} {E:XK}     (hc:LB X.K C bmV "ValueError.__new__" = true) (aS:X.calm=true) (hx:Leaves X E) (hg:Gl X x) (hm:X.mg x=some (.ref C))
  (ha:PA X (e::es) t) (gO:(x==("__debug__" : aj))=false:=by decide) (he:aq (e::es) X.env=(false,eval e X.env)::aq es X.env:=by rfl) (cz:(bp bJ (aq es X.env)).any (·.1)=false:=by rfl):
  PS X (.Raise (some (.Call (.Name x np) (e::es) [] bJ)) none pos) (Xif C E t):=by
 intro pins s Z H D I h;obtain⟨tl,N,nm,q,bs,hdct,sn,sub,ab,col,dd,k0,k1,k2,k3,k5,mN,hC,hN,tw,T⟩:=Xie I.mod.kin hc;refine wpAny_Raise_call_subT (C:=C) (nm:=nm) (q:=q) (N:=N) (bs:=bs) (bm:=tl) (hdct:=hdct) (sn:=sn) (sub:=sub) (ab:=ab) (col:=col) (dd:=dd) (k0:=k0) (k1:=k1) (k2:=k2) (k3:=k3) (k5:=k5)
  PySem.F.excBase_ValueError (mN:=mN) (T.hasType PySem.F.excBase_ValueError.hasBase) (I.ok.hd aS) (by rw[he];show (false||(bp bJ (aq es X.env)).any (·.1))=false;rw[cz];rfl) tw (G5 I hg hm ⟨rfl,?_⟩ gO)
 have hh:=thn (ha bJ pins s Z H _ I h) (Q':=λvs s₂=>vs.length<=sizeLine/\(∀b o,X.base.get? b=some o->s₂.heap.get? b=some o)/\∀h' e,am.MadeExcOf s₂.heap h' e (.ref C) vs->X.xe (.ref e) {s₂ with heap:=h'})
  (λus s2 ⟨vs,H2,I2,r2,hl,hE⟩=>⟨by rw[<-r2.length];exact hl,I2.bk,λh' ex AO=>hx pins Z H2 s2 h' ex C us I2 AO hE⟩)
 rw[he] at hh ⊢;exact Calls.evalArgs_plain (aG hh (λvs s₂ h₂=>⟨rfl,h₂.1,h₂.2.1 _ _ hC,hN.keeps h₂.2.1,T.keeps h₂.2.1,h₂.2.2⟩) λ_ _ y=>y)
def Fun.ok1   {K}    {st}     (F:Fun K x qual st f fd) (S:FnScope N ps (defScope st)) (len:∀vs H Q E,sp vs H Q E->vs.length=ps.length)
  (dS:∀(cdv:aa) (A:aw) (outer:List eJ) (s:af) (H:Hp) (vs:List V) (Q:VK) (E:XK),Room k (A.deeper (aH qual (defScope st) s.heap.objs.size f cdv))->sp vs H Q E ->
   ∃t,PSs (Cp (CX1 P w) P w K mg base N qual (defScope st) f cdv A outer s H E) (C3 st) t/\t {nx:=λ_ H'=>Q .non H',rt:=Q} (start N vs) H):FnOk P w K mg base (CX1 P w) (k+1) f fd ps sp:=by
 obtain⟨oc,od,kV,cQ,pm,an,cdv,ct,iu,rfl,lk,gG⟩:=F.ex;exact Lo lk gG S len λA outer s H vs Q E hr fD=>dS cdv A outer s H vs Q E hr fD
abbrev Cx.re (X:Cx) (pn:List (ae×aM)) (A:aw) (c:Bool) (E:Zb):Cx:={X with pn:=pn,A:=A,calm:=c,xe:=E}
section
variable {X:Cx}{pins pins' pn:List (ae×aM)}{Z:St}{H:Hp}{s:af}{A:aw}{c:Bool}{E:Zb}
def Inv.as(I:Inv X pins Z H s)(hd:c=true->A.handled=none)(hf:A.frames=some X.stack)(hp:∀p∈pn++pins',p∈X.pn++pins):Inv (X.re pn A c E) pins' Z H s:=
 ⟨⟨I.ok.mod,I.ok.kind,I.ok.glob,I.ok.blt,I.ok.above,I.ok.inj,I.ok.has,I.ok.cab,hd,hf,I.ok.stk,I.ok.exf,I.ok.bs,I.ok.bsz,I.ok.noex,I.ok.exfs,I.ok.funs,I.ok.frf⟩,
  I.os,I.bare,I.base,I.loc,I.cell,I.free,I.freeC,λp ix=>I.pin p (hp p ix),I.hok,I.len⟩
def Inv.back(I:Inv (X.re pn A c E) pins' Z H s)(ok:X.Ok)(hp:∀p∈X.pn++pins,p∈pn++pins'):Inv X pins Z H s:=
 ⟨ok,I.os,I.bare,I.base,I.loc,I.cell,I.free,I.freeC,λp ix=>I.pin p (hp p ix),I.hok,I.len⟩
def Inv.unbind      (I:Inv X pins Z H s) (hN:X.N.Nodup) (hi:X.N[i]? = some n) (hl:X.env.scope.names.lookup n=some .local)
  (hm:∀(j:Nat) (x:aj) (v:V),X.N[j]? = some x -> Z[j]? = some (some v)->Vis X.env.scope x->∃u,Ah v u/\Look X.env s.heap m x u)
  (hn:h'.Ns X.env.locals (λx=>if x=n then v else m x)) (hs:am.SameBut X.env.locals s.heap h'):Inv X pins (Z.set i none) H {s with heap:=h',toks:=tk}:=by
 have sT:i < Z.length:=by rw[I.len];exact(Ox.mp hi).1
 have cne:=I.cne;refine⟨I.ok,I.os,I.bare,⟨λb o e n hb hx=>?_,λb o e n hb hx=>?_,I.base.free,λb o e hx=>?_,I.base.tups,I.base.frzs,I.base.tbls⟩,⟨_,hn,λj y v' e1 e2 e3=>?_⟩,λy c e=>?_,I.free,I.freeC,λp hp=>?_,λb ob e=>?_,by simpa using I.len⟩
 ·exact(hs.2 b (Oq (O3 (Ti e) I.ok.above))).trans (I.base.keep b o e n hb hx)
 ·obtain⟨sl,e1⟩:=I.base.slot b o e n hb hx;exact⟨sl,(hs.2 b (Oq (O3 (Ti e) I.ok.above))).trans e1⟩
 ·obtain⟨o',e1⟩:=I.base.there b o e hx;exact⟨o',(hs.2 b (Oq (O3 (Ti e) I.ok.above))).trans e1⟩
 ·have hj:j≠i:=by
   intro z;subst z;rw[Ry sT] at e2;cases e2
  rw[R9 (Ne.symm hj)] at e2;obtain⟨u,r,l⟩:=hm j y v' e1 e2 e3;refine⟨u,r,?_⟩;rcases l with ⟨k,e⟩ | ⟨k,c,e,z⟩
  ·refine .inl ⟨k,?_⟩;have:y≠n:=λe=>hj (Lb hN e1 (e ▸ hi));simp[this,e]
  ·exact .inr ⟨k,c,e,z.sameBut hs (cne y c e)⟩
 ·obtain⟨w',z⟩:=I.cell y c e;exact⟨w',z.sameBut hs (cne y c e)⟩
 ·obtain⟨e,n,ne,nf,d⟩:=I.pin p hp;exact⟨(hs.2 p.1 ne).trans e,n,ne,nf,d⟩
 ·refine(I.hok b ob e).stay (λc' w' hc q=>(hs.2 c' ?_).trans q) (λ_ q=>q) λ_ _ q=>q;rintro rfl;rcases hc with z | z
  ·rw[<-z,I.free] at e;cases e
  ·rw[I.free] at z;cases z
def Inv.track{a}(I:Inv X pins Z H s)(hn:H a=none)(h0:X.s₀.heap.get? a=none)(hL:a≠X.env.locals)(hc:∀x c,X.env.cells.lookup x=some c->c≠a)(hp:∀p∈X.pn++pins,p.1≠a)
  (h1 : φ s.heap) (h2:∃o,s.heap.get? a=some o) (h3:∀h1 h2:am, φ h1->(∀o,h1.get? a=some o->h2.get? a=some o) -> φ h2):Inv X pins Z (upd H a (.ext φ)) s:=by
 refine⟨I.ok,I.os,I.bare,⟨I.base.keep,I.base.slot,λb o e n hx=>?_,I.base.there,λb xs e=>?_,λb o u e=>?_,λb ps e=>?_⟩,I.loc,I.cell,?_,λx c e=>?_,λp ix=>?_,λb ob e=>?_,I.len⟩
 ·rw[Ad (λz=>by rw[z,h0] at e;cases e)];exact I.base.free b o e n hx
 ·have q:=I.base.tups b xs e;rw[Ad (Am q hn)];exact q
 ·have q:=I.base.frzs b o u e;rw[Ad (Am q hn)];exact q
 ·obtain⟨more,q⟩:=I.base.tbls b ps e;exact⟨more,by rw[Ad (Am q hn)];exact q⟩
 ·rw[Ad (Ne.symm hL)];exact I.free
 ·rw[Ad (hc x c e)];exact I.freeC x c e
 ·obtain⟨e,n,r⟩:=I.pin p ix;exact⟨e,by rw[Ad (hp p ix)];exact n,r⟩
 ·by_cases hb:b=a
  ·subst hb;rw[Ab] at e;cases e;exact⟨h1,h2,h3⟩
  ·rw[Ad hb] at e;exact(I.hok b ob e).stay (λ_ _ _ q=>q) (λc q=>by rw[Ad (Am q hn)];exact q) λc xs q=>by rw[Ad (Am q hn)];exact q
end
def Dq (ex C:ae) (h:am):Prop:=∃o vs,h.get? ex=some o/\o.cls = .ref C/\o.data = .fields vs
def Fq (ex C:ae):HO:=.ext (Dq ex C)
def Cx.tryC (X:Cx) (pn:List (ae×aM)) (R:ae->St->Hp->Prop):Cx:=X.re pn X.A X.calm λe s1=>
 ∃Z Hc sc,Inv (X.re pn X.A X.calm λ_ _=>True) [] Z Hc sc/\CX1 X.prog X.w X.stack Hc sc (λc _ H1=>∃C,c = .ref C/\R C Z H1) e s1
def Cx.suite (X:Cx) (pn:List (ae×aM)) (ex:ae):Cx:=X.re pn (X.A.mark (some (.ref ex))) false λ_ _=>False
section
variable {X:Cx}{pn:List (ae×aM)}{R:ae->St->Hp->Prop}{k:Nat}{f:ae}{fd:bK}{ps:Za}{sp:Sp}{fg:List V}{ds:List aa}{x:aj}{p pos:ce}{e:aC}{es:List aC}{t:TA}
def Xig (sp:Sp) (fg:List V) (R:ae->St->Hp->Prop) (t:TA):TE:=fun Z H Q=>t Z H λvs H1=>sp (vs++fg) H1 Q λc _ H'=>∃C,c = .ref C/\R C Z H'
def Xih(F:FnOk X.prog X.w X.K X.mg X.base (CX1 X.prog X.w) k f fd ps sp)(hr:Room k X.A)(hg:Gl X x)(hm:X.mg x=some (.ref f))(hk:KR X.K (.ref f)=true)(hb:Binds X.K fd ps ds)(hd:Vals fg ds)
  (ha:PA (X.tryC pn R) (e::es) t) (gO:(x==("__debug__" : aj))=false:=by decide) (he:aq (e::es) X.env=(false,eval e X.env)::aq es X.env:=by rfl) (cz:(bp pos (aq es X.env)).any (·.1)=false:=by rfl):
  PE (X.tryC pn R) (.Call (.Name x p) (e::es) [] pos) (Xig sp fg R t):=by
 intro pins s Z H Q I h;refine bN (G5 I (show Gl (X.tryC pn R) x from hg) hm ?_ gO);refine LO (h₀:=X.base) I.ok.mod.kin hk (thn (ha pos pins s Z H _ I h) λus s1 ⟨vs,H1,I1,r,q⟩=>⟨I1.kIn,?_⟩) he cz;have r2:Vals (vs++fg) (us++ds):=r.append hd;have hl:(us++ds).length=ps.length:=by rw[<-r2.length];exact F.len _ _ _ _ q
 refine fI (br (F.run X.A X.stack s1 H1 ⟨us,[]⟩ (us++ds) (vs++fg) Q _ hr I1.env0 (hb s1 us I1.kIn hl) r2 q) λr s' hq=>?_);cases r with
 | error e=>exact⟨Z,H1,s1,(Inv.back (X:=X.re pn X.A X.calm λ_ _=>True) (pins:=[]) I1 (I1.as (X:=X.tryC pn R) (pins':=[]) (pn:=pn) (A:=X.A) (c:=X.calm) (E:=λ_ _=>True) I1.ok.hd I1.ok.frames (λp hp=>Om.mpr (.inl (show p∈pn from by simpa using hp)))).ok (λp hp=>Om.mpr (.inl (show p∈pn from by simpa using hp)))),hq⟩
 | ok fl=>
  cases fl with
  | ret u=>exact I1.after hq
  | next=>exact False.elim hq
  | brk=>exact False.elim hq
  | cont=>exact False.elim hq
end
section
variable {X:Cx}{pos np mE:ce}{body:List aK}{b0:aK}{suite:List aK}{n x:aj}{i:Nat}{Cc:ae}{tb:(ae->St->Hp->Prop)->TS}{th:TS}
def tTry (K:KL) (i:Nat) (Cc:ae) (tb:(ae->St->Hp->Prop)->TS) (th:TS):TS:=λD Z H=>∃R:ae->St->Hp->Prop,tb R D Z H/\∀C Z1 H1,R C Z1 H1->LD K (.ref C) (.ref Cc)=some true /\
 ∀ex,H1 ex=none->th {nx:=fun Z2 H2=>D.nx (Z2.set i none) H2,rt:=D.rt,bk:=fun Z2 H2=>D.bk (Z2.set i none) H2,ct:=fun Z2 H2=>D.ct (Z2.set i none) H2} (Z1.set i (some (.ref ex))) (upd H1 ex (Fq ex C))
def Xii(hex:X.ex=[])(bi:X.stack=X.env::X.outer)(iG:X.env.frame=some X.env.locals)(hN:X.N.Nodup)(hi:X.N[i]? = some n)(hl:X.env.scope.names.lookup n=some .local)(hg:Gl X x)(hm:X.mg x=some (.ref Cc))
  (hb:∀pn R,PSs (X.tryC pn R) body (tb R)) (hh:∀pn ex,PSs (X.suite pn ex) (b0::suite) th) (gO:(x==("__debug__" : aj))=false:=by decide):
  PS X (.Try body [.ExceptHandler (some (.Name x np)) (some n) (b0::suite) mE] [] [] pos) (tTry X.K i Cc tb th):=by
 intro pins s Z H D I h;obtain⟨R,xU,AQ⟩:=h;have qp:∀p∈X.pn++pins++[],p∈X.pn++pins:=λp hp=>by simpa using hp
 have jq:∀p∈X.pn++pins,p∈X.pn++pins++[]:=λp hp=>by simpa using hp
 have I0:Inv (X.tryC (X.pn++pins) R) [] Z H s:=I.as I.ok.hd I.ok.frames qp;refine wpAny_Try_except (aG (hb (X.pn++pins) R [] s Z H D I0 xU) (λfl s1 q=>?_) λe s1 q=>?_)
 ·have t0:∀{Z':St} {H':Hp},Inv (X.tryC (X.pn++pins) R) [] Z' H' s1->Inv X pins Z' H' s1:=λJ=>J.back I.ok jq;cases fl with
  | next=>
   obtain⟨Z',H',J,q⟩:=q;exact cO ⟨Z',H',t0 J,q⟩
  | brk=>
   obtain⟨Z',H',J,q⟩:=q;exact⟨Z',H',t0 J,q⟩
  | cont=>
   obtain⟨Z',H',J,q⟩:=q;exact⟨Z',H',t0 J,q⟩
  | ret u=>
   obtain⟨v, Z',H',J,r,q⟩:=q;exact⟨v, Z',H',t0 J,r,q⟩
 ·-- it xV here
  obtain⟨Z1,Hc,sc,Ic,ex,c,H1,B,a0,rfl,oK,jp,F,C,hC,hR⟩:=q;cases hC;obtain⟨hx,AR⟩:=AQ c Z1 H1 hR;have F':Flown X.prog X.w (X.env::X.outer) Hc sc.heap H1 ex c B a0 s1.heap:=by rw[<-bi];exact F
  have uN:X.A.frames=some (X.env::X.outer):=by rw[<-bi];exact I.ok.frames
  have step:∀(h5:am) (tk:Nat),B.StaysIn h5->s1.heap.UpToSlots h5->Inv (X.re (X.pn++pins) X.A X.calm λ_ _=>True) [] Z1 H1 {s1 with heap:=h5,toks:=tk}:=λh5 tk st up=>by
   obtain⟨un,hok,_⟩:=F'.move st up;refine Ic.call' (ch:=[]) oK ?_ hok jp (λb z=>absurd z (by simp));show Un (frs X.stack) [] Hc H1 sc.heap h5;rw[bi];exact un
  refine wpAny_looks_onW (L:=X.env.locals) uN iG F'.fly λh4 held xW=>?_;refine wpAny_landsW held λh5 uO xX=>?_;have I5:=step h5 s1.toks uO.1 (xW.trans xX);have xY:Inv (X.suite (X.pn++pins) ex) [] Z1 H1 {s1 with heap:=h5}:=Inv.as (X:=X.re (X.pn++pins) X.A X.calm λ_ _=>True) I5 (λz=>absurd z (by decide)) I.ok.frames (λp hp=>hp);have LT:LY (ag X.prog X.w) h5 (qa (.ref ex)) (.ref c):=by
   obtain⟨ob,AS,uP⟩:=uO.there;rw[<-uP];exact(LY.ld AS).andThen .now
  refine wpAny_handleBy_cons (codeAny_handlers_test ?_) (by intro q;cases q);refine G5 (X:=X.suite (X.pn++pins) ex) xY (show Gl (X.suite (X.pn++pins) ex) x from hg) hm ?_ gO;refine(PySem.W.exm_one (xY.kIn) LT hx).here ?_;refine codeAny_handlers_suite_as (lands_againW uO λh6 uQ AT=>?_);have qq:=(xW.trans xX).trans AT;have I6:=step h6 s1.toks uQ.1 qq;have AU:Inv (X.suite (X.pn++pins) ex) [] Z1 H1 {s1 with heap:=h6}:=Inv.as (X:=X.re (X.pn++pins) X.A X.calm λ_ _=>True) I6 (λz=>absurd z (by decide)) I.ok.frames (λp hp=>hp);refine Lc (X:=X.suite (X.pn++pins) ex) AU hN hi (.inl hl) (show Ah (.ref ex) (.ref ex) from rfl) (λs7 I7 ⟨a7,AV,AW⟩=>?_) (.inr hl);have AX:Inv (X.suite (X.pn++pins) ex) [] (Z1.set i (some (.ref ex))) H1 s7:=I7;obtain⟨f1,f2,f3,oe,vs,T,oT,ts,he,AY,uR,_⟩:=id uQ;have jr:ex∉frs (X.env::X.outer):=λz=>by
   obtain⟨_,o',e',d⟩:=f3.mem z;rw[he] at e';cases e';exact d vs uR
  have qr:=(F'.move uQ.1 qq).2.2;have qt:H1 ex=none:=by
   cases q:H1 ex with
   | none=>rfl
   | some u=>
    have z:=qr ex oe he jr (.inr (by rw[q];simp));rw[f2] at z;cases z
  have qu:sc.heap.get? ex=none:=by
   cases q:sc.heap.get? ex with
   | none=>rfl
   | some u=>
    have z:=qr ex oe he jr (.inl ⟨u,q⟩);rw[f2] at z;cases z
  have uS:X.s₀.heap.get? ex=none:=by
   cases q:X.s₀.heap.get? ex with
   | none=>rfl
   | some u=>
    obtain⟨o1,e1⟩:=Ic.base.there ex u q (λz=>by
     have z':ex∈X.ex:=z;rw[hex] at z';cases z')
    rw[qu] at e1;cases e1
  have qv:ex≠X.env.locals:=λz=>jr (by
   unfold frs;rw[Qr,iG,z];exact Oj)
  have js:∀y cc,X.env.cells.lookup y=some cc->cc≠ex:=λy cc e z=>by
   obtain⟨v,o,ho,hd⟩:=I6.cell y cc e;have dF:h6.get? cc=some o:=ho;rw[z,he] at dF;cases dF;rw[uR] at hd;cases hd
  have qw:∀p∈(X.pn++pins)++[],p.1≠ex:=λp hp z=>by
   have:=(Ic.pin p hp).1;rw[z,qu] at this;cases this
  have AZ:ex≠a7:=by
   rcases AW with z | z
   ·rw[z];exact qv
   ·exact λq=>js n a7 z q.symm
  have xZ:s7.heap.get? ex=some oe:=(AV.2 ex AZ).trans he;have I8:=AX.track (a:=ex) (φ:=Dq ex c) qt uS qv js qw ⟨oe,vs,xZ,AY.1,uR⟩ ⟨oe,xZ⟩ (λg1 g2 ⟨o,ws,q1,q2,q3⟩ k=>⟨o,ws,k o q1,q2,q3⟩);have fk:=hh (X.pn++pins) ex [] s7 _ _ _ I8 (AR ex qt);refine aG fk (λfl s9 q9=>?_) λ_ _ z=>z.elim;have kH:∀{Z':St} {H':Hp} {Q:Unit->af->Prop},Inv (X.suite (X.pn++pins) ex) [] Z' H' s9->(∀jt,Inv X pins (Z'.set i none) H' jt->Q () jt) ->
    ai (ag X.prog X.w) X.A (do       bindName X.env n .none;unbindBehindTheSuite X.env n mE) Q X.xe s9:=λ{Z' H' Q} J k=>by
   have JX:Inv X pins Z' H' s9:=J.back I.ok jq;obtain⟨m,oJ,By⟩:=JX.loc;refine wpAny_nameGoes_keeps hl oJ (by rw[I.ok.kind];rfl) λh' v u6 qx=>?_;exact k _ (JX.unbind hN hi hl By u6 qx)
  cases fl with
  | next=>
   obtain⟨Z',H',J,q⟩:=q9;exact kH J λjt mF=>⟨_,H',mF,q⟩
  | brk=>
   obtain⟨Z',H',J,q⟩:=q9;exact kH J λjt mF=>⟨_,H',mF,q⟩
  | cont=>
   obtain⟨Z',H',J,q⟩:=q9;exact kH J λjt mF=>⟨_,H',mF,q⟩
  | ret u=>
   obtain⟨v, Z',H',J,r,q⟩:=q9;exact kH J λjt mF=>⟨v,_,H',mF,r,q⟩
end
section
variable {X:Cx}{pos p2:ce}{e:aC}{te:TE}
def tRev (K:KL) (te:TE):TE:=fun Z H Q=>te Z H λx H1=>∃a xs,x = .ref a/\SqL K H1 a xs/\∀p,H1 p=none->Q (.ref p) (upd H1 p (.lst xs.reverse))
def Mb  (he:PE X e te):PE X (.Subscript e (.Slice none none (some (.UnaryOp .USub (.Constant (.int 1) k p3) p4)) p2) pos) (tRev X.K te):=by
 intro pins s Z H Q I h;refine fM (thn (he pins s Z H _ I h) λv s1 ⟨x,H1,I1,r1,q1⟩=>?_);have qy:PE X (.UnaryOp .USub (.Constant (.int 1) k p3) p4) (tUn (rU λi=>.int (-i)) (tC (.int 1))):=Xgu Xgw Af;refine xT ?_;rw[gR];refine S8 (S8 ?_);rw[sX];refine thn (qy pins s1 Z H1 (λy H2=>y = .int (-1)/\H2=H1) I1 ⟨1,rfl,rfl,rfl⟩) λu s2 ⟨y,H2,I2,r2,ey,eH⟩=>?_;subst ey eH;obtain⟨t,rfl⟩:=r2;obtain⟨a,xs,ex,hx,q⟩:=q1;subst ex;cases r1;obtain⟨ax,r,ht,hz⟩:=I2.list hx;have I4:Inv X pins Z H2 {s2 with heap:=s2.heap.push {cls:=.type "slice",data:=.fields #[.none,.none,.int (-1) t]} }:=I2.kept (t':=s2.toks) λb ob q=>Tj _ q;obtain⟨B',r4,gY,t4⟩:=I4.list hx;have aI:=r4.length;refine pZ (ops:=[.ref a,.ref s2.heap.objs.size]) gY.isList.typeIs dU.lookup (gU gY.isList (am.IsSliceOf.new ..) .none .none (.int (-1) t) (by simp) ?_ (by rw[Oh]<;>lia)) (by with_unfolding_all rfl);rw[PySem.W.krv_pick];refine⟨.ref _,_,I4.laid (t':=s2.toks) (o:=.lst xs.reverse) (λb ob q=>Tj _ q) (Og _) ?_,rfl,q _ (I4.hok.fresh (Og _))⟩;exact⟨by rw[Rb];exact t4,_,0,Vals.reverse r4,am.get?_push_size _ rfl⟩
def Ch (xs ys:List V):Bool:=(xs.length==ys.length)&&(List.range xs.length).all λj=>eqV (xs.getD j .non) (ys.getD j .non)
def Xij:∀(xs ys:Za),Ch (xs.map V.str) (ys.map V.str)=decide (xs=ys):=by
 intro xs ys;unfold Ch;rw[Oc,Oc];by_cases e:xs=ys
 ·subst e;simp only[beq_self_eq_true,Qp,decide_true];rw[O6];intro j hj;have jN:j<xs.length:=Pu.mp hj;simp[List.getD,jN,eqV]
 ·rw[Tf e];by_cases hl:xs.length=ys.length
  ·cases hb:((xs.length==ys.length)&&(List.range xs.length).all λj=>eqV ((xs.map V.str).getD j .non) ((ys.map V.str).getD j .non)) with
   | false=>rfl
   | true=>
    exfalso;refine e (Rr hl λj h1 h2=>?_);rw[O4,O6] at hb;have q:=hb.2 j (Pu.mpr h1);simp[List.getD,h1,h2,eqV] at q;exact q
  ·have:(xs.length==ys.length)=false:=by simpa using hl
   rw[this,Qe]
def Xbo (K:KL) (g:Bool->Bool):R2:=λx y H Q=>∃a b xs ys,x = .ref a/\y = .ref b/\SqL K H a xs/\SqL K H b ys/\(∀v∈xs,B8 v=true)/\(∀v∈ys,B8 v=true)/\Q (.bl (g (Ch xs ys))) H
def Xbp    (rx:Vals xs us) (ry:Vals ys vs) (fx:∀v∈xs,B8 v=true) (fy:∀v∈ys,B8 v=true) (j) (h1:j<us.toArray.size) (h2:j<vs.toArray.size):
  SeqAt.EqAt A s us.toArray[j] vs.toArray[j] (eqV (xs.getD j .non) (ys.getD j .non)):=by
 have l1:=rx.length;have l2:=ry.length;rw[Oh] at h1 h2;have g1:xs[j]? = some (xs[j]'(by lia)):=Od (by lia);have g2:ys[j]? = some (ys[j]'(by lia)):=Od (by lia);obtain⟨u,hu,ru⟩:=rx.get g1;obtain⟨v,hv,rv⟩:=ry.get g2;have e1:us.toArray[j]=u:=by
  rw[Sa];rw[Od h1] at hu;exact Ov hu
 have e2:vs.toArray[j]=v:=by
  rw[Sa];rw[Od h2] at hv;exact Ov hv
 rw[e1,e2];have d1:xs.getD j .non=xs[j]'(by lia):=by simp[List.getD,g1]
 have d2:ys.getD j .non=ys[j]'(by lia):=by simp[List.getD,g2]
 rw[d1,d2];exact Xa4 ru rv (fx _ (O5 _)) (fy _ (O5 _))
def Xik(hu:X.A.units<bj):OpR X (aF .Eq) (Xbo X.K id):=by
 intro pins s Z H x y v u Q I rx ry h;obtain⟨a,b,xs,ys,rfl,rfl,hx,hy,fx,fy,q⟩:=h;cases rx;cases ry;obtain⟨us,r1,p1,z1⟩:=I.list hx;obtain⟨vs,r2,p2,z2⟩:=I.list hy;have l1:=r1.length;have l2:=r2.length;by_cases hl:xs.length=ys.length
 ·refine SeqAt.eq_listAt (e:=λj=>eqV (xs.getD j .non) (ys.getD j .non)) p1.isList p2.isList (by rw[Oh,Oh];lia) hu (λj h1 h2=>Xbp r1 r2 fx fy j h1 h2) ?_;refine⟨.bl (Ch xs ys),H,I,?_,q⟩;show aa.bool _=aa.bool (Ch xs ys);unfold Ch;rw[Oh,<-l1,hl,beq_self_eq_true,Qp]
 ·refine SeqAt.eq_list_lengthsAt p1.isList p2.isList (by rw[Oh,Oh];simpa using (by lia:us.length≠vs.length)) hu ?_;refine⟨.bl (Ch xs ys),H,I,?_,q⟩;show aa.bool _=aa.bool (Ch xs ys);unfold Ch;have:(xs.length==ys.length)=false:=by simpa using hl
  rw[this,Qe]
def Xbq(hu:X.A.units<bj):OpR X (aF .NotEq) (Xbo X.K not):=by
 intro pins s Z H x y v u Q I rx ry h;obtain⟨a,b,xs,ys,rfl,rfl,hx,hy,fx,fy,q⟩:=h;cases rx;cases ry;obtain⟨us,r1,p1,z1⟩:=I.list hx;obtain⟨vs,r2,p2,z2⟩:=I.list hy;have l1:=r1.length;have l2:=r2.length;by_cases hl:xs.length=ys.length
 ·refine SeqAt.RcNeAt.lists (e:=λj=>eqV (xs.getD j .non) (ys.getD j .non)) p1.isList p2.isList (by rw[Oh,Oh];lia) hu (λj h1 h2=>Xbp r1 r2 fx fy j h1 h2) _ _ _ _ ?_;refine⟨.bl (!Ch xs ys),H,I,?_,q⟩;show aa.bool _=aa.bool (!Ch xs ys);unfold Ch;rw[Oh,<-l1,hl,beq_self_eq_true,Qp]
 ·refine SeqAt.RcNeAt.lists_lengths p1.isList p2.isList (by rw[Oh,Oh];simpa using (by lia:us.length≠vs.length)) hu _ _ _ _ ?_;refine⟨.bl (!Ch xs ys),H,I,?_,q⟩;show aa.bool _=aa.bool (!Ch xs ys);unfold Ch;have:(xs.length==ys.length)=false:=by simpa using hl
  rw[this,Qe,Bool.not_false]
def Xil (K:KL) (n:Nat) (t:TGs):TG:=λv Z H Q=>∃a xs,v = .ref a/\SqL K H a xs/\xs.length=n/\t xs Z H Q
def Xim    (hc:X.calm=true) (h:PGs X es t)
  (hn:(bq es X.env).length=n:=by rfl) (bi:(bq es X.env).findIdx? (·.1)=none:=by rfl):PG X (.Tuple es k pos) (Xil X.K n t):=by
 intro pins s Z H v u Q I r hw;obtain⟨a,xs,e1,hq,hl,hw⟩:=hw;subst e1;cases r;obtain⟨ax,rv,ht,hz⟩:=I.list hq;rw[assign_Tuple];refine S7 (aQ ?_);unfold unpack;have aI:(bq es X.env).length=ax.toArray.size:=by rw[hn,<-hl,Oh];exact rv.length
 rw[aI,bi];refine S7 (a8 (PySem.W.kun_itemsOf (I.ok.hd hc) ht.isList λh' hx=>?_));have I1:Inv X pins Z H {s with heap:=h'}:=I.kept (t':=s.toks) λb o e=>hx b o (Oq (Ti e)) e;exact h pins _ Z H xs _ Q I1 (by simpa using rv) hw
def repS (z:aj) (n:Nat):aj:=⟨(List.replicate n z.cps).foldl (· ++ ·) #[]⟩
def Xin(z):repS z 1=z:=by
 obtain⟨c⟩:=z;show (⟨(#[]:Array Nat)++c⟩:aj)=⟨c⟩;rw[Array.empty_append]
theorem Xbr(z):∀(n:Nat) (a:Array Nat),((List.replicate n z).foldl (· ++ ·) a).size=a.size+n * z.size
 | 0,a=>by simp
 | n+1,a=>by
  rw[Qs,List.foldl_cons,Xbr z n,Array.size_append,Nat.succ_mul]
  lia
def Mc(z)(n):(repS z n).length=n * z.length:=by
 have e:=Xbr z.cps n #[];show ((List.replicate n z.cps).foldl (· ++ ·) #[]).size=n * z.cps.size;simpa using e
def Xio(h:z.length=0)(n):repS z n=z:=by
 have e:=Mc z n;rw[h,Nat.mul_zero] at e;generalize repS z n=y at e;obtain⟨c⟩:=z;obtain⟨d⟩:=y;have h':c.size=0:=h;have e':d.size=0:=e;rw[Array.size_eq_zero_iff] at h' e';rw[h',e']
def Xip:OpR X (bu .Mult) (λx y H Q=>∃z n,x = .str z/\y = .int n/\0<=n/\n<=1000/\z.length<=1000/\Q (.str (repS z n.toNat)) H):=by
 intro pins s Z H x y v u Q I rx ry h;obtain⟨z,n,rfl,rfl,h0,h1,hz,q⟩:=h;obtain⟨t,rfl⟩:=rx;obtain⟨t',rfl⟩:=ry;have hle:z.length * n.toNat<=1000 * 1000:=Nat.mul_le_mul hz (by lia);refine PySem.P.mul_str ?_ (λhn uT=>?_) (λhn uT=>?_) ?_
 ·have h2:¬n < -(2 ^ 63:Int):=by lia
  have h3:¬n ≥ 2 ^ 63:=by lia
  rw[Tf h2,Tf h3];rfl
 ·have h4:(1000:Int)<=(2 ^ 63 - 1) / n:=by
   refine(Int.le_ediv_iff_mul_le (by lia)).mpr ?_;have:(1000:Int) * n<=1000 * 1000:=by lia
   lia
  lia
 ·show au.Str.tooLong _=false;unfold au.Str.tooLong
  first
   | (refine Tf ?_;have:=hle;rw[Tb];lia)
   | (simp;lia)
 ·by_cases hn:n<1
  ·rw[Td hn];have:n=0:=by lia
   subst this;exact⟨by decide,.str aj.empty,H,I.tok _,⟨_,rfl⟩,q⟩
  ·rw[Tc hn];by_cases hc:(n==1||z.length==0)=true
   ·rw[Td hc];have e:repS z n.toNat=z:=by
     rcases Sg.mp hc with e | e
     ·have e':n=1:=by simpa using e
      subst e';exact Xin z
     ·exact Xio (by simpa using e) _
    rw[e] at q;exact⟨.str z,H,I,⟨_,rfl⟩,q⟩
   ·rw[Tc hc];refine⟨?_,.str (repS z n.toNat),H,I.tok _,⟨_,rfl⟩,q⟩;show (repS z n.toNat).length<=sizeLine;rw[Mc,Nat.mul_comm,Tb]
    lia
def Hj:X.calm=true->B1 X (.builtin "all") (λxs H Q=>∃(a:ae) (bs:List Bool),xs=[.ref a]/\H a=some (.lst (bs.map V.bl))/\Q (.bl (bs.all id)) H):=by
 intro hc pins s Z H xs us Q I r h;obtain⟨a,bs,rfl,ha,q⟩:=h;obtain⟨u,rfl,ru⟩:=Co r;cases ru;obtain⟨ax,rv,p,hz⟩:=I.list (SqL.of ha);have hl:=rv.length;rw[Oc] at hl;refine call_all_walk (cD p.isList ?_);have aZ:a≠s.heap.objs.size:=by
  obtain⟨o,ho,_⟩:=p.isList;exact Oq (Ti ho)
 refine⟨s.heap.objs.size,_,_,_,_,_,λj=>bs.getD j false,rfl,lG.list (A:=X.A.in1) (show X.A.in1.handled=none from I.ok.hd hc) s.heap.objs.size a aZ ax.toArray,⟨⟨_,am.get?_push_size _ rfl,rfl,rfl⟩,p.isList.push _⟩,λi v s' Q' E' hP hQ=>?_,λh' tk k=>?_⟩
 ·have hv:ax[i]? = some v:=by simpa using hP
  have hi:i<ax.length:=(Ox.mp hv).1;have g:(bs.map V.bl)[i]? = some (.bl (bs[i]'(by lia))):=by
   rw[Ou,Od (by lia)];rfl
  obtain⟨u,hu,ru⟩:=rv.get g;rw[hv] at hu;cases hu;cases ru;have e:bs.getD i false=bs[i]'(by lia):=by simp[List.getD,(by lia:i<bs.length)]
  have ya:Q' (bs.getD i false) s':=hQ;rw[e] at ya;exact aL ya
 ·refine⟨.bl (bs.all id),H,I.kept (t':=tk) λb o e=>k b o (λz=>?_) (Tj _ e),?_,q⟩
  ·have z':b=s.heap.objs.size:=by simpa using z
   exact absurd (Ti e) (by rw[z'];exact Pt _)
  ·show aa.bool _=aa.bool _;congr 1;rw[Oh,<-hl];rw[Qf,O6,O6];constructor
   ·intro hx b hb;obtain⟨j,hj,rfl⟩:=Pi.mp hb;have:=hx j (Pu.mpr hj);simpa [List.getD,hj] using this
   ·intro hx j hj;have jN:=Pu.mp hj;have:=hx _ (O5 jN);simpa [List.getD,jN] using this
end
def Itd (d:ae) (o:aM) (kvs:List (Key×V)):It:=
 ⟨λi H=>H d=some (.frz o (.dK kvs))/\i<kvs.length,λi H x H'=>H'=H/\∃p,kvs[i]? = some p/\x=kV p.1,λi H=>H d=some (.frz o (.dK kvs))/\kvs.length<=i⟩
def Xiq    (h:(A7 P w).is k u=true):Ah (kV k) u:=by
 rcases Dx (show Ed k u=true from h) with ⟨i,t,rfl,rfl⟩ | ⟨x,t,rfl,rfl⟩
 ·exact⟨t,rfl⟩
 ·exact⟨t,rfl⟩
theorem Xbs:∀{kvs:List (Key×V)} {vs:List (Key×aa)} {i:Nat} {p:Key×V},KV kvs vs->kvs[i]? = some p->∃u,vs[i]? = some (p.1,u)
 | _,_,_,_,.nil,e=>by simp at e
 | _,_,0,p,.cons (b:=b) r _,e=>by
  simp at e;subst e;obtain⟨k,u⟩:=b;obtain⟨r1,r2⟩:=r;exact⟨u,by simp only[List.getElem?_cons_zero,Option.some.injEq,Prod.mk.injEq];exact⟨r1.symm,trivial⟩⟩
 | _,_,i+1,p,.cons _ t,e=>by
  obtain⟨u,h⟩:=Xbs (i:=i) t (by simpa using e);exact⟨u,by simpa using h⟩
def Md{P:ao}{w:av}{K:KL}{tg:aC}(d it:ae)(o:aM)(es:Array m7)(ep:Nat)(hd:o.data = .dict es ep)(kvs:List (Key×V))(eW:d≠it):
  Turn P w K tg (Itd d o kvs) [it] it (λi h=>h.IsKeyIter it d i kvs.length ep) where
 mem:=by simp
 obj:=λi h st b hb=>by
  have e:b=it:=by simpa using hb
  subst e;obtain⟨o,e,c,d⟩:=st;exact⟨o,e,λv z=>by rw[d] at z;cases z⟩
 keep:=λi h h' st k=>by
  obtain⟨o,e,r⟩:=st;exact⟨o,k it (by simp) o e,r⟩
 item:=by
  intro X hP hw hK hc i pins s Z H E I hf st hg;subst hP hw hK;obtain⟨hH,hi⟩:=hg;obtain⟨ho,hz,hm,vs,rv,o',gF,kg,dF,hex,im,r'⟩:=I.hok d _ hH;rw[ho] at dF;cases dF;rw[hd] at im;cases im;have aI:kvs.length=vs.length:=Paired.length rv;obtain⟨f0,f1,f2,f3,f4,f5⟩:=hf it (by simp);have hp:kvs[i]? = some (kvs[i]'hi):=Od hi;obtain⟨u,hu⟩:=Xbs rv hp;rw[aI] at st;refine wpAny_pyNext_dict_item (knd:=A7 X.prog X.w) st ⟨o,es,ho,hex,hd,r'⟩ hu λcM h' hk ay sb=>?_;have I1:Inv X pins Z H {s with heap:=h'}:=I.turned (t':=s.toks) (λb o hb e=>(sb.2 b hb).trans e) f0 f1 f3 f4 f5;obtain⟨o2,e2,c2,d2⟩:=id ay;refine⟨cM,rfl,Jn (s:={s with heap:=h'}) e2 c2 d2 (by decide) ⟨_,H,I1,Xiq hk,⟨rfl,_,hp,rfl⟩,?_,λb hb=>(hf b hb).1⟩⟩;rw[aI];exact ay
 done:=by
  intro X hP hw hK hc i pins s Z H E I hf st hg;subst hP hw hK;obtain⟨hH,hi⟩:=hg;obtain⟨ho,hz,hm,vs,rv,o',gF,kg,dF,hex,im,r'⟩:=I.hok d _ hH;rw[ho] at dF;cases dF;rw[hd] at im;cases im;have aI:kvs.length=vs.length:=Paired.length rv;obtain⟨f0,f1,f2,f3,f4,f5⟩:=hf it (by simp);rw[aI] at st;exact wpAny_pyNext_dict_end (knd:=A7 X.prog X.w) (I.ok.hd hc) st ⟨o,es,ho,hex,hd,r'⟩ (Rk (by lia)) λh' eb=>⟨rfl,I.turned (t':=s.toks) (λb o hb e=>eb b o hb e) f0 f1 f3 f4 f5⟩
 self:=λA i s Q E st h=>by
  refine ed st.typeIs PySem.F.slot_dict_keyiterator_iter (aX PySem.F.slot_dict_keyiterator_iter st.typeIs PySem.F.entry_dict_keyiterator_iter ?_ (PySem.F.args_dict_keyiterator_iter_1 _));show ai _ _ (ret (.ref it)) _ _ s;exact S8 ⟨_,rfl, "dict_keyiterator",_,st.typeIs,PySem.F.slot_dict_keyiterator_next.lookup,h⟩
section
variable {X:Cx}{tg:aC}
def Inv.freeze       (I:Inv X pins Z H s) (hH:H d=some (.dK kvs)) (ho:s.heap.get? d=some o):Inv X pins Z (upd H d (.frz o (.dK kvs))) s:=by
 have ne:∀{b:ae} {u:HO},H b=some u->(HO.dK kvs≠u)->b≠d:=λ{b u} e n=>Xaa e hH (λz=>n z.symm);refine⟨I.ok,I.os,I.bare,⟨I.base.keep,I.base.slot,λb ob e n hx=>?_,I.base.there,λb xs e=>?_,λb ob u e=>?_,λb ps e=>?_⟩,I.loc,I.cell,?_,λx c e=>?_,λp ix=>?_,λb ob e=>?_,I.len⟩
 ·have q:=I.base.free b ob e n hx;rw[Ad (λz=>by rw[z,hH] at q;cases q)];exact q
 ·have q:=I.base.tups b xs e;rw[Ad (ne q (by simp))];exact q
 ·have q:=I.base.frzs b ob u e;rw[Ad (ne q (by simp))];exact q
 ·obtain⟨more,q⟩:=I.base.tbls b ps e;exact⟨more,by rw[Ad (ne q (by simp))];exact q⟩
 ·rw[Ad (λz=>by have:=I.free;rw[z,hH] at this;cases this)];exact I.free
 ·have q:=I.freeC x c e;rw[Ad (λz=>by rw[z,hH] at q;cases q)];exact q
 ·obtain⟨e,n,r⟩:=I.pin p ix;exact⟨e,by rw[Ad (λz=>by rw[z,hH] at n;cases n)];exact n,r⟩
 ·by_cases hb:b=d
  ·subst hb;rw[Ab] at e;cases e;exact⟨ho,(I.hok b _ hH).stay (λ_ _ _ q=>q) (λc q=>by rw[Ad (ne q (by simp))];exact q) λc xs q=>by rw[Ad (ne q (by simp))];exact q⟩
  ·rw[Ad hb] at e;exact(I.hok b ob e).stay (λ_ _ _ q=>q) (λc q=>by rw[Ad (ne q (by simp))];exact q) λc xs q=>by rw[Ad (ne q (by simp))];exact q
def Xir (tl:TE):TI:=fun Z H R=>tl Z H λx H1=>∃d kvs,x = .ref d/\H1 d=some (.dK kvs)/\∀o,R (Itd d o kvs) (upd H1 d (.frz o (.dK kvs)))
def Xis  (hl:PE X l tl):PI X tg l (Xir tl):=by
 intro pins s Z H R I h;refine thn (hl pins s Z H _ I h) λv s1 ⟨x,H1,I1,r1,q1⟩=>?_;obtain⟨d,kvs,e,hH,q⟩:=q1;subst e;cases r1;obtain⟨hz,hm,vs,rv,o,es,ep,ho,hex,hd,r⟩:=I1.hok d _ hH;have aI:kvs.length=vs.length:=Paired.length rv;refine eg (knd:=A7 X.prog X.w) hm ⟨o,es,ho,hex,hd,r⟩ ?_;have I2:=I1.freeze hH ho;refine⟨s1.heap.objs.size,[s1.heap.objs.size],_,_,_,rfl,I2.kept (t':=s1.toks) λb o e=>Tj _ e,Md d _ o es ep hd kvs (Oq (Ti ho)),⟨_,am.get?_push_size _ rfl,rfl,by rw[aI];rfl⟩,λb hb=>?_,q o⟩;have e:b=s1.heap.objs.size:=by simpa using hb
 subst e;exact I2.fpOk (Og _) (I2.hok.fresh (Og _))
end
def PJ (X:Cx) (es:List aC) (t:St->Hp->(Hp->Prop)->Prop):Prop:=
 ∀(out:aj) (pins:List (ae×aM)) (s:af) (Z:St) (H:Hp) (Q:Hp->Prop),Inv X pins Z H s->t Z H Q->out.length+5000 * es.length<=sizeLine ->
  ai (ag X.prog X.w) X.A (joinParts out (c6 es X.env)) (λu s'=>∃z tk H',u = .str z tk/\Inv X pins Z H' s'/\Q H') X.xe s
def Xbt:St->Hp->(Hp->Prop)->Prop:=λ_ H Q=>Q H
def Xbu (t:St->Hp->(Hp->Prop)->Prop):St->Hp->(Hp->Prop)->Prop:=t
section
variable {X:Cx}{es:List aC}{t:St->Hp->(Hp->Prop)->Prop}{e:aC}{te:TE}{pos:ce}
def Xbv:PJ X [] Xbt:=λout pins s Z H Q I h hz=>joinParts_nil ⟨out,_,H,rfl,I.tok _,h⟩ (by simpa using hz)
def Ei(a b:aj):(a++b).length=a.length+b.length:=gZ a b
def Me   (hz:z.length<=5000) (h:PJ X es t) (he:c6 (.Constant (.str z) k p::es) X.env=eval (.Constant (.str z) k p) X.env::c6 es X.env:=by rfl):PJ X (.Constant (.str z) k p::es) (Xbu t):=by
 intro out pins s Z H Q I hw hl;rw[he];rw[Pe] at hl;refine fR (Calls.Constant_str ⟨by rw[Ei];lia,?_⟩);exact h (out++z) pins _ Z H Q (I.tok _) hw (by rw[Ei];lia)
def Xbw (t:St->Hp->(Hp->Prop)->Prop):TE:=fun Z H Q=>t Z H λH1=>∀z,Q (.str z) H1
def Xbx(h:PJ X (a::b::es) t)(hz:5000 * (a::b::es).length<=sizeLine:=by decide)(he:c6 (a::b::es) X.env=eval a X.env::eval b X.env::c6 es X.env:=by rfl):PE X (.JoinedStr (a::b::es) pos) (Xbw t):=by
 intro pins s Z H Q I hw;refine JoinedStr_many ?_;rw[<-he];refine thn (h aj.empty pins s Z H _ I hw (by rw[show aj.empty.length=0 from rfl];lia)) λu s' ⟨z,tk,H',e,I',q⟩=>?_;subst e;exact⟨.str z,H',I',⟨tk,rfl⟩,q z⟩
end
end L2
namespace L2
open PySem.Calls Builtin Builtin.ObjectAttr Builtin.Getset_descriptor
structure ExcF (K:KL) (C:ae):Prop where
 ga:KS K (.ref C) "__getattribute__" = some (some (.builtin "BaseException.__getattribute__"))
 gn:KS K (.ref C) "__getattr__" = some none
 cl:KS K (.ref C) "__class__" = some (some (.builtin "object.__class__"))
 sb:KP K (.ref C) (.type "BaseException")=some true
 so:KP K (.ref C) (.type "object")=some true
 ic:(LP K C).isSome=true
section
variable {prog:ao}{w:av}{A:aw}{E:Zb}{K:KL}{C a:ae}{h:am}{g:Array GenState}{d:Drawn}{t:Nat}{os:OsState}
open PySem.W in
def Hk{M:Model}(p:Dq a C h):Looks M h (qa (.ref a)) (.ref C):=by
 obtain⟨o,vs,h1,h2,h3⟩:=p;exact h2 ▸ (Looks.ld h1).andThen .now
open PySem.W in
def Xit{R:iB->af->Prop}(X:K.In h)(F:ExcF K C)(p:Dq a C h)(hq:R (.ok (.ret (.ref C))) ⟨h,g,d,t,os⟩):
  bf (ag prog w) A (.call (.builtin "getset_descriptor.__get__") ⟨[.builtin "object.__class__",.ref a,.ref C],[]⟩) R ⟨h,g,d,t,os⟩:=by
 have L0:=Hk (M:=ag prog w) p;have L1:Looks (ag prog w) h (iy (.ref C) (.type "object")) true:=looks_subIn X F.so;refine cV KF.slot_gs.plain KF.entry_gs (KF.slot_gs.check _ _ _ _ _ _ _ _ KF.type_class (KF.args_gs _ _ _) ?_);unfold au.«getset_descriptor.__get__» descrGet;rw[dga_obj];refine S7 (S8 ?_);unfold descrGetter descrCheckInstance descrNameAndClass fS;simp only[KF.owner_class]
 repeat lk
 refine⟨Code.quiet_builtin _ (by decide +kernel),aV KF.entry_class ?_⟩;unfold au.«object.__class__» shownTypeOf
 repeat lk
 exact hq
open PySem.W in
def Xiu{tk:AB}{Q:Fin->af->Prop}(X:K.In h)(F:ExcF K C)(p:Dq a C h)(hq:Q (.done (.ret (.ref C))) ⟨h,g,d,t,os⟩):
  ai (ag prog w) A (au.«object.__getattribute__» ⟨[.ref a,.str "__class__" tk],[]⟩) Q E ⟨h,g,d,t,os⟩:=by
 have L0:=Hk (M:=ag prog w) p;have L1:=looks_findIn (M:=ag prog w) X F.cl;have IW:(⟨h,g,d,t,os⟩:af).TypeIs (.builtin "object.__class__") "getset_descriptor" := PySem.F.typeOf_object_class;have f5:=PySem.F.typeOf_object_class;have f6:=PySem.F.slot_gs_get.lookup;have f7:=PySem.F.slot_gs_set.lookup
 repeat (any_goals (first | assumption | (refine S7 (L0.at ?_)) | (refine S7 (L1.at ?_)) | wp_step))
 refine Xit X F p ?_
 repeat (any_goals (first | assumption | wp_step))
open PySem.W in
def Xiv{M:Model}{lI:aa}{Q:Unit->af->Prop}(X:K.In h)(F:ExcF K C)(p:Dq a C h)(hq:Q () ⟨h,g,d,t,os⟩):ai M A (eN "BaseException.__getattribute__" ⟨[.ref a,lI],[]⟩) Q E ⟨h,g,d,t,os⟩:=by
 have hk:builtinKind "BaseException.__getattribute__" = some .slot:=by decide +kernel
 have mG:splitId "BaseException.__getattribute__" = some ("BaseException", "__getattribute__"):=by decide +kernel
 have L0:=Hk (M:=M) p;have L1:Looks M h (iy (.ref C) (.type "BaseException")) true:=looks_subIn X F.sb;have LI:Looks M h (fS (.ref a) (.type "BaseException")) true:=L0.andThen L1;have ha:=PySem.F.args_bexc_ga (.ref a) lI;simp only[eN,hk,mG];refine S7 (LI.at ?_)
 repeat (first | assumption | wp_step)
open PySem.W in
def Xiw{tk:AB}{R:iB->af->Prop}(X:K.In h)(F:ExcF K C)(p:Dq a C h)(hq:R (.ok (.ret (.ref C))) ⟨h,g,d,t,os⟩):
  bf (ag prog w) A (.call (.builtin "BaseException.__getattribute__") ⟨[.ref a,.str "__class__" tk],[]⟩) R ⟨h,g,d,t,os⟩:=
 cV (by decide +kernel) PySem.F.entry_bexc_ga (Xiv X F p (Xiu X F p hq))
open PySem.W in
def Xix{tk:AB}{Q:Zb}(X:K.In h)(F:ExcF K C)(p:Dq a C h)(hq:Q (.ref C) ⟨h,g,d,t,os⟩):
  ai (ag prog w) A (IZ (.ref a) (.str "__class__" tk) false) Q E ⟨h,g,d,t,os⟩:=by
 have L0:=Hk (M:=ag prog w) p;have L1:=looks_findIn (M:=ag prog w) X F.ga;have L2:=looks_findIn (M:=ag prog w) X F.gn;have f3:bindSpecial (.builtin "BaseException.__getattribute__") (.ref a)=pure (.builtin "BaseException.__getattribute__",[.ref a]):=PySem.F.excAttr_ValueError.ga.bind (.ref a);have oM:(aa.builtin "BaseException.__getattribute__" == aa.builtin "object.__getattribute__")=false:=by decide +kernel
 have lJ:(onTheHeap (aa.ref C)&&aa.builtin "BaseException.__getattribute__" == aa.builtin "object.__getattribute__")=false:=by rw[oM];rfl
 repeat (any_goals (first | assumption | (refine S7 (L0.at ?_)) | (refine S7 (L1.at ?_)) | (refine S7 (L2.at ?_)) | wp_step))
 refine Xiw X F p ?_
 repeat (any_goals (first | assumption | wp_step))
open PySem.W in
def Xiy{Q:Option aa->af->Prop}(X:K.In h)(F:ExcF K C)(p:Dq a C h)(hq:Q (some (.ref C)) ⟨h,g,d,t+1,os⟩):ai (ag prog w) A (ju (.ref a) "__class__") Q E ⟨h,g,d,t,os⟩:=by
 unfold ju BA
 repeat (any_goals (first | assumption | with_reducible apply Xix X F p | wp_step))
end
end L2
namespace L2
def Xiz{K:KL}{C a:ae}(F:ExcF K C):PySem.W.KitX K (.ref a) (.ref C) (Dq a C) where
 ty:=λM h X p=>Hk p
 it:=λM h X p=>by
  have z:=F.ic;unfold LP at z;split at z
  ·rename_i c' d' BB gE ho;intro A' Q' E' s' k q;unfold isType loadHead;exact S7 (wpAny_loadPart (k _ _ (X _ _ ho)) (S8 q))
  ·cases z
 ne:=λh tp dd ax n sl X jO=>by
  refine Q8.mpr λq=>?_;have e:C=tp:=aa.ref.inj (beq_iff_eq.mp q);subst e;have z:=F.ic;unfold LP at z;split at z
  ·rename_i c' d' BB gE ho;have z:=(X _ _ ho).symm.trans jO;cases z
  ·cases z
 ca:=λ{prog w A E Q s} X p k=>by
  obtain⟨h,g,d,t,os⟩:=s;exact Xiy X F p k
def Hl:V->Option aa
 | .ty n=>some (.type n)
 | .ref a=>some (.ref a)
 | _=>none
def Xby  (r:Ah c u) (h:Hl c=some v):u=v:=by
 cases c with
 | ty n=>cases r;exact Ov h
 | ref a=>cases r;exact Ov h
 | _=>cases h
section
variable {X:Cx}
def Hm:B1 X (.builtin "isinstance") (λxs H Q=>∃x c t cv b,xs=[x,c]/\TyOf X.K H x t/\Hl c=some cv/\KN X.K t cv=some b/\Q (.bl b) H):=by
 intro pins s Z H xs us Q I r h;obtain⟨x,c,t,cv,b,rfl,ty,hc,e,q⟩:=h;obtain⟨u,v,rfl,ru,rv⟩:=r.two;have:=Xby rv hc;subst this;exact Xg4 I ru ty e λtk=>⟨.bl b,H,I.tok _,rfl,q⟩
def Xi0:B1 X (.builtin "isinstance") (λxs H Q=>∃a C c cv b,xs=[.ref a,c]/\H a=some (Fq a C)/\ExcF X.K C/\Hl c=some cv/\KN X.K (.ref C) cv=some b/\Q (.bl b) H):=by
 intro pins s Z H xs us Q I r h;obtain⟨a,C,c,cv,b,rfl,ha,F,hc,e,q⟩:=h;obtain⟨u,v,rfl,ru,rv⟩:=r.two;have:=Xby rv hc;subst this;cases ru;obtain⟨p,_⟩:=(show A4 X.prog X.w H s.heap a (.ext (Dq a C)) from I.hok a _ ha);exact KQ (Xiz F) I.kIn p e (λz=>nomatch z) λtk=>⟨.bl b,H,I.tok _,rfl,q⟩
end
def wN (n:Nat) (Pv:Nat->St->Hp->Prop):Nat->Nat->St->Hp->Prop:=λi m Z H=>m=n - i/\i<=n/\Pv i Z H
def wput       (hi:i<n) (hD:H D=some (.lst ys)) (hl:ys.length<sizeLine) (p:Pv (i+1) Z (upd H D (.lst (ys++[y])))):
  ∃ys,H D=some (.lst ys)/\ys.length<sizeLine/\∃m',m'<n - i/\wN n Pv (i+1) m' Z (upd H D (.lst (ys++[y]))):=⟨ys,hD,hl,n - (i+1),by lia,rfl,hi,p⟩
def wskip    (hi:i<n) (p:Pv (i+1) Z H):∃m',m'<n - i/\wN n Pv (i+1) m' Z H:=⟨n - (i+1),by lia,rfl,hi,p⟩
def D2        (n:Nat) (vs:Nat->V) (Pv:ae->Nat->St->Hp->Prop)
  (h0:∀D,H1 D=none->Pv D 0 (Bk cap Z) (upd H1 D (.lst [])))
  (fk:∀D i Z2 H2,H1 D=none->i<n->Pv D i Z2 H2->J.go i H2/\∀x H3,J.yld i H2 x H3->H3=H2/\x=vs i)
  (bi:∀D Z2 H2,H1 D=none->Pv D n Z2 H2->J.stop n H2)
  (step:∀D i Z1 H2,H1 D=none->i<n->Pv D i Z1 H2->g (vs i) Z1 H2 fun Z2 H4=>tt Z2 H4 λb H5=>
   if b=true then te Z2 H5 λy H6=>∃ys,H6 D=some (.lst ys)/\ys.length<sizeLine/\∃m',m'<n - i/\wN n (Pv D) (i+1) m' Z2 (upd H6 D (.lst (ys++[y])))
   else ∃m',m'<n - i/\wN n (Pv D) (i+1) m' Z2 H5)
  (hd:∀D Z2 H2,H1 D=none->Pv D n Z2 H2->F D H2):D1 cap g tt te J Z H1 F:=by
 intro D hD;refine⟨wN n (Pv D),⟨n,by simp,Pg _,h0 D hD⟩,?_⟩;rintro i m Z1 H2 ⟨rfl,hi,p⟩;by_cases aZ:i<n
 ·obtain⟨h1,h2⟩:=fk D i Z1 H2 hD aZ p;refine .inr ⟨h1,λx H3 y=>?_⟩;obtain⟨e1,e2⟩:=h2 x H3 y;subst e1 e2;exact step D i Z1 _ hD aZ p
 ·have e:i=n:=by lia
  subst e;exact .inl ⟨bi D Z1 H2 hD p,hd D Z1 H2 hD p⟩
def B4{K}    (h:SqL K H a xs)(hi:i<xs.length):(Itl K a).go i H/\∀x H3,(Itl K a).yld i H x H3->H3=H/\x=xs.getD i .non:=
 ⟨⟨xs,xs[i],h,by simp[hi]⟩,λx H3 ⟨e,y⟩=>⟨e,by have:=y xs h;simp[List.getD,this]⟩⟩
def B5{K}   (h:SqL K H a xs):(Itl K a).stop xs.length H:=⟨xs,h,Og _⟩
def Xi1{K}    (h:SqT K H a xs)(hi:i<xs.length):(Itt K a).go i H/\∀x H3,(Itt K a).yld i H x H3->H3=H/\x=xs.getD i .non:=
 ⟨⟨xs,xs[i],h,by simp[hi]⟩,λx H3 ⟨e,y⟩=>⟨e,by have:=y xs h;simp[List.getD,this]⟩⟩
def Xi2{K}   (h:SqT K H a xs):(Itt K a).stop xs.length H:=⟨xs,h,Og _⟩
def Hn   {kvs}  (h:H d=some (.frz o (.dK kvs))) (hi:i<kvs.length):(Itd d o kvs).go i H/\∀x H3,(Itd d o kvs).yld i H x H3->H3=H/\x=(kvs.map λp=>kV p.1).getD i .non:=
 ⟨⟨h,hi⟩,λx H3 ⟨e,p,hp,y⟩=>⟨e,by rw[y];simp[List.getD,hp]⟩⟩
def Ho   {kvs} (h:H d=some (.frz o (.dK kvs))):(Itd d o kvs).stop kvs.length H:=⟨h,Og _⟩
end L2
namespace L2
open PySem.Calls
def Xi3(t:aB)(n):(t.orStandIn n).led=t.led:=by
 unfold aB.orStandIn;split
 ·rfl
 ·rfl
def Xi4(t)(es)(k)(x):(BC t es k x).2.1.led=t.led:=by
 unfold BC;split
 ·exact Xi3 _ _
 ·rfl
def Xi5  {led plain}   (h:aB.laid mask uU yb led plain hs=some (t,o)):t.led=led/\t.plain=plain:=by
 unfold aB.laid at h;cases q:aB.layClean mask hs with
 | none=>rw[q] at h;cases h
 | some ow=>
  rw[q] at h;cases h;exact⟨rfl,rfl⟩
def Xi6(t)(es)(n)(hp:t.plain=false):(cW t es n).2.1.led=t.led/\(cW t es n).2.1.plain=false:=by
 unfold cW;split
 ·rename_i t' o e;obtain⟨e1,e2⟩:=Xi5 e;dsimp only;split
  ·exact⟨e1,e2.trans hp⟩
  ·exact⟨rfl,rfl⟩
 ·exact⟨rfl,rfl⟩
def Ci (w:av):Bool:=w.params.followText "set-order"
def SSet (P:ao) (w:av) (h:am) (a:ae) (ks:Za):Prop:=
 ∃o es ep t ls,h.get? a=some o/\o.ExactSet/\o.data = .set es ep t/\lK (PySem.strKind P w) es.toList/\aD (es.toList.map (·.2)) ls/\ls.Perm ks/\es.size<aT/\t.fits es.size=true/\t.led = !Ci w/\(t.plain=true->es.size=0)
def Xbz{l1 l2:List (Int×aa)}(p:l1.Perm l2)(h:aD (l2.map (·.2)) ls):∃t5,aD (l1.map (·.2)) t5/\t5.Perm ls:=by
 refine⟨(l1.map (·.2)).map lL,yc _ (λv hv=>?_),?_⟩
 ·exact h.all v ((p.map (·.2)).mem_iff.mp hv)
 ·rw[<-h.strs];exact(p.map (·.2)).map lL
def Xi7    (h:aD vs ls):aD (vs++[.str x t]) (ls++[x]):=by
 induction h with
 | nil=>exact .cons x t .nil
 | cons y u _ ih=>exact .cons y u ih
section
variable {P:ao}{w:av}{A:aw}{E:Zb}{s:af}{a:ae}{ks:Za}
def SSet.stay(S:SSet P w h a ks)(k:∀o,h.get? a=some o->h'.get? a=some o):SSet P w h' a ks:=by
 obtain⟨o,es,ep,t,ls,ho,r⟩:=S;exact⟨o,es,ep,t,ls,k o ho,r⟩
def Xi8{vs:List (Int×aa)}  (h:aD (vs.map (·.2)) ls):x∈ls ↔ ∃e∈vs,(PySem.strKind P w).is x e.2=true:=by
 rw[<-h.strs];constructor
 ·intro hx;obtain⟨v,hv,rfl⟩:=O0.mp hx;obtain⟨e,he,rfl⟩:=O0.mp hv;obtain⟨y,t,q⟩:=h.all e.2 hv;refine⟨e,he,?_⟩;rw[q];exact fT P w y t
 ·rintro ⟨e,he,q⟩;obtain⟨t,e2⟩:=aa.isStrOf_shape q;exact O0.mpr ⟨e.2,O0.mpr ⟨e,he,rfl⟩,by rw[e2];rfl⟩
def Xb0     {h:am} (ho:h.get? a=some o) (hex:o.ExactSet) (hd:o.data = .set es ep t)   (jP:lK (PySem.strKind P w) gF.toList) (hs:aD (gF.toList.map (·.2)) ls) (hp:ls.Perm ks) (hb:gF.size<aT) (hf:t'.fits gF.size=true) (hl:t'.led = !Ci w) (cz:t'.plain=false):
  (h.update a (aM.putSet gF t')).get? a=some {o with data:=.set gF (ep+1) t'}/\SSet P w (h.update a (aM.putSet gF t')) a ks:=by
 have g:=am.get?_update_self (aM.putSet gF t') ho (by rw[J' gF t' hd];rfl);rw[J' gF t' hd] at g;exact⟨g,_,gF,ep+1,t',ls,g,hex,rfl,jP,hs,hp,hb,hf,hl,λz=>by rw[cz] at z;cases z⟩
def Xb1{g:Bool->i9 Unit}(hg:∀(b:Bool) (s1:af) (Q':Unit->af->Prop),Q' () s1->ai (ag P w) A (g b) Q' E s1)     (ho:s.heap.get? a=some o)(hex:o.ExactSet)(hd:o.data = .set es ep t)
    (jP:lK (PySem.strKind P w) eF.toList) (hs:aD (eF.toList.map (·.2)) ls) (hp:ls.Perm ks) (hb:eF.size<aT) (hf:t2.fits eF.size=true) (hl:t2.led = !Ci w) (cz:t2.plain=false)  (h:∀h',am.SameBut a s.heap h'->SSet P w h' a ks->R (some true) {s with heap:=h'}):
    ai (ag P w) A (do
        storeSet a eF t2
        if (!wd && t2.tooFull) = true then do g (cW t2 eF (aB.grown eF.size)).2.2
                                              storeSet a (cW t2 eF (aB.grown eF.size)).1 (cW t2 eF (aB.grown eF.size)).2.1
                                              pure (some true)
        else pure (some true)) R E s:=by
  refine S7 (lM ho hd ?_ (cF hb));obtain⟨g1,S1⟩:=Xb0 (P:=P) (w:=w) ho hex hd jP hs hp hb hf hl cz;have sb:=Tk s.heap a (aM.putSet eF t2);split
  . have pp:=relayAll_perm t2 eF (aB.grown eF.size);have ff:=relayAll_fits t2 eF (aB.grown eF.size);obtain⟨uV,qz⟩:=Xi6 t2 eF (aB.grown eF.size) cz;generalize cW t2 eF (aB.grown eF.size)=R3 at pp ff uV qz ⊢;obtain⟨t6,t3,gv⟩:=R3;dsimp only at pp ff uV qz ⊢;obtain⟨JA,s3,p3⟩:=Xbz pp hs;have z:t6.size=eF.size:=by rw[<-O1,pp.length_eq,O1]
    refine S7 (hg _ _ _ ?_);refine S7 (lM g1 rfl ?_ (cF (by rw[z];exact hb)));obtain⟨_,S3⟩:=Xb0 (P:=P) (w:=w) (ks:=ks) g1 hex rfl (jP.perm pp) s3 (p3.trans hp) (by rw[z];exact hb) ff (uV.trans hl) qz;exact S8 (h _ (sb.trans (Tk _ a _)) S3)
  . exact S8 (h _ sb S1)
def Xb2   (S:SSet P w s.heap a ks) (hr:ks.length+1<aT)
  (h:∀b h',am.SameBut a s.heap h'->SSet P w h' a (if x∈ks then ks else ks++[x])->Q b {s with heap:=h'}):
  ai (ag P w) A (uW a (.str x tk) ((PySem.strKind P w).hash x)) Q E s:=by
 obtain⟨o,es,ep,t,ls,ho,hex,hd,jP,hs,hp,hb,hf,hl,cz⟩:=S;have aI:es.size=ks.length:=by
  have:=hs.length;rw[Oc,O1] at this;rw[this,hp.length_eq]
 have iA:(PySem.strKind P w).is x (.str x tk)=true:=fT P w x tk;have eE:x∈ks ↔ ∃e∈es.toList,(PySem.strKind P w).is x e.2=true:=hp.mem_iff.symm.trans (Xi8 hs);unfold uW setAddHashedIn;refine a8 (S7 (bz ho hd hf ?_));dsimp only;rw[byScan_of (knd:=PySem.strKind P w) rfl hb jP];simp only[↓reduceIte];unfold setAddByScan;refine S7 (S7 (aO (S7 (wpAny_setScan_of iA ho hd hf jP ?_))));cases yd:List.findIdx? (λe=>(PySem.strKind P w).is x e.2) es.toList with
 | some j=>
  dsimp only;obtain⟨hj,BD,_⟩:=List.findIdx?_eq_some_iff_getElem.mp yd;have hx:x∈ks:=eE.mpr ⟨es.toList[j],O5 hj,BD⟩;refine S8 (S8 ?_);have:=h false s.heap (am.SameBut.refl a s.heap) (by rw[Td hx];exact⟨o,es,ep,t,ls,ho,hex,hd,jP,hs,hp,hb,hf,hl,cz⟩);exact this
 | none=>
  dsimp only;have hx:x∉ks:=λz=>by
   obtain⟨e,he,q⟩:=eE.mp z;have:=List.findIdx?_eq_none_iff.mp yd e he;rw[q] at this;cases this
  have gw:∀(b:Bool) (s1:af) (Q':Unit->af->Prop),Q' () s1->ai (ag P w) A (match b with | true=>rule "set.scan.the-table-gave-way" | false=>pure ()) Q' E s1:=λb s1 Q' q=>by
   cases b with
   | true=>exact aO q
   | false=>exact S8 q
  have pp:=layNew_perm t es ((PySem.strKind P w).hash x) (.str x tk);have ff:=layNew_fits t es ((PySem.strKind P w).hash x) (.str x tk);have fl:=Xi4 t es ((PySem.strKind P w).hash x) (.str x tk);generalize BC t es ((PySem.strKind P w).hash x) (.str x tk)=R at pp ff fl ⊢;obtain⟨eF,t1,wd,gv⟩:=R;dsimp only at pp ff fl ⊢;rw[Array.toList_push] at pp;have ye:=(jP.push iA rfl).perm pp;have cg:aD ((es.toList++[((PySem.strKind P w).hash x,aa.str x tk)]).map (·.2)) (ls++[x]):=by
   rw[Oo];exact Xi7 hs
  obtain⟨BE,jQ,p1⟩:=Xbz pp cg;have z1:eF.size=ks.length+1:=by
   rw[<-O1,pp.length_eq,Op,O1,aI];rfl
  have p2:BE.Perm (ks++[x]):=p1.trans (hp.append_right _);rw[Tc hx] at h;refine S7 (gw _ _ _ ?_);split
  ·refine S7 ?_;rw[hashByValue_scannable 8 (x:=aa.str x tk) rfl];refine S8 ?_;refine Xb1 (ks:=ks++[x]) gw ho hex hd ye jQ p2 (by rw[z1];exact hr) (aB.fits_plain_off ff) (fl.trans hl) rfl (λh' sb S'=>?_);dsimp only;exact S8 (h true h' sb S')
  ·rename_i np;refine S7 (S8 ?_);simp only[↓reduceIte];refine Xb1 (ks:=ks++[x]) gw ho hex hd ye jQ p2 (by rw[z1];exact hr) ff (fl.trans hl) (by cases q:t1.plain with | false=>rfl | true=>exact absurd q np) (λh' sb S'=>?_);dsimp only;exact S8 (h true h' sb S')
end
def dd1 (acc:Za) (x:aj):Za:=if x∈acc then acc else acc++[x]
def ddup (ss:Za):Za:=ss.foldl dd1 []
def Mf(ss)(x):ddup (ss++[x])=dd1 (ddup ss) x:=by
 unfold ddup;rw[List.foldl_append];rfl
def Mg{p:Za->Za->Prop}(h0:p [] [])(h1:∀ss x,p ss (ddup ss)->p (ss++[x]) (dd1 (ddup ss) x))(ss):p ss (ddup ss):=by
 have go:∀n ss,ss.length=n->p ss (ddup ss):=by
  intro n
  induction n with
  | zero=>
   intro ss e;rw[Pd.mp e];exact h0
  | succ n ih=>
   intro ss e;have eW:ss≠[]:=λz=>by rw[z] at e;cases e
   have e2:=Rg eW;rw[<-e2,Mf];exact h1 _ _ (ih _ (by rw[List.length_dropLast,e];rfl))
 exact go _ ss rfl
def Hq(ss):∀x,x∈ddup ss↔x∈ss:=by
 refine Mg (p:=λss d=>∀x,x∈d↔x∈ss) (λx=>Iff.rfl) (λss y ih x=>?_) ss;unfold dd1;split
 ·rename_i hy;rw[ih,Om,Oe];constructor
  ·exact .inl
  ·rintro (z | z)
   ·exact z
   ·rw[z];exact(ih y).mp hy
 ·rw[Om,Om,ih]
def Hr(ss):(ddup ss).Nodup:=by
 refine Mg (p:=λ_ d=>d.Nodup) List.nodup_nil (λss y ih=>?_) ss;unfold dd1;split
 ·exact ih
 ·rename_i hy;exact Qa.mpr ⟨ih,by simp,λa ha b hb=>by rw[Oe.mp hb];exact λz=>hy (z ▸ ha)⟩
def Ge(ss):(ddup ss).length<=ss.length:=by
 refine Mg (p:=λss d=>d.length<=ss.length) (Og _) (λss y ih=>?_) ss;unfold dd1;rw[Op,Pq];split
 ·lia
 ·rw[Op,Pq];lia
section
variable {P:ao}{w:av}{A:aw}{E:Zb}{s:af}
def Xb3     {St} (ss) (W:WalksS P w A.in1 I fp wr G ss.length Pv St) (S) (nS:S∉fp)
  (fU:∀i v,Pv i v->∃t,v = .str (ss.getD i "") t) (hb:ss.length+1<aT):
  ∀k i s,ss.length - i=k->i<=ss.length->St i s->SSet P w s.heap S (ddup (ss.take i))->(∀s',jv (S::wr) G s s'->SSet P w s'.heap S (ddup ss)->R (.ok (.ret .none)) s') ->
   bf (ag P w) A (.builtin "set.update.loop" ⟨[.ref S,.ref I],[]⟩) R s:=by
 have nw:S∉wr:=λz=>nS (W.sub _ z);have up:∀b∈wr,b∈S::wr:=λb z=>Ol _ z;intro k
 induction k with
 | zero=>
  intro i s e hi st hS hR;have:i=ss.length:=by lia
  subst this;rw[Pl] at hS;refine aV F.entry_set_update_loop ?_;rw[aw.under_plainId F.plain_set_update_loop _];show ai _ A.in1 (cK (.ref I) >>= λ_=>_) _ _ s;refine S7 (W.done s _ _ st λs' mv=>?_);show ai _ A.in1 (ret aa.none) _ _ s';exact S8 (hR s' (mv.mono up) (hS.stay λo z=>mv.heap S o nw z))
 | succ k ih=>
  intro i s e hi st hS hR;have lt:i<ss.length:=by lia
  refine aV F.entry_set_update_loop ?_;rw[aw.under_plainId F.plain_set_update_loop _];show ai _ A.in1 (cK (.ref I) >>= λ_=>_) _ _ s;refine S7 (W.item i s _ _ lt st λv s' hP ay mv=>?_);obtain⟨t,rfl⟩:=fU i v hP;have BF:=hS.stay λo z=>mv.heap S o nw z;show ai _ A.in1 (holding [aa.str (ss.getD i "") t] (BG S (.str (ss.getD i "") t)) >>= λ_=>_) _ _ s';refine S7 (a8 ?_);unfold BG;refine a8 (S7 ((PySem.strKind P w).pyHash (k:=ss.getD i "") (fT P w _ t) ?_));have jb:(ddup (ss.take i)).length<=i:=Pb (Ge _) (by rw[Os];lia);refine Xb2 (s:={s' with toks:=s'.toks+1}) BF (by lia) λb h' sb S2=>?_;have e3:ddup (ss.take (i+1))=dd1 (ddup (ss.take i)) (ss.getD i ""):=by
   rw[Ow lt,Mf];congr 1;simp[List.getD,lt]
  have S3:SSet P w h' S (ddup (ss.take (i+1))):=by rw[e3];exact S2
  refine S8 ⟨bL F.plain_set_update_loop _,ih (i+1) _ (by lia) lt (W.frame _ s' _ _ ay (Qb _) λb hb o q=>?_) S3 λkr uX S4=>?_⟩
  ·rw[sb.2 b (λz=>nS (z ▸ hb))];exact q
  ·refine hR kr (jv.trans W.gtrans ((mv.mono up).then_heap (Qb _) λb o hb q=>?_) uX) S4;rw[sb.2 b (λz=>hb (z ▸ Oj))];exact q
inductive Src (h:am) (l:ae) (aP:Array aa):Prop
 | lst:h.IsList l aP->Src h l aP
 | tup:h.IsTuple l aP->Src h l aP
def Xi9(a){Q}(h:Q (.ref s.heap.objs.size) {s with heap:=s.heap.push {cls:=.type "set",dict:=none,data:=.set #[] 0 (.fresh 0 0 (!Ci w))} }):
    bf (ag P w) A (.call (.builtin "set.__new__") ⟨[.type "set",a],[]⟩) (wants Q E) s:=by
  refine fm ?_
  show ai _ A.in1 (do    eN "set.__new__" ⟨[.type "set",a],[]⟩
                         again (.builtin "set.__new__" ⟨[.type "set",a],[]⟩)) _ _ s
  refine S7 (jw (PySem.F.newCall_set_1 a) (S8 ⟨bL PySem.F.plain_set_new _,aV PySem.F.entry_set_new ?_⟩));rw[aw.under_plainId PySem.F.plain_set_new _];unfold au.«set.__new__» au.Frozenset.newClass;have q:=sub_set_self;obtain⟨hp,g,d,tk,os⟩:=s;dsimp only
  wp_walk
  refine aY (S8 ?_);dsimp only;simp only[newObj];exact S7 (jo (S8 (S8 h)))
end
end L2
set_option maxHeartbeats 3200000
namespace L2
open PySem.Calls
section
variable {P:ao}{w:av}{A:aw}{E:Zb}{s:af}
abbrev D3 (w:av):aM:={cls:=.type "set",dict:=none,data:=.set #[] 0 (.fresh 0 0 (!Ci w))}
def Xb4  (g:h.get? a=some (D3 w)):SSet P w h a []:=
 ⟨_, #[],0,_,[],g,⟨rfl,rfl,rfl⟩,rfl,λe he=>by simp at he,.nil,.nil,by decide,rfl,rfl,λ_=>rfl⟩
def Xja    (hh:A.handled=none) (mH:Src s.heap l aP) (hs:aD aP.toList ss) (hb:ss.length+1<aT) (hS:SSet P w s.heap S []) (yf:l≠S)
  (BH:∀(Q:Bool->af->Prop),Q false s->ai (ag P w) A (au.Frozenset.isAnySet (.ref l)) Q E s)
  (h:∀(h':am) (tk:Nat),SSet P w h' S (ddup ss)->(∀b o,b≠S->s.heap.get? b=some o->h'.get? b=some o)->R () {s with heap:=h',toks:=tk}):
  ai (ag P w) A (au.Frozenset.updateFrom "set.__init__" S (.ref l)) R E s:=by
 have aI:aP.size=ss.length:=by
  have:=hs.length
  rwa [O1] at this
 have fU:∀(i:Nat) (v:aa),aP[i]? = some v->∃t,v = .str (ss.getD i "") t:=λi v q=>by
  have q':aP.toList[i]? = some v:=by rw[Rl];exact q
  obtain⟨x,t,rfl⟩:=hs.all v (Q5 q');refine⟨t,?_⟩;congr 1;rw[<-hs.strs];simp[List.getD,Ou,q,lL]
 obtain⟨oS,_,_,_,_,gS,_⟩:=id hS;have ltS:=Ti gS;unfold au.Frozenset.updateFrom;refine S7 (BH _ ?_);simp only[Pz,if_false];cases mH with
 | lst hl=>
  have qA:l<s.heap.objs.size:=by obtain⟨o,g,_⟩:=hl;exact Ti g
  refine S7 (cx (T := "list") hl.typeIs ?_);have ne:(aa.type "list" == aa.type "dict")=false:=by decide
  simp only[ne,Pz,if_false];refine S7 (cD hl ?_);refine S7 (fV ?_);have nI:S∉[s.heap.objs.size,l]:=by simp only[Ot,R8,or_false,not_or];exact⟨Oq ltS,yf.symm⟩
  have W:=(lG.list (prog:=P) (w:=w) (A:=A.in1) (by simp[hh]) s.heap.objs.size l (Oq qA) aP).toS;rw[aI] at W;refine Xb3 ss W S nI fU hb _ 0 _ rfl (Pg _) ⟨⟨_,am.get?_push_size _ rfl,rfl,rfl⟩,hl.push _⟩ (hS.stay λo q=>Tj _ q) λs' mv S'=>?_;rw[jv.eq_with mv];refine S8 (h s'.heap s'.toks S' λb o nb q=>mv.heap b o (λz=>?_) (Tj _ q));rcases Ot.mp z with z | z
  ·exact nb z
  ·exact absurd (Ti q) (by rw[Oe.mp z];exact Pt _)
 | tup hl=>
  have qA:l<s.heap.objs.size:=by obtain⟨o,g,_⟩:=hl;exact Ti g
  refine S7 (cx (T := "tuple") hl.typeIs ?_);have ne:(aa.type "tuple" == aa.type "dict")=false:=by decide
  simp only[ne,Pz,if_false];refine S7 (km hl ?_);refine S7 (fV ?_);have nI:S∉[s.heap.objs.size,l]:=by simp only[Ot,R8,or_false,not_or];exact⟨Oq ltS,yf.symm⟩
  have W:=(lG.tuple (prog:=P) (w:=w) (A:=A.in1) (by simp[hh]) s.heap.objs.size l (Oq qA) aP).toS;rw[aI] at W;refine Xb3 ss W S nI fU hb _ 0 _ rfl (Pg _) ⟨⟨_,am.get?_push_size _ rfl,rfl,rfl⟩,hl.push _⟩ (hS.stay λo q=>Tj _ q) λs' mv S'=>?_;rw[jv.eq_with mv];refine S8 (h s'.heap s'.toks S' λb o nb q=>mv.heap b o (λz=>?_) (Tj _ q));rcases Ot.mp z with z | z
  ·exact nb z
  ·exact absurd (Ti q) (by rw[Oe.mp z];exact Pt _)
def Src.push   (x:Src h l aP) (o):Src (h.push o) l aP:=by
 cases x with
 | lst y=>exact .lst (y.push o)
 | tup y=>exact .tup (y.push o)
def Src.any   (x:Src s.heap l aP) (q:Q false s):ai (ag P w) A (au.Frozenset.isAnySet (.ref l)) Q E s:=by
 cases x with
 | lst y=>
  obtain⟨o,g,c,n,d⟩:=y;obtain⟨oc,od,BI,os⟩:=o;simp only at c d;subst c d;have h1:=PySem.F.sub_list_set;have h2:=PySem.F.sub_list_frozenset;unfold au.Frozenset.isAnySet
  wp_walk
  exact q
 | tup y=>
  obtain⟨o,g,c,n,d⟩:=y;obtain⟨oc,od,BI,os⟩:=o;simp only at c d;subst c d;have h1:iy (.type "tuple") (.type "set")=pure false:=by rw[c7];kernel_rfl
  have h2:iy (.type "tuple") (.type "frozenset")=pure false:=by rw[c7];kernel_rfl
  unfold au.Frozenset.isAnySet
  wp_walk
  exact q
def Src.lt   (x:Src h l aP):l<h.objs.size:=by
 cases x with
 | lst y=>obtain⟨o,g,_⟩:=y;exact Ti g
 | tup y=>obtain⟨o,g,_⟩:=y;exact Ti g
def Xjb    (hh:A.handled=none) (mH:Src s.heap l aP) (hs:aD aP.toList ss) (hb:ss.length+1<aT)
  (h:∀(h':am) (tk:Nat),SSet P w h' s.heap.objs.size (ddup ss)->(∀b o,s.heap.get? b=some o->h'.get? b=some o)->Q (.ref s.heap.objs.size) {s with heap:=h',toks:=tk}):
  ai (ag P w) A (call (.type "set") [.ref l]) Q E s:=by
 obtain⟨c,tl,BJ⟩:=PySem.F.called_set.mro;have yg:=PySem.F.called_set.made;have qB:=PySem.F.called_set.sub;refine fI (fm ?_);show ai _ _ (callAny (.type "set") _) _ _ s;refine S8 ⟨Code.quiet_builtin _ (by decide +kernel),aV PySem.F.entry_type_call ?_⟩;rw[aw.under_plain (weight_type_call_type "set" [.ref l] []) rfl];have f1:=PySem.F.called_set.notType;have f2:=PySem.F.called_set.canCreate;have f3:=PySem.F.typeCall_set_1 (.ref l)
 repeat (any_goals (first | assumption | wp_step))
 refine br (Xi9 (.ref l) (E:=E) (Q:=λobj s1=>obj = .ref s.heap.objs.size/\s1 = {s with heap:=s.heap.push (D3 w)}) ⟨rfl,rfl⟩) λr s1 hr=>?_;cases r with
 | error e=>exact hr
 | ok fl=>
  cases fl with
  | ret obj=>
   obtain⟨rfl,rfl⟩:=hr;have gS:(s.heap.push (D3 w)).get? s.heap.objs.size=some (D3 w):=am.get?_push_size _ rfl;have hT:af.TypeIs {s with heap:=s.heap.push (D3 w)} (.ref s.heap.objs.size) "set" := ⟨_,gS,rfl⟩;have f4:=PySem.F.called_set.init.lookup;have f5:=PySem.F.called_set.init.bind (.ref s.heap.objs.size)
   repeat (any_goals (first | assumption | wp_step))
   refine br (cV (R:=wants (λr s2=>r = .none/\∃h' tk,s2 = {s with heap:=h',toks:=tk}/\SSet P w h' s.heap.objs.size (ddup ss)/\∀b o,s.heap.get? b=some o->h'.get? b=some o) E)
    PySem.F.called_set.init.plain PySem.F.entry_set_init (check_set_init_1 hT ?_)) λr2 s2 eX=>?_
   ·have qC:=mH.push (D3 w);have lt:=mH.lt;unfold au.«set.__init__» noKeywords;generalize hU:au.Frozenset.updateFrom=U
    wp_walk
    subst hU;refine Xja (s:={s with heap:=s.heap.push (D3 w)}) (by simp[hh]) qC hs hb (Xb4 gS) (Oq lt) (λQ q=>Src.any (s:={s with heap:=s.heap.push (D3 w)}) qC q) λh' tk S' kk=>?_;exact S8 ⟨rfl,h',tk,rfl,S',λb o q=>kk b o (Oq (Ti q)) (Tj _ q)⟩
   ·cases r2 with
    | error e=>exact eX
    | ok qz=>
     cases qz with
     | ret r=>
      obtain⟨rfl,h',tk,rfl,S',kk⟩:=eX
      repeat (any_goals (first | assumption | wp_step))
      exact h _ _ S' kk
     | _=>exact eX.elim
  | _=>exact hr.elim
end
namespace SF
def sIter:AG "set" "__iter__" "set.__iter__" := PySem.F.slot_set_iter
def eIter:jx table "set.__iter__" = some au.«frozenset.__iter__»:=qD (id' := "frozenset.__iter__") (by kernel_rfl) rfl (by decide +kernel) (by kernel_rfl)
def sNext:AG "set_iterator" "__next__" "set_iterator.__next__" := .of (owner := "set_iterator") (n := "__next__") (by rw[fo,cS];kernel_rfl) (by decide +kernel) (by decide +kernel) (by decide +kernel) (by first | exact .inl (by decide +kernel) | exact .inr (by decide +kernel)) (by rw[c7];kernel_rfl)
def eNext:jx table "set_iterator.__next__" = some au.«set_iterator.__next__»:=mI (by kernel_rfl)
def aNext(a):qE "set_iterator.__next__" ⟨[a],[]⟩:=by unfold qE;kernel_rfl
end SF
theorem Mh{α : Type}:∀(xs:List α) (i:Nat) (hi:i<xs.length),(xs[i]::xs.eraseIdx i).Perm xs
 | x::xs,0,_=>Rp _
 | x::xs,i+1,hi=>by
  have ih:=Mh xs i (by simpa using hi);rw[List.eraseIdx_cons_succ,List.getElem_cons_succ];exact(List.Perm.swap x _ _).trans (ih.cons x)
def Xjc{α : Type}(next):∀(n k:Nat) (left:List α) (out:Array α),left.length=n->(bY.go next n k left out).toList.Perm (out.toList++left):=by
 intro n
 induction n with
 | zero=>
  intro k left out e;rw[Pd.mp e,Ps];exact Rp _
 | succ n ih=>
  intro k left out e;have aZ:next k % left.length<left.length:=Nat.mod_lt _ (by lia);unfold bY.go;rw[Od aZ];dsimp only;refine(ih _ _ _ (by rw[List.length_eraseIdx_of_lt aZ,e];rfl)).trans ?_;rw[Array.toList_push,Pa];exact(Mh left _ aZ).append_left _
def Xjd{α : Type}(next)(xs:Array α):(bY next xs).toList.Perm xs.toList:=by
 have:=Xjc next xs.size 0 xs.toList #[] (by simp);simpa [bY] using this
section
variable {P:ao}{w:av}{A:aw}{E:Zb}{s:af}
def Xje   (hn:n≠0) (h:∀i d,i<n->Q i {s with drawn:=d}):ai (ag P w) A (choose mH n) Q E s:=by
 intro Γ p hΓ;exact⟨hn,h _ _ (Nat.mod_lt _ (Nat.pos_of_ne_zero hn))⟩
def Xjf{α : Type}:∀(n:Nat) (xs:List α) (s:af) (Q:List α->af->Prop),xs.length=n->(∀os d,os.Perm xs->Q os {s with drawn:=d})->ai (ag P w) A (mJ n xs) Q E s:=by
 intro n
 induction n with
 | zero=>
  intro xs s Q e h;rw[Pd.mp e] at h ⊢;unfold mJ;exact S8 (h [] s.drawn (Rp _))
 | succ n ih=>
  intro xs s Q e h;cases xs with
  | nil=>cases e
  | cons y ys=>
   unfold mJ;refine S7 (Xje (by simp) λi d hi=>?_);rw[Od hi];dsimp only;refine S7 (ih _ _ _ (by rw[List.length_eraseIdx_of_lt hi,e];rfl) λos d' hp=>?_);exact S8 (h _ d' ((hp.cons _).trans (Mh _ i hi)))
def SAt (h:am) (a:ae) (es:Array (Int×aa)) (ep:Nat) (t:aB):Prop:=∃o,h.get? a=some o/\o.ExactSet/\o.data = .set es ep t/\t.fits es.size=true
def Xjg     (hs:SAt s.heap a es ep t) (h:Q (!Ci w&&(!t.plain&&decide (es.size > 1))) s):ai (ag P w) A (setDrawn a) Q E s:=by
 obtain⟨o,ho,hex,hd,hf⟩:=hs;unfold setDrawn dH;refine S7 (bz ho hd hf ?_);dsimp only;refine S7 (S7 (aY (S8 ?_)));exact S8 h
abbrev itO (f0:aa) (i:Nat) (a:ae) (n ep:Nat):aM:={cls:=.type "set_iterator",data:=.fields #[f0,.int i 0,.ref a,.int n 0,.int ep 0]}
inductive Ord (w:av) (h:am) (a:ae) (es:Array (Int×aa)) (ep:Nat) (t:aB) (f0:aa) (i:Nat):List aa->Prop
 | txt:Ci w=true->f0 = .int 0 0->Ord w h a es ep t f0 i ((bY (w.params.setOrder a ep) es).toList.map (·.2))
 | drw (p:ae) (os:List Nat):Ci w=false->os.Perm (List.range es.size)->f0 = .ref p->(∃n,h.get? p=some ⟨.type "tuple",none,.seq (os.map λj=>aa.int (j:Nat) 0).toArray n, #[]⟩)->Ord w h a es ep t f0 i (os.map λj=>((es[j]?).map (·.2)).getD .none)
 | one (sl:Nat):Ci w=false->t.led=true->es.size<=1->f0 = .int sl 0->(i=0->sl=0)->(∀j,i=1->t.place[0]? = some j->sl=j+1)->Ord w h a es ep t f0 i (es.toList.map (·.2))
def Xjh     (hs:SAt s.heap a es ep t) (hb:es.size<aT) (hl:t.led = !Ci w) (hp:t.plain=true->es.size=0)
    (h:∀(f0:aa) (vs:List aa) (h1:am) (d:Drawn),(∀b o,s.heap.get? b=some o->h1.get? b=some o)->h1.objs.size<=s.heap.objs.size+1->s.heap.objs.size<=h1.objs.size->(∀p,f0 = .ref p->p<h1.objs.size)->Ord w (h1.push (itO f0 0 a es.size ep)) a es ep t f0 0 vs ->
      vs.Perm (es.toList.map (·.2))->Q (.ref h1.objs.size) {s with heap:=h1.push (itO f0 0 a es.size ep),drawn:=d}):
    ai (ag P w) A (fH (.ref a)) Q E s:=by
  obtain⟨o,ho,hex,hd,hf⟩:=id hs;have hT:s.TypeIs (.ref a) "set" := ⟨o,ho,hex.1⟩;refine ed hT SF.sIter (aX SF.sIter hT SF.eIter ?_ (PySem.F.args_set_iter_1 _));unfold au.«frozenset.__iter__» au.Frozenset.slot0 slotArgs;simp only[List.isEmpty_nil,Bool.not_true,Pz, ↓reduceIte,bind_assoc,Qu,bne_self_eq_false];unfold au.Frozenset.addrOf au.Frozenset.sizeOf;refine S7 (S8 ?_);dsimp only;refine S7 (S8 ?_);refine S7 (S7 (jR ho hd hf (S8 ?_)));refine S7 (Xjg hs ?_);have fin:∀(f0:aa) (vs:List aa) (h1:am) (d:Drawn),(∀b o,s.heap.get? b=some o->h1.get? b=some o)->h1.objs.size<=s.heap.objs.size+1->s.heap.objs.size<=h1.objs.size->(∀p,f0 = .ref p->p<h1.objs.size)->Ord w (h1.push (itO f0 0 a es.size ep)) a es ep t f0 0 vs->vs.Perm (es.toList.map (·.2)) ->
      ai (ag P w) A.in1 (do       let r <-newFields "set_iterator" [f0,bc 0,.ref a,bc es.size,bc ep]
                                  ret r) (λfin s'=>∃r,fin = .done (.ret r)/\∃T v,s'.TypeIs r T/\fK (.type T) (aj.ofString "__next__")=pure (some v)/\Q r s') E {s with heap:=h1,drawn:=d}:=λf0 vs h1 d k1 k2 k3 k4 k5 k6=>
    S7 (bD (S8 ⟨_,rfl, "set_iterator",_,⟨_,am.get?_push_size _ rfl,rfl⟩,SF.sNext.lookup,h f0 vs h1 d k1 k2 k3 k4 k5 k6⟩))
  by_cases hc:(!Ci w&&(!t.plain&&decide (es.size > 1)))=true
  . rw[Td hc];simp only[O4,Su,decide_eq_true_eq] at hc;obtain⟨c1,c2,c3⟩:=hc;refine S7 (Xjf _ _ _ _ Py λos d po=>?_);have uY:os.length=es.size:=by rw[po.length_eq,Py]
    refine S7 (fW ?_ (by rw[Oc,uY];exact cF hb));refine S7 (lN (Tj _ ho) hd hf ?_);refine fin _ _ _ d (λb o q=>Tj _ q) (by rw[bO];exact Og _) (by rw[bO];exact Qb _) (λp e=>by cases e;rw[bO];exact Nat.lt_succ_self _) (.drw s.heap.objs.size os c1 po rfl ⟨0,Tj _ (am.get?_push_size _ rfl)⟩) ?_;have e:(os.map λj=>((es[j]?).map (·.2)).getD aa.none).Perm ((List.range es.size).map λj=>((es[j]?).map (·.2)).getD aa.none):=po.map _;refine e.trans ?_;have e2:((List.range es.size).map λj=>((es[j]?).map (·.2)).getD aa.none)=es.toList.map (·.2):=by
      apply List.ext_getElem?;intro i;have q:es.toList[i]? = es[i]?:=Rl;rw[Ou,Ou,q];by_cases hi:i<es.size
      . rw[List.getElem?_range hi,Qt,getElem?_pos es i hi];rfl
      . rw[Rk (by simpa using hi),getElem?_neg es i hi];rfl
    rw[e2]
  . rw[Tc hc];refine S7 (S8 ?_);refine S7 (lN ho hd hf ?_);cases hw:Ci w with
    | true=>exact fin _ _ _ s.drawn (λb o q=>q) (Qb _) (Og _) (λp e=>by cases e) (.txt hw rfl) ((Xjd _ es).map _)
    | false=>
      have h1:es.size<=1:=by
        cases cz:t.plain with
        | true=>rw[hp cz];exact Pg _
        | false=>
          simp only[hw,cz,Bool.not_false,Qp,decide_eq_true_eq] at hc
          lia
      exact fin _ _ _ s.drawn (λb o q=>q) (Qb _) (Og _) (λp e=>by cases e) (.one 0 hw (by rw[hl,hw];rfl) h1 rfl (λ_=>rfl) (λj e=>by cases e)) (Rp _)
end
end L2
namespace L2
open PySem.Calls
section
variable {P:ao}{w:av}{A:aw}{E:Zb}{s:af}{I a:ae}{es:Array (Int×aa)}{ep:Nat}{t:aB}
def ItS (w:av) (I a:ae) (es:Array (Int×aa)) (ep:Nat) (t:aB) (vs:List aa) (fp:Option ae) (i:Nat) (h:am):Prop:=
 ∃f0,h.get? I=some (itO f0 i a es.size ep)/\Ord w h a es ep t f0 i vs/\SAt h a es ep t/\(∀p,f0 = .ref p->fp=some p)
def Xb5   (hI:s.heap.get? I=some (itO f0 i a es.size ep)) (hS:SAt s.heap a es ep t)
  (h1:∀sl,f0 = .int sl 0->ai (ag P w) A (do
   match <-iH a sl.toNat i ep with
   | some (x,next)=>ci (.ref I) 0 (bc next);ci (.ref I) 1 (bc ((i:Int)+1));ret x
   | none=>ci (.ref I) 2 .none;fX (<-kJ (.type "StopIteration") [])) Q E s)
  (h2:∀p,f0 = .ref p->ai (ag P w) A (do
   let some mK <-seqItems? (.ref p) | unsupported "internal:set_iterator"
   match mK[i]? with
   | some (.int place _)=>let x <-uZ a place.toNat ep;ci (.ref I) 1 (bc ((i:Int)+1));ret x
   | some _=>unsupported "internal:set_iterator"
   | none=>ci (.ref I) 0 (bc 0);ci (.ref I) 2 .none;fX (<-kJ (.type "StopIteration") [])) Q E s)
  (hf:(∃sl,f0 = .int sl 0) \/ ∃p,f0 = .ref p):ai (ag P w) A (au.«set_iterator.__next__» ⟨[.ref I],[]⟩) Q E s:=by
 obtain⟨o,ho,hex,hd,mL⟩:=id hS;unfold au.«set_iterator.__next__» slotArgs;simp only[List.isEmpty_nil,Bool.not_true,Pz, ↓reduceIte,bind_assoc,Qu,bne_self_eq_false];refine S7 (S8 ?_);dsimp only;refine S7 (wpAny_fieldsOf hI rfl ?_);dsimp only;refine S7 (jR ho hd mL ?_);rw[Tc (by simp)];rcases hf with ⟨sl,rfl⟩ | ⟨p,rfl⟩
 ·exact h1 sl rfl
 ·exact h2 p rfl
def Jz{h:am}{f0 x:aa}{i j n:Nat}(hI:h.get? I=some (itO f0 i a n ep))(k)(v):
  (h.update I (aM.mapFields (·.setIfInBounds k v))).get? I=some {cls:=.type "set_iterator",data:=.fields ((#[f0,.int i 0,.ref a,.int n 0,.int ep 0]:Array aa).setIfInBounds k v)}:=
 am.get?_update_self _ hI rfl
def SAt.at(x:SAt h a es ep t)(k:∀o,h.get? a=some o->h'.get? a=some o):SAt h' a es ep t:=by
 obtain⟨o,ho,r⟩:=x;exact⟨o,k o ho,r⟩
def Xb6  (hw:Ci w=true) (hS:SAt s.heap a es ep t) (h:Q (((bY (w.params.setOrder a ep) es)[i]?).map λe=>(e.2,sl)) s):ai (ag P w) A (iH a sl i ep) Q E s:=by
 obtain⟨o,ho,hex,hd,hf⟩:=id hS;unfold iH dH;refine S7 (bz ho hd hf ?_);dsimp only;refine S7 (S7 (aY (S8 ?_)));rw[Td (show (ag P w).w.params.followText "set-order" = true from hw),Tc (by simp)];unfold setWalk dH;refine S7 (S7 (bz ho hd hf ?_));dsimp only;refine S7 (S7 (aY (S8 ?_)));rw[Td (show (ag P w).w.params.followText "set-order" = true from hw)];exact S7 (aY (S8 (S8 h)))
def Xb7  (hw:Ci w=false) (hl:t.led=true) (h1:es.size<=1) (hS:SAt s.heap a es ep t)
  (h:Q (match es[aB.below t.place sl]?,t.place[aB.below t.place sl]? with | some (_,x),some j=>some (x,j+1) | _,_=>none) s):ai (ag P w) A (iH a sl i ep) Q E s:=by
 obtain⟨o,ho,hex,hd,hf⟩:=id hS;unfold iH dH;refine S7 (bz ho hd hf ?_);dsimp only;refine S7 (S7 (aY (S8 ?_)));rw[Tc (show ¬(ag P w).w.params.followText "set-order" = true from by show ¬Ci w=true;rw[hw];decide)];have d1:(!t.plain&&decide (es.size > 1))=false:=by rw[Tf (by lia),Bool.and_false]
 refine cu (λz=>?_) (λ_=>?_)
 ·have z':(!t.plain&&decide (es.size > 1))=true:=z;rw[d1] at z';cases z'
 refine S7 ?_;have m1:(!t.led && !es.isEmpty)=false:=by rw[hl];rfl
 refine cu (λz=>?_) (λ_=>S8 (S8 h));have z':(!t.led && !es.isEmpty)=true:=z;rw[m1] at z';cases z'
def Xji(h:t.place.size<=1):aB.below t.place 0=0:=by
 generalize t.place=pl at *;obtain⟨l⟩:=pl
 match l,h with
 | [],_=>rfl
 | [x],_=>simp[aB.below,aB.below.go]
def Xjj  (h:t.place.size<=1) (hj:t.place[0]? = some j):aB.below t.place (j+1)=1:=by
 generalize t.place=pl at *;obtain⟨l⟩:=pl
 match l,h,hj with
 | [x],_,hj=>
  have:x=j:=by simpa using hj
  subst this;simp[aB.below,aB.below.go]
def Xb8(h:t.fits n=true):t.place.size=n:=by
 unfold aB.fits at h;simp only[O4,beq_iff_eq] at h;exact h.1
end
section
variable {P:ao}{w:av}{A:aw}{E:Zb}{s:af}{I a:ae}{es:Array (Int×aa)}{ep:Nat}{t:aB}{vs:List aa}{fp:Option ae}
def Ord.cases0   (x:Ord w h a es ep t f0 i vs):(∃sl:Int,f0 = .int sl 0) \/ ∃p,f0 = .ref p:=by
 cases x with
 | txt _ e=>exact .inl ⟨0,e⟩
 | drw p os _ _ e _=>exact .inr ⟨p,e⟩
 | one sl _ _ _ e _ _=>exact .inl ⟨sl,e⟩
def Xjk  (st:ItS w I a es ep t vs fp i s.heap) (hi:i<vs.length) (hl:vs.length=es.size) (t7:a≠I) (va:∀p,fp=some p->p≠I)
  (hQ:∀h',ItS w I a es ep t vs fp (i+1) h'->am.SameBut I s.heap h'->Q (some vs[i]) {s with heap:=h'}):ai (ag P w) A (cK (.ref I)) Q E s:=by
 obtain⟨f0,hI,hO,hS,hp⟩:=st;have hT:s.TypeIs (.ref I) "set_iterator" := ⟨_,hI,rfl⟩;unfold cK;refine S7 (dE (iz (name:=aj.ofString "__next__") hT SF.sNext (aX SF.sNext hT SF.eNext ?_ (SF.aNext _))));have e1:((i:Int)+1)=((i+1:Nat):Int):=by lia
 have fin:∀(E':Zb) (nx:Nat),Ord w ((s.heap.update I (aM.mapFields (·.setIfInBounds 0 (bc nx)))).update I (aM.mapFields (·.setIfInBounds 1 (bc ((i:Int)+1))))) a es ep t (.int nx 0) (i+1) vs ->
   ai (ag P w) A.in1 (do
    ci (.ref I) 0 (bc nx)
    ci (.ref I) 1 (bc ((i:Int)+1))
    ret vs[i]) (λfin s'=>∃r,fin = .done (.ret r)/\ai (ag P w) A (pure (some r)) Q E s') E' s:=λE' nx O=>by
  refine S7 (bF hI rfl (by simp) ?_);refine S7 (bF (Jz (x:=.none) (j:=0) hI 0 (bc nx)) rfl (by simp) ?_);have g:=am.get?_update_self (aM.mapFields (·.setIfInBounds 1 (bc ((i:Int)+1)))) (Jz (x:=.none) (j:=0) hI 0 (bc nx)) rfl;refine S8 ⟨_,rfl,S8 (hQ _ ⟨_,g.trans ?_,O,hS.at λo q=>?_,λp z=>by cases z⟩ ((Tk ..).trans (Tk ..)))⟩
  ·rw[e1];rfl
  ·rw[((Tk s.heap I _).trans (Tk _ I _)).2 a t7];exact q
 refine Xb5 hI hS (λsl e=>?_) (λp e=>?_) hO.cases0
 ·subst e;cases hO with
  | txt hw e=>
   cases e;have eZ:i<(bY (w.params.setOrder a ep) es).size:=by simpa using hi
   refine S7 (Xb6 hw hS ?_);rw[getElem?_pos _ i eZ];have ev:((bY (w.params.setOrder a ep) es).toList.map (·.2))[i]=((bY (w.params.setOrder a ep) es)[i]).2:=by simp
   have f:=λE'=>fin E' 0 (.txt hw rfl);rw[ev] at f;exact f _
  | drw p os _ _ e _=>cases e
  | one gE hw oN h1 e hz ho=>
   cases e;obtain⟨_,_,_,_,mL⟩:=id hS;have gH:=Xb8 mL;have i0:i=0:=by
    have:i<es.size:=by rw[<-hl];exact hi
    lia
   subst i0;have z0:=hz rfl;subst z0;have he:0<es.size:=by rw[<-hl];exact hi
   have cz:0<t.place.size:=by rw[gH];exact he
   refine S7 (Xb7 hw oN h1 hS ?_);have b0:aB.below t.place ((0:Nat):Int).toNat=0:=Xji (by rw[gH];exact h1);rw[b0,getElem?_pos es 0 he,getElem?_pos t.place 0 cz];have ev:(es.toList.map (·.2))[0]=(es[0]).2:=by simp
   have f:=λE'=>fin E' (t.place[0]+1) (.one (t.place[0]+1) hw oN h1 rfl (λz=>by cases z) (λj _ q=>by rw[getElem?_pos t.place 0 cz] at q;cases q;rfl));rw[ev] at f;exact f _
 ·subst e;cases hO with
  | txt hw e=>cases e
  | one gE hw oN h1 e hz ho=>cases e
  | drw p' os hw m9 e jO=>
   cases e;obtain⟨n,jO⟩:=jO;have dt:i<os.length:=by simpa using hi
   have oK:os[i]<es.size:=Pu.mp (m9.mem_iff.mp (O5 dt));refine S7 (fZ jO rfl ?_);have g:((os.map λj=>aa.int (j:Nat) 0).toArray)[i]? = some (.int ((os[i]:Nat):Int) 0):=by simp[dt]
   dsimp only;rw[g];dsimp only;obtain⟨o,ho,hex,hd,mL⟩:=id hS;unfold uZ;refine S7 (S7 (bz ho hd mL ?_));dsimp only;rw[Tc (by simp),show ((os[i]:Nat):Int).toNat=os[i] from Q6 _,getElem?_pos es _ oK];refine S8 ?_;refine S7 (bF hI rfl (by simp) ?_);have ev:(os.map λj=>((es[j]?).map (·.2)).getD aa.none)[i]=(es[os[i]]).2:=by simp[oK]
   have g2:=Jz (x:=.none) (j:=0) hI 1 (bc ((i:Int)+1));have BK:p≠I:=va p (hp p rfl);have q:=hQ (s.heap.update I (aM.mapFields (·.setIfInBounds 1 (bc ((i:Int)+1))))) ⟨_,g2.trans (by rw[e1];rfl),.drw p os hw m9 rfl ⟨n,?_⟩,hS.at λo q=>?_,λp' z=>hp p' z⟩ (Tk ..)
   ·rw[ev] at q;exact S8 ⟨_,rfl,S8 q⟩
   ·rw[(Tk s.heap I _).2 p BK];exact jO
   ·rw[(Tk s.heap I _).2 a t7];exact q
end
section
variable {P:ao}{w:av}{A:aw}{E:Zb}{s:af}{I a:ae}{es:Array (Int×aa)}{ep:Nat}{t:aB}{vs:List aa}{fp:Option ae}
def Xb9{α : Type}{h0:am}{Q}{E'}(hh:A.handled=none)
  (k:∀e h',(∀b o,s.heap.get? b=some o->h'.get? b=some o)->af.TypeIs {s with heap:=h'} e "StopIteration" -> E' e {s with heap:=h'}):
  ai (ag P w) A (do       fX (<-kJ (.type "StopIteration") []):i9 α) Q E' s:=by
 refine S7 ?_;simp only[kJ,newTuple];refine S7 (bD ?_ (by size_fits));refine S7 (m:=qF _ _) (jw (a:=aa.none) (by first | rfl | (simp only[qF];rfl)) ?_);refine bD ?_ (by size_fits);simp only[fX];refine S7 (wpAny_handled ?_);rw[hh];refine S7 (S8 (wpAny_throw ?_));exact k _ _ (λb o q=>Tj _ (Tj _ q)) ⟨_,am.get?_push_size _ rfl,rfl⟩
def Xjl(hh:A.handled=none)(st:ItS w I a es ep t vs fp vs.length s.heap)(hl:vs.length=es.size)
    (hQ:∀h',(∀b o,b≠I->s.heap.get? b=some o->h'.get? b=some o)->Q none {s with heap:=h'}):ai (ag P w) A (cK (.ref I)) Q E s:=by
  obtain⟨f0,hI,hO,hS,hp⟩:=st;have hT:s.TypeIs (.ref I) "set_iterator" := ⟨_,hI,rfl⟩;unfold cK;refine S7 (dE (iz (name:=aj.ofString "__next__") hT SF.sNext (aX SF.sNext hT SF.eNext ?_ (SF.aNext _))));have yh:A.in1.handled=none:=hh;have lO:∀(e:aa) (h':am),(∀b o,b≠I->s.heap.get? b=some o->h'.get? b=some o)->af.TypeIs {s with heap:=h'} e "StopIteration" ->
      ai (ag P w) A (do       if <-fS e (.type "StopIteration") then pure none else throw e) Q E {s with heap:=h'}:=λe h' k ty=>
    S7 (mM (T := "StopIteration") (b:=true) ty isSubtype_stop (S8 (hQ h' k)))
  have lP:∀(f:aM->aM) b o,b≠I->s.heap.get? b=some o->(s.heap.update I f).get? b=some o:=λf b o nb q=>by
    rw[(Tk s.heap I f).2 b nb];exact q
  have fin:∀(Q':PySem.Fin->af->Prop),ai (ag P w) A.in1 (do
        ci (.ref I) 2 .none
        fX (<-kJ (.type "StopIteration") [])) Q' (λe s'=>ai (ag P w) A (do                 if <-fS e (.type "StopIteration") then pure none else throw e) Q E s') s:=λQ'=>by
    refine S7 (bF hI rfl (by simp) ?_);refine Xb9 (h0:=s.heap) (s:={s with heap:=s.heap.update I (aM.mapFields (·.setIfInBounds 2 aa.none))}) yh λe h' k ty=>?_;exact lO e h' (λb o nb q=>k b o (lP _ b o nb q)) ty
  refine Xb5 hI hS (λsl e=>?_) (λp e=>?_) hO.cases0
  . subst e;cases hO with
    | txt hw e=>
      cases e;refine S7 (Xb6 hw hS ?_);rw[getElem?_neg _ _ (by simp)];exact fin _
    | drw p os _ _ e _=>cases e
    | one gE hw oN h1 e hz ho=>
      cases e;obtain⟨_,_,_,_,mL⟩:=id hS;have gH:=Xb8 mL;refine S7 (Xb7 hw oN h1 hS ?_);have hn:es[aB.below t.place ((gE:Nat):Int).toNat]? = none:=by
        rw[Q6];by_cases h0:es.size=0
        . exact getElem?_neg _ _ (by lia)
        . have e1:es.size=1:=by lia
          have cz:0<t.place.size:=by rw[gH,e1];decide
          have:=ho t.place[0] (by rw[hl,e1]) (getElem?_pos t.place 0 cz);rw[this,Xjj (by rw[gH];exact h1) (getElem?_pos t.place 0 cz)];exact getElem?_neg _ _ (by lia)
      rw[hn];exact fin _
  . subst e;cases hO with
    | txt hw e=>cases e
    | one gE hw oN h1 e hz ho=>cases e
    | drw p' os hw m9 e jO=>
      cases e;obtain⟨n,jO⟩:=jO;refine S7 (fZ jO rfl ?_);dsimp only;rw[getElem?_neg _ _ (by simp)];dsimp only;refine S7 (bF hI rfl (by simp) ?_);refine S7 (bF (Jz (x:=.none) (j:=0) hI 0 (bc 0)) rfl (by simp) ?_);refine Xb9 (h0:=s.heap) (s:={s with heap:=(s.heap.update I (aM.mapFields (·.setIfInBounds 0 (bc 0)))).update I (aM.mapFields (·.setIfInBounds 2 aa.none))}) yh λe h' k ty=>?_;refine lO e h' (λb o nb q=>k b o ?_) ty;show ((s.heap.update I _).update I _).get? b=some o;rw[(Tk _ I _).2 b nb];exact lP _ b o nb q
end
namespace SF
def sSelf:AG "set_iterator" "__iter__" "set_iterator.__iter__" := .of (owner := "set_iterator") (n := "__iter__") (by rw[fo,cS];kernel_rfl) (by decide +kernel) (by decide +kernel) (by decide +kernel) (by first | exact .inl (by decide +kernel) | exact .inr (by decide +kernel)) (by rw[c7];kernel_rfl)
def eSelf:jx table "set_iterator.__iter__" = some au.«dict_keyiterator.__iter__»:=qD (id' := "dict_keyiterator.__iter__") (by kernel_rfl) rfl (by decide +kernel) (by kernel_rfl)
def aSelf(a):qE "set_iterator.__iter__" ⟨[a],[]⟩:=by unfold qE;kernel_rfl
end SF
section
variable {P:ao}{w:av}{A:aw}{E:Zb}{s:af}{I a:ae}{es:Array (Int×aa)}{ep:Nat}{t:aB}{vs:List aa}{fp:Option ae}{ks:Za}
def ItS.at{i}(x:ItS w I a es ep t vs fp i h)(k:∀b∈I::a::fp.toList,∀o,h.get? b=some o->h'.get? b=some o):ItS w I a es ep t vs fp i h':=by
 obtain⟨f0,h1,h2,h3,h4⟩:=x;refine⟨f0,k I (by simp) _ h1,?_,h3.at λo q=>k a (by simp) o q,h4⟩;cases h2 with
 | txt e1 e2=>exact .txt e1 e2
 | drw p os e1 e2 e3 e4=>
  obtain⟨n,e4⟩:=e4;exact .drw p os e1 e2 e3 ⟨n,k p (by rw[h4 p e3];simp) _ e4⟩
 | one sl e1 e2 e3 e4 e5 e6=>exact .one sl e1 e2 e3 e4 e5 e6
def Xjm(hh:A.handled=none)(hl:vs.length=es.size)(t7:a≠I)(va:∀p,fp=some p->p≠I):lG P w A I (I::a::fp.toList) [I] vs.length (λi v=>vs[i]? = some v) (ItS w I a es ep t vs fp) where
 sub:=λb hb=>by simp at hb;simp[hb]
 frame:=λ_ _ _ st hk=>st.at hk
 item:=λi s Q E hi st hQ=>by
  refine Xjk st hi hl t7 va λh' ay sb=>?_;exact hQ vs[i] h' s.toks (by simp[hi]) ay λb o hb e=>by rw[sb.2 b (λz=>hb (by simp[z]))];exact e
 done:=λs Q E st hQ=>Xjl hh st hl λh' k=>hQ h' s.toks λb o hb e=>k b o (λz=>hb (by simp[z])) e
 self:=λi s Q E st hQ=>by
  obtain⟨f0,h1,_⟩:=st;have hT:s.TypeIs (.ref I) "set_iterator" := ⟨_,h1,rfl⟩;refine ed hT SF.sSelf (aX SF.sSelf hT SF.eSelf ?_ (SF.aSelf _));show ai _ _ (ret (.ref I)) _ _ s;exact S8 ⟨_,rfl, "set_iterator",_,hT,SF.sNext.lookup,hQ⟩
def Xjn  (hT:s.TypeIs (.ref r) "set") (h:Q false s):ai (ag P w) A (au.List.listLengthHint (.ref r)) Q E s:=by
 unfold au.List.listLengthHint;refine S7 (oI hT PySem.F.slot_set_len.lookup ?_);generalize hid:("set.__len__" : String)=BL
 wp_delta
 rw[show splitId BL=some ("set", "__len__") from by subst hid;decide +kernel];subst hid;refine S7 (mM (T := "set") (b:=true) hT (by rw[c7];kernel_rfl) ?_);refine cu (λz=>absurd z (by decide)) (λ_=>?_);refine cu (λ_=>?_) (λz=>absurd (by decide +kernel) z);exact S7 (cx hT (S8 h))
end
end L2
namespace L2
open PySem.Calls
section
variable {P:ao}{w:av}{A:aw}{E:Zb}{s:af}{a:ae}{ks:Za}
def Xjo  {S:ae} {res:aa} (hh:A.handled=none) (hs:SSet P w s.heap a ks) (nS:S≠a) (gS:s.heap.get? S=some {cls:=.type "list",data:=.seq #[] c0})
  (hR:∀s' acc c vs ls,(∀b o,b≠S->s.heap.get? b=some o->s'.heap.get? b=some o)->s'.os=s.os->s'.gens=s.gens->s'.heap.get? S=some {cls:=.type "list",dict:=none,data:=.seq acc c,slots := #[]}->acc.toList=vs->aD vs ls->ls.Perm ks->R (.ok (.ret res)) s'):
  ai (ag P w) A.in1 (au.List.listExtendWith (.ref S) (.ref a) res)
   (λfin s'=>match fin with | .done f=>R (.ok f) s' | .again c'=>c'.quiet=true/\bf (ag P w) A c' R s') (λe s'=>R (.error e) s') s:=by
 obtain⟨o,es,ep,t,JB,ho,hex,hd,jP,bi,jy,hb,hf,hl,cz⟩:=id hs;have hT:s.TypeIs (.ref a) "set" := ⟨o,ho,hex.1⟩;have la:=Ti ho;have lS:=Ti gS;unfold au.List.listExtendWith;refine S7 (cx (T := "set") hT ?_);have n1:au.List.listSameRef (.ref S) (.ref a)=false:=by simp[au.List.listSameRef,nS]
 have n2:(aa.type "set" == aa.type "list")=false:=by decide
 have n3:(aa.type "set" == aa.type "tuple")=false:=by decide
 simp only[n1,n2,n3,Sy,Pz,if_false];refine S7 (Xjh ⟨o,ho,hex,hd,hf⟩ hb hl cz λf0 vs h1 d k1 z1 z2 kp O pv=>?_);have kK:vs.length=es.size:=by rw[pv.length_eq,Oc,O1]
 have nI:∀b,b<h1.objs.size->b≠h1.objs.size:=λb q=>Oq q;have kI:∀b o,s.heap.get? b=some o->(h1.push (itO f0 0 a es.size ep)).get? b=some o:=λb o q=>Tj _ (k1 b o q);obtain⟨fp,vb⟩:∃fp:Option ae,(∀p,f0 = .ref p->fp=some p)/\∀p,fp=some p->p≠h1.objs.size/\p≠S:=by
  cases f0 with
  | ref p=>
   refine⟨some p,⟨λq e=>(by cases e;rfl),λq e=>?_⟩⟩;cases e;refine⟨Oq (kp p rfl),λz=>?_⟩;subst z;cases O with
   | drw p' os _ _ e ht=>
    cases e;obtain⟨n,ht⟩:=ht;rw[kI _ _ gS] at ht;have hc:=congrArg aM.cls (Ov ht);exact absurd hc (by simp)
   | txt _ e=>cases e
   | one _ _ _ _ e _ _=>cases e
  | _=>exact⟨none,⟨λq e=>(by cases e),λq e=>(by cases e)⟩⟩
 have cg:ItS w h1.objs.size a es ep t vs fp 0 (h1.push (itO f0 0 a es.size ep)):=⟨f0,am.get?_push_size _ rfl,O,⟨o,kI _ _ ho,hex,hd,hf⟩,vb.1⟩;have W:=Xjm (P:=P) (w:=w) (A:=A.in1) (I:=h1.objs.size) (a:=a) (es:=es) (ep:=ep) (t:=t) (vs:=vs) (fp:=fp) hh kK (Oq (O3 la z2)) (λp e=>(vb.2 p e).1);have yi:S∉h1.objs.size::a::fp.toList:=by
  simp only[Ot,not_or];refine⟨Oq (O3 lS z2),nS,λz=>?_⟩;cases vc:fp with
  | none=>rw[vc] at z;simp at z
  | some p=>
   rw[vc] at z;have:S=p:=by simpa using z
   exact(vb.2 p vc).2 this.symm
 have cM:∀(h:am) (c1:Nat),ItS w h1.objs.size a es ep t vs fp 0 h->(∀b o,b≠S->s.heap.get? b=some o->h.get? b=some o)->h.get? S=some {cls:=.type "list",data:=.seq #[] c1} ->
   bf (ag P w) A (.builtin "list.extend.loop" ⟨[.ref S,.ref h1.objs.size,res],[]⟩) R {s with heap:=h,drawn:=d}:=by
  intro h c1 kL hk qG;refine codeAny_extend_loopS W.toS (by rw[kK];exact cF hb) S yi res vs.length 0 _ #[] c1 rfl (Pg _) kL qG (ItemsOf.nil _) λs' acc c hm BM eh=>?_;have BN:acc.toList=vs:=by
   apply List.ext_getElem?;intro i;by_cases hi:i<vs.length
   ·have eZ:i<acc.size:=by rw[eh.1];exact hi
    have:=eh.2 i acc[i] (getElem?_pos acc i eZ);rw[this];simp[eZ]
   ·rw[Rk (by rw[O1,eh.1];lia),Rk (by lia)]
  have BO:aD vs (vs.map lL):=yc vs λv hv=>bi.all v (pv.mem_iff.mp hv);refine hR s' acc c vs (vs.map lL) (λb o nb q=>hm.heap b o (λz=>?_) (hk b o nb q)) hm.os hm.gens BM BN BO ?_
  ·rcases Ot.mp z with z | z
   ·exact nb z
   ·exact absurd (O3 (Ti q) z2) (by rw[Oe.mp z];exact Pt _)
  ·have:=pv.map lL;rw[bi.strs] at this;exact this.trans jy
 have qG:=kI _ _ gS;have qH:af.TypeIs {s with heap:=h1.push (itO f0 0 a es.size ep),drawn:=d} (.ref a) "set" := ⟨o,kI _ _ ho,hex.1⟩;refine S7 (a8 (Xjn qH ?_));refine cu (λ_=>?_) (λ_=>S8 ⟨bL PySem.F.plain_extend_loop _,cM _ c0 cg (λb o _ q=>kI b o q) qG⟩);refine S7 (aO (S7 ?_));show ai _ _ (JC S (·.push .none) >>= λ_=>JC S (·.pop)) _ _ _;refine S7 (oO qG rfl ?_);have yj:=am.get?_update_self (aM.mapSeq (·.push aa.none)) qG rfl;refine oO (hz:=by seq_fits) yj rfl ?_;have BP:=am.get?_update_self (aM.mapSeq (·.pop)) yj rfl;have jz:∀b,b≠S->(((h1.push (itO f0 0 a es.size ep)).update S (aM.mapSeq (·.push aa.none))).update S (aM.mapSeq (·.pop))).get? b=(h1.push (itO f0 0 a es.size ep)).get? b:=λb nb=>
  (am.get?_update_other _ _ (Ne.symm nb)).trans (am.get?_update_other _ _ (Ne.symm nb))
 refine S8 ⟨bL PySem.F.plain_extend_loop _,cM _ _ (cg.at λb mO o q=>?_) (λb o nb q=>?_) BP⟩
 ·rw[jz b (λz=>yi (z ▸ mO))];exact q
 ·rw[jz b nb];exact kI b o q
def Xjp(hh:A.handled=none)(hs:SSet P w s.heap a ks)
    (h:∀s' vs ls,(∀b o,s.heap.get? b=some o->s'.heap.get? b=some o)->s'.os=s.os->s'.gens=s.gens->aD vs ls->ls.Perm ks->R vs s'):ai (ag P w) A (collect (.ref a)) R E s:=by
  have la:a<s.heap.objs.size:=by obtain⟨o,_,_,_,_,g,_⟩:=hs;exact Ti g
  unfold collect;refine S7 (fV (aV entry_proto_collect' ?_));rw[aw.under_plainId PySem.F.plain_proto_collect _];show ai _ A.in1 (newList [] >>= λl=>again (.builtin "list.__iadd__" ⟨[l,aa.ref a],[]⟩)) _ _ s;refine S7 (bD ?_);refine S8 ⟨bL PySem.F.plain_list_iadd _,aV entry_list_iadd' ?_⟩;rw[aw.under_plainId PySem.F.plain_list_iadd _];have gS:(s.heap.push {cls:=.type "list",data:=.seq ([]:List aa).toArray}).get? s.heap.objs.size=some {cls:=.type "list",data:=.seq #[] 0}:=am.get?_push_size _ rfl;show ai _ A.in1 (au.List.listExtendWith (.ref s.heap.objs.size) (.ref a) (.ref s.heap.objs.size)) _ _ _;have cM:=Xjo (A:=A) (s:={s with heap:=s.heap.push {cls:=.type "list",data:=.seq ([]:List aa).toArray} }) (S:=s.heap.objs.size) (res:=.ref s.heap.objs.size)
    (R:=λq s'=>∃acc c vs ls,q = .ok (.ret (.ref s.heap.objs.size))/\(∀b o,s.heap.get? b=some o->s'.heap.get? b=some o)/\s'.os=s.os/\s'.gens=s.gens/\s'.heap.get? s.heap.objs.size=some {cls:=.type "list",dict:=none,data:=.seq acc c,slots := #[]}/\acc.toList=vs/\aD vs ls/\ls.Perm ks)
    hh (hs.stay λo q=>Tj _ q) (Sz la) gS (λs' acc c vs ls k e1 e2 g e3 e4 e5=>⟨acc,c,vs,ls,rfl,λb o q=>k b o (Oq (Ti q)) (Tj _ q),e1,e2,g,e3,e4,e5⟩)
  have done:∀(q:iB) (s':af),(∃acc c vs ls,q = .ok (.ret (.ref s.heap.objs.size))/\(∀b o,s.heap.get? b=some o->s'.heap.get? b=some o)/\s'.os=s.os/\s'.gens=s.gens/\s'.heap.get? s.heap.objs.size=some {cls:=.type "list",dict:=none,data:=.seq acc c,slots := #[]}/\acc.toList=vs/\aD vs ls/\ls.Perm ks) ->
      wants (λv s2=>ai (ag P w) A (match v with
        | .ref l=>(do match (<-load l).data with
                        | .seq xs _=>pure xs.toList
                        | _=>unsupported "internal:collect")
        | _=>unsupported "internal:collect") R E s2) E q s':=λq s' ⟨acc,c,vs,ls,e0,k,e1,e2,g,e3,e4,e5⟩=>by
    subst e0;show ai _ A (load s.heap.objs.size >>= _) _ _ s';refine S7 (kj g ?_);refine S8 ?_;rw[e3];exact h s' vs ls k e1 e2 e4 e5
  refine aG cM (λfin s' x=>?_) λe s' x=>?_
  . cases fin with
    | done f=>exact done _ _ x
    | again c1=>exact⟨x.1,br x.2 λq s2 y=>done q s2 y⟩
  . obtain⟨_,_,_,_,e',_⟩:=x;cases e'
end
section
variable {X:Cx}{pins:List (ae×aM)}{Z:St}{H:Hp}{s s':af}
def Inv.moved(I:Inv X pins Z H s)(k:∀b u,s.heap.get? b=some u->s'.heap.get? b=some u)(ho:s'.os=s.os)(hg:s'.gens=s.gens):Inv X pins Z H s':=by
 have J:=I.kept (h':=s'.heap) (t':=s'.toks) k;exact⟨J.ok,ho.trans I.os,by rw[hg];exact I.bare,J.base,J.loc,J.cell,J.free,J.freeC,J.pin,J.hok,J.len⟩
def Inv.laidM  (I:Inv X pins Z H s) (k:∀b u,s.heap.get? b=some u->s'.heap.get? b=some u) (ho:s'.os=s.os) (hg:s'.gens=s.gens) (hp:s.heap.objs.size<=a) (new:A4 X.prog X.w (upd H a o) s'.heap a o):Inv X pins Z (upd H a o) s':=by
 have J:=I.laid (h':=s'.heap) (t':=s'.toks) k hp new;exact⟨J.ok,ho.trans I.os,by rw[hg];exact I.bare,J.base,J.loc,J.cell,J.free,J.freeC,J.pin,J.hok,J.len⟩
end
section
variable {P:ao}{w:av}{A:aw}{E:Zb}{s:af}{ks:Za}
def Mi  (cN:ks.length<64)
  (hc:∀(R:List aa->af->Prop),(∀s' vs ls,(∀b o,s.heap.get? b=some o->s'.heap.get? b=some o)->s'.os=s.os->s'.gens=s.gens->aD vs ls->ls.Perm ks->R vs s')->ai (ag P w) A.in1 (collect (.ref r)) R E s)
  (h:∀(s1 s':af) (vs:List aa) (ls:Za) (e:Nat),(∀b o,s.heap.get? b=some o->s1.heap.get? b=some o)->s1.os=s.os->s1.gens=s.gens->(∀b o,s1.heap.get? b=some o->s'.heap.get? b=some o)->s'.os=s1.os->s'.gens=s1.gens->s'.heap.get? s1.heap.objs.size=some (ar "list" vs.toArray e)->aD vs ls->ls.Perm ks->el ls=true->Q (.ref s1.heap.objs.size) s'):
  ai (ag P w) A (call (.builtin "sorted") [.ref r]) Q E s:=by
 refine Calls.call_function_entry j0 iI iJ (vd _) ?_;unfold au.«sorted»;refine S7 (m:=kM "sorted" 1 1 _) (S8 ?_);refine S7 (hc _ λs1 vs ls k1 o1 g1 st p=>?_);have hl:vs.length<64:=by rw[st.length,p.length_eq];exact cN
 refine S7 (cG ?_ (by rw[Tb];lia));have gL:(s1.heap.push (ar "list" vs.toArray 0)).get? s1.heap.objs.size=some (ar "list" vs.toArray 0):=am.get?_push_size _ rfl;refine S7 (a8 (aX (s:={s1 with heap:=s1.heap.push (ar "list" vs.toArray 0)}) gc ⟨_,gL,rfl⟩ fq (list_sort_treeK strKind_oneLt gL st.keysOf (λa b rest e=>keyKind_strs (by rw[<-e];exact st)) hl λay pp so=>⟨_,rfl,?_⟩) (qI _)));obtain⟨t5,a1,a2,a3⟩:=sorted_out_str st pp so;obtain⟨e,he⟩:=sortedHeap_at (out:=(bh ay).map (·.2)) gL;refine S8 ⟨_,rfl,h s1 _ ((bh ay).map (·.2)).toList t5 e k1 o1 g1 (λb o q=>?_) rfl rfl he a1 (a2.trans p) a3⟩;have lt:=Ti q;show (BQ (s1.heap.push (ar "list" vs.toArray 0)) s1.heap.objs.size vs ((bh ay).map (·.2))).get? b=some o;rw[sortedHeap_old (Oq lt) (by rw[bO];exact P9 lt)];exact Tj _ q
end
def Cj (P:ao) (w:av) (a:ae) (ks:Za):HO:=.ext λh=>SSet P w h a ks
def Xjq  (h:aD vs ss):Vals (ss.map V.str) vs:=by
 induction h with
 | nil=>exact .nil
 | cons x t _ ih=>exact .cons ⟨t,rfl⟩ ih
theorem Hs:∀{ss:Za} {vs:List aa},Vals (ss.map V.str) vs->aD vs ss
 | [],_,r=>by cases r;exact .nil
 | x::ss,_,r=>by
  cases r with
  | cons r1 r2=>
   obtain⟨t,rfl⟩:=r1;exact .cons x t (Hs r2)
section
variable {X:Cx}
def Mj:X.calm=true->B1 X (.type "set") (λxs H Q=>∃p ss,xs=[.ref p]/\(SqL X.K H p (ss.map V.str)\/SqT X.K H p (ss.map V.str))/\ss.length+1<aT/\∀a,H a=none->Q (.ref a) (upd H a (Cj X.prog X.w a (ddup ss)))):=by
 intro aS pins s Z H xs us Q I r h;obtain⟨p,ss,rfl,hq,hb,q⟩:=h;obtain⟨u,rfl,rx⟩:=Co r;cases rx;obtain⟨ax,r',mH⟩:∃ax:List aa,Vals (ss.map V.str) ax/\Src s.heap p ax.toArray:=by
  rcases hq with hq | hq
  ·obtain⟨ax,r',pl,_⟩:=I.list hq;exact⟨ax,r',.lst pl.isList⟩
  ·obtain⟨ax,r',pl,_⟩:=I.tuple hq;exact⟨ax,r',.tup pl⟩
 refine Xjb (I.ok.hd aS) mH (Hs r') hb λh' tk S k=>?_;refine⟨.ref s.heap.objs.size,_,I.laidM (s':={s with heap:=h',toks:=tk}) k rfl rfl (Og _) ?_,rfl,q _ (I.hok.fresh (Og _))⟩;exact⟨S,by obtain⟨o,_,_,_,_,g,_⟩:=S;exact⟨o,g⟩,λh1 h2 S1 kk=>S1.stay kk⟩
def Ml    {s s1 s':af}    (I:Inv X pins Z H s) (cN:ks.length<64) (k1:∀b o,s.heap.get? b=some o->s1.heap.get? b=some o) (o1:s1.os=s.os) (g1:s1.gens=s.gens)
  (k2:∀b o,s1.heap.get? b=some o->s'.heap.get? b=some o) (o2:s'.os=s1.os) (g2:s'.gens=s1.gens) (he:s'.heap.get? s1.heap.objs.size=some (ar "list" vs.toArray e)) (st:aD vs ls) (p:ls.Perm ks)
  (q:∀l,H l=none->Q (.ref l) (upd H l (.lst (ls.map V.str)))):EP X pins Z Q (.ref s1.heap.objs.size) s':=by
 have I1:=I.moved k1 o1 g1;refine⟨.ref s1.heap.objs.size,_,I1.laidM k2 o2 g2 (Og _) (show A4 X.prog X.w _ s'.heap _ (.lst (ls.map V.str)) from ⟨?_,vs,e,Xjq st,he⟩),rfl,q _ (I1.hok.fresh (Og _))⟩;rw[Oc,p.length_eq,Tb]
 lia
def J3:X.calm=true->B1 X (.builtin "sorted") (λxs H Q=>∃a ks,xs=[.ref a]/\H a=some (Cj X.prog X.w a ks)/\ks.length<64/\∀l ls,H l=none->ls.Perm ks->el ls=true->Q (.ref l) (upd H l (.lst (ls.map V.str)))):=by
 intro aS pins s Z H xs us Q I r h;obtain⟨a,ks,rfl,ha,cN,q⟩:=h;obtain⟨u,rfl,rx⟩:=Co r;cases rx;obtain⟨S,_⟩:=(show A4 X.prog X.w H s.heap a (.ext λh=>SSet X.prog X.w h a ks) from I.hok a _ ha);refine Mi cN (λR k=>Xjp (by show X.A.in1.handled=none;simp[I.ok.hd aS]) S k) λs1 s' vs ls e k1 o1 g1 k2 o2 g2 he st p so=>?_;exact Ml I cN k1 o1 g1 k2 o2 g2 he st p λl hl=>q l ls hl p so
end
def Inv.turned2        (I:Inv X pins Z H s) (k:∀b o,b≠e1->b≠e2->s.heap.get? b=some o->h'.get? b=some o) (f1:FpOk X pins H e1) (f2:FpOk X pins H e2):Inv X pins Z H {s with heap:=h',toks:=t'}:=by
 have no:∀b u,H b=some u->b≠e1/\b≠e2:=λb u q=>⟨λz=>(by rw[z,f1.1] at q;cases q),λz=>(by rw[z,f2.1] at q;cases q)⟩;have nn:∀b,b∉[e1,e2]->b≠e1/\b≠e2:=λb hb=>by simpa using hb
 refine I.step (g':=s.gens) (d':=s.drawn) (ch:=[e1,e2]) (λb hb=>?_) (λb o _ _ hc q _=>k b o (nn b hc).1 (nn b hc).2 q) (λb o _ _ hc q _=>⟨o.slots,k b o (nn b hc).1 (nn b hc).2 q⟩) (λ_ _ _ _ n=>n) (λb o hc q=>⟨o,k b o (nn b hc).1 (nn b hc).2 q⟩) (λ_ _ q=>q) (λ_ _ _ q=>q) (λb ps q=>⟨#[],by rw[q];simp⟩) (λm hm=>?_) (λb u q=>?_) I.bare
 ·have dq:b=e1\/b=e2:=by simpa using hb
  rcases dq with z | z
  ·subst z;exact⟨f1.2.2.2.1,f1.2.1,f1.2.2.2.2.1,f1.2.2.2.2.2⟩
  ·subst z;exact⟨f2.2.2.2.1,f2.2.1,f2.2.2.2.2.1,f2.2.2.2.2.2⟩
 ·obtain⟨o,es,ep,ho,r⟩:=hm;exact⟨o,es,ep,k _ o (Ne.symm f1.2.1) (Ne.symm f2.2.1) ho,r⟩
 ·refine(I.hok b u q).stay (λc v hc z=>k c v ?_ ?_ z) (λ_ z=>z) λ_ _ z=>z
  ·rcases hc with y | y
   ·rw[y];exact(no b u q).1
   ·exact(no c _ y).1
  ·rcases hc with y | y
   ·rw[y];exact(no b u q).2
   ·exact(no c _ y).2
def Ite (K:KL) (a:ae):It:=
 ⟨λi H=>∃xs x,SqL K H a xs/\xs[i]? = some x,λi H x H'=>∃tp,x = .ref tp/\H tp=none/\∀xs,SqL K H a xs->∃y,xs[i]? = some y/\H'=upd H tp (.tup [.int i,y]),λi H=>∃xs,SqL K H a xs/\xs.length<=i⟩
def Xjr{P:ao}{w:av}{K:KL}{es:List aC}{k:Nat}{p:ce}(a e it:ae)(ne:e≠it):Turn P w K (.Tuple es k p) (Ite K a) [e,it] e (λi h=>(∃gW,IsEnum h e it i gW)/\h.IsListIter it a i) where
 mem:=by simp
 obj:=λi h st b hb=>by
  have dq:b=e\/b=it:=by simpa using hb
  rcases dq with z | z
  ·subst z;obtain⟨⟨gW,q⟩,_⟩:=st;exact⟨_,q,λv z=>by
    have z':uD.fields _=uD.cell v:=z;cases z'⟩
  ·subst z;obtain⟨o,q,c,d⟩:=st.2;exact⟨o,q,λv z=>by rw[d] at z;cases z⟩
 keep:=λi h h' st k=>by
  obtain⟨⟨gW,q⟩,l⟩:=st;exact⟨⟨gW,k e (by simp) _ q⟩,l.at λo z=>k it (by simp) o z⟩
 item:=by
  intro X hP hw hK hc i pins s Z H E I hf st hg;subst hP hw hK;obtain⟨xs,x,hq,hx⟩:=hg;obtain⟨ax,rv,pl,hz⟩:=I.list hq;obtain⟨u,hu,ru⟩:=rv.get hx;have f1:=hf e (by simp);have f2:=hf it (by simp);obtain⟨⟨gW,q⟩,l⟩:=st;refine wpAny_pyNext_enum_item q l pl.isList (x:=u) (by simpa using hu) ne λh' qo l' tp sz kk=>?_;have I1:Inv X pins Z H {s with heap:=h',toks:=s.toks+1}:=I.turned2 kk f1 f2;refine⟨_,rfl,?_⟩;have le:e<s.heap.objs.size:=Ti q;obtain⟨ol,uY,_⟩:=id l;have lit:it<s.heap.objs.size:=Ti uY;unfold cq;refine S7 (kj qo ?_);dsimp only;rw[Td (by simp[bc])];refine S7 (aO ?_);show ai _ _ (ci (.ref e) 0 .none) _ _ _;refine bF qo rfl (by simp) ?_;have g:=am.get?_update_self (aM.mapFields (·.setIfInBounds 0 aa.none)) qo rfl;have sb:=Tk h' e (aM.mapFields (·.setIfInBounds 0 aa.none));have I2:Inv X pins Z (upd H s.heap.objs.size (.tup [.int i,x])) {s with heap:=h'.update e (aM.mapFields (·.setIfInBounds 0 aa.none)),toks:=s.toks+1}:=by
   have J:=I.laid (a:=s.heap.objs.size) (o:=.tup [.int i,x]) (h':=s.heap.push {cls:=.type "tuple",data:=.seq #[.int i s.toks,u]}) (t':=s.toks+1) (λb o z=>Tj _ z) (Og _) (show A4 X.prog X.w _ _ _ (.tup [.int i,x]) from ⟨by show 2<=sizeLine;decide,[.int i s.toks,u],.cons ⟨_,rfl⟩ (.cons ru .nil),fG.new _ _⟩);have g1:FpOk X pins (upd H s.heap.objs.size (.tup [.int i,x])) e:=⟨by rw[Ad (Oq le)];exact f1.1,f1.2⟩;have g2:FpOk X pins (upd H s.heap.objs.size (.tup [.int i,x])) it:=⟨by rw[Ad (Oq lit)];exact f2.1,f2.2⟩;refine J.turned2 (λb o n1 n2 z=>?_) g1 g2;show (h'.update e _).get? b=some o;rw[sb.2 b n1];by_cases hb:b=s.heap.objs.size
   ·subst hb;have z':(s.heap.push {cls:=.type "tuple",data:=.seq #[.int i s.toks,u]}).get? s.heap.objs.size=some o:=z;rw[am.get?_push_size _ rfl] at z';cases z';exact tp
   ·have z':(s.heap.push {cls:=.type "tuple",data:=.seq #[.int i s.toks,u]}).get? b=some o:=z;rw[am.get?_push_ne _ _ _ hb] at z';exact kk b o n1 n2 z'
  refine⟨.ref s.heap.objs.size,_,I2,rfl,⟨_,rfl,I.hok.fresh (Og _),λys hy=>⟨x,by rw[I.list_inj hy hq];exact hx,rfl⟩⟩,⟨⟨u,g.trans ?_⟩,l'.at λo z=>?_⟩,λb hb=>?_⟩
  ·rfl
  ·rw[sb.2 it (Ne.symm ne)];exact z
  ·have dq:b=e\/b=it:=by simpa using hb
   rcases dq with z | z
   ·subst z;rw[Ad (Oq le)];exact f1.1
   ·subst z;rw[Ad (Oq lit)];exact f2.1
 done:=by
  intro X hP hw hK hc i pins s Z H E I hf st hg;subst hP hw hK;obtain⟨xs,hq,hx⟩:=hg;obtain⟨ax,rv,pl,hz⟩:=I.list hq;have hl:=rv.length;have f2:=hf it (by simp);obtain⟨⟨gW,q⟩,l⟩:=st;exact wpAny_pyNext_enum_end (I.ok.hd hc) q l pl.isList (by simp;lia) λh' eb=>⟨rfl,I.turned (t':=s.toks) (λb o hb z=>eb b o hb z) f2.1 f2.2.1 f2.2.2.2.1 f2.2.2.2.2.1 f2.2.2.2.2.2⟩
 self:=λ_ _ _ _ _ st h=>by
  obtain⟨⟨gW,q⟩,_⟩:=st;exact lQ q h
def Xjs (K:KL) (ta:TA):TI:=fun Z H R=>ta Z H λvs H1=>∃a,vs=[.ref a]/\(∃xs,SqL K H1 a xs)/\R (Ite K a) H1
def Xca       (hg:Gl X "enumerate") (hm:X.mg "enumerate" = none) (ha:PA X [l] ta) (hs:aq [l] X.env=[(false,eval l X.env)]:=by rfl):PI X (.Tuple es k p2) (.Call (.Name "enumerate" p) [l] [] pos) (Xjs X.K ta):=by
 intro pins s Z H R I h;refine Call_ (Fg I hg hm (show bG "enumerate" = some (.type "enumerate") by decide +kernel) (PyProof.Rows.callWith_type1 (thn (ha pos pins s Z H _ I h) λus s1 ⟨vs,H1,I1,r1,q1⟩=>?_) hs rfl));obtain⟨a,e,⟨xs,hq⟩,q⟩:=q1;subst e;cases r1 with
 | cons r rr=>
  cases rr;cases r;obtain⟨ax,rv,pl,hz⟩:=I1.list hq;refine call_enumerate_list pl.isList λh' qe ql sz kk=>?_;refine lQ qe ?_;have I2:Inv X pins Z H1 {s1 with heap:=h'}:=I1.kept (t':=s1.toks) kk;refine⟨_,[s1.heap.objs.size+1,s1.heap.objs.size],_,_,H1,rfl,I2,Xjr a _ _ (Nat.succ_ne_self _),⟨⟨_,qe⟩,ql⟩,λb hb=>?_,q⟩;have dq:b=s1.heap.objs.size+1\/b=s1.heap.objs.size:=by simpa using hb
  rcases dq with z | z
  ·subst z;exact I1.fpOk (Qb _) (I1.hok.fresh (Qb _))
  ·subst z;exact I1.fpOk (Og _) (I1.hok.fresh (Og _))
section
variable {X:Cx}{es:List aC}{t:St->Hp->(Hp->Prop)->Prop}{e:aC}{te:TE}{pos:ce}
def Xjt (te:TE) (t:St->Hp->(Hp->Prop)->Prop):St->Hp->(Hp->Prop)->Prop:=fun Z H Q=>te Z H λx H1=>∃z,x = .str z/\z.length<=400/\(∀c∈z.cps.toList,c<16 ^ 8)/\t Z H1 Q
def Xju(ha:PE X e te)(h:PJ X es t)(he:c6 (.FormattedValue e 114 none p::es) X.env=eval (.FormattedValue e 114 none p) X.env::c6 es X.env:=by rfl):PJ X (.FormattedValue e 114 none p::es) (Xjt te t):=by
 intro out pins s Z H Q I hw hl;rw[he];rw[Pe] at hl;refine fR (gI (thn (ha pins s Z H _ I hw) λv s1 ⟨x,H1,I1,r1,q1⟩=>?_));obtain⟨z,ez,h1,h2,q⟩:=q1;subst ez;obtain⟨tk,rfl⟩:=r1;have hz:=StrLaws.reprText_len z h2;have ve:(cj z).length<=sizeLine:=by rw[Tb];lia
 refine wpAny_pyReprObj_str ?_ ve;refine fr (λt' k=>⟨by rw[Ei];lia,?_⟩) ve;exact h _ pins _ Z H1 Q ((I1.tok _).tok _) q (by rw[Ei];lia)
theorem Xcb:∀ss l,l.length=ss.length->(∀i (hi:i<ss.length),∃t,l[i]? = some (.str ss[i] t))->aD l ss
 | [],l,e,_=>by rw[Pd.mp e];exact .nil
 | y::ys,[],e,_=>by cases e
 | y::ys,v::vs,e,kN=>by
  obtain⟨t,q⟩:=kN 0 (by simp);have:v = .str y t:=by simpa using q
  subst this;refine .cons y t (Xcb ys vs (by simpa using e) λi hi=>?_);obtain⟨t',e'⟩:=kN (i+1) (by simpa using hi);exact⟨t',by simpa using e'⟩
def Xcc:X.calm=true->B1 X (.builtin "sorted") (λxs H Q=>∃d kvs ss,xs=[.ref d]/\Rd H d (.dK kvs)/\kvs.map (·.1)=ss.map (λx=>(Sum.inr x:Key))/\ss.length<64/\∀l ls,H l=none->ls.Perm ss->el ls=true->Q (.ref l) (upd H l (.lst (ls.map V.str)))):=by
 intro aS pins s Z H xs us Q I r h;obtain⟨d,kvs,ss,rfl,hd,hk,cN,q⟩:=h;obtain⟨u,rfl,rx⟩:=Co r;cases rx;obtain⟨hz,hm,vs,rv,o,es,ep,ho,hex,BR,hr⟩:=Gc I.hok hd;have dI:kvs.length=ss.length:=by have:=congrArg List.length hk;simpa using this
 have kK:vs.length=ss.length:=by rw[<-dI];exact(Paired.length rv).symm
 have BS:vs.map (·.1)=ss.map (λx=>(Sum.inr x:Key)):=by rw[<-hk];exact rv.keys.symm
 have kN:∀acc:Array aa,ItemsOf (λi v=>∃k x,vs[i]? = some (k,x)/\(A7 X.prog X.w).is k v=true) acc vs.length->aD acc.toList ss:=λacc eh=>by
  refine Xcb ss _ (by rw[O1,eh.1,kK]) λi hi=>?_;have eZ:i<acc.size:=by rw[eh.1,kK];exact hi
  obtain⟨k',x,hx,BU⟩:=eh.2 i acc[i] (getElem?_pos acc i eZ);have eV:k'=Sum.inr ss[i]:=by
   have:=congrArg (λl=>l[i]?) BS;simp only[Ou,hx,Qt,Od hi] at this;exact Ov this
  subst eV;obtain⟨t,e⟩:=aa.isStrOf_shape BU;exact⟨t,by rw[Rl,getElem?_pos acc i eZ,e]⟩
 refine Mi cN (λR kR=>PySem.W.kdu_collect (PySem.W.kdl_dict (knd:=A7 X.prog X.w) (kvs:=vs) (ep:=ep) hm) (by show X.A.in1.handled=none;simp[I.ok.hd aS]) ⟨o,es,ho,hex,BR,hr⟩ (by rw[kK,Tb];lia) (λh' tk acc kk eh=>kR {s with heap:=h',toks:=tk} acc.toList ss kk rfl rfl (kN acc eh) (Rp _)))
  λs1 s' vs ls e k1 o1 g1 k2 o2 g2 he st p so=>Ml I cN k1 o1 g1 k2 o2 g2 he st p λl hl=>q l ls hl p so
def rSlS:V->Option Int->Option Int->Hp->VK->Prop:=λx lo hi H Q=>∃z,x = .str z/\lo=none/\(∃j,hi=some j)/\z.length<=1000/\Q (.str (Txt.slice z lo hi)) H
def Xjv:SlR X rSlS:=by
 intro pins s Z H x v vl vu lo hi sl Q I rx hs pl pu h;obtain⟨z,rfl,rfl,⟨j,rfl⟩,hz,q⟩:=h;obtain⟨tz,rfl⟩:=rx;cases pl;cases pu;rename_i tu;refine⟨"str",_,PySem.F.slot_str_getitem.lookup,kt _ _ _,wpAny_getItem_str_slice (l:=none) (u:=some (j,tu)) (st:=none) hs rfl (post_val_or_str ⟨?_,λt' k=>?_⟩)⟩
 ·exact Pb (Txt.slice_le z none (some j)) (by rw[Tb];lia)
 ·exact⟨.str (Txt.slice z none (some j)),H,I.tok _,⟨t',rfl⟩,q⟩
end
end L2
set_option maxHeartbeats 4000000
namespace L2
def leS (x y:aj):Prop:=x.cps.toList<=y.cps.toList
def Xjw{x y:aj}(h:x.cps.toList=y.cps.toList):x=y:=by
 obtain⟨⟨a⟩⟩:=x;obtain⟨⟨b⟩⟩:=y;have:a=b:=h;rw[this]
def Xcd(h:leS x y)(g:leS y x):x=y:=Xjw (List.le_antisymm h g)
def Xce(h:leS x y)(g:leS y z):leS x z:=List.le_trans h g
def Mm(x y):leS x y\/leS y x:=List.le_total _ _
def ltS (x y:aj):Prop:=x.cps.toList<y.cps.toList
instance (x y:aj):Decidable (ltS x y):=inferInstanceAs (Decidable (x.cps.toList<y.cps.toList))
instance (x y:aj):Decidable (leS x y):=inferInstanceAs (Decidable (x.cps.toList<=y.cps.toList))
def Ht(x):¬ltS x x:=List.lt_irrefl _
def Hu(h:ltS x y)(g:ltS y z):ltS x z:=List.lt_trans h g
def Mn:¬ltS x y↔leS y x:=List.not_lt
def ltS_of(h:leS x y)(n:x≠y):ltS x y:=by
 by_cases q:ltS x y
 ·exact q
 ·exact absurd (Xcd h (Mn.mp q)) n
def Xjx(h:ltS x y):leS x y:=List.le_of_lt h
def Hv(h:ltS x y):x≠y:=λe=>Ht y (e ▸ h)
theorem Xcf:∀l p,risingS p l=true->(p::l).Pairwise leS
 | [],p,_=>by simp
 | x::r,p,h=>by
  have h':(!ltCps x.cps.toList p.cps.toList&&risingS x r)=true:=h;rw[O4,ltCps_eq] at h';have ih:=Xcf r x h'.2;have yk:leS p x:=by
   have:=h'.1;simp only[Su,decide_eq_false_iff_not] at this;exact this
  refine Qn.mpr ⟨λy hy=>?_,ih⟩;rcases Ot.mp hy with e | e
  ·rw[e];exact yk
  ·exact Xce yk ((Qn.mp ih).1 y e)
theorem Xcg:∀l,el l=true->l.Pairwise leS
 | [],_=>by simp
 | x::r,h=>Xcf r x h
theorem Ez:∀{a b:Za},a.Perm b->a.Pairwise leS->b.Pairwise leS->a=b
 | [],b,p,_,_=>by rw[List.nil_perm.mp p]
 | x::a,[],p,_,_=>by have:=p.length_eq;simp at this
 | x::a,y::b,p,ha,hb=>by
  obtain⟨a1,a2⟩:=Qn.mp ha;obtain⟨b1,b2⟩:=Qn.mp hb;have e:x=y:=by
   have hx:x∈y::b:=p.mem_iff.mp Oj;have hy:y∈x::a:=p.mem_iff.mpr Oj;rcases Ot.mp hx with e | hx
   ·exact e
   ·rcases Ot.mp hy with e | hy
    ·exact e.symm
    ·exact Xcd (a1 y hy) (b1 x hx)
  subst e;rw[Ez (List.Perm.cons_inv p) a2 b2]
def srt (l:Za):Za:=l.mergeSort λx y=>decide (leS x y)
def Cs(l):(srt l).Perm l:=List.mergeSort_perm ..
def Ej(l):(srt l).Pairwise leS:=by
 have h:=List.pairwise_mergeSort (le:=λx y=>decide (leS x y)) (λa b c h1 h2=>Te (Xce (Tg h1) (Tg h2)))
  (λa b=>by rcases Mm a b with h | h<;>simp[h]) l
 exact h.imp λh=>Tg h
def Hw(p:ls.Perm ks)(h:el ls=true):ls=srt ks:=Ez (p.trans (Cs ks).symm) (Xcg _ h) (Ej _)
def Xjy(p:a.Perm b):srt a=srt b:=Ez ((Cs a).trans (p.trans (Cs b).symm)) (Ej _) (Ej _)
def Hx  : x∈srt l↔x∈l:=(Cs l).mem_iff
def dit (row:Za):Za:=srt (ddup row)
def Ar  : x∈dit row↔x∈row:=Hx.trans (Hq row x)
def Gf(row):(dit row).Nodup:=(Cs _).nodup_iff.mpr (Hr row)
def D4(row):(dit row).Pairwise ltS:=by
 have h1:=Ej (ddup row);have h2:(dit row).Pairwise (· ≠ ·):=Gf row;exact(h1.and h2).imp λh=>ltS_of h.1 h.2
def Fr(row):(dit row).length<=row.length:=by
 have:=(Cs (ddup row)).length_eq;have h:=Ge row;unfold dit
 lia
def Hy{a b:Za}(ha:a.Nodup)(hb:b.Nodup)(h:∀x,x∈a↔x∈b):a.Perm b:=(List.perm_ext_iff_of_nodup ha hb).mpr h
def Xch(p:ls.Perm ks)(h:el ls=true)(nd:ks.Nodup)(m:∀x,x∈ks↔x∈row):ls=dit row:=
 Ez (p.trans ((Hy nd (Hr row) λx=>(m x).trans (Hq row x).symm).trans (Cs _).symm)) (Xcg _ h) (Ej _)
structure Fn (P:ao) (w:av) (K:KL) (mg:aj->Option aa) (base:am) (CX:CXT) (k:Nat) (x:aj) (ps:Za) (sp:Sp):Prop where
 ex:∃f fd,mg x=some (.ref f)/\KR K (.ref f)=true/\Binds K fd ps []/\FnOk P w K mg base CX k f fd ps sp
section
variable {X:Cx}{CX:CXT}{k:Nat}{ps:Za}{sp:Sp}{E:XK}{x:aj}{p pos:ce}{e:aC}{es:List aC}{t:TA}
def Ai(F:Fn X.prog X.w X.K X.mg X.base CX k x ps sp)(hr:Room k X.A)(hg:Gl X x)(hx:Passes CX X E)
  (ha:PA X (e::es) t) (gO:(x==("__debug__" : aj))=false:=by decide) (he:aq (e::es) X.env=(false,eval e X.env)::aq es X.env:=by rfl) (cz:(bp pos (aq es X.env)).any (·.1)=false:=by rfl):
  PE X (.Call (.Name x p) (e::es) [] pos) (Xav sp [] E t):=by
 obtain⟨f,fd,hm,hk,hb,hF⟩:=F.ex;exact Xg6 hF hr hg hm hk hb .nil hx ha gO he cz
def Xjz{st}{rest}   (P:St->Hp->Prop)(h2:∃u,PSs X rest u/\∀Z' H',P Z' H'->u D Z' H')
  (h1:∀nx,(∀Z' H',P Z' H'->nx Z' H')->∃t,PS X st t/\t {D with nx:=nx} Z H):∃t,PSs X (st::rest) t/\t D Z H:=by
 obtain⟨u,hu,ru⟩:=h2;obtain⟨t,ht,rt⟩:=h1 (u D) ru;exact⟨Jk t u,Ae ht hu,rt⟩
end
def A2{A B:Prop}(h1:c=true->A)(h2:c=false->B):if c=true then A else B:=by
 cases c with
 | true=>exact Br (h1 rfl)
 | false=>exact Bq (h2 rfl)
def Same.upd{H H':Hp}{a:ae}{o:HO}(s:Same H H')(h:H a=none):Same H (upd H' a o):=λb u e=>by
 rw[Ad (Am e h)];exact s b u e
def Same.upd0   (h:H a=none):Same H (L2.upd H a o):=(Same.refl H).upd h
def ku  {o u} (h:H b=some o) (hp:H p=none):upd H p u b=some o:=by
 rw[Ad (Am h hp)];exact h
def Same.step  {o} (s:Same H H1) (hp:H1 p=none):Same H (L2.upd H1 p o):=s.upd (s.free hp)
def Same.go{p q}{o}(s:Same H H1)(hp:H1 p=none)(hq:L2.upd H1 p o q=none):Same H (L2.upd H1 p o):=s.step hp
def Ek{α : Type}(f)(xs:List α)(b)(hb:b<=xs.length):C2 (xs.map f) none (some (b:Int))=(xs.take b).map f:=by
 unfold C2;rw[HT.sIx_none,R5,HT.sIx_nat,Oc,Sc,Nat.sub_zero,Qv hb]
def D6{α : Type}(f)(xs:List α)(a)(ha:a<=xs.length):C2 (xs.map f) (some (a:Int)) none=(xs.drop a).map f:=by
 unfold C2;rw[HT.sIx_none,HT.sIx_nat,Oc,Qv ha,Sd];exact P5 (by rw[Pj,Oc];lia)
def Xj0{α : Type}(f)(xs:List α)(a b)(fb:a<=b)(hb:b<=xs.length):C2 (xs.map f) (some (a:Int)) (some (b:Int))=((xs.drop a).take (b - a)).map f:=by
 unfold C2;rw[HT.sIx_nat,HT.sIx_nat,Oc,Qv hb,Qv (Pb fb hb),Sc,Sd]
def Xci (qJ:bX) (fN N:Za) (cap:List (Option Nat)) (scope:bX):Bool:=
 (scope.names.all λy=>decide (scope.names.lookup y.1=some y.2)) &&
 (scope.names.all λy=>decide (y.2 ≠ .free)||decide (qJ.names.lookup y.1=some .cell)||decide (qJ.names.lookup y.1=some .free))&&decide (cap.length=N.length) &&
 ((List.range N.length).all λi=>match cap[i]?,N[i]? with
  | some (some j),some x=>decide (fN[j]? = some x)&&decide (scope.names.lookup x=some .free)
  | _,_=>true)
def CompScope.of   {cap} (qJ) (fN) (h1:X.env.scope=qJ) (h2:X.N=fN) (hk:scope.kind = .function) (h:Xci qJ fN N cap scope=true):CompScope X N cap scope:=by
 unfold Xci at h;simp only[O4,O6,Rm,decide_eq_true_eq] at h;obtain⟨⟨⟨a1,a3⟩,a4⟩,a5⟩:=h;refine⟨hk,a1,λy hy e=>?_,a4,λi x j hN hc=>?_⟩
 ·show X.env.scope.names.lookup y.1=some .cell\/X.env.scope.names.lookup y.1=some .free;rw[h1];rcases a3 y hy with (z | z) | z
  ·exact absurd e z
  ·exact .inl z
  ·exact .inr z
 ·have hi:i<N.length:=(Ox.mp hN).1;have q:=a5 i (Pu.mpr hi);rw[hc,hN] at q;simp only[O4,decide_eq_true_eq] at q;rw[h2];exact q
section
variable {X:Cx}
def Xj1(K)(h:X.K=K):B1 X (.builtin "isinstance") (λxs H Q=>∃x c t cv b,xs=[x,c]/\TyOf K H x t/\Hl c=some cv/\KN K t cv=some b/\Q (.bl b) H):=by subst h;exact Hm
def Xj2       (n:Nat) (vs:Nat->V) (Pv:ae->Nat->St->Hp->Prop)
  (h0:∀D,H1 D=none->Pv D 0 (Bk cap Z) (upd H1 D (.lst [])))
  (fk:∀D i Z2 H2,H1 D=none->i<n->Pv D i Z2 H2->J.go i H2/\∀x H3,J.yld i H2 x H3->H3=H2/\x=vs i)
  (bi:∀D Z2 H2,H1 D=none->Pv D n Z2 H2->J.stop n H2)
  (step:∀D i Z1 H2,H1 D=none->i<n->Pv D i Z1 H2->te (Z1.set j (some (vs i))) H2 λy H6=>∃ys,H6 D=some (.lst ys)/\ys.length<sizeLine/\∃m',m'<n - i/\wN n (Pv D) (i+1) m' (Z1.set j (some (vs i))) (upd H6 D (.lst (ys++[y]))))
  (hd:∀D Z2 H2,H1 D=none->Pv D n Z2 H2->F D H2):D1 cap (Ax j) Dd te J Z H1 F:=
 D2 n vs Pv h0 fk bi (λD i Z1 H2 a b c=>by
  show if true=true then te (Z1.set j (some (vs i))) H2 (λy H6=>∃ys,H6 D=some (.lst ys)/\ys.length<sizeLine/\∃m',m'<n - i/\wN n (Pv D) (i+1) m' (Z1.set j (some (vs i))) (upd H6 D (.lst (ys++[y])))) else ∃m',m'<n - i/\wN n (Pv D) (i+1) m' (Z1.set j (some (vs i))) H2
  rw[Td rfl];exact step D i Z1 H2 a b c) hd
def Xcj(K)(h:X.K=K):IxR X (Lq K):=by subst h;exact A5
def De(K)(h:X.K=K):IxR X (Lr K):=by subst h;exact Eg
def Xj3(K)(h:X.K=K):B1 X (.builtin "len") (λxs H Q=>∃p ys,xs=[.ref p]/\(SqL K H p ys\/SqT K H p ys)/\Q (.int ys.length) H):=by subst h;exact B9
def Mo(K)(h:X.K=K):OpR X (aF .In) (rIn K false):=by subst h;exact Ju
end
def Mp(K)(h:X.K=K):B1 X (.builtin "isinstance") (λxs H Q=>∃a C c cv b,xs=[.ref a,c]/\H a=some (Fq a C)/\ExcF K C/\Hl c=some cv/\KN K (.ref C) cv=some b/\Q (.bl b) H):=by subst h;exact Xi0
def Fs        (n:Nat) (hn:n<sizeLine) (vs:Nat->V) (ok:Nat->Bool) (ys:Nat->V)
  (fk:∀i H2,i<n->Same H1 H2->J.go i H2/\∀x H3,J.yld i H2 x H3->H3=H2/\x=vs i)
  (bi:∀H2,Same H1 H2->J.stop n H2)
  (kO:∀i H2 Q,i<n->Same H1 H2->(∀H',Same H2 H'->Q (ok i) H')->tt ((Bk cap Z).set j (some (vs i))) H2 Q)
  (step:∀i H2 Q,i<n->ok i=true->Same H1 H2->(∀H',Same H2 H'->Q (ys i) H')->te ((Bk cap Z).set j (some (vs i))) H2 Q)
  (hd:∀D H2,H1 D=none->Same H1 H2->H2 D=some (.lst (((List.range n).filter ok).map ys))->F D H2):D1 cap (Ax j) tt te J Z H1 F:=by
 refine D2 n vs (λD i Z2 H2=>(∀v, Z2.set j v=(Bk cap Z).set j v)/\Same H1 H2/\H2 D=some (.lst (((List.range i).filter ok).map ys))) ?_ ?_ ?_ ?_ ?_
 ·intro D hD;exact⟨λ_=>rfl,(Same.refl H1).step hD,Ab⟩
 ·rintro D i Z2 H2 hD hi ⟨_,s2,_⟩;exact fk i H2 hi s2
 ·rintro D Z2 H2 hD ⟨_,s2,_⟩;exact bi H2 s2
 ·rintro D i Z2 H2 hD hi ⟨e,s2,hb⟩;show tt (Z2.set j (some (vs i))) H2 _;rw[e];refine kO i H2 _ hi s2 λH3 s3=>?_;have iK:=s2.trans s3;have mP:=s3 _ _ hb;have gf:∀v,((Bk cap Z).set j (some (vs i))).set j v=(Bk cap Z).set j v:=λv=>by rw[R7]
  have hl:(((List.range i).filter ok).map ys).length<=i:=by
   rw[Oc];exact Pb (Pk ..) (by rw[Py];lia)
  refine A2 (λhk=>?_) (λhk=>?_)
  ·refine step i H3 _ hi hk iK λH4 s4=>?_;refine wput hi (s4 _ _ mP) (by lia) ⟨gf,λb u e'=>?_,?_⟩
   ·rw[Ad (Am e' hD)];exact s4 _ _ (iK b u e')
   ·rw[Ab,P0,O2,Oo];simp[hk]
  ·refine wskip hi ⟨gf,iK,?_⟩;rw[mP,P0,O2,Oo];simp[hk]
 ·rintro D Z2 H2 hD ⟨_,s2,hb⟩;exact hd D H2 hD s2 hb
def J4       (n:Nat) (hn:n<sizeLine) (vs:Nat->V) (ys:Nat->V)
  (fk:∀i H2,i<n->Same H1 H2->J.go i H2/\∀x H3,J.yld i H2 x H3->H3=H2/\x=vs i)
  (bi:∀H2,Same H1 H2->J.stop n H2)
  (step:∀i H2 Q,i<n->Same H1 H2->(∀H',Same H2 H'->Q (ys i) H')->te ((Bk cap Z).set j (some (vs i))) H2 Q)
  (hd:∀D H2,H1 D=none->Same H1 H2->H2 D=some (.lst ((List.range n).map ys))->F D H2):D1 cap (Ax j) Dd te J Z H1 F:=
 Fs n hn vs (λ_=>true) ys fk bi (λi H2 Q _ _ k=>k H2 (Same.refl _)) (λi H2 Q hi _ s k=>step i H2 Q hi s k) λD H2 hD s e=>hd D H2 hD s (by rw[e,Po.mpr (λ_ _=>rfl)])
def Xck:Passes (CX1 X.prog X.w) X E0:=λ_ _ _ _ _ _ _ h=>by
 obtain⟨_,_,_,_,_,_,_,_,_,h⟩:=h;exact h.elim
structure DefAt (K:KL) (x:aj) (st:aK):Prop where
 ex:∃f fd,KO K ak x=some (some (.ref f))/\KR K (.ref f)=true/\Fun K x x st f fd
def DefAt.of{K}{x}{st}    {kV cQ pm cdv ct}(a:KO K ak x=some (some (.ref f)))
  (l:K.lookup f=some ⟨oc,od,.func (Le x x (Eh st) (C3 st) (defScope st) .none kV cQ pm an cdv ct),iu⟩) (c:LA K cdv x=true) (k:KR K (.ref f)=true):DefAt K x st:=
 ⟨⟨f,_,a,k,Xbi l c k⟩⟩
def Fn.of{P}{w}{K}     {k}{x}{st}  (X:K.In h)(G:h.Ns ak mg)(D:DefAt K x st)
  (hb:∀(kV cQ pm:aa) (an:Option ae) (cdv ct:aa) (us:List aa),us.length=ps.length->dR (Le x x (Eh st) (C3 st) (defScope st) .none kV cQ pm an cdv ct) ⟨us,[]⟩=pure (ps.zip us))
  (ok:∀f fd,Fun K x x st f fd->FnOk P w K mg base CX k f fd ps sp):Fn P w K mg base CX k x ps sp:=by
 obtain⟨f,fd,a,hk,F⟩:=D.ex;exact⟨⟨f,fd,KZ X G a,hk,F.binds hb,ok f fd F⟩⟩
structure ExcAt (K:KL) (x:aj) (C:ae):Prop where
 a:KO K ak x=some (some (.ref C))
 e:LB K C bmV "ValueError.__new__" = true
 ga:KS K (.ref C) "__getattribute__" = some (some (.builtin "BaseException.__getattribute__"))
 gn:KS K (.ref C) "__getattr__" = some none
 cl:KS K (.ref C) "__class__" = some (some (.builtin "object.__class__"))
 sb:KP K (.ref C) (.type "BaseException")=some true
 so:KP K (.ref C) (.type "object")=some true
 sv:KP K (.ref C) (.type "ValueError")=some true
 ss:KP K (.ref C) (.ref C)=some true
 ic:LC K C=true
 ty:LF K (.ref C)=some (.type "type")
section
variable {K:KL}{x:aj}{C:ae}
def ExcAt.f(E:ExcAt K x C):ExcF K C:=⟨E.ga,E.gn,E.cl,E.sb,E.so,E.ic⟩
def Xcl   (ic:LC K S=true) (ty:LF K (.ref S)=some (.type "type")) (h:KP K t (.ref S)=some b):LX K t (.ref S)=some b:=by
 unfold LX;have BV:(LP K S).isSome=true:=ic;simp only[BV,ty];exact h
def Xcm  (ne:C≠S) (ic:LC K S=true) (ty:LF K (.ref S)=some (.type "type")) (h:KP K (.ref C) (.ref S)=some b):KN K (.ref C) (.ref S)=some b:=by
 unfold KN;rw[Tc (λz=>ne (aa.ref.inj (beq_iff_eq.mp z)))];exact Xcl ic ty h
def ExcAt.val(E:ExcAt K x C):KN K (.ref C) (.type "ValueError")=some true:=by
 unfold KN;rw[Tc (λz=>by cases (beq_iff_eq.mp z))];show (if LM "ValueError" = true then KP K (.ref C) (.type "ValueError") else none)=some true;rw[Td (by decide +kernel)];exact E.sv
end
structure ClsAt (K:KL) (x:aj) (C:ae):Prop where
 a:KO K ak x=some (some (.ref C))
 ic:LC K C=true
 ty:LF K (.ref C)=some (.type "type")
def E1(x)(row:Za):inV (.str x) (row.map V.str)=decide (x∈row):=by
 unfold inV;rw[Qf,Rc,decide_eq_true_eq];constructor
 ·rintro ⟨y,hy,e⟩;obtain⟨z,hz,rfl⟩:=O0.mp hy;have:z=x:=by simpa [eqV] using e
  rw[<-this];exact hz
 ·intro hx;exact⟨.str x,O0.mpr ⟨x,hx,rfl⟩,by simp[eqV]⟩
def El(row:Za):(row.map V.str).all B8=true:=by
 rw[O6];intro v h;obtain⟨x,_,rfl⟩:=O0.mp h;rfl
def Xj4{K}        {p q}(vf:p≠q)(hS:SqL K H1 a xs)(hn:xs.length<sizeLine)(ok)(ys)
  (kO:∀(i:Nat) x H2 Q,xs[i]? = some x->Same H1 H2->(∀H',Same H2 H'->Q (ok i) H')->tt (((Bk cap Z).set p (some (.int i))).set q (some x)) H2 Q)
  (step:∀(i:Nat) x H2 Q,xs[i]? = some x->ok i=true->Same H1 H2->(∀H',Same H2 H'->Q (ys i) H')->te (((Bk cap Z).set p (some (.int i))).set q (some x)) H2 Q)
  (hd:∀D H2,H1 D=none->Same H1 H2->H2 D=some (.lst (((List.range xs.length).filter ok).map ys))->F D H2):D1 cap (Jm K 2 (G7 (Ax p) (G7 (Ax q) Ld))) tt te (Ite K a) Z H1 F:=by
 intro D hD;refine⟨wN xs.length λi Z2 H2=>(∀u v,(Z2.set p u).set q v=((Bk cap Z).set p u).set q v)/\Same H1 H2/\H2 D=some (.lst (((List.range i).filter ok).map ys)),⟨xs.length,by simp,Pg _,λ_ _=>rfl,(Same.refl H1).step hD,Ab⟩,?_⟩;rintro i m Z1 H2 ⟨rfl,hi,e,s2,hb⟩;have vg:SqL K H2 a xs:=s2.seq hS;by_cases aZ:i<xs.length
 ·have hx:xs[i]? = some xs[i]:=Od aZ;refine .inr ⟨⟨xs,xs[i],vg,hx⟩,?_⟩;rintro x H3 ⟨tp,rfl,ht,hy⟩;obtain⟨y,h8,rfl⟩:=hy xs vg;rw[hx] at h8;cases h8;refine⟨tp,_,rfl,SqT.of Ab,rfl,_,_,rfl,_,_,rfl,rfl,?_⟩;have s3:Same H1 (upd H2 tp (.tup [.int i,xs[i]])):=s2.step ht;have mP:upd H2 tp (.tup [.int i,xs[i]]) D=some (.lst (((List.range i).filter ok).map ys)):=ku hb ht;rw[e];refine kO i _ _ _ hx s3 λH4 s4=>?_;have vh:=s3.trans s4;have lR:=s4 _ _ mP;have gf:∀u v,(((((Bk cap Z).set p (some (.int i))).set q (some xs[i])).set p u).set q v)=((Bk cap Z).set p u).set q v:=λu v=>by
   rw[List.set_comm _ _ (Ne.symm vf),R7,R7]
  have hl:(((List.range i).filter ok).map ys).length<=i:=by
   rw[Oc];exact Pb (Pk ..) (by rw[Py];lia)
  refine A2 (λhk=>?_) (λhk=>?_)
  ·refine step i _ H4 _ hx hk vh λH5 s5=>?_;refine wput aZ (s5 _ _ lR) (by lia) ⟨gf,λb u e'=>?_,?_⟩
   ·rw[Ad (Am e' hD)];exact s5 _ _ (vh b u e')
   ·rw[Ab,P0,O2,Oo];simp[hk]
  ·refine wskip aZ ⟨gf,vh,?_⟩;rw[lR,P0,O2,Oo];simp[hk]
 ·have ei:i=xs.length:=by lia
  subst ei;exact .inl ⟨⟨xs,vg,Og _⟩,hd D H2 hD s2 hb⟩
def Ft     (K:KL) (n:Nat) (hK:X.K=K) (hc:X.calm=true) (h:PGs X es t)
  (hn:(bq es X.env).length=n:=by rfl) (bi:(bq es X.env).findIdx? (·.1)=none:=by rfl):PG X (.Tuple es k pos) (Jm K n t):=by
 subst hK;exact Lf hc h hn bi
def C5{α : Type}(d)(p):∀(xs:List α),((List.range xs.length).filter λi=>p (xs.getD i d)).map (λi=>xs.getD i d)=xs.filter p:=by
 intro xs;have go:∀n,n<=xs.length->((List.range n).filter λi=>p (xs.getD i d)).map (λi=>xs.getD i d)=(xs.take n).filter p:=by
  intro n
  induction n with
  | zero=>intro _;rfl
  | succ n ih=>
   intro h;have hn:n<xs.length:=by lia
   have e:xs.getD n d=xs[n]:=by simp[List.getD,hn]
   rw[P0,O2,Oo,ih (by lia),Ow hn,O2,Pp,Pp,e];split
   ·simp[hn]
   ·simp
 rw[go _ (Og _),Pl]
abbrev TM:=St->Hp->(St->Hp->Prop)->Prop
def PM (X:Cx) (m:i9 Unit) (t:TM):Prop:=∀pins s Z H (Q:St->Hp->Prop),Inv X pins Z H s->t Z H Q ->
 ai (ag X.prog X.w) X.A m (λ_ s'=>∃Z' H',Inv X pins Z' H' s'/\Q Z' H') X.xe s
def Em (e:aC) (d:Nat) (tg iter:aC) (bV:List aC) (act:i9 Unit) (it acc:aa) (env:eJ):i9 Fin:=do
 bZ iter.pos
 match <-cK it with
 | none=>pure (.done .next)
 | some v=>
  cq tg it v
  assign tg env v
  let mut ok:=true
  for c in bV do
   if ok then ok <-isTrue c env (eval c env)
  if ok then act
  again (.compLoop e d it acc env)
structure Cm (e:aC):Prop where
 den1 : ∀ (P : ao) (w : av) (d : Nat) (it acc : aa) (env : eJ), (ag P w).den (.compLoop e d it acc env) = (c9 e d it acc env).onRaise (fun x => do                      JD x env; theTreesLotGoes x)
 den2 : ∀ (P : ao) (w : av) (d : Nat) (it acc : aa) (env : eJ), (ag P w).den (.compStart e d it acc env) = (JE e d it acc env).onRaise (fun x => do                       JD x env; bZ theWindowsPlace)
 und1:∀(A:aw) (d:Nat) (it acc:aa) (env:eJ),A.under (.compLoop e d it acc env)=A
 und2:∀(A:aw) (d:Nat) (it acc:aa) (env:eJ),A.under (.compStart e d it acc env)=A
def Hz    : Cm (.ListComp cH gs sc p):=⟨λ_ _ _ _ _ _=>rfl,λ_ _ _ _ _ _=>rfl,λ_ _ _ _ _=>rfl,λ_ _ _ _ _=>rfl⟩
def Xj5    : Cm (.DictComp k v gs sc p):=⟨λ_ _ _ _ _ _=>rfl,λ_ _ _ _ _ _=>rfl,λ_ _ _ _ _=>rfl,λ_ _ _ _ _=>rfl⟩
def tLp (g:TG) (tt:TT) (tm:TM) (J:It) (Z:St) (H1:Hp) (F:St->Hp->Prop):Prop:=
 ∃W:Nat->Nat->St->Hp->Prop,(∃m,W 0 m Z H1)/\∀i m Z1 H2,W i m Z1 H2 ->
  (J.stop i H2/\F Z1 H2)\/(J.go i H2/\∀x H3,J.yld i H2 x H3->g x Z1 H3 fun Z2 H4=>tt Z2 H4 λb H5=>
   if b=true then tm Z2 H5 fun Z3 H6=>∃m',m'<m/\W (i+1) m' Z3 H6 else ∃m',m'<m/\W (i+1) m' Z2 H5)
section
variable {Y:Cx}{e tg iter:aC}{d:Nat}{bV:List aC}{act:i9 Unit}{acc:aa}{g:TG}{tt:TT}{tm:TM}{pins:List (ae×aM)}{Z:St}{H:Hp}{s:af}{J:It}{fp:List ae}{it:ae}{tn:Nat->am->Prop}{F:St->Hp->Prop}{R:iB->af->Prop}
def Xcn(cm:Cm e)(hx:Y.xe=λ_ _=>False)(hc:Y.calm=true)(eq:c9 e d (.ref it) acc Y.env=Em e d tg iter bV act (.ref it) acc Y.env)(hg:PG Y tg g)(ht:PIfs Y bV tt)(hm:PM Y act tm)
  (I:Inv Y pins Z H s) (T:Turn Y.prog Y.w Y.K tg J fp it tn) (h0:tn 0 s.heap) (hf:∀b∈fp,FpOk Y pins H b) (hb:tLp g tt tm J Z H F) (fin:∀Z' H' s',Inv Y pins Z' H' s'->F Z' H'->R (.ok .next) s'):
  bf (ag Y.prog Y.w) Y.A (.compLoop e d (.ref it) acc Y.env) R s:=by
 obtain⟨W,⟨m0,w0⟩,turn⟩:=hb;have gN:∀{H':Hp},(∀b∈fp,H' b=none)->∀b∈fp,FpOk Y pins H' b:=λhn b hb=>⟨hn b hb,(hf b hb).2⟩;refine codeAny_loop rfl (λn s'=>∃i Z1 H2,Inv Y pins Z1 H2 s'/\tn i s'.heap/\(∀b∈fp,H2 b=none)/\W i n Z1 H2) (λn s' hI=>?_) m0 ⟨0, Z,H,I,h0,λb hb=>(hf b hb).1,w0⟩;obtain⟨i, Z1,H2,I',ay,yl,w'⟩:=hI;rw[cm.den1,cm.und1];refine wpAny_noted ?_;rw[eq];have no:∀{α : Type} {t:i9 α} {Q : α->af->Prop} {E':Zb} {s₁ : af},ai (ag Y.prog Y.w) Y.A t Q Y.xe s₁->ai (ag Y.prog Y.w) Y.A t Q E' s₁:=λh=>aG h (λ_ _ q=>q) λ_ _ z=>by rw[hx] at z;exact z.elim
 unfold Em;rcases turn i n Z1 H2 w' with ⟨stop,q⟩ | ⟨go,step⟩
 ·refine S7 (aQ (S7 (thn (T.done Y rfl rfl rfl hc i pins s' Z1 H2 _ I' (gN yl) ay stop) λr s1 ⟨hr,I1⟩=>?_)));subst hr;exact S8 (fin Z1 H2 s1 I1 q)
 ·refine S7 (aQ (S7 (thn (T.item Y rfl rfl rfl hc i pins s' Z1 H2 _ I' (gN yl) ay go) λr s1 ⟨u,hr,h4⟩=>?_)));subst hr;refine S7 (thn h4 λ_ s5 ⟨x,H5,I5,r5,y5,m6,uE⟩=>?_);have uF:=I5.pinned (gN uE) (T.obj _ _ m6);refine S7 (thn (no (hg _ s5 Z1 H5 x u _ uF r5 (step x H5 y5))) λ_ s6 ⟨Z6,H6,I6,q6⟩=>?_);refine S7 (thn (no (ht _ s6 Z6 H6 _ I6 q6)) λb s7 ⟨H7,I7,q7⟩=>?_);have again:∀{s8:af} {Z8:St} {H8:Hp},Inv Y (pins++G8 fp s5.heap) Z8 H8 s8->(∃m',m'<n/\W (i+1) m' Z8 H8)->∃m,m<n/\∃i Z1 H2,Inv Y pins Z1 H2 s8/\tn i s8.heap/\(∀b∈fp,H2 b=none)/\W i m Z1 H2:=λ{s8 Z8 H8} I8 ⟨m',hm,w8⟩=>by
   refine⟨m',hm,i+1, Z8,H8,I8.unpinned,T.keep _ _ _ m6 λb hb o e=>(I8.pin (b,o) (Pc _ (Pc _ (Jo hb e)))).1,λb hb=>?_,w8⟩;obtain⟨o,e,d⟩:=T.obj _ _ m6 b hb;exact(I8.pin (b,o) (Pc _ (Pc _ (Jo hb e)))).2.1
  cases b with
  | false=>
   rw[Tc Oz] at q7;exact S8 ⟨rfl,again I7 q7⟩
  | true=>
   rw[Td rfl] at q7;exact S7 (thn (no (hm _ s7 Z6 H7 _ I7 q7)) λ_ s8 ⟨Z8,H8,I8,q8⟩=>S8 ⟨rfl,again I8 q8⟩)
def Xco      (cm:Cm e) (iw:(dg e)[d]? = some cl) (has:cl.is_async=0)
  (h0:bf (ag prog w) A (.compLoop e d lF acc env) R s)
  (h:ai (ag prog w) A (fH lF) (λvi s'=>bf (ag prog w) A (.compLoop e d vi acc env) R s') (notedBy (ag prog w) A env λx s'=>R (.error x) s') s):
  bf (ag prog w) A (.compStart e d lF acc env) R s:=by
 refine fm ?_;rw[cm.den2,cm.und2];refine wpAny_notedAt ?_;unfold JE;rw[iw];have e1:(Option.elim (some cl) false λx=>x.is_async != 0)=false:=by
  show (cl.is_async != 0)=false;rw[has];rfl
 rw[e1,Tc Oz];show ai _ A (ask >>= _) _ _ s;refine S7 (aY (wpAny_ite ?_));split
 ·first
   | exact S7 (S8 (S8 (And.intro rfl h0)))
   | exact S8 (And.intro rfl h0)
 ·first
   | exact S7 (aO (S7 (aQ (S7 (aG h (λvi s' h'=>S8 (And.intro rfl h')) λ_ _ x=>x)))))
   | (refine S7 (aO ?_);show ai _ _ (bZ cl.iter.pos >>= _) _ _ s;exact S7 (aQ (S7 (aG h (λvi s' h'=>S8 (And.intro rfl h')) λ_ _ x=>x))))
end
def J5 (te:TE) (D:ae):TM:=fun Z H Q=>te Z H λy H6=>∃ys,H6 D=some (.lst ys)/\ys.length<sizeLine/\Q Z (upd H6 D (.lst (ys++[y])))
def J6    (he:PE Y cH te):PM Y (do  let _ <-call (.builtin "list.append") [.ref D,<-eval cH Y.env]) (J5 te D):=by
 intro pins s Z H Q I h;refine S7 (thn (he pins s Z H _ I h) λyv s8 ⟨y,H8,I8,r8,ys,hD,aZ,q8⟩=>?_);exact S7 (thn (Jw (X:=Y) _ s8 Z H8 (.ref D) [y] (.ref D) [yv] (λ_ H9=>Q Z H9) I8 rfl (.cons r8 .nil) ⟨_,ys,y,rfl,rfl,hD,aZ,q8⟩) λ_ s9 ⟨_,H9,I9,_,q9⟩=>S8 ⟨Z,H9,I9,q9⟩)
def Xcp (tk tv:TE) (D:ae):TM:=fun Z H Q=>tk Z H λk H1=>tv Z H1 λv H2=>∃kvs ky,k=kV ky/\H2 D=some (.dK kvs)/\kvs.length<sizeLine/\Q Z (upd H2 D (.dK (Be kvs ky v)))
def Xj6    (hk:PE Y kx tk) (hv:PE Y vx tv):PM Y (do
  let kv <-eval kx Y.env
  let vv <-holding [kv] (eval vx Y.env)
  bZ {kx.pos with endLine:=vx.pos.endLine,endCol:=vx.pos.endCol}
  holding [kv,vv] (dictSet D kv vv)) (Xcp tk tv D):=by
 intro pins s Z H Q I h;refine S7 (thn (hk pins s Z H _ I h) λkv s1 ⟨k,H1,I1,rk,q1⟩=>S7 (a8 (thn (hv pins s1 Z H1 _ I1 q1) λvv s2 ⟨v,H2,I2,rv,kvs,ky,ek,hD,hl,q⟩=>S7 (aQ (a8 ?_)))));subst ek;obtain⟨z,hd,vs,cP,dd⟩:=Lv I2.hok hD;have hz:vs.length<=sizeLine:=by rw[<-cP.length];exact z
 have oP:(Be kvs ky v).length<=sizeLine:=by have:=Gb kvs ky v;lia
 refine jS (knd:=A7 Y.prog Y.w) (hsz:=hz) (Fp rk) dd λh' ja hs=>⟨Z,_,?_,q⟩;have he:∃q,h'.get? D=some q:=let ⟨q,_,_,hq,_⟩:=ja; ⟨q,hq⟩;exact Hg I2 (by rw[hD];exact True.intro) hs he (Lw oP hd (cP.put ky rv) ja)
def Xcq (wi:TI) (g:TG) (tt:TT) (tm:TM):TM:=fun Z H Q=>wi Z H λJ H1=>tLp g tt tm J Z H1 Q
def Xj7{Y:Cx}{e tg iter:aC}  {d:Nat}      (cm:Cm e)(hx:Y.xe=λ_ _=>False)(hc:Y.calm=true)(iw:(dg e)[d]? = some ⟨tg,iter,bV,0⟩)
  (eq:∀it,c9 e d it (.ref D) Y.env=Em e d tg iter bV act it (.ref D) Y.env) (hi:PI Y tg iter wi) (hg:PG Y tg g) (ht:PIfs Y bV tt) (hm:PM Y act tm)
  (hs:∀x,az iter Y.env x=pure x:=by intro _;rfl):PM Y (do
   let x <-eval iter Y.env
   bZ iter.pos
   let x <-az iter Y.env x
   let _ <-runOwn (.compStart e d (<-holding [x] (fH x)) (.ref D) Y.env) Y.env) (Xcq wi g tt tm):=by
 intro pins s Z H Q I h;refine S7 (thn (hi pins s Z H _ I h) λv s1 h1=>S7 (aQ (S7 (jw (hs v) (S7 (a8 (thn h1 λlF s2 h2=>?_)))))));obtain⟨it,fp,tn,J,H2,ei,I2,T,dz,f2,lp⟩:=h2;subst ei;refine S7 (wpAny_runOwn ?_);have go:∀s3,s3=s2->bf (ag Y.prog Y.w) Y.A (.compLoop e d (.ref it) (.ref D) Y.env) (λr s'=>match r with | .ok _=>∃Z' H',Inv Y pins Z' H' s'/\Q Z' H' | .error e=>False) s3:=by
  rintro s3 rfl;exact Xcn cm hx hc (eq _) hg ht hm I2 T dz f2 lp fun Z' H' s' I' q=>⟨Z',H',I',q⟩
 have st:=Xco (s:=s2) (R:=λr s'=>match r with | .ok _=>∃Z' H',Inv Y pins Z' H' s'/\Q Z' H' | .error e=>False) cm iw rfl (go s2 rfl) (T.self Y.A 0 s2 _ _ dz (go s2 rfl));refine br st λr s' hr=>?_;cases r with
 | ok f=>exact S8 hr
 | error e=>exact hr.elim
def Mq (cap:List (Option Nat)) (o0:ae->HO) (g:TG) (tt:TT) (tm:ae->TM) (J:It) (Z:St) (H1:Hp) (F:ae->Hp->Prop):Prop:=
 ∀D,H1 D=none->tLp g tt (tm D) J (Bk cap Z) (upd H1 D (o0 D)) λ_ H2=>F D H2
def Xcr (cap:List (Option Nat)) (o0:HO) (g:TG) (tt:TT) (tm:ae->TM) (J:It) (Z:St) (H1:Hp) (F:ae->Hp->Prop):Prop:=
 ∀D,H1 D=none->tLp g tt (tm D) J (Bk cap Z) (upd H1 D o0) λ_ H2=>F D H2
section
variable {X:Cx}{N:Za}{cap:List (Option Nat)}{scope:bX}{e tg iter:aC}{bV:List aC}{g:TG}{tt:TT}{tm:ae->TM}{E:Zb}{bW:i9 aa}{ob:aM}{o0:HO}{o1:ae->HO}{act:ae->eJ->i9 Unit}
def Xcs(C:CompScope X N cap scope)(aS:X.calm=true)(cm:Cm e)(iw:(dg e)[0]? = some ⟨tg,iter,bV,0⟩)
  (fi:∀(s:af) (Q:Zb) (E':Zb),Q (.ref s.heap.objs.size) {s with heap:=s.heap.push ob}->ai (ag X.prog X.w) X.A bW Q E' s)
  (qf:∀pins Z H s,Inv X pins Z H s->Inv X pins Z (upd H s.heap.objs.size (o1 s.heap.objs.size)) {s with heap:=s.heap.push ob})
  (mQ:∀it D env,c9 e 0 it (.ref D) env=Em e 0 tg iter bV (act D env) it (.ref D) env)
  (hg:∀s0 H0 ex,PG (X.comp N scope s0 H0 ex) tg g) (ht:∀s0 H0 ex,PIfs (X.comp N scope s0 H0 ex) bV tt) (hm:∀D s0 H0 ex,PM (X.comp N scope s0 H0 ex) (act D (X.comp N scope s0 H0 ex).env) (tm D))         {RR:aa->ae->iB->af->Prop}
  (I:Inv X pins Z H s) (T:Turn X.prog X.w X.K tg J fp it tn) (h0:tn 0 s.heap) (hf:∀b∈fp,FpOk X pins H b) (hb:Mq cap o1 g tt tm J Z H F)
  (fin:∀D L H' s' m,Inv X pins Z H' s'->FpOk X pins H' L->s'.heap.Ns L m->F D H'->RR (.ref D) L (.ok .next) s'):
  ai (ag X.prog X.w) X.A bW (λacc s₃=>ai (ag X.prog X.w) X.A (fP scope X.env.globals (Cn X.env scope.names []) [] X.env.qual none .none (some X.env)) (λqK s₄=>
   bf (ag X.prog X.w) X.A (.compStart e 0 (.ref it) acc {qK with scope:=relabel scope X.env}) (RR acc qK.locals) s₄) E s₃) E s:=by
 have mR:H s.heap.objs.size=none:=I.hok.fresh (Og _);have lp:=hb s.heap.objs.size mR;have flt:∀b∈fp,b<s.heap.objs.size:=λb hb=>by
  obtain⟨o,e,_⟩:=T.obj _ _ h0 b hb;exact Ti e
 refine fi s _ _ (Xia ?_);have I3:Inv X pins Z (upd H s.heap.objs.size (o1 s.heap.objs.size)) {s with heap:=s.heap.push ob}:=qf pins Z H s I;generalize e3:({s with heap:=s.heap.push ob}:af)=s3 at I3;have t6:s3.heap=s.heap.push ob:=by rw[<-e3]
 have hsz:s3.heap.objs.size=s.heap.objs.size+1:=by rw[t6,am.size_push]
 have t8:∀b∈fp,FpOk X pins (upd H s.heap.objs.size (o1 s.heap.objs.size)) b:=λb hb=>by
  obtain⟨f0,f⟩:=hf b hb;exact⟨by rw[Ad (Oq (flt b hb))];exact f0,f⟩
 have mT:∀b∈fp,b<s3.heap.objs.size:=λb hb=>by rw[hsz];exact P9 (flt b hb)
 have hk:∀b o,s3.heap.get? b=some o->(bQ (s3.heap.push {cls:=.type "dict",data:=.dict #[]}) scope.names).get? b=some o:=λb o e=>cR _ _ b o (Tj _ e);have IY:=Xib (tk:=s3.toks) C I3 t8 mT;generalize eY:X.comp N scope s3 (upd H s.heap.objs.size (o1 s.heap.objs.size)) fp=Y at IY;have ym:(s3.heap.push {cls:=.type "dict",data:=.dict #[]}).objs.size=s3.heap.objs.size+1:=am.size_push ..;have kL:tn 0 (bQ (s3.heap.push {cls:=.type "dict",data:=.dict #[]}) scope.names):=T.keep _ _ _ h0 λb hb o e=>hk b o (by rw[t6];exact Tj _ e);have fY:∀{H':Hp},(∀b∈fp,H' b=none)->∀b∈fp,FpOk Y [] H' b:=λ{H'} hn b hb=>by
  subst eY;obtain⟨_,f1,f2,_,f4,_⟩:=t8 b hb;refine⟨hn b hb,Oq (mT b hb),λz=>?_,.inl hb,λx c h=>?_,λp hp=>absurd (show p∈([]:List (ae×aM)) from hp) (by simp)⟩
  ·rcases Ot.mp (I3.stkSub b z) with e | e
   ·exact f1 e
   ·exact f2 e
  ·rcases Xbn (s:=s3) C I3.ok ym h with ⟨a,_⟩ | ⟨_,a⟩
   ·exact λz=>Pt _ (Qj a (by rw[z];exact mT b hb))
   ·exact f4 x c a
 have vj:∀s4:af,s4 = {s3 with heap:=bQ (s3.heap.push {cls:=.type "dict",data:=.dict #[]}) scope.names} ->
   bf (ag X.prog X.w) X.A (.compLoop e 0 (.ref it) (.ref s.heap.objs.size) (qh scope (Hi X scope s3) s3.heap.objs.size X.env))
    (RR (.ref s.heap.objs.size) s3.heap.objs.size) s4:=by
  rintro s4 rfl;have pP:Y.prog=X.prog:=by subst eY;rfl
  have pW:Y.w=X.w:=by subst eY;rfl
  have pK:Y.K=X.K:=by subst eY;rfl
  have pC:Y.calm=true:=by subst eY;exact aS
  have pA:Y.A=X.A:=by subst eY;rfl
  have pE:Y.env=qh scope (Hi X scope s3) s3.heap.objs.size X.env:=by subst eY;rfl
  have pX:Y.xe=λ_ _=>False:=by subst eY;rfl
  have T':Turn Y.prog Y.w Y.K tg J fp it tn:=by rw[pP,pW,pK];exact T
  have go:=Xcn (Y:=Y) (acc:=.ref s.heap.objs.size) (pins:=[]) (R:=RR (.ref s.heap.objs.size) s3.heap.objs.size) cm pX pC (mQ _ _ _) (by subst eY;exact hg _ _ _) (by subst eY;exact ht _ _ _) (show PM Y (act s.heap.objs.size Y.env) (tm s.heap.objs.size) by subst eY;exact hm _ _ _ _)
   IY T' kL (fY λb hb=>(t8 b hb).1) lp ?_
  ·rw[pP,pW,pA,pE] at go;exact go
  ·intro Z' H2 s1 I1 q;have IX:Inv X pins Z H2 s1:=by
    subst eY;refine I3.call' (ch:=fp) I1.os I1.base I1.hok I1.bare λb hb=>?_;obtain⟨_,f1,_,f3,f4,f5⟩:=t8 b hb;exact⟨f3,f1,f4,f5⟩
   have hL:H2 s3.heap.objs.size=none:=by
    have z:=I1.free;rw[pE] at z;exact z
   obtain⟨m,hm,_⟩:=I1.loc;rw[pE] at hm;exact fin s.heap.objs.size s3.heap.objs.size H2 s1 m IX (I3.fpOk (Og _) hL) hm q
 have lp:=vj _ rfl;have T1:=T.self;subst e3;exact Xco cm iw rfl lp (T1 X.A 0 _ _ _ kL lp)
structure AccA (X:Cx) (bW:i9 aa) (ob:aM) (o1:ae->HO):Prop where
 new:∀(s:af) (Q:Zb) (E':Zb),Q (.ref s.heap.objs.size) {s with heap:=s.heap.push ob}->ai (ag X.prog X.w) X.A bW Q E' s
 lay:∀pins Z H s,Inv X pins Z H s->Inv X pins Z (upd H s.heap.objs.size (o1 s.heap.objs.size)) {s with heap:=s.heap.push ob}
structure Acc (X:Cx) (bW:i9 aa) (ob:aM) (o0:HO):Prop where
 new:∀(s:af) (Q:Zb) (E':Zb),Q (.ref s.heap.objs.size) {s with heap:=s.heap.push ob}->ai (ag X.prog X.w) X.A bW Q E' s
 lay:∀pins Z H s,Inv X pins Z H s->Inv X pins Z (upd H s.heap.objs.size o0) {s with heap:=s.heap.push ob}
def J7:Acc X (newList []) {cls:=.type "list",data:=.seq ([]:List aa).toArray} (.lst []):=⟨λs Q E' h=>bD h,λpins Z H s I=>I.lnew (t':=s.toks) .nil (Pg _)⟩
def Xj8:Acc X newDict {cls:=.type "dict",data:=.dict #[]} (.dK []):=⟨λs Q E' h=>bD h,λpins Z H s I=>I.laid (a:=s.heap.objs.size) (o:=.dK []) (t':=s.toks) (λ_ _ q=>Tj _ q) (Og _) (Lx s.heap I.big)⟩
def Mr (cap:List (Option Nat)) (o0:ae->HO) (wi:TI) (g:TG) (tt:TT) (tm:ae->TM):TE:=fun Z H Q=>wi Z H λJ H1=>Mq cap o0 g tt tm J Z H1 λD H2=>Q (.ref D) H2
def Xct   (ac:AccA X bW ob o1) (he:eval e X.env=comprehension e scope X.env pos bW false (eval iter X.env)) (fe:dg e=⟨tg,iter,bV,0⟩::gens)
  (C:CompScope X N cap scope) (aS:X.calm=true) (cm:Cm e) (hi:PI X tg iter wi)
  (mQ:∀it D env,c9 e 0 it (.ref D) env=Em e 0 tg iter bV (act D env) it (.ref D) env)
  (hg:∀s0 H0 ex,PG (X.comp N scope s0 H0 ex) tg g) (ht:∀s0 H0 ex,PIfs (X.comp N scope s0 H0 ex) bV tt) (hm:∀D s0 H0 ex,PM (X.comp N scope s0 H0 ex) (act D (X.comp N scope s0 H0 ex).env) (tm D))
  (hs:∀x,az iter X.env x=pure x):PE X e (Mr cap o1 wi g tt tm):=by
 intro pins s Z H Q I h;rw[he];refine h9 (use:=none) fe hs (Xbj (L9 C I.ok)) C.kind (λx hx hl=>by rw[C.uniq x hx,hl]) (thn (hi pins s Z H _ I h) λv s1 h1=>thn h1 λlF s2 h2=>?_);obtain⟨it,fp,tn,J,H2,ei,I2,T,dz,f2,R⟩:=h2;subst ei;refine Xcs (RR:=λacc L=>compPost (ag X.prog X.w) X.A X.xe none (EP X pins Z Q) acc L) C aS cm (by rw[fe];rfl) ac.new ac.lay mQ hg ht hm I2 T dz f2 R ?_;intro D L H' s' m I' fL hm q;refine⟨m,hm,λh' qx=>?_⟩;obtain⟨f0,f1,_,f3,f4,f5⟩:=fL;exact⟨.ref D,H',I'.turned (t':=s'.toks) (λb o hb e=>(qx.2 b hb).trans e) f0 f1 f3 f4 f5,rfl,q⟩
def Ms (cap:List (Option Nat)) (o0:HO) (wi:TI) (g:TG) (tt:TT) (tm:ae->TM):TE:=fun Z H Q=>wi Z H λJ H1=>Xcr cap o0 g tt tm J Z H1 λD H2=>Q (.ref D) H2
def Mt   (ac:Acc X bW ob o0) (he:eval e X.env=comprehension e scope X.env pos bW false (eval iter X.env)) (fe:dg e=⟨tg,iter,bV,0⟩::gens)
  (C:CompScope X N cap scope) (aS:X.calm=true) (cm:Cm e) (hi:PI X tg iter wi)
  (mQ:∀it D env,c9 e 0 it (.ref D) env=Em e 0 tg iter bV (act D env) it (.ref D) env)
  (hg:∀s0 H0 ex,PG (X.comp N scope s0 H0 ex) tg g) (ht:∀s0 H0 ex,PIfs (X.comp N scope s0 H0 ex) bV tt) (hm:∀D s0 H0 ex,PM (X.comp N scope s0 H0 ex) (act D (X.comp N scope s0 H0 ex).env) (tm D))
  (hs:∀x,az iter X.env x=pure x):PE X e (Ms cap o0 wi g tt tm):=
 Xct (o1:=λ_=>o0) ⟨ac.new,ac.lay⟩ he fe C aS cm hi mQ hg ht hm hs
def Xcu (i:Nat) (cap:List (Option Nat)) (o0:HO) (wi:TI) (g:TG) (tt:TT) (tm:ae->TM):TS:=λD Z H=>wi Z H λJ H1=>Xcr cap o0 g tt tm J Z H1 λl H2=>D.nx (Z.set i (some (.ref l))) H2
def Xcv     (ac:Acc X bW ob o0) (he:∀use,evalThenUse e X.env use=(do     let _ <-comprehension e scope X.env bJ bW false (eval iter X.env) (some use))) (fe:dg e=⟨tg,iter,bV,0⟩::gens)
  (C:CompScope X N cap scope) (aS:X.calm=true) (cm:Cm e) (hN:X.N.Nodup) (qL:X.N[i]? = some y) (hy:X.env.scope.names.lookup y=some .local) (hi:PI X tg iter wi)
  (mQ:∀it D env,c9 e 0 it (.ref D) env=Em e 0 tg iter bV (act D env) it (.ref D) env)
  (hg:∀s0 H0 ex,PG (X.comp N scope s0 H0 ex) tg g) (ht:∀s0 H0 ex,PIfs (X.comp N scope s0 H0 ex) bV tt) (hm:∀D s0 H0 ex,PM (X.comp N scope s0 H0 ex) (act D (X.comp N scope s0 H0 ex).env) (tm D))
  (qM:dc e (some (.Name y py)) j4.line X.env=pure true) (hs:∀x,az iter X.env x=pure x):PS X (.Assign [.Name y py] e j4) (Xcu i cap o0 wi g tt tm):=by
 intro pins s Z H D I h;rw[exec_Assign_Name_used _ _ _ _ qM];refine S7 (aQ (S7 ?_));rw[he];refine S7 (thn (h9 (use:=some (assign (.Name y py) X.env)) (Q:=λ_ s'=>SP X pins D .next s') fe hs (Xbj (L9 C I.ok)) C.kind (λx hx hl=>by rw[C.uniq x hx,hl])
  (thn (hi pins s Z H _ I h) λv s1 h1=>thn h1 λlF s2 h2=>?_)) (λ_ s' hq=>S8 (S8 hq)))
 obtain⟨it,fp,tn,J,H2,ei,I2,T,dz,f2,R⟩:=h2;subst ei;refine Xcs (o1:=λ_=>o0) (RR:=λacc L=>compPost (ag X.prog X.w) X.A X.xe (some (assign (.Name y py) X.env)) (λ_ s'=>SP X pins D .next s') acc L) C aS cm (by rw[fe];rfl) ac.new ac.lay mQ hg ht hm I2 T dz f2 R ?_;intro l L H' s' m I' fL hm q;obtain⟨f0,f1,_,f3,f4,f5⟩:=fL;show ai _ X.A (assign (.Name y py) X.env (.ref l)) _ _ s';refine lE (Lc I' hN qL (.inl hy) (show Ah (.ref l) (.ref l) from rfl) (λs3 I3 ⟨a,sb,ha⟩=>?_) (.inr hy));have BW:L≠a:=by
  rcases ha with rfl | ha
  ·exact f1
  ·exact λz=>f4 y a ha z.symm
 refine⟨m,hm.sameBut sb BW,λh' qx=>?_⟩;exact⟨_,H',I3.turned (t':=s3.toks) (λb o hb e=>(qx.2 b hb).trans e) f0 f1 f3 f4 f5,q⟩
end
def act2 (cH tg iter j5 cw:aC) (bV eO:List aC) (scope:bX) (pos:ce) (D:ae) (env:eJ):i9 Unit:=do
      let x <-eval cw env
      bZ cw.pos
      let x <-az cw env x
      let _ <-runOwn (.compStart (.ListComp cH [⟨tg,iter,bV,0⟩,⟨j5,cw,eO,0⟩] scope pos) 1 (<-holding [x] (fH x)) (.ref D) env) env
def Xj9(cH tg iter j5 cw)(bV eO)(scope)(pos)(it)(D)(env):
  c9 (.ListComp cH [⟨tg,iter,bV,0⟩,⟨j5,cw,eO,0⟩] scope pos) 0 it (.ref D) env=Em (.ListComp cH [⟨tg,iter,bV,0⟩,⟨j5,cw,eO,0⟩] scope pos) 0 tg iter bV (act2 cH tg iter j5 cw bV eO scope pos D env) it (.ref D) env:=by
 unfold c9 Em act2;dsimp only;simp only[List.getElem?_cons_zero,List.getElem?_cons_succ,bind_assoc,pure_bind];simp;rfl
section
variable {X:Cx}{N:Za}{cap:List (Option Nat)}{scope:bX}{tg iter j5 cw cH kx vx:aC}{bV eO:List aC}{g g2:TG}{tt yn:TT}{te tk tv:TE}{wi yo:TI}{pos:ce}
def Df(C:CompScope X N cap scope)(aS:X.calm=true)(hi:PI X tg iter wi)
  (hg:∀s0 H0 ex,PG (X.comp N scope s0 H0 ex) tg g) (ht:∀s0 H0 ex,PIfs (X.comp N scope s0 H0 ex) bV tt) (he:∀s0 H0 ex,PE (X.comp N scope s0 H0 ex) cH te)
  (hs:∀x,az iter X.env x=pure x:=by intro _;rfl):PE X (.ListComp cH [⟨tg,iter,bV,0⟩] scope pos) (Xic cap wi g tt te):=
 Mt (act := fun D env => do let _ <- call (.builtin "list.append") [.ref D, <- eval cH env]) J7 rfl rfl C aS Hz hi (fun it D env => rfl) hg ht (fun D s0 H0 ex => J6 (he s0 H0 ex)) hs
def Dg{i:Nat}  (C:CompScope X N cap scope)(aS:X.calm=true)(hN:X.N.Nodup)(qL:X.N[i]? = some y)(hy:X.env.scope.names.lookup y=some .local)(hi:PI X tg iter wi)
  (hg:∀s0 H0 ex,PG (X.comp N scope s0 H0 ex) tg g) (ht:∀s0 H0 ex,PIfs (X.comp N scope s0 H0 ex) bV tt) (he:∀s0 H0 ex,PE (X.comp N scope s0 H0 ex) cH te)
  (qM:dc (.ListComp cH [⟨tg,iter,bV,0⟩] scope pos) (some (.Name y py)) j4.line X.env=pure true:=by rfl)
  (hs:∀x,az iter X.env x=pure x:=by intro _;rfl):PS X (.Assign [.Name y py] (.ListComp cH [⟨tg,iter,bV,0⟩] scope pos) j4) (Xid i cap wi g tt te):=
 Xcv (act := fun D env => do let _ <- call (.builtin "list.append") [.ref D, <- eval cH env]) J7 (fun use => rfl) rfl C aS Hz hN qL hy hi (fun it D env => rfl) hg ht (fun D s0 H0 ex => J6 (he s0 H0 ex)) qM hs
def Mu(C:CompScope X N cap scope)(aS:X.calm=true)(hi:PI X tg iter wi)
  (hg:∀s0 H0 ex,PG (X.comp N scope s0 H0 ex) tg g) (ht:∀s0 H0 ex,PIfs (X.comp N scope s0 H0 ex) bV tt) (hk:∀s0 H0 ex,PE (X.comp N scope s0 H0 ex) kx tk) (hv:∀s0 H0 ex,PE (X.comp N scope s0 H0 ex) vx tv)
  (hs:∀x,az iter X.env x=pure x:=by intro _;rfl):PE X (.DictComp kx vx [⟨tg,iter,bV,0⟩] scope pos) (Ms cap (.dK []) wi g tt (Xcp tk tv)):=
 Mt Xj8 rfl rfl C aS Xj5 hi (λit D env=>compTurn_dict kx vx tg iter bV scope pos it D env) hg ht (λD s0 H0 ex=>Xj6 (hk s0 H0 ex) (hv s0 H0 ex)) hs
def Xka(C:CompScope X N cap scope)(aS:X.calm=true)(hi:PI X tg iter wi)
  (hg:∀s0 H0 ex,PG (X.comp N scope s0 H0 ex) tg g) (ht:∀s0 H0 ex,PIfs (X.comp N scope s0 H0 ex) bV tt)
  (eZ:∀s0 H0 ex,PI (X.comp N scope s0 H0 ex) j5 cw yo) (vk:∀s0 H0 ex,PG (X.comp N scope s0 H0 ex) j5 g2) (mU:∀s0 H0 ex,PIfs (X.comp N scope s0 H0 ex) eO yn) (he:∀s0 H0 ex,PE (X.comp N scope s0 H0 ex) cH te)
  (hs:∀x,az iter X.env x=pure x:=by intro _;rfl) (oG:∀s0 H0 ex x,az cw (X.comp N scope s0 H0 ex).env x=pure x:=by intro _ _ _ _;rfl):
  PE X (.ListComp cH [⟨tg,iter,bV,0⟩,⟨j5,cw,eO,0⟩] scope pos) (Ms cap (.lst []) wi g tt λD=>Xcq yo g2 yn (J5 te D)):=
 Mt (act:=λD env=>act2 cH tg iter j5 cw bV eO scope pos D env) J7 rfl rfl C aS Hz hi (λit D env=>Xj9 ..) hg ht (λD s0 H0 ex=>Xj7 (Y:=X.comp N scope s0 H0 ex) (e:=.ListComp cH [⟨tg,iter,bV,0⟩,⟨j5,cw,eO,0⟩] scope pos) (d:=1) Hz rfl aS rfl (λit=>rfl) (eZ s0 H0 ex) (vk s0 H0 ex) (mU s0 H0 ex) (J6 (he s0 H0 ex)) (oG s0 H0 ex)) hs
end
mutual
def DAt (H:Hp):ah->V->Prop
 | .none,v=>v = .non
 | .bool b,v=>v = .bl b
 | .int i,v=>v = .int i
 | .str x,v=>v = .str x
 | .list ds,v=>∃p xs,v = .ref p/\H p=some (.lst xs)/\DAll H ds xs
 | .tuple ds,v=>∃p xs,v = .ref p/\H p=some (.tup xs)/\DAll H ds xs
 | .dict _,_=>False
def DAll (H:Hp):List ah->List V->Prop
 | [],vs=>vs=[]
 | d::ds,vs=>∃v r,vs=v::r/\DAt H d v/\DAll H ds r
end
mutual
theorem DAt.same{H H':Hp}(s:Same H H'):∀(d:ah) (v:V),DAt H d v->DAt H' d v
 | .none,v,h=>by unfold DAt at h ⊢; exact h
 | .bool b,v,h=>by unfold DAt at h ⊢; exact h
 | .int i,v,h=>by unfold DAt at h ⊢; exact h
 | .str x,v,h=>by unfold DAt at h ⊢; exact h
 | .list ds,v,h=>by
  unfold DAt at h ⊢;obtain⟨p,xs,h1,h2,h3⟩:=h;exact⟨p,xs,h1,s _ _ h2,DAll.same s ds xs h3⟩
 | .tuple ds,v,h=>by
  unfold DAt at h ⊢;obtain⟨p,xs,h1,h2,h3⟩:=h;exact⟨p,xs,h1,s _ _ h2,DAll.same s ds xs h3⟩
 | .dict _,v,h=>by unfold DAt at h;exact h.elim
theorem DAll.same{H H':Hp}(s:Same H H'):∀(ds:List ah) (vs:List V),DAll H ds vs->DAll H' ds vs
 | [],vs,h=>by unfold DAll at h ⊢; exact h
 | d::ds,vs,h=>by
  unfold DAll at h ⊢;obtain⟨v,r,h1,h2,h3⟩:=h;exact⟨v,r,h1,DAt.same s d v h2,DAll.same s ds r h3⟩
end
def Dh:DAll H [] []:=by unfold DAll;rfl
def Dr     (h:DAt H d v) (hs:DAll H ds vs):DAll H (d::ds) (v::vs):=by unfold DAll;exact⟨v,vs,rfl,h,hs⟩
theorem J8   : ∀{ds:List ah} {vs:List V},DAll H ds vs->DAt H d v->DAll H (ds++[d]) (vs++[v])
 | [],vs,h,hd=>by
  unfold DAll at h;subst h;exact Dr hd Dh
 | e::ds,vs,h,hd=>by
  unfold DAll at h;obtain⟨u,r,rfl,h2,h3⟩:=h;exact Dr h2 (J8 h3 hd)
theorem Gg:∀{ds:List ah} {vs:List V},DAll H ds vs->vs.length=ds.length
 | [],vs,h=>by unfold DAll at h;subst h;rfl
 | e::ds,vs,h=>by
  unfold DAll at h;obtain⟨u,r,rfl,h2,h3⟩:=h;rw[Pe,Pe,Gg h3]
theorem Mv:∀{ds:List ah} {vs:List V} {i:Nat} {d:ah},DAll H ds vs->ds[i]? = some d->∃v,vs[i]? = some v/\DAt H d v
 | [],vs,i,d,h,e=>by simp at e
 | c::ds,vs,0,d,h,e=>by
  unfold DAll at h;obtain⟨u,r,rfl,h2,h3⟩:=h;simp at e;subst e;exact⟨u,rfl,h2⟩
 | c::ds,vs,i+1,d,h,e=>by
  unfold DAll at h;obtain⟨u,r,rfl,h2,h3⟩:=h;simpa using Mv h3 (by simpa using e)
def Mw(row:Za):DAll H (row.map ah.str) (row.map V.str):=by
 induction row with
 | nil=>exact Dh
 | cons x r ih=>exact Dr (by unfold DAt;rfl) ih
def Xkb(row:List Int):DAll H (row.map ah.int) (row.map V.int):=by
 induction row with
 | nil=>exact Dh
 | cons x r ih=>exact Dr (by unfold DAt;rfl) ih
def Ia    (h:H p=some (.tup xs)) (hs:DAll H ds xs):DAt H (.tuple ds) (.ref p):=by unfold DAt;exact⟨p,xs,rfl,h,hs⟩
def Gh    (h:H p=some (.lst xs)) (hs:DAll H ds xs):DAt H (.list ds) (.ref p):=by unfold DAt;exact⟨p,xs,rfl,h,hs⟩
def Mx   (h:DAt H (.tuple ds) v):∃p xs,v = .ref p/\H p=some (.tup xs)/\DAll H ds xs:=by unfold DAt at h;exact h
section
variable {X:Cx}{pins:List (ae×aM)}{Z:St}{H:Hp}{s:af}
mutual
theorem C6(I:Inv X pins Z H s):∀(d:ah) (v:V) (u:aa),DAt H d v->Ah v u->∃as,Reads s.heap u d as
 | .none,v,u,h,r=>by unfold DAt at h;subst h;cases r;exact⟨_,.none⟩
 | .bool b,v,u,h,r=>by unfold DAt at h;subst h;cases r;exact⟨_,.bool b⟩
 | .int i,v,u,h,r=>by unfold DAt at h;subst h;obtain⟨t,rfl⟩:=r;exact⟨_,.int i t⟩
 | .str x,v,u,h,r=>by unfold DAt at h;subst h;obtain⟨t,rfl⟩:=r;exact⟨_,.str x t⟩
 | .list ds,v,u,h,r=>by
  unfold DAt at h;obtain⟨p,xs,rfl,hp,hs⟩:=h;cases r;obtain⟨ax,rv,pl,hz⟩:=I.list (SqL.of (K:=X.K) hp);obtain⟨as,ra⟩:=My I ds xs ax hs rv;obtain⟨o,ho,hc,n,hd⟩:=pl.isList;exact⟨_,.list ho hc hd (by simpa using ra)⟩
 | .tuple ds,v,u,h,r=>by
  unfold DAt at h;obtain⟨p,xs,rfl,hp,hs⟩:=h;cases r;obtain⟨ax,rv,pl,hz⟩:=I.tuple (SqT.of (K:=X.K) hp);obtain⟨as,ra⟩:=My I ds xs ax hs rv;obtain⟨o,ho,hc,n,hd⟩:=pl;exact⟨_,.tuple ho hc hd (by simpa using ra)⟩
 | .dict _,v,u,h,r=>by unfold DAt at h;exact h.elim
theorem My(I:Inv X pins Z H s):∀(ds:List ah) (vs:List V) (us:List aa),DAll H ds vs->Vals vs us->∃as,ReadsAll s.heap us ds as
 | [],vs,us,h,r=>by unfold DAll at h;subst h;cases r;exact⟨_,.nil⟩
 | d::ds,vs,us,h,r=>by
  unfold DAll at h;obtain⟨v,vr,rfl,h1,h2⟩:=h;cases r with
  | cons r1 r2=>
   obtain⟨a1,q1⟩:=C6 I d v _ h1 r1;obtain⟨a2,q2⟩:=My I ds vr _ h2 r2;exact⟨_,.cons q1 q2⟩
end
def J9(hu:X.A.units+3<bj):OpR X (aF .Eq) (λx y H Q=>∃d d',DAt H d x/\DAt H d' y/\d.canLay0=true/\d'.canLay0=true/\min d.depth d'.depth<=3/\Q (.bl (ah.eqv d d')) H):=by
 intro pins s Z H x y v u Q I rx ry h;obtain⟨d,d',h1,h2,c1,c2,hd,q⟩:=h;obtain⟨as,ra⟩:=C6 I d x v h1 rx;obtain⟨bs,rb⟩:=C6 I d' y u h2 ry;exact SeqAt.compareEq_reads ra rb c1 c2 (by lia) ⟨.bl _,H,I,rfl,q⟩
def Ka(hu:X.A.units+3<bj):OpR X (aF .NotEq) (λx y H Q=>∃d d',DAt H d x/\DAt H d' y/\d.canLay0=true/\d'.canLay0=true/\min d.depth d'.depth<=3/\Q (.bl (!ah.eqv d d')) H):=by
 intro pins s Z H x y v u Q I rx ry h;obtain⟨d,d',h1,h2,c1,c2,hd,q⟩:=h;obtain⟨as,ra⟩:=C6 I d x v h1 rx;obtain⟨bs,rb⟩:=C6 I d' y u h2 ry;exact SeqAt.compareNe_reads ra rb c1 c2 (by lia) ⟨.bl _,H,I,rfl,q⟩
def Xcw(hu:X.A.units+4<bj):OpR X (aF .In) (λx y H Q=>∃d ds,DAt H d x/\DAt H (.list ds) y/\d.canLay0=true/\ah.canLayAll0 ds=true/\d.depth<=3/\Q (.bl (ds.any λe=>ah.eqv e d)) H):=by
 intro pins s Z H x y v u Q I rx ry h;obtain⟨d,ds,h1,h2,c1,c2,hd,q⟩:=h;obtain⟨as,ra⟩:=C6 I d x v h1 rx;obtain⟨bs,rb⟩:=C6 I (.list ds) y u h2 ry;exact SeqAt.in_list_reads rb ra c2 c1 (by lia) ⟨.bl _,H,I,rfl,q⟩
end
mutual
def A8:ah->Bool
 | .none | .int _=>true
 | .str x=>ah.strOk x
 | .list xs | .tuple xs=>Ct xs
 | .bool _ | .dict _=>false
def Ct:List ah->Bool
 | []=>true
 | x::xs=>A8 x&&Ct xs
end
mutual
theorem Bu:∀d:ah,A8 d=true->d.canLay0=true
 | .none,_=>rfl
 | .int _,_=>rfl
 | .str x,h=>h
 | .list xs,h=>Gi xs h
 | .tuple xs,h=>Gi xs h
 | .bool _,h=>nomatch h
 | .dict _,h=>nomatch h
theorem Gi:∀ds:List ah,Ct ds=true->ah.canLayAll0 ds=true
 | [],_=>rfl
 | d::ds,h=>by
  have h':(A8 d&&Ct ds)=true:=h;rw[O4] at h';show (d.canLay0&&ah.canLayAll0 ds)=true;rw[Bu d h'.1,Gi ds h'.2];rfl
end
mutual
theorem Kb:∀(d d':ah),A8 d=true->A8 d'=true->(ah.eqv d d'=true↔d=d')
 | .none,d',_,h=>by cases d'<;>simp[ah.eqv]
 | .int i,d',_,h=>by cases d'<;>simp_all [ah.eqv,A8]
 | .str x,d',_,h=>by cases d'<;>simp_all [ah.eqv,A8]
 | .list xs,d',g,h=>by
  cases d' with
  | list ys=>
   have:=Mz xs ys g h;simp only[ah.eqv,this,ah.list.injEq]
  | _=>simp[ah.eqv]
 | .tuple xs,d',g,h=>by
  cases d' with
  | tuple ys=>
   have:=Mz xs ys g h;simp only[ah.eqv,this,ah.tuple.injEq]
  | _=>simp[ah.eqv]
 | .bool _,_,g,_=>nomatch g
 | .dict _,_,g,_=>nomatch g
theorem Mz:∀(xs ys:List ah),Ct xs=true->Ct ys=true->(ah.eqvAll xs ys=true↔xs=ys)
 | [],[],_,_=>by simp[ah.eqvAll]
 | [],_::_,_,_=>by simp[ah.eqvAll]
 | _::_,[],_,_=>by simp[ah.eqvAll]
 | x::xs,y::ys,g,h=>by
  have g':(A8 x&&Ct xs)=true:=g;have h':(A8 y&&Ct ys)=true:=h;rw[O4] at g' h';have e1:=Kb x y g'.1 h'.1;have e2:=Mz xs ys g'.2 h'.2;simp only[ah.eqvAll,O4,e1,e2,List.cons.injEq]
end
def Xcx{α : Type}[DecidableEq α](f : α->ah)(inj:∀a b,f a=f b->a=b)(a b)(ha:A8 (f a)=true)(hb:A8 (f b)=true):ah.eqv (f a) (f b)=decide (a=b):=by
 rw[Qf,Kb _ _ ha hb,decide_eq_true_eq];exact⟨inj a b,λe=>by rw[e]⟩
theorem plainAll_map{α : Type}(f):∀(xs:List α),(∀x∈xs,A8 (f x)=true)->Ct (xs.map f)=true
 | [],_=>rfl
 | x::xs,h=>by
  show (A8 (f x)&&Ct (xs.map f))=true;rw[h x Oj,plainAll_map f xs λy hy=>h y (Ol _ hy)];rfl
section
variable {X:Cx}{tg:aC}
def Xkc (tl:TE):TI:=fun Z H R=>tl Z H λx H1=>∃d kvs,x = .ref d/\((H1 d=some (.dK kvs)/\∀o,R (Itd d o kvs) (upd H1 d (.frz o (.dK kvs)))) \/ ∃o,H1 d=some (.frz o (.dK kvs))/\R (Itd d o kvs) H1)
def Gj  (hl:PE X l tl):PI X tg l (Xkc tl):=by
 intro pins s Z H R I h;refine thn (hl pins s Z H _ I h) λv s1 ⟨x,H1,I1,r1,q1⟩=>?_;obtain⟨d,kvs,e,q⟩:=q1;subst e;cases r1;rcases q with ⟨hH,q⟩ | ⟨o,hH,q⟩
 ·obtain⟨hz,hm,vs,rv,o,es,ep,ho,hex,hd,r⟩:=I1.hok d _ hH;have aI:kvs.length=vs.length:=Paired.length rv;refine eg (knd:=A7 X.prog X.w) hm ⟨o,es,ho,hex,hd,r⟩ ?_;have I2:=I1.freeze hH ho;refine⟨s1.heap.objs.size,[s1.heap.objs.size],_,_,_,rfl,I2.kept (t':=s1.toks) λb o e=>Tj _ e,Md d _ o es ep hd kvs (Oq (Ti ho)),⟨_,am.get?_push_size _ rfl,rfl,by rw[aI];rfl⟩,λb hb=>?_,q o⟩;have e:b=s1.heap.objs.size:=by simpa using hb
  subst e;exact I2.fpOk (Og _) (I2.hok.fresh (Og _))
 ·obtain⟨dF,hok⟩:=(show A4 X.prog X.w H1 s1.heap d (.frz o (.dK kvs)) from I1.hok d _ hH);obtain⟨hz,hm,vs,rv,o',es,ep,ho,hex,hd,r⟩:=hok;have eo:o'=o:=by rw[dF] at ho;exact(Ov ho).symm
  subst eo;have aI:kvs.length=vs.length:=Paired.length rv;refine eg (knd:=A7 X.prog X.w) hm ⟨o',es,ho,hex,hd,r⟩ ?_;refine⟨s1.heap.objs.size,[s1.heap.objs.size],_,_,_,rfl,I1.kept (t':=s1.toks) λb o e=>Tj _ e,Md d _ o' es ep hd kvs (Oq (Ti ho)),⟨_,am.get?_push_size _ rfl,rfl,by rw[aI];rfl⟩,λb hb=>?_,q⟩;have e:b=s1.heap.objs.size:=by simpa using hb
  subst e;exact I1.fpOk (Og _) (I1.hok.fresh (Og _))
end
def hid (D:ae) (H:Hp):Hp:=λb=>if b=D then none else H b
def Gk(D)(H):Same (hid D H) H:=λb o e=>by
 unfold hid at e;split at e
 ·cases e
 ·exact e
def Xcy(D)(H)(o):hid D (upd H D o)=hid D H:=by
 funext b;unfold hid;split
 ·rfl
 ·rename_i h;rw[Ad h]
def Ib{D}(s:Same H H'):Same (hid D H) (hid D H'):=λb o e=>by
 unfold hid at e ⊢;split at e
 ·cases e
 ·rename_i h;rw[Tc h];exact s b o e
def E2   (h:H b=some o) (n:b≠D):hid D H b=some o:=by
 unfold hid;rw[Tc n];exact h
def Xcz     (hD:H D=some o) (np:H p=none) (h:DAll (hid D (upd H p (.tup xs))) ds xs):DAt (hid D (upd H p (.tup xs))) (.tuple ds) (.ref p):=
 Ia (E2 Ab (Am hD np).symm) h
section
variable {tt:TT}{te:TE}{J:It}{Z:St}{H0 H1:Hp}{D:ae}{F:St->Hp->Prop}{j:Nat}{xs0:List V}
def Xc0(n)(vs:Nat->V)(ok)(vm)(acc)(hH:H0 D=none)(s0:Same H0 H1)(lT:H1 D=some (.lst xs0))(bS:DAll (hid D H1) acc xs0)(xU:acc.length+n<sizeLine)
  (fk:∀i H2,i<n->Same H0 H2->J.go i H2/\∀x H3,J.yld i H2 x H3->H3=H2/\x=vs i)
  (bi:∀H2,Same H0 H2->J.stop n H2)
  (kO:∀(i:Nat) H2 Q,i<n->Same H0 H2->(∀H',Same H2 H'->Q (ok i) H')->tt (Z.set j (some (vs i))) H2 Q)
  (step:∀(i:Nat) xs H2 Q,i<n->ok i=true->Same H0 H2->H2 D=some (.lst xs)->(∀v H',Same H2 H'->DAt (hid D H') (vm i) v->Q v H')->te (Z.set j (some (vs i))) H2 Q)
  (fin:∀Z' H2 xs,(∀v, Z'.set j v = Z.set j v)->Same H0 H2->H2 D=some (.lst xs)->DAll (hid D H2) (acc++((List.range n).filter ok).map vm) xs->F Z' H2):
  tLp (Ax j) tt (J5 te D) J Z H1 F:=by
 refine⟨wN n λi Z2 H2=>(∀v, Z2.set j v = Z.set j v)/\Same H0 H2/\∃xs,H2 D=some (.lst xs)/\DAll (hid D H2) (acc++((List.range i).filter ok).map vm) xs,⟨n,by simp,Pg _,λ_=>rfl,s0,xs0,lT,by simpa using bS⟩,?_⟩;rintro i m Z1 H2 ⟨rfl,hi,e,s2,xs,hD,en⟩;by_cases aZ:i<n
 ·obtain⟨h1,h2⟩:=fk i H2 aZ s2;refine .inr ⟨h1,λx H3 y=>?_⟩;obtain⟨e1,e2⟩:=h2 x H3 y;subst e1 e2;show tt (Z1.set j (some (vs i))) H3 _;rw[e];refine kO i H3 _ aZ s2 λH4 s4=>?_;have j6:=s2.trans s4;have eP:=s4 _ _ hD;have kP:=DAll.same (Ib (D:=D) s4) _ _ en;have gf:∀v,(Z.set j (some (vs i))).set j v = Z.set j v:=λv=>by rw[R7]
  have hl:xs.length<=acc.length+i:=by
   rw[Gg en,Op,Oc];have:((List.range i).filter ok).length<=i:=Pb (Pk ..) (by rw[Py];lia)
   lia
  refine A2 (λhk=>?_) (λhk=>?_)
  ·show te (Z.set j (some (vs i))) H4 _;refine step i xs H4 _ aZ hk j6 eP λv H5 s5 hv=>?_;refine⟨xs,s5 _ _ eP,by lia,?_⟩;refine wskip aZ ⟨gf,λb u e'=>?_,xs++[v],Ab,?_⟩
   ·rw[Ad (Am e' hH)];exact s5 _ _ (j6 b u e')
   ·rw[Xcy,P0,O2,Oo,<-Pa];simp only[Pp,hk,if_true,Sh,O8,S0];exact J8 (DAll.same (Ib (D:=D) s5) _ _ kP) hv
  ·refine wskip aZ ⟨gf,j6,xs,eP,?_⟩;rw[P0,O2];simpa [hk] using kP
 ·have ei:i=n:=by lia
  subst ei;exact .inl ⟨bi H2 s2,fin Z1 H2 xs e s2 hD en⟩
def Xkd(n:Nat)(vs:Nat->V)(acc:Nat->List ah)(hH:H0 D=none)(s0:Same H0 H1)(lT:H1 D=some (.lst xs0))(bS:DAll (hid D H1) (acc 0) xs0)(EZ:St->Prop)(hE:EZ Z)
  (fk:∀i H2,i<n->Same H0 H2->J.go i H2/\∀x H3,J.yld i H2 x H3->H3=H2/\x=vs i)
  (bi:∀H2,Same H0 H2->J.stop n H2)
  (step:∀(i:Nat) Z1 xs H2 (Q:St->Hp->Prop),i<n->EZ Z1->Same H0 H2->H2 D=some (.lst xs)->DAll (hid D H2) (acc i) xs->(∀Z' H' mV,EZ Z'->Same H0 H'->H' D=some (.lst mV)->DAll (hid D H') (acc (i+1)) mV->Q Z' H')->tm (Z1.set j (some (vs i))) H2 Q)
  (fin:∀Z' H2 xs,Same H0 H2->H2 D=some (.lst xs)->DAll (hid D H2) (acc n) xs->F Z' H2):
  tLp (Ax j) Dd tm J Z H1 F:=by
 refine⟨wN n λi Z2 H2=>EZ Z2/\Same H0 H2/\∃xs,H2 D=some (.lst xs)/\DAll (hid D H2) (acc i) xs,⟨n,by simp,Pg _,hE,s0,xs0,lT,bS⟩,?_⟩;rintro i m Z1 H2 ⟨rfl,hi,e,s2,xs,hD,en⟩;by_cases aZ:i<n
 ·obtain⟨h1,h2⟩:=fk i H2 aZ s2;refine .inr ⟨h1,λx H3 y=>?_⟩;obtain⟨e1,e2⟩:=h2 x H3 y;subst e1 e2;unfold Ax Dd;dsimp only;rw[Td rfl];exact step i Z1 xs H3 _ aZ e s2 hD en fun Z' H' mV e' s' er vn=>wskip aZ ⟨e',s',mV,er,vn⟩
 ·have ei:i=n:=by lia
  subst ei;exact .inl ⟨bi H2 s2,fin Z1 H2 xs s2 hD en⟩
end
section
variable {X:Cx}{pos np mE:ce}{body:List aK}{b0:aK}{suite:List aK}{x:aj}{Cc:ae}{tb:(ae->St->Hp->Prop)->TS}{th:TS}
end
section
variable {X:Cx}
def Xke:V->List V->Hp->VK->Prop:=λx vs H Q=>∃l xs y,x = .ref l/\vs=[y]/\H l=some (.lst xs)/\B8 y=true/\xs.all B8=true/\Q (.int (xs.countP λz=>eqV z y)) H
theorem Xc1:∀{xs:List V} {ax:List aa},Vals xs ax->xs.all B8=true->ax.countP (eqU y)=xs.countP λz=>eqV z y
 | _,_,.nil,_=>rfl
 | _,_,.cons (a:=a) (b:=b) r t,f=>by
  rw[List.all_cons,O4] at f;rw[P3,P3,Xc1 t f.2,Jt r f.1]
def Xc2:MtM X "list.count" Xke:=by
 intro pins s Z H x vs v us Q I rx rv h;obtain⟨l,xs,y,rfl,rfl,hH,fy,fs,q⟩:=h;cases rx;obtain⟨u,rfl,ru⟩:=rv.one;obtain⟨z,ax,n,r,hl,e⟩:=I.lstM hH;refine cL F.slot_list_count ⟨_,e,rfl⟩ F.entry_list_count (F.args_list_count_2 _ _) (SeqAt.list_countAt l ax.toArray n _ _ u (eqU y)) ⟨e,λw hw=>Fo ru fy r fs w (by simpa using hw),?_⟩;refine⟨.int _,H,I.tok _,⟨_,rfl⟩,?_⟩;have e2:((ax.toArray.toList.countP (eqU y):Nat):Int)=((xs.countP λz=>eqV z y:Nat):Int):=by rw[<-Xc1 r fs]
 exact e2 ▸ q
def Xkf:R2:=λx y H Q=>∃a b xs ys,x = .ref a/\y = .ref b/\H a=some (.tup xs)/\H b=some (.tup ys)/\xs.length+ys.length<=sizeLine/\∀p H',Same H H'->H' p=some (.tup (xs++ys))->Q (.ref p) H'
def Xkg:OpR X (bu .Add) Xkf:=by
 intro pins s Z H x y v u Q I rx ry h;obtain⟨a,b,xs,ys,rfl,rfl,ha,hb,hz,q⟩:=h;by_cases hx:xs=[]
 ·subst hx;cases rx;cases ry;obtain⟨ax,r1,p1,_⟩:=I.tuple (SqT.of (K:=X.K) ha);obtain⟨fh,r2,p2,_⟩:=I.tuple (SqT.of (K:=X.K) hb);cases r1;obtain⟨⟨cls,dd,data,sl⟩,ho,hc,n,hd⟩:=id p1;obtain⟨⟨pY,jL,data2,lH⟩,iY,eK,n2,cU⟩:=id p2;simp only at hc hd eK cU;subst hc hd eK cU;exact iC ⟨_,ho,rfl⟩ ⟨_,iY,rfl⟩ eM gQ PySem.F.slot_tuple_add PySem.F.entry_tuple_add (PySem.F.args_tuple_add_2 _ _)
   (tuple_addW0 a b _ _ n n2 dd jL sl lH (by simp)) ⟨ho,iY,⟨.ref b,H,I,rfl,q b H (Same.refl H) hb⟩⟩
 ·refine Xhe pins s Z H (.ref a) (.ref b) v u Q I rx ry ⟨a,b,xs,ys,rfl,rfl,SqT.of ha,SqT.of hb,hx,hz,λhy=>?_,λhy p np=>?_⟩
  ·subst hy;exact q a H (Same.refl H) (by rw[Ps];exact ha)
  ·exact q p _ ((Same.refl H).step np) Ab
end
end L2
namespace HT
open PySem.Calls L2
section
variable {prog:ao}{w:av}{A:aw}{E:Zb}{s:af}
end
end HT
namespace L2
section
variable {X:Cx}{pos p2:ce}{e:aC}{te:TE}
def tRevT (te:TE):TE:=fun Z H Q=>te Z H λx H1=>∃a xs,x = .ref a/\H1 a=some (.tup xs)/\∀p,H1 p=none->Q (.ref p) (upd H1 p (.tup xs.reverse))
end
section
variable {X:Cx}{es:List aC}{t:L2.St->Hp->(Hp->Prop)->Prop}{e:aC}{te:TE}{pos:ce}
def Xkh(ts):(cy ts).length<=piled ts+3:=by
 unfold cy;rw[gZ,gZ];have e1:((("(" : String):aj)).length=1:=rfl;have e3:(((if ts.length==1 then ",)" else ")" : String):aj)).length<=2:=by split<;>decide
 rw[e1];by_cases h:ts=[]
 ·subst h;have:(aj.join ", " []).length=0:=rfl
  lia
 ·have:=join_length_add ts h
  lia
theorem Xc3  : ∀{ss:Za} {us:List aa},(∀z∈ss,z.length<=20/\∀c∈z.cps.toList,c<16 ^ 8)->Vals (ss.map V.str) us->ReprAll P w us (ss.map cj)
 | [],_,_,r=>by cases r;exact .nil
 | z::ss,_,h,r=>by
  cases r with
  | cons r1 r2=>
   obtain⟨tk,rfl⟩:=r1;obtain⟨h1,h2⟩:=h z Oj;have:=StrLaws.reprText_len z h2;exact .cons (ReprIs.str z tk (by rw[Tb];lia)) (Xc3 (λy hy=>h y (Ol _ hy)) r2)
def Xki:V->List V->Hp->VK->Prop:=λx vs H Q=>∃l xs y j,x = .ref l/\vs=[y]/\H l=some (.lst xs)/\B8 y=true/\xs.all B8=true/\xs.length<=1000/\(∃z,xs[j]? = some z/\eqV z y=true)/\(∀m z,m<j->xs[m]? = some z->eqV z y=false)/\Q (.int (j:Nat)) H
def Xkj:MtM X "list.index" Xki:=by
 intro pins s Z H x vs v us Q I rx rv h;obtain⟨l,xs,y,j,rfl,rfl,hH,fy,fs,aI,⟨z,hz,BX⟩,gJ,q⟩:=h;cases rx;obtain⟨u,rfl,ru⟩:=rv.one;obtain⟨zz,ax,n,r,hl,e⟩:=I.lstM hH;have hj:j<xs.length:=(Ox.mp hz).1;have yp:j<ax.toArray.size:=by rw[Oh];lia
 have at':∀m (hm:m<ax.toArray.size),∃w,xs[m]? = some w/\eqU y ax.toArray[m]=eqV w y:=λm hm=>by
  rw[Oh] at hm;have g:xs[m]? = some (xs[m]'(by lia)):=Od (by lia);obtain⟨uu,hu,BY⟩:=r.get g;have e1:ax.toArray[m]=uu:=by
   rw[Sa];rw[Od hm] at hu;exact Ov hu
  refine⟨_,g,?_⟩;rw[e1];exact Jt BY (O6.mp fs _ (O5 _))
 refine cL F.slot_list_index ⟨_,e,rfl⟩ F.entry_list_index (F.args_list_index_2 _ _) (SeqAt.list_indexAt l ax.toArray n _ _ u (eqU y) j yp (by lia) ?_ ?_) ⟨e,λw hw=>Fo ru fy r fs w (by simpa using hw),?_⟩
 ·obtain⟨w,h1,h2⟩:=at' j yp;rw[hz] at h1;cases h1;rw[h2];exact BX
 ·intro m hm BZ;obtain⟨w,h1,h2⟩:=at' m hm;rw[h2];exact gJ m w BZ h1
 ·exact⟨.int _,H,I.tok _,⟨_,rfl⟩,q⟩
end
def Xc4{K}  (sb:KP K (.ref C) (.type "BaseException")=some true)(CA:KP K (.ref S) (.type "BaseException")=some true)(ic:LC K S=true)(ty:LF K (.ref S)=some (.type "type"))(h:KP K (.ref C) (.ref S)=some b):LD K (.ref C) (.ref S)=some b:=by
 unfold LD;rw[CA,Td (by decide)];exact Xcl ic ty h
def E3 (c:ae) (q:aj):am->Prop:=λh=>h.CodeRec (.ref c) q
def E4 (f:ae) (fd:bK):am->Prop:=λh=>∃o,h.get? f=some o/\o.data = .func fd
def Xkk  : ∀h1 h2:am,E3 c q h1->(∀o,h1.get? c=some o->h2.get? c=some o)->E3 c q h2:=by
 rintro h1 h2 ⟨c1,o,vs,t,e,ho,r⟩ k;cases e;exact⟨c,o,vs,t,rfl,k _ ho,r⟩
def Xc5  : ∀h1 h2:am,E4 f fd h1->(∀o,h1.get? f=some o->h2.get? f=some o)->E4 f fd h2:=by
 rintro h1 h2 ⟨o,ho,r⟩ k;exact⟨o,k _ ho,r⟩
def Xkl    {K}                 {Q}  (hf:H f=some (.ext (E4 f (L' name qual params body scope [] pm (.ref c) iL)))) (hc:H c=some (.ext (E3 c qual))) (S:FnScope N ps scope) (hr:Room (k+1) A) (e0:Env0 P w K mg base A outer s H)
  (hl:vs.length=ps.length) (r:Vals vs us) (hb:dR (L' name qual params body scope [] pm (.ref c) iL) ⟨us,[]⟩=pure (ps.zip us))
  (ht:PE (Cp CX P w K mg base N qual scope f (.ref c) A outer s H E) body t) (hq:t (start N vs) H Q):
  bf (ag P w) A (.call (.ref f) ⟨us,[]⟩) (CR CX outer P w H s Q E) s:=by
 obtain⟨⟨of,CB,CC⟩,_⟩:=e0.hok f _ hf;obtain⟨vo,_⟩:=e0.hok c _ hc;have uI:s.heap.NoLimit:=e0.mod.nolimit.keeps λb o e=>(e0.bs b o e).1;have eU:∀y∈ps.zip us,scope.names.lookup y.1=some .local\/(scope.names.lookup y.1=some .cell/\((bH (s.heap.objs.size+1) scope.names []).lookup y.1).isSome=true):=λ⟨n,v⟩ hy=>by
  rcases S.par n (Sf hy).1 with q | q
  ·exact .inl q
  ·exact .inr ⟨q,KU _ _ _ (.inl q)⟩
 refine PySem.W.kla_callFunE hr.depth CB CC S.co S.gen rfl vo ?_;rw[hb];refine S8 ?_;refine fJ S.kind eU λenv he s1 x=>?_;subst he;refine⟨uI.keeps x.toInCall.keep,PySem.W.kla_codeExpr ?_⟩;have I:Inv (Cp CX P w K mg base N qual scope f (.ref c) A outer s H E) [] (start N vs) H s1:=Xa1 S hr.hd e0 hl r x;refine aG (ht [] s1 (start N vs) H _ I hq) (λu s' hs=>?_) λe s' hs=>hs;obtain⟨v,H',J,rv,q⟩:=hs;exact⟨v,H',J.os,J.bare,J.base,J.hok,rv,q⟩
def BmOk (mg:aj->Option aa) (base:am):Prop:=∃bm ob,mg "__builtins__" = some (.ref bm)/\bm≠cJ/\base.get? bm=some ob/\ob.cls = .type "module" /\ ob.dict=some cJ/\ob.data = .plain
def Az (T:ae) (pos:ce) (q:aj) (H:Hp):Prop:=H T=some (.tbl #[]) \/ ∃c,H T=some (.tbl #[bc pos.line,bc pos.col,.ref c])/\H c=some (.ext (E3 c q))
def tLam (T:ae) (q:aj) (params:mD) (body:aC) (scope:bX) (pos:ce):TE:=λ_ H Q=>Az T pos q H /\
 ∀(f c:ae) (pm iL:aa) (H':Hp),H f=none->H' f=some (.ext (E4 f (L' "<lambda>" q params body scope [] pm (.ref c) iL)))->H' c=some (.ext (E3 c q))->Az T pos q H'->(∀b o,H b=some o->b≠T->H' b=some o)->Q (.ref f) H'
section
variable {X:Cx}{T c0:ae}{params:mD}{body:aC}{scope:bX}{pos:ce}{q:aj}
def Xkm    {h':am} {tk} {fd} {o} (I:Inv X pins Z H s) (k:∀b o,s.heap.get? b=some o->h'.get? b=some o) (hsz:s.heap.objs.size<=h'.objs.size) (ho:o.data = .func fd) (iG:o.isFreed=false):
  Inv X pins Z (upd H h'.objs.size (.ext (E4 h'.objs.size fd))) {s with heap:=h'.push o,toks:=tk}:=by
 refine I.laid (t':=tk) (h':=h'.push o) (λb ob e=>Tj _ (k b ob e)) hsz ?_;exact⟨⟨o,am.get?_push_size _ iG,ho⟩,⟨o,am.get?_push_size _ iG⟩,Xc5⟩
def Xkn      {tk}  {o}  (I:Inv X pins Z H s) (hT:H T=some (.tbl #[])) (hx:am.ExtBut T s.heap h') (oQ:s.heap.objs.size<=c) (aZ:c<h'.objs.size)
  (mW:h'.CodeRec (.ref c) q) (vp:h'.get? T=some (KY (#[]++ps))) (ho:o.data = .func fd) (iG:o.isFreed=false):
  Inv X pins Z (upd (upd (upd H T (.tbl ps)) c (.ext (E3 c q))) h'.objs.size (.ext (E4 h'.objs.size fd))) {s with heap:=h'.push o,toks:=tk}:=by
 have qN:h'.get? T=some {cls:=.none,data:=.fields ps}:=by simpa using vp
 have nf:∀b u,s.heap.get? b=some u->b≠c/\b≠h'.objs.size:=λb u e=>by
  have z:=O3 (Ti e) oQ;exact⟨Oq z,Oq (Qj z aZ)⟩
 have nH:∀b u,H b=some u->b≠c/\b≠h'.objs.size:=λb u e=>by
  have z:=O3 (I.hok.lt e) oQ;exact⟨Oq z,Oq (Qj z aZ)⟩
 have nT:∀b,H b=none->b≠T:=λb n z=>by rw[z,hT] at n;cases n
 have kp:∀b u,b≠T->s.heap.get? b=some u->(h'.push o).get? b=some u:=λb u n e=>Tj _ (hx b u n e);have up:∀b u,H b=some u->b≠T->(upd (upd (upd H T (.tbl ps)) c (.ext (E3 c q))) h'.objs.size (.ext (E4 h'.objs.size fd))) b=some u:=λb u e n=>by
  rw[Ad (nH b u e).2,Ad (nH b u e).1,Ad n];exact e
 refine I.step (g':=s.gens) (d':=s.drawn) (t':=tk) (h':=h'.push o) (ch:=[]) (λ_ z=>nomatch z) (λb u _ _ _ e n=>kp b u (nT b n) e) (λb u _ _ _ e n=>⟨u.slots,kp b u (nT b n) e⟩) (λb u _ e n=>?_) (λb u _ e=>?_)
  (λb xs e=>up b _ e λz=>by rw[z,hT] at e;cases e) (λb u v e=>up b _ e λz=>by rw[z,hT] at e;cases e) (λb pz e=>?_) (λm hn=>(hn.extBut hx (nT _ I.free)).push _) ?_ I.bare
 ·rw[Ad (nf b u e).2,Ad (nf b u e).1,Ad (nT b n)];exact n
 ·by_cases z:b=T
  ·exact⟨_,z ▸ Tj _ qN⟩
  ·exact⟨u,kp b u z e⟩
 ·by_cases z:b=T
  ·subst z;rw[hT] at e;cases e;refine⟨ps,?_⟩;rw[Ad (nH b _ hT).2,Ad (nH b _ hT).1,Ab];simp
  ·exact⟨#[],by rw[up b _ e z];simp⟩
 ·intro b u e;by_cases z1:b=h'.objs.size
  ·subst z1;rw[Ab] at e;cases e;exact⟨⟨o,am.get?_push_size _ iG,ho⟩,⟨o,am.get?_push_size _ iG⟩,Xc5⟩
  ·rw[Ad z1] at e;by_cases z2:b=c
   ·subst z2;rw[Ab] at e;cases e;obtain⟨c1,oc,vs,t,e1,pS,r⟩:=mW;cases e1;exact⟨⟨b,oc,vs,t,rfl,Tj _ pS,r⟩,⟨oc,Tj _ pS⟩,Xkk⟩
   ·rw[Ad z2] at e;by_cases z3:b=T
    ·subst z3;rw[Ab] at e;cases e;exact Tj _ qN
    ·rw[Ad z3] at e;refine(I.hok b u e).stay (λd v hd g=>kp d v ?_ g) (λd g=>up d _ g λz=>by rw[z,hT] at g;cases g) λd xs g=>up d _ g λz=>by rw[z,hT] at g;cases g
     rcases hd with rfl | hd
     ·exact z3
     ·intro z;rw[z,hT] at hd;cases hd
def Xko(mX:BmOk X.mg X.base)(vq:defaultsOf params X.env=([],[]))(iw:kD scope X.env=pure [])(lU:X.env.code = .ref c0)(hhd:KW X.K c0 T=true)(hq:X.env.qual ++ "<lambda>" = q):
  PE X (.Lambda params body scope pos) (tLam T q params body scope pos):=by
 intro pins s Z H Q I h;obtain⟨tab,k⟩:=h;obtain⟨bm,ob,b1,b2,b3,b4,b5,b6⟩:=mX;have hg:s.heap.Ns ak X.mg:=I.mod.glob.keeps I.bk;have C:PySem.W.CodeHd s.heap c0 T:=LJ I.kIn hhd;have nb:bm≠T:=λz=>by
  have n:=(I.bs bm ob b3).2;rw[z] at n;rcases tab with e | ⟨c,e,_⟩<;>(rw[e] at n;cases n)
 have CD:bm≠ak:=λz=>by
  obtain⟨o,es,ep,e,hd,_⟩:=I.mod.glob;rw[z,e] at b3;cases b3;rw[hd] at b6;cases b6
 have hB:s.heap.BuiltinsAt X.mg T:=⟨bm,ob,b1,b2,CD,nb,I.bk _ _ b3,b4,b5,b6⟩;refine PySem.W.kla_eval vq ?_;rw[hq];rcases tab with e | ⟨c,e,ec⟩
 ·have hP:s.heap.get? T=some (KY #[]):=I.hok T _ e;have CF:ak≠T:=λz=>by
   obtain⟨o,es,ep,e2,hd,_⟩:=hg;rw[z,hP] at e2;cases e2;cases hd
  refine PySem.W.kla_makeFunction (mg:=X.mg) (clos:=[]) iw I.ok.glob hg lU C hP trivial rfl CF hB λc' iL h' tk hx oQ aZ mW vp=>?_;have J:=Xkn (tk:=tk) (o:=PySem.W.kla_obj "<lambda>" q params body scope [] ((X.mg "__name__").getD .none) c' iL) I e hx oQ aZ mW vp rfl rfl;have t9:∀b o,H b=some o->b<c':=λb o eb=>O3 (I.hok.lt eb) oQ;have CG:c'≠T:=(Oq (t9 _ _ e)).symm;have yq:c'≠h'.objs.size:=Oq aZ;have CH:T≠h'.objs.size:=Oq (Qj (t9 _ _ e) aZ);refine⟨.ref h'.objs.size,_,J,rfl,k _ c' _ iL _ (I.hok.fresh (Rs (Ru oQ aZ))) Ab (by rw[Ad yq,Ab]) (.inr ⟨c',by rw[Ad CH,Ad CG.symm,Ab],by rw[Ad yq,Ab]⟩) λb o eb nb=>?_⟩;rw[Ad (Oq (Qj (t9 _ _ eb) aZ)),Ad (Oq (t9 _ _ eb)),Ad nb];exact eb
 ·have hP:s.heap.get? T=some (KY #[bc pos.line,bc pos.col,.ref c]):=I.hok T _ e;refine PySem.W.kla_makeFunctionHit (mg:=X.mg) (clos:=[]) (cv:=.ref c) iw I.ok.glob hg lU C hP trivial (by simp[codeAmong,bc]) hB λiL h' tk hk hsz=>?_;have J:=Xkm (tk:=tk) (fd:=L' "<lambda>" q params body scope [] ((X.mg "__name__").getD .none) (.ref c) iL) (o:={cls:=.type "function",data:=.func (L' "<lambda>" q params body scope [] ((X.mg "__name__").getD .none) (.ref c) iL)}) I hk hsz rfl rfl;have nf:∀b o,H b=some o->b≠h'.objs.size:=λb o eb=>Oq (O3 (I.hok.lt eb) hsz);refine⟨.ref h'.objs.size,_,J,rfl,k _ c _ iL _ (I.hok.fresh hsz) Ab (by rw[Ad (nf _ _ ec)];exact ec) (.inr ⟨c,by rw[Ad (nf _ _ e)];exact e,by rw[Ad (nf _ _ ec)];exact ec⟩) λb o eb _=>?_⟩;rw[Ad (nf b o eb)];exact eb
end
end L2
namespace SH
open L2
structure Bl (mg:aj->Option aa):Prop where
 len:mg "len" = none
 range:mg "range" = none
 list:mg "list" = none
 min:mg "min" = none
 isi:mg "isinstance" = none
 all:mg "all" = none
 str:mg "str" = none
 val:mg "ValueError" = none
 sorted:mg "sorted" = none
 set:mg "set" = none
 enum:mg "enumerate" = none
 int:mg "int" = none
 bool:mg "bool" = none
 tuple:mg "tuple" = none
 any:mg "any" = none
 dict:mg "dict" = none
 sum:mg "sum" = none
 max:mg "max" = none
structure DrawOk (H:Hp) (dr sc:ae):Prop where
 ex:∃(ns:List Int) (p:Nat) (c m k:Int),H dr=some (.lst [.ref sc,.int p,.int c,.int m,.int k])/\H sc=some (.lst (ns.map V.int))/\p<=ns.length/\ns.length<=63/\0<=m/\m<1000000007
def Xc6 (K:KL):Sp:=λvs H Q _=>∃(a:ae) (ns:List Int),vs=[.ref a]/\SqL K H a (ns.map V.int)/\ns.length<=63/\∀dr sc H',H dr=none->H sc=none->DrawOk H' dr sc->Same H H'->Q (.ref dr) H'
def Xc7:Sp:=λvs H Q _=>∃(dr sc:ae) (n:Int),vs=[.ref dr,.int n]/\0<n/\n<=1000/\DrawOk H dr sc /\
 ∀r H',0<=r->r<n->DrawOk H' dr sc->(∀b o,H b=some o->b≠dr->H' b=some o)->Q (.int r) H'
abbrev NP:Za:=["_law_draw", "_law_many", "_law_cell", "_law_got"]
def D5 (H:Hp) (dr sc:ae) (ns:List Int) (p:Nat) (c m k:Int):Prop:=H dr=some (.lst [.ref sc,.int p,.int c,.int m,.int k])/\H sc=some (.lst (ns.map V.int))
def cpow3(h0:0<=m)(h1:m<1000000007):CPow m 3:=⟨by decide,by decide,by lia⟩
def E5 (row:Za) (x:aj) (a b:Nat):Za:=row.take a++[x]++(row.drop a).take (b - a)++[x]++row.drop b
def Xc8(row)(x)(a b)(fb:a<=b):(E5 row x a b).Perm (x::x::row):=by
 unfold E5;have e:row=row.take a++((row.drop a).take (b - a)++row.drop b):=by
  have e1:row.drop b=(row.drop a).drop (b - a):=by rw[List.drop_drop];congr 1;lia
  rw[e1,O9,O9]
 generalize hA:row.take a=A at *;generalize hB:(row.drop a).take (b - a)=B at *;generalize hC:row.drop b=C at *;rw[e];have p1:(A++[x]++B++[x]++C).Perm (x::(A++B++[x]++C)):=by
  have:A++[x]++B++[x]++C=A++x::(B++[x]++C):=by simp
  rw[this];refine Rf.trans ?_;simp
 refine p1.trans (List.Perm.cons x ?_);have:A++B++[x]++C=(A++B)++x::C:=by simp
 rw[this];refine Rf.trans ?_;simp
def Xc9:Sp:=λvs H Q _=>∃(r:ae) (row:Za) (x:aj) (a b:Nat),vs=[.ref r,.str x,.int a,.int b]/\H r=some (.lst (row.map V.str))/\row.length<=1000/\a<=b/\b<=row.length /\
 ∀l H',H l=none->H' l=some (.lst ((E5 row x a b).map V.str))->Same H H'->Q (.ref l) H'
abbrev NPut:Za:=["_law_row_here", "_law_name", "_law_at", "_law_to", "_law_told"]
def A6 (x:aj):Nat->Za->List Int
 | _,[]=>[]
 | n,y::r=>if y=x then (n:Int)::A6 x (n+1) r else A6 x (n+1) r
def plc (row:Za) (x:aj):List Int:=A6 x 0 row
theorem Xda(x y):∀n r,A6 x n (r++[y])=A6 x n r++(if y=x then [((n+r.length:Nat):Int)] else [])
 | n,[]=>by
  show (if y=x then ((n:Nat):Int)::A6 x (n+1) [] else A6 x (n+1) [])=_;split<;>simp[A6]
 | n,z::r=>by
  have ih:=Xda x y (n+1) r;show (if z=x then (n:Int)::A6 x (n+1) (r++[y]) else A6 x (n+1) (r++[y]))=(if z=x then (n:Int)::A6 x (n+1) r else A6 x (n+1) r)++_;rw[ih,Pe,show n+1+r.length=n+(r.length+1) by lia];split<;>simp
theorem Kc(x):∀n r,(A6 x n r).length=r.count x
 | _,[]=>rfl
 | n,z::r=>by
  show (if z=x then (n:Int)::A6 x (n+1) r else A6 x (n+1) r).length=_;rw[List.count_cons];split
  ·rename_i e;rw[Pe,Kc,Td (by simpa using e)]
  ·rename_i e;rw[Kc,Tc (by simpa using e)];rfl
def M0(row)(x):(plc row x).length=row.count x:=Kc x 0 row
def M3(r)(x y):plc (r++[y]) x=plc r x++(if y=x then [(r.length:Int)] else []):=by
 have e:=Xda x y 0 r;rw[Qq] at e;exact e
structure Wh (H:Hp) (kvs:List (Key×V)) (row:Za):Prop where
 keys:∀k∈kvs.map (·.1),∃x,k=Sum.inr x/\x∈row
 val:∀x∈row,∃l,Ay kvs (Sum.inr x:Key)=some (.ref l)/\H l=some (.lst ((plc row x).map V.int))
 none:∀x,x∉row->Ay kvs (Sum.inr x:Key)=none
 nd:(kvs.map (·.1)).Nodup
 len:kvs.length<=row.length
def Xdb  {k:Key}  (h:Ay kvs k=some l):(Be kvs k v).map (·.1)=kvs.map (·.1):=by
 unfold Be;rw[Ey,h,Td Sn,Ph];refine P2 λp _=>?_;show (if p.1=k then (p.1,v) else p).1=p.1;split<;>rfl
def Wh.snoc   (w:Wh H kvs row) (y) (l) (hl:H' l=some (.lst ((plc (row++[y]) y).map V.int)))
  (s:∀b xs,H b=some (.lst xs)->H' b=some (.lst xs)):Wh H' (Be kvs (Sum.inr y) (.ref l)) (row++[y]):=by
 refine⟨λk hk=>?_,λx hx=>?_,λx hx=>?_,?_,?_⟩
 ·by_cases hy:y∈row
  ·obtain⟨l0,e,_⟩:=w.val y hy;rw[Xdb e] at hk;obtain⟨x,e1,e2⟩:=w.keys k hk;exact⟨x,e1,Pw _ e2⟩
  ·rw[He _ (w.none y hy),Oo] at hk;rcases Om.mp hk with hk | hk
   ·obtain⟨x,e1,e2⟩:=w.keys k hk;exact⟨x,e1,Pw _ e2⟩
   ·exact⟨y,by simpa using hk,by simp⟩
 ·rw[Ga];by_cases e:x=y
  ·subst e;exact⟨l,Td rfl,hl⟩
  ·have iF:x∈row:=by
    rcases Om.mp hx with z | z
    ·exact z
    ·exact absurd (Oe.mp z) e
   obtain⟨l0,e1,e2⟩:=w.val x iF;refine⟨l0,by rw[Tc (λz=>e (Qo z))];exact e1,?_⟩;rw[M3,Tc (λz=>e z.symm),Ps];exact s _ _ e2
 ·rw[Ga];have h1:x∉row:=λz=>hx (Pw _ z);have h2:x≠y:=λz=>hx (by rw[z];simp);rw[Tc (λz=>h2 (Qo z))];exact w.none x h1
 ·by_cases hy:y∈row
  ·obtain⟨l0,e,_⟩:=w.val y hy;rw[Xdb e];exact w.nd
  ·exact Xh9 _ w.nd (w.none y hy)
 ·have:=Gb kvs (Sum.inr y:Key) (.ref l);have:=w.len;rw[Op,Pq]
  lia
def M4:Sp:=λvs H Q _=>∃(r:ae) (row:Za),vs=[.ref r]/\H r=some (.lst (row.map V.str))/\row.length<=1000 /\
 ∀d kvs H',H d=none->H' d=some (.dK kvs)->Wh H' kvs row->Same H H'->Q (.ref d) H'
abbrev NWh:Za:=["_law_row_here", "_law_told", "_law_at"]
def inn (a b:Int) (ys:List Int):List Int:=ys.filter λt=>decide (a<t)&&decide (t<b)
def M5(a b)(ys):(inn a b ys).length<=ys.length:=Pk ..
def words3:Za:=["same", "cross", "around"]
def D7 (a b c e:Int) (same:Bool):aj:=
 if (same||decide (0<(inn a b [c,e]).length))=true then words3.getD (inn a b [c,e]).length "apart" else if c<a/\b<e then "within" else "apart"
def spWord:Sp:=λvs H Q _=>∃(d l1 l2:ae) (kvs:List (Key×V)) (x y:aj) (a b c e:Int),vs=[.ref d,.str x,.str y]/\Rd H d (.dK kvs)/\Ay kvs (Sum.inr x:Key)=some (.ref l1)/\Ay kvs (Sum.inr y:Key)=some (.ref l2) /\
 H l1=some (.lst [.int a,.int b])/\H l2=some (.lst [.int c,.int e])/\∀H',Same H H'->Q (.str (D7 a b c e (decide (x=y)))) H'
abbrev NWo:Za:=["_law_where_here", "_law_one", "_law_other", "_law_low", "_law_high", "_law_inner"]
def Rd.same   (r:Rd H d o) (s:Same H H'):Rd H' d o:=by
 rcases r with r | ⟨u,r⟩
 ·exact .inl (s _ _ r)
 ·exact .inr ⟨u,s _ _ r⟩
def DGet.rd     (e:Rd H a (.dK kvs)) (h:Ay kvs (Sum.inr x:Key)=some v):DGet H a (.str x) (some v):=.inl ⟨kvs,Sum.inr x,e,rfl,h.symm⟩
def Xkp  (h:row.count x=2):∃a b,plc row x=[a,b]:=by
 have e:=M0 row x;rw[h] at e
 match q:plc row x,e with
 | [a,b],_=>exact⟨a,b,rfl⟩
abbrev NBa:Za:=["_law_row_here", "_law_name", "_law_where_here", "_law_met", "_law_at", "_law_other"]
abbrev NBc:Za:=["_law_one", "_law_name", "_law_where_here"]
abbrev Fu:aj := "kqvzbdgmprtxhnjfwlycsaeiou"
def signOf (i:Nat):aj:=⟨#[(Fu.cps.toList).getD i 0]⟩
def Ie (st:Nat) (aJ:Bool) (k:Nat):aj:=
 if aJ=true then (repS "m" ((st+k * k) % 7)++signOf ((st+k) % 26)) ++ "y" else signOf ((st+k) % 26)++repS "m" ((st+k * k) % 7)
def Bb (st:Nat) (aJ:Bool) (n:Nat):Za:=(List.range n).map (Ie st aJ)
def Xkq:∀st<26,∀aJ:Bool,(Bb st aJ 14).Nodup:=by decide +kernel
def M6{st}  (hs:st<26)(hn:n<=14):(Bb st aJ n).Nodup:=by
 refine(Xkq st hs aJ).sublist ?_;unfold Bb;refine List.Sublist.map _ ?_;have e:List.range 14=List.range n++(List.range (14 - n)).map (n + ·):=by
  rw[<-List.range_add];congr 1
  lia
 rw[e];exact List.sublist_append_left ..
def But (dr:ae) (H H':Hp):Prop:=∀b o,H b=some o->b≠dr->H' b=some o
def But.refl(dr)(H):But dr H H:=λ_ _ e _=>e
def But.trans  (a:But dr H H1) (b:But dr H1 H2):But dr H H2:=λc o e h=>b c o (a c o e h) h
def But.same  (a:But dr H H1) (b:Same H1 H2):But dr H H2:=λc o e h=>b c o (a c o e h)
def But.free   (a:But dr H H') (hd:H' dr=some o) (h:H' b=none):H b=none:=by
 cases q:H b with
 | none=>rfl
 | some u=>
  by_cases e:b=dr
  ·rw[e,hd] at h;cases h
  ·rw[a b u q e] at h;cases h
def But.upd{dr a}{H H'}{o}(x:But dr H H')(h:H a=none):But dr H (L2.upd H' a o):=λb u e hb=>by
 rw[Ad (Am e h)];exact x b u e hb
def DrawOk.at{H}{dr sc}(d:DrawOk H dr sc):∃xs,H dr=some (.lst xs):=let ⟨_,_,_,_,_,h,_⟩:=d.ex; ⟨_,h⟩
def DrawOk.same  (d:DrawOk H dr sc) (s:Same H H'):DrawOk H' dr sc:=
 let ⟨ns,p,c,m,k,h1,h2,r⟩:=d.ex; ⟨ns,p,c,m,k,s _ _ h1,s _ _ h2,r⟩
def DrawOk.upd{H}{dr sc a}{o}(d:DrawOk H dr sc)(h1:a≠dr)(h2:a≠sc):DrawOk (L2.upd H a o) dr sc:=
 let ⟨ns,p,c,m,k,e1,e2,r⟩:=d.ex; ⟨ns,p,c,m,k,by rw[Ad h1.symm];exact e1,by rw[Ad h2.symm];exact e2,r⟩
def DrawOk.ne  (d:DrawOk H dr sc) (h:H a=none):a≠dr/\a≠sc:=by
 obtain⟨ns,p,c,m,k,e1,e2,r⟩:=d.ex;exact⟨(Am e1 h).symm,(Am e2 h).symm⟩
def Xdc:Sp:=λvs H Q _=>∃(dr sc:ae) (n:Nat),vs=[.ref dr,.int n]/\n<=14/\DrawOk H dr sc /\
 ∀l st aJ H',H l=none->st<26->H' l=some (.lst ((Bb st aJ n).map V.str))->l≠sc->DrawOk H' dr sc->But dr H H'->Q (.ref l) H'
abbrev FnPick (P:ao) (w:av) (K:KL) (mg:aj->Option aa) (base:am):Prop:=Fn P w K mg base CX0 1 "_law_pick" ["_law_draw", "_law_many"] Xc7
abbrev NNa:Za:=["_law_draw", "_law_many", "_law_base", "_law_start", "_law_late", "_law_told", "_law_k", "_law_sign", "_law_hum"]
def Xkr{i:Nat}(h:i<26):atI Fu.cps.toList (i:Int)=some ((Fu.cps.toList).getD i 0):=by
 have hl:i<Fu.cps.toList.length:=h;refine Cf ?_;rw[Od hl];simp[List.getD,Od hl]
def Gm(h:l.Nodup){row:Za}(p:row.Perm (l++l)):∀y∈row,row.count y=2:=λy hy=>by
 rw[p.count_eq,Q9];have i4:y∈l:=by
  rcases Om.mp (p.mem_iff.mp hy) with z | z
  ·exact z
  ·exact z
 have e1:l.count y<=1:=List.nodup_iff_count.mp h y;have e2:0<l.count y:=So.mpr i4
 lia
def Xdd{A row more:Za}(p:row.Perm (A++A))(q:more.Perm (x::x::row)):more.Perm ((A++[x])++(A++[x])):=by
 refine q.trans (((p.cons x).cons x).trans ?_);have e:(A++[x])++(A++[x])=A++x::(A++x::[]):=by simp
 rw[e];refine List.Perm.trans ?_ Rf.symm;refine List.Perm.cons x ?_;have e2:A++(A++x::[])=(A++A)++x::[]:=by simp
 rw[e2];refine List.Perm.trans ?_ Rf.symm;simp
abbrev NRo:Za:=["_law_draw", "_law_names_here", "_law_cut", "_law_row_here", "_law_name", "_law_at", "_law_to", "_law_more"]
def Xqr:Sp:=λvs H Q _=>∃(dr sc:ae) (m:Nat),vs=[.ref dr,.int m]/\m<=14/\DrawOk H dr sc /\
 ∀(l:ae) (row:Za) (n st:Nat) (aJ:Bool) (H':Hp),H l=none->n<=m->st<26->H' l=some (.lst (row.map V.str))->row.Perm (Bb st aJ n++Bb st aJ n)->DrawOk H' dr sc->But dr H H'->Q (.ref l) H'
def Ig(K)(T):KN K (.type T) (.type T)=some true:=by
 unfold KN;rw[Td (beq_self_eq_true _)]
def M7(row)(x):((List.range row.length).filter λi=>decide (row.getD i aj.empty=x)).map (λi:Nat=>(i:Int))=plc row x:=by
 have go:∀n,n<=row.length->((List.range n).filter λi=>decide (row.getD i aj.empty=x)).map (λi:Nat=>(i:Int))=plc (row.take n) x:=by
  intro n
  induction n with
  | zero=>intro _;rfl
  | succ n ih=>
   intro h;have hn:n<row.length:=by lia
   have e:row.getD n aj.empty=row[n]:=by simp[List.getD,hn]
   rw[P0,O2,Oo,ih (by lia),Ow hn,M3,Pp,e,Os,Qv (by lia)];by_cases q:row[n]=x
   ·rw[Td q,Td (Te q)];rfl
   ·rw[Tc q,Tc (by simpa using q)];rfl
 rw[go _ (Og _),Pl]
def okN (x:aj):Prop:=x.length<=20/\∀c∈x.cps.toList,c<0x110000
def Xde (C:ae):Sp:=λvs H Q E=>∃(r:ae) (row:Za) (x:aj),vs=[.ref r,.str x]/\H r=some (.lst (row.map V.str))/\okN x /\
 (x∈row->∀H',Same H H'->Q .non H')/\(x∉row->∀H',Same H H'->E (.ref C) none H')
def spDitches:Sp:=λvs H Q _=>∃(r:ae) (row:Za),vs=[.ref r]/\H r=some (.lst (row.map V.str))/\row.length<=60 /\
 ∀l H',H l=none->H' l=some (.lst ((dit row).map V.str))->Same H H'->Q (.ref l) H'
def Xdf (C:ae):Sp:=λvs H Q E=>∃(r:ae) (row:Za) (x:aj),vs=[.ref r,.str x]/\H r=some (.lst (row.map V.str))/\okN x/\row.length<=1000 /\
 (x∈row->∃a b,plc row x=[a,b]/\∀l H',H l=none->H' l=some (.tup [.int a,.int b])->Same H H'->Q (.ref l) H')/\(x∉row->∀H',Same H H'->E (.ref C) none H')
abbrev NEn:Za:=["row", "name", "found"]
abbrev NEc:Za:=["at", "end", "name"]
end SH
namespace L2
def Xks(K)  (ne:(aa.type a==aa.type b)=false)(m:LM b=true)(h:(fastBuiltinMro a).map (·.contains (aa.type b))=some r):KN K (.type a) (.type b)=some r:=by
 unfold KN;rw[ne,Tc Oz];show (if LM b=true then KP K (.type a) (.type b) else none)=some r;rw[Td m];exact h
def Xkt(K):KN K (.type "int") (.type "bool")=some false:=Xks K (by decide +kernel) (by decide +kernel) (by decide +kernel)
def En(x y):decide (V.str x=V.str y)=decide (x=y):=by
 by_cases z:x=y
 ·rw[z];simp
 ·rw[Tf z,Tf (λq=>z (by injection q))]
def Xdg(row:Za):∀v∈row.map V.str,B8 v=true:=λv h=>by
 obtain⟨x,_,rfl⟩:=O0.mp h;rfl
def Bo{α : Type}(f : α->V)(d : α)(xs:List α)(hi:i<xs.length):(xs.map f).getD i .non=f (xs.getD i d):=by simp[List.getD,hi]
end L2
namespace SH
open L2
def Wh.names   (w:Wh H kvs row):∃ss:Za,kvs.map (·.1)=ss.map (λx=>(Sum.inr x:Key))/\ss.Nodup/\∀x,x∈ss↔x∈row:=by
 have e:∀ks:List Key,(∀k∈ks,∃x,k=Sum.inr x)->∃ss:Za,ks=ss.map (λx=>(Sum.inr x:Key)):=by
  intro ks
  induction ks with
  | nil=>intro _;exact⟨[],rfl⟩
  | cons k r ih=>
   intro h;obtain⟨x,rfl⟩:=h k Oj;obtain⟨ss,rfl⟩:=ih λk hk=>h k (Ol _ hk);exact⟨x::ss,rfl⟩
 obtain⟨ss,hs⟩:=e (kvs.map (·.1)) λk hk=>let ⟨x,h,_⟩:=w.keys k hk; ⟨x,h⟩;have inj:∀x,x∈ss↔(Sum.inr x:Key)∈kvs.map (·.1):=λx=>by
  rw[hs,O0];constructor
  ·exact λh=>⟨x,h,rfl⟩
  ·rintro ⟨y,hy,e⟩;rw[<-Qo e];exact hy
 refine⟨ss,hs,?_,λx=>?_⟩
 ·have:=w.nd;rw[hs] at this;exact List.Pairwise.of_map _ (λa b fb e=>fb (congrArg _ e)) this
 ·rw[inj];constructor
  ·intro h;obtain⟨y,e,hy⟩:=w.keys _ h;rw[Qo e];exact hy
  ·intro h;obtain⟨l,e,_⟩:=w.val x h;exact Hh e
structure Isl (row:Za):Prop where
 ex:∃n st aJ,n<=14/\st<26/\row.Perm (Bb st aJ n++Bb st aJ n)
def Kd{st n}  (hn:n<=14)(h:x∈Bb st aJ n):x∈Bb st aJ 14:=by
 unfold Bb at h ⊢;obtain⟨i,hi,rfl⟩:=O0.mp h;exact O0.mpr ⟨i,Pu.mpr (by have:=Pu.mp hi;lia),rfl⟩
instance (x:aj):Decidable (okN x):=inferInstanceAs (Decidable (_/\_))
def Xku:∀st<26,∀aJ:Bool,∀x∈Bb st aJ 14,okN x:=by decide +kernel
def Isl.two(h:Isl row):∀y∈row,row.count y=2:=by
 obtain⟨n,st,aJ,hn,hs,p⟩:=h.ex;exact Gm (M6 hs hn) p
def Isl.len(h:Isl row):row.length<=28:=by
 obtain⟨n,st,aJ,hn,hs,p⟩:=h.ex;have:=p.length_eq;unfold Bb at this;simp at this
 lia
def Isl.ok(h:Isl row):∀y∈row,okN y:=λy hy=>by
 obtain⟨n,st,aJ,hn,hs,p⟩:=h.ex;refine Xku st hs aJ y (Kd hn ?_);rcases Om.mp (p.mem_iff.mp hy) with z | z<;>exact z
def Ih:Za->aj
 | [] => "noneatal"
 | y::_=>Txt.slice y none (some 7)++aj.ofString "q"
def stranger14:∀st<26,∀aJ:Bool,∀y∈Bb st aJ 14,okN (Txt.slice y none (some 7)++aj.ofString "q")/\Txt.slice y none (some 7)++aj.ofString "q" ∉ Bb st aJ 14:=by decide +kernel
def Isl.stranger(h:Isl row):okN (Ih row)/\Ih row∉row:=by
 cases row with
 | nil=>exact⟨by decide +kernel,by simp⟩
 | cons y r=>
  obtain⟨n,st,aJ,hn,hs,p⟩:=h.ex;have sub:∀z∈y::r,z∈Bb st aJ 14:=λz hz=>Kd hn (by rcases Om.mp (p.mem_iff.mp hz) with q | q<;>exact q);obtain⟨h1,h2⟩:=stranger14 st hs aJ y (sub y Oj);exact⟨h1,λz=>h2 (sub _ z)⟩
def Xkv(h:okN x):A8 (.str x)=true:=by
 show ah.strOk x=true;unfold ah.strOk;rw[<-Array.all_toList,O6];intro c hc;exact Te (h.2 c hc)
def Xdh   : i∈plc row x ↔ ∃k:Nat,i=k/\row[k]? = some x:=by
 rw[<-M7,O0];constructor
 ·rintro ⟨k,hk,rfl⟩;obtain⟨h1,h2⟩:=Oi.mp hk;have eV:=Pu.mp h1;refine⟨k,rfl,?_⟩;have:=Tg h2;rw[Od eV];simpa [List.getD,eV] using this
 ·rintro ⟨k,rfl,hk⟩;have eV:k<row.length:=(Ox.mp hk).1;refine⟨k,Oi.mpr ⟨Pu.mpr eV,Te ?_⟩,rfl⟩;simp[List.getD,hk]
def Xkw(row)(x):(plc row x).Pairwise (· < ·):=by
 rw[<-M7,Ra];refine List.Pairwise.imp ?_ (List.Pairwise.filter _ (List.pairwise_lt_range (n:=row.length)));intro a b h
 lia
def pl (row:Za) (x:aj):Int×Int:=((plc row x).getD 0 0,(plc row x).getD 1 0)
def Xdi   (h:plc row x=[a,b]):pl row x=(a,b):=by
 unfold pl;rw[h];rfl
def Fv  (h:row.count x=2):plc row x=[(pl row x).1,(pl row x).2]:=by
 obtain⟨a,b,e⟩:=Xkp h;rw[Xdi e,e]
def Ck  (h:row.count x=2):(pl row x).1<(pl row x).2:=by
 have h1:=Xkw row x;rw[Fv h] at h1;simpa using h1
def Fw  (hx:row.count x=2) (hy:row.count y=2) (n:x≠y):(pl row x).1≠(pl row y).1/\(pl row x).1≠(pl row y).2/\(pl row x).2≠(pl row y).1/\(pl row x).2≠(pl row y).2:=by
 have cM:∀i,i∈plc row x->i∈plc row y->False:=λi h1 h2=>by
  obtain⟨k,e1,g1⟩:=Xdh.mp h1;obtain⟨m,e2,g2⟩:=Xdh.mp h2;have:k=m:=by lia
  subst this;rw[g1] at g2;exact n (Ov g2)
 rw[Fv hx,Fv hy] at cM;refine⟨λe=>cM (pl row x).1 (by simp) (by rw[e];simp),λe=>cM (pl row x).1 (by simp) (by rw[e];simp),λe=>cM (pl row x).2 (by simp) (by rw[e];simp),λe=>cM (pl row x).2 (by simp) (by rw[e];simp)⟩
def nIn (a b:Int) (ys:List Int):Nat:=(inn a b ys).length
def Cl(a b c e):nIn a b [c,e]=(if a<c/\c<b then 1 else 0)+(if a<e/\e<b then 1 else 0):=by
 unfold nIn inn;simp only[Pp,Sh,O4,decide_eq_true_eq];split<;>split<;>rfl
def lieT (a b c e:Int):aj:=if a=c/\b=e then "same" else if nIn c e [a,b]=1 then "cross" else if nIn c e [a,b]=2 then "within" else if nIn a b [c,e]=2 then "around" else "apart"
def Xkx(h1:a<b)(h2:c<e)(n1:a≠c)(n2:a≠e)(n3:b≠c)(n4:b≠e):lieT a b c e=D7 a b c e false:=by
  unfold lieT D7;rw[Tc (λz=>n1 z.1)];have e1:=Cl a b c e;have e2:=Cl c e a b;have e3:(inn a b [c,e]).length=nIn a b [c,e]:=rfl;rw[e3];generalize nIn a b [c,e]=p at *;generalize nIn c e [a,b]=q at *;by_cases p1:a<c/\c<b<;>by_cases p2:a<e/\e<b<;>by_cases q1:c<a/\a<e<;>by_cases q2:c<b/\b<e <;>
    (first | rw[Td p1] at e1 | rw[Tc p1] at e1)<;>(first | rw[Td p2] at e1 | rw[Tc p2] at e1) <;>
    (first | rw[Td q1] at e2 | rw[Tc q1] at e2)<;>(first | rw[Td q2] at e2 | rw[Tc q2] at e2)<;>subst e1 e2<;>first
    | (exfalso;lia)
    | rfl
    | (have hw:(c<a/\b<e):=by lia
       rw[Td hw];rfl)
    | (have hw:¬(c<a/\b<e):=by lia
       rw[Tc hw];rfl)
def Xky:lieT a b a b=D7 a b a b true:=by
 unfold lieT D7;rw[Td ⟨rfl,rfl⟩,Bool.true_or,Td rfl];have e1:=Cl a b a b;have e3:(inn a b [a,b]).length=nIn a b [a,b]:=rfl;rw[e3,e1,Tc (by lia),Tc (by lia)];rfl
def lieR (row:Za) (x y:aj):aj:=lieT (pl row x).1 (pl row x).2 (pl row y).1 (pl row y).2
def Gn  (hx:row.count x=2) (hy:row.count y=2):lieR row x y=D7 (pl row x).1 (pl row x).2 (pl row y).1 (pl row y).2 (decide (x=y)):=by
 unfold lieR;by_cases n:x=y
 ·subst n;rw[Te rfl];exact Xky
 ·rw[Tf n];obtain⟨n1,n2,n3,n4⟩:=Fw hx hy n;exact Xkx (Ck hx) (Ck hy) n1 n2 n3 n4
def crs (row:Za):List (aj×aj):=(dit row).flatMap λx=>((dit row).filter λy=>decide (ltS x y)&&decide (lieR row x y = "cross")).map λy=>(x,y)
def prD (p:aj×aj):ah:=.tuple [.str p.1,.str p.2]
structure Spn (H:Hp) (kvs:List (Key×V)) (row:Za) (ns:Za):Prop where
 keys:kvs.map (·.1)=ns.map (λx=>(Sum.inr x:Key))
 val:∀x∈ns,∃l,Ay kvs (Sum.inr x:Key)=some (.ref l)/\H l=some (.tup [.int (pl row x).1,.int (pl row x).2])
def Spn.mono   (s:Spn H kvs row ns) (h:Same H H'):Spn H' kvs row ns:=⟨s.keys,λx hx=>let ⟨l,h1,h2⟩:=s.val x hx; ⟨l,h1,h _ _ h2⟩⟩
end SH
namespace L2
open PySem
def hu3  (hr:Room k A):A.units+3<bj:=by have:=hr.units;lia
def hu4  (hr:Room k A):A.units+4<bj:=by have:=hr.units;lia
end L2
namespace SH
open L2
structure Row2 (row:Za):Prop where
 two:∀y∈row,row.count y=2
 ok:∀y∈row,okN y
 len:row.length<=60
def Isl.row2(h:Isl row):Row2 row:=⟨h.two,h.ok,by have:=h.len;lia⟩
def spSpans:Sp:=λvs H Q _=>∃(r:ae) (row:Za),vs=[.ref r]/\H r=some (.lst (row.map V.str))/\Row2 row /\
 ∀d kvs H',H d=none->H' d=some (.dK kvs)->Spn H' kvs row (dit row)->Same H H'->Q (.ref d) H'
def Lie4 (a b c e:Int):Prop:=c<=e/\(b=e->a=c)
def lie4  (hx:row.count x=2) (hy:row.count y=2):Lie4 (pl row x).1 (pl row x).2 (pl row y).1 (pl row y).2:=
 ⟨Int.le_of_lt (Ck hy),λe=>by
  by_cases n:x=y
  ·rw[n]
  ·exact absurd e (Fw hx hy n).2.2.2⟩
def Xkz(n:¬(a=c/\b=e))(h:((decide (c<a)&&decide (a<e))==(decide (c<b)&&decide (b<e)))=false):lieT a b c e = "cross" := by
 unfold lieT;rw[Tc n,Td];rw[Cl];rw[<-Bool.decide_and,<-Bool.decide_and] at h;by_cases q1:c<a/\a<e<;>by_cases q2:c<b/\b<e<;>simp[q1,q2] at h ⊢
def Xk0(n:¬(a=c/\b=e))(h:((decide (c<a)&&decide (a<e))==(decide (c<b)&&decide (b<e)))=true)(h2:(decide (c<a)&&decide (a<e))=true):lieT a b c e = "within" := by
 unfold lieT;rw[h2,beq_iff_eq] at h;simp only[O4,decide_eq_true_eq] at h2;have h3:c<b/\b<e:=by simpa using h.symm
 rw[Tc n,Cl,Td h2,Td h3,Tc (by decide),Td rfl]
def Xk1(l:Lie4 a b c e)(n:¬(a=c/\b=e))(h:((decide (c<a)&&decide (a<e))==(decide (c<b)&&decide (b<e)))=true)(h2:(decide (c<a)&&decide (a<e))=false):lieT a b c e=if (decide (a<c)&&decide (c<b))=true then "around" else "apart" := by
 unfold lieT;rw[h2,beq_iff_eq] at h;have h2:¬(c<a/\a<e):=λz=>by rw[Te z.1,Te z.2] at h2;cases h2
 have h3:¬(c<b/\b<e):=λz=>by rw[Te z.1,Te z.2] at h;cases h
 rw[Tc n,Cl,Tc h2,Tc h3,Tc (by decide),Tc (by decide),Cl];obtain⟨l1,l2⟩:=l;have cM:a<c/\c<b->a<e/\e<b:=λz=>by
  have:b≠e:=λq=>n ⟨l2 q,q⟩
  lia
 by_cases q:a<c/\c<b
 ·rw[Td q,Td (cM q),Td rfl,Td (by simp[q])]
 ·rw[Tc q,Tc (by split<;>decide),Tc (by simpa using q)]
def spLieOf:Sp:=λvs H Q _=>∃(p q:ae) (a b c e:Int),vs=[.ref p,.ref q]/\H p=some (.tup [.int a,.int b])/\H q=some (.tup [.int c,.int e])/\Lie4 a b c e/\∀H',Same H H'->Q (.str (lieT a b c e)) H'
def M8    {x y z} (ha:∀Q':VK,Q' (.int x) H->ta Z H Q') (hb:∀Q':VK,Q' (.int y) H->tb Z H Q') (hc:∀Q':VK,Q' (.int z) H->tc Z H Q') (h:Q (.bl (decide (x<y)&&decide (y<z))) H):
  Lk (rI0 λi j=>.bl (decide (i<j))) (rI0 λi j=>.bl (decide (i<j))) ta tb tc Z H Q:=by
 refine ha _ (hb _ ⟨x,y,rfl,rfl,_,rfl,?_⟩);refine A2 (λq=>hc _ ⟨y,z,rfl,rfl,?_⟩) (λq=>?_)
 ·rw[q,Qp] at h;exact h
 ·rw[q,Qe] at h;exact h
def Xdj:Sp:=λvs H Q _=>∃(r:ae) (row:Za),vs=[.ref r]/\H r=some (.lst (row.map V.str))/\Row2 row /\
 ∀l xs H',H l=none->H' l=some (.lst xs)->DAll (hid l H') ((crs row).map prD) xs->Same H H'->Q (.ref l) H'
abbrev NSp:Za:=["name", "row"]
abbrev NLo:Za:=["here", "there", "first", "last"]
abbrev NCr:Za:=["row", "span"]
abbrev NCc:Za:=["one", "other", "span"]
def Spn.snoc     (s:Spn H kvs row ns) (nx:x∉ns) (h:H' l=some (.tup [.int (pl row x).1,.int (pl row x).2])) (k:∀b xs,H b=some (.tup xs)->H' b=some (.tup xs)):
  Spn H' (Be kvs (Sum.inr x) (.ref l)) row (ns++[x]):=by
 have hn:Ay kvs (Sum.inr x:Key)=none:=by
  cases e:Ay kvs (Sum.inr x:Key) with
  | none=>rfl
  | some v=>
   exfalso;have:=Hh e;rw[s.keys] at this;obtain⟨y,hy,e2⟩:=O0.mp this;rw[Qo e2] at hy;exact nx hy
 refine⟨by rw[He _ hn,Oo,Oo,s.keys];rfl,λy hy=>?_⟩;rw[Ga];by_cases e:y=x
 ·subst e;exact⟨l,Td rfl,h⟩
 ·have i4:y∈ns:=by
   rcases Om.mp hy with z | z
   ·exact z
   ·exact absurd (Oe.mp z) e
  obtain⟨l0,h1,h2⟩:=s.val y i4;exact⟨l0,by rw[Tc (λz=>e (Qo z))];exact h1,k _ _ h2⟩
def Spn.get    {x} (s:Spn H kvs row ns) (hd:Rd H d (.dK kvs)) (hx:x∈ns):∃l,DGet H d (.str x) (some (.ref l))/\H l=some (.tup [.int (pl row x).1,.int (pl row x).2]):=by
 obtain⟨l,h1,h2⟩:=s.val x hx;exact⟨l,DGet.rd hd h1,h2⟩
def Spn.at{H}{kvs}(s:Spn H kvs row ns)(i)(hi:i<ns.length):(kvs.map λp=>kV p.1).getD i .non = .str (ns.getD i aj.empty):=by
 have e:(kvs.map λp=>kV p.1)=ns.map V.str:=by
  have:(kvs.map λp=>kV p.1)=(kvs.map (·.1)).map kV:=by rw[Ph];rfl
  rw[this,s.keys,Ph];rfl
 rw[e];exact Bo V.str aj.empty ns hi
def Spn.len   (s:Spn H kvs row ns):kvs.length=ns.length:=by
 have:=congrArg List.length s.keys;simpa using this
def Ds{ns:Za}(hi:i<ns.length):ns.getD i aj.empty∈ns:=by
 have:ns.getD i aj.empty=ns[i]:=by simp[List.getD,hi]
 rw[this];exact O5 hi
def Wh.two'    (w:Wh H kvs row) (hx:x∈row) (h:row.count x=2):∃l,Ay kvs (Sum.inr x:Key)=some (.ref l)/\H l=some (.lst [.int (pl row x).1,.int (pl row x).2]):=by
 obtain⟨l,h1,h2⟩:=w.val x hx;rw[Fv h] at h2;exact⟨l,h1,h2⟩
theorem Ii:∀{ss:Za} {xs:List V},DAll H (ss.map ah.str) xs->xs=ss.map V.str
 | [],xs,h=>by unfold List.map DAll at h;exact h
 | s::ss,xs,h=>by
  rw[O8] at h;unfold DAll at h;obtain⟨v,r,rfl,h1,h2⟩:=h;unfold DAt at h1;rw[h1,Ii h2];rfl
def spInt:Sp:=λvs H Q _=>∃i:Int,vs=[.int i]/\Q (.bl true) H
def Xdk:Sp:=λvs H Q _=>∃(r:ae) (row:Za),vs=[.ref r]/\H r=some (.lst (row.map V.str))/\(∀y∈row,y.length<=20)/\∀H',Same H H'->Q (.str (Ih row)) H'
def Xdl:Sp:=λvs H Q _=>∃(v:V) (ss:Za),vs=[v]/\DAt H (.tuple (ss.map ah.str)) v/\ss.length<=1000/\∀H',Same H H'->Q (.bl true) H'
def Eo (jc:aj) (qO:Bool):Bool:=if jc = "within" then qO else (!decide (jc = "apart") || !qO)
def told (ss:Za):Za:=srt (ddup ss)
def An (row plot:Za):Bool:=decide (plot=told plot)&&plot.all (λx=>decide (x∈row))&&plot.all λx=>(dit row).all λy=>Eo (lieR row x y) (decide (y∈plot))
def trD (t:aj×aj×aj):ah:=.tuple [.str t.1,.str t.2.1,.str t.2.2]
def Cu (row:Za) (x y:aj):Bool:=decide (lieR row x y = "within")||(decide (lieR row x y = "apart")&&decide (ltS x y))
def bars (row:Za):List (aj×aj×aj):=(dit row).flatMap λx=>((dit row).filter (Cu row x)).map λy=>(x,y,lieR row x y)
def C7 (bs:List (aj×aj×aj)) (plot:Za):Bool:=bs.all λt => !(decide (t.1∈plot) && !decide (decide (t.2.1∈plot)=decide (t.2.2 = "within")))
def Ij (row plot:Za):Bool:=decide (plot=(dit row).filter λy=>decide (y∈plot))&&C7 (bars row) plot
def Xk2(h1:a<b)(h2:c<e)(n1:a≠c)(n2:a≠e)(n3:b≠c)(n4:b≠e)(h:lieT a b c e = "apart"):lieT c e a b = "apart" := by
 unfold lieT at h ⊢;rw[Tc (λz=>n1 z.1)] at h;rw[Tc (λz=>n1 z.1.symm)];have e1:=Cl a b c e;have e2:=Cl c e a b;generalize nIn a b [c,e]=p at *;generalize nIn c e [a,b]=q at *;by_cases p1:a<c/\c<b<;>by_cases p2:a<e/\e<b<;>by_cases q1:c<a/\a<e<;>by_cases q2:c<b/\b<e <;>
  (first | rw[Td p1] at e1 | rw[Tc p1] at e1)<;>(first | rw[Td p2] at e1 | rw[Tc p2] at e1) <;>
  (first | rw[Td q1] at e2 | rw[Tc q1] at e2)<;>(first | rw[Td q2] at e2 | rw[Tc q2] at e2)<;>subst e1 e2<;>first
  | (exfalso;lia)
  | rfl
  | (exfalso;revert h;decide +kernel)
def Xk3  (hx:row.count x=2) (hy:row.count y=2) (h:lieR row x y = "apart"):lieR row y x = "apart" := by
 by_cases n:x=y
 ·subst n;exact h
 ·obtain⟨n1,n2,n3,n4⟩:=Fw hx hy n;exact Xk2 (Ck hx) (Ck hy) n1 n2 n3 n4 h
def Ke(row)(x):lieR row x x = "same" := by
 unfold lieR lieT;rw[Td ⟨rfl,rfl⟩]
def Kf{l:Za}(h:l.Pairwise ltS):l.Pairwise leS:=h.imp λh=>Xjx h
def Ep{l:Za}(h:l.Pairwise ltS):l.Nodup:=h.imp λh=>Hv h
def Xdm(h:l.Nodup):(ddup l).Perm l:=Hy (Hr l) h (Hq l)
def Kg(h:l.Pairwise ltS):told l=l:=Ez ((Cs _).trans (Xdm (Ep h))) (Ej _) (Kf h)
def M9(l):(told l).Pairwise ltS:=D4 l
def Xk4  : x∈told l↔x∈l:=Ar
def Na:(plot=(dit row).filter λy=>decide (y∈plot))↔(plot=told plot/\∀x∈plot,x∈row):=by
 constructor
 ·intro h;have hp:plot.Pairwise ltS:=by
   rw[h];exact(D4 row).filter _
  refine⟨(Kg hp).symm,λx hx=>?_⟩;rw[h] at hx;exact Ar.mp (Oi.mp hx).1
 ·rintro ⟨h1,h2⟩;have hp:plot.Pairwise ltS:=by rw[h1];exact M9 plot
  have hq:((dit row).filter λy=>decide (y∈plot)).Pairwise ltS:=(D4 row).filter _;refine Ez (Hy (Ep hp) (Ep hq) λx=>?_) (Kf hp) (Kf hq);rw[Oi,decide_eq_true_eq,Ar];exact⟨λh=>⟨h2 x h,h⟩,λh=>h.2⟩
def Kh  : t∈bars row↔t.1∈row/\t.2.1∈row/\Cu row t.1 t.2.1=true/\t.2.2=lieR row t.1 t.2.1:=by
 unfold bars;rw[List.mem_flatMap];constructor
 ·rintro ⟨x,hx,h⟩;obtain⟨y,hy,rfl⟩:=O0.mp h;obtain⟨h1,h2⟩:=Oi.mp hy;exact⟨Ar.mp hx,Ar.mp h1,h2,rfl⟩
 ·rintro ⟨h1,h2,h3,h4⟩;refine⟨t.1,Ar.mpr h1,O0.mpr ⟨t.2.1,Oi.mpr ⟨Ar.mpr h2,h3⟩,?_⟩⟩;rw[<-h4]
def Nb(h:∀y∈row,row.count y=2):Ij row plot=An row plot:=by
 unfold Ij An;by_cases hp:plot=(dit row).filter λy=>decide (y∈plot)
 ·obtain⟨p1,p2⟩:=Na.mp hp;have e1:plot.all (λx=>decide (x∈row))=true:=O6.mpr λx hx=>Te (p2 x hx);rw[Te hp,Te p1,e1,Qp,Qp];show C7 (bars row) plot=(true&&_);rw[Qp,Qf];unfold C7;rw[O6,O6];constructor
  ·intro hf x hx;rw[O6];intro y hy;have mY:=Ar.mp hy;unfold Eo;by_cases hw:lieR row x y = "within"
   ·rw[Td hw];have:=hf (x,y,lieR row x y) (Kh.mpr ⟨p2 x hx,mY,by unfold Cu;rw[Te hw];rfl,rfl⟩);simpa [hx,hw] using this
   ·rw[Tc hw];by_cases ha:lieR row x y = "apart"
    ·have eW:x≠y:=λz=>by
      rw[z,Ke] at ha
      revert ha
      decide
     have yr:=Xk3 (h x (p2 x hx)) (h y mY) ha;have cM:y∉plot:=λj7=>by
      rcases Mm x y with hle | hle
      ·have aZ:=ltS_of hle eW;have:=hf (x,y,lieR row x y) (Kh.mpr ⟨p2 x hx,mY,by unfold Cu;rw[Te ha,Te aZ,Bool.and_self,S5],rfl⟩);rw[ha] at this;simp[hx,j7] at this
       revert this
       decide
      ·have aZ:=ltS_of hle (λz=>eW z.symm);have:=hf (y,x,lieR row y x) (Kh.mpr ⟨mY,p2 x hx,by unfold Cu;rw[Te yr,Te aZ,Bool.and_self,S5],rfl⟩);rw[yr] at this;simp[hx,j7] at this
       revert this
       decide
     rw[Tf cM];simp
    ·rw[Tf ha];rfl
  ·intro hf t ht;obtain⟨h1,h2,h3,h4⟩:=Kh.mp ht;by_cases hx:t.1∈plot
   ·have:=hf t.1 hx;rw[O6] at this;have:=this t.2.1 (Ar.mpr h2);rw[h4];unfold Eo at this;by_cases hw:lieR row t.1 t.2.1 = "within"
    ·rw[Td hw] at this;simp[hw,Tg this]
    ·rw[Tc hw] at this;have ha:lieR row t.1 t.2.1 = "apart" := by
      unfold Cu at h3;rw[Tf hw,Bool.false_or,O4] at h3;exact Tg h3.1
     rw[ha] at this;have hn:t.2.1∉plot:=by simpa using this
     have eW:¬(("apart" : aj) = "within"):=by decide
     simp[hn,ha,eW]
   ·simp[hx]
 ·rw[Tf hp,Qe];by_cases p1:plot=told plot
  ·have:¬ ∀x∈plot,x∈row:=λp2=>hp (Na.mpr ⟨p1,p2⟩);have e1:plot.all (λx=>decide (x∈row))=false:=by
    rw[Q8];intro z;rw[O6] at z;exact this λx hx=>Tg (z x hx)
   rw[e1,Bool.and_false,Qe]
  ·rw[Tf p1,Qe,Qe]
def Xdn(a b:Za)(h:ah.tuple (a.map ah.str)=ah.tuple (b.map ah.str)):a=b:=by
 injection h with h
 exact(Sq (λx y e=>by injection e)).mp h
def Xdo{ss:Za}(h:∀y∈ss,okN y):Ct (ss.map ah.str)=true:=plainAll_map ah.str ss λx hx=>Xkv (h x hx)
def E6{ss:Za}(h:∀y∈ss,okN y):A8 (.tuple (ss.map ah.str))=true:=Xdo h
def Xk5{ss:Za}(h:∀y∈ss,okN y):A8 (.list (ss.map ah.str))=true:=Xdo h
theorem Gp:∀(ss:Za),ah.depthAll (ss.map ah.str)=0
 | []=>rfl
 | s::ss=>by
  rw[O8];unfold ah.depthAll;rw[Gp ss];rfl
def Xk6(a b:Za):min (ah.depth (.tuple (a.map ah.str))) (ah.depth (.tuple (b.map ah.str)))<=3:=by
 have e:ah.depth (.tuple (a.map ah.str))=ah.depthAll (a.map ah.str)+1:=rfl;rw[e,Gp]
 lia
def Ki{a b:Za}(ha:∀y∈a,okN y)(hb:∀y∈b,okN y):ah.eqv (.tuple (a.map ah.str)) (.tuple (b.map ah.str))=decide (a=b):=
 Xcx (λl:Za=>ah.tuple (l.map ah.str)) Xdn a b (E6 ha) (E6 hb)
def E7  {ss:Za} (h:H p=some (.tup (ss.map V.str))):DAt H (.tuple (ss.map ah.str)) (.ref p):=Ia h (Mw ss)
def spTold (K:KL):Sp:=λvs H Q _=>∃(p:ae) (ss:Za),vs=[.ref p]/\(SqL K H p (ss.map V.str)\/SqT K H p (ss.map V.str))/\ss.length<=60 /\
 ∀l H',H l=none->H' l=some (.tup ((told ss).map V.str))->Same H H'->Q (.ref l) H'
def Xdp{α : Type}(d)(p)(xs:List α):((List.range xs.length).map λi=>p (xs.getD i d)).all id=xs.all p:=by
 have e:(List.range xs.length).map (λi=>p (xs.getD i d))=xs.map p:=by
  have:=C5 d (λ_=>true) xs;rw[Po.mpr (λ_ _=>rfl),Po.mpr (λ_ _=>rfl)] at this
  conv=>rhs;rw[<-this]
  rw[Ph];rfl
 rw[e,List.all_map];rfl
end SH
namespace L2
def Nc        {T id:String} (K:KL) (hK:X.K=K) (pa:AF T) (slot:AG T name id) (uJ:qa (.builtin id)=pure (.type "method_descriptor")) (hm:MtR X id r) (ho:PE X o to) (ha:PA X (e::es) t)
  (dW:dD o name X.env (eval o X.env)=eval o X.env:=by rfl)
  (m8:((bp bJ (aq (e::es) X.env)).all (λx => !x.1)&&(c5 bJ (bE [] X.env)).all (λx=>x.1.isSome)
   && decide ((e::es).length+([]:List cE).length+(if ([]:List cE).isEmpty then 0 else 1)<30))=true:=by rfl)
  (jk:(dm.endLine==bJ.line)=true:=by rfl) (hs:aq (e::es) X.env=(false,eval e X.env)::aq es X.env:=by rfl) (dX:(bp bJ (aq es X.env)).any (·.1)=false:=by rfl):
  PE X (.Call (.Attribute o name dm) (e::es) [] bJ) (tBM K T r to t):=by
 subst hK;exact Jv pa slot uJ hm ho ha dW m8 jk hs dX
def Xk7 (K:KL) (i:Nat):TE:=fun Z H Q=>∃v, Z[i]? = some (some v)/\∃p ss,v = .ref p/\(SqL K H p (ss.map V.str)\/SqT K H p (ss.map V.str))/\ss.length<=60/\∀l H',H l=none->H' l=some (.lst ((dit ss).map V.str))->Same H H'->Q (.ref l) H'
def Xdq  {i:Nat}  (hc:X.calm=true) (CI:Gl X "sorted") (qP:X.mg "sorted" = none) (vk:Gl X "set") (yu:X.mg "set" = none) (hv:PE X (.Name x pos) (Eu i))
  (h1:aq [.Call (.Name "set" p2) [.Name x pos] [] q2] X.env=[(false,eval (.Call (.Name "set" p2) [.Name x pos] [] q2) X.env)]:=by rfl) (h2:aq [.Name x pos] X.env=[(false,eval (.Name x pos) X.env)]:=by rfl):
  PE X (.Call (.Name "sorted" p1) [.Call (.Name "set" p2) [.Name x pos] [] q2] [] q1) (Xk7 X.K i):=by
 intro pins s Z H Q I h;obtain⟨v,CJ,p,ss,ev,hq,hl,k⟩:=h;refine(A0 (J3 hc) CI qP (by rfl) (Aa (Cq (Mj hc) vk yu (by rfl) (Aa hv Ac) (by decide) (by decide) h2) Ac) (by decide) (by decide) h1) pins s Z H Q I ?_;refine⟨v,CJ,p,ss,by rw[ev],hq,by unfold aT;lia,λa na=>?_⟩;have kQ:=Ge ss;refine⟨a,ddup ss,rfl,Ab,by lia,λl ls nl hp hs=>?_⟩;rw[Hw hp hs];have s1:Same H (upd H a (Cj X.prog X.w a (ddup ss))):=(Same.refl H).step na;exact k l _ (s1.free nl) Ab (s1.step nl)
end L2
namespace SH
open L2
def Isl.dlen(h:Isl row):(dit row).length<=14:=by
 obtain⟨n,st,aJ,hn,hs,p⟩:=h.ex;have hp:(dit row).Perm (Bb st aJ n):=Hy (Gf row) (M6 hs hn) λx=>by
  rw[Ar,p.mem_iff,Om,or_self]
 rw[hp.length_eq];unfold Bb;rw[Oc,Py];exact hn
def Xdr:Sp:=λvs H Q _=>∃(b p:ae) (xs:List V) (bs:List (aj×aj×aj)) (ss:Za),vs=[.ref b,.ref p]/\H b=some (.lst xs)/\DAll H (bs.map trD) xs/\H p=some (.tup (ss.map V.str)) /\
 ∀H',Same H H'->Q (.bl (C7 bs ss)) H'
def spBars:Sp:=λvs H Q _=>∃(r:ae) (row:Za),vs=[.ref r]/\H r=some (.lst (row.map V.str))/\Row2 row /\
 ∀l xs H',H l=none->H' l=some (.lst xs)->DAll H' ((bars row).map trD) xs->Same H H'->Q (.ref l) H'
def Xk8   (h:DAt H (trD t) v):∃p,v = .ref p/\H p=some (.tup [.str t.1,.str t.2.1,.str t.2.2]):=by
 obtain⟨p,xs,rfl,hp,hs⟩:=Mx h;have:=Ii (ss:=[t.1,t.2.1,t.2.2]) hs;rw[this] at hp;exact⟨p,rfl,hp⟩
def C8 (row:Za) (x:aj) (ys:Za):List (aj×aj×aj):=(ys.filter (Cu row x)).map λy=>(x,y,lieR row x y)
def Di (row:Za) (i:Nat):List (aj×aj×aj):=((dit row).take i).flatMap λx=>C8 row x (dit row)
def Xk9(row):Di row (dit row).length=bars row:=by
 unfold Di;rw[Pl];rfl
def Xla(row)(hi:i<(dit row).length):Di row (i+1)=Di row i++C8 row ((dit row).getD i aj.empty) (dit row):=by
 unfold Di;rw[Ow hi,Si,Sv,List.flatMap_nil,Ps];simp[List.getD,hi]
def Xlb(row)(x)(hj:j<(dit row).length):C8 row x ((dit row).take (j+1))=C8 row x ((dit row).take j)++(if Cu row x ((dit row).getD j aj.empty)=true then [(x,(dit row).getD j aj.empty,lieR row x ((dit row).getD j aj.empty))] else []):=by
 unfold C8;have e:(dit row).getD j aj.empty=(dit row)[j]:=by simp[List.getD,hj]
 rw[Ow hj,O2,Oo,e,Pp];split<;>rfl
def Xds(row)(x)(ys):(C8 row x ys).length<=ys.length:=by
 unfold C8;rw[Oc];exact Pk ..
def Xlc(row)(i):(Di row i).length<=i * (dit row).length:=by
 unfold Di;rw[List.length_flatMap];have h:∀l:Za,(l.map λx=>(C8 row x (dit row)).length).sum<=l.length * (dit row).length:=by
  intro l
  induction l with
  | nil=>simp
  | cons x l ih=>
   rw[O8,Q0,Pe,Nat.succ_mul];have:=Xds row x (dit row)
   lia
 refine Pb (h _) (Nat.mul_le_mul_right _ ?_);rw[Os]
 lia
abbrev NFl1:Za:=["_law_one", "_law_name"]
abbrev NFi:Za:=["_law_bars_here", "_law_plot", "_law_one", "_law_other", "_law_word_here"]
abbrev NBr:Za:=["_law_row_here", "_law_where_here", "_law_told", "_law_one", "_law_other", "_law_word_here"]
def spBankOf:Sp:=λvs H Q _=>∃(p:ae) (ss:Za) (x:aj),vs=[.ref p,.str x]/\H p=some (.tup (ss.map V.str))/\∀H',Same H H'->Q (.str (if x∈ss then "off" else "home")) H'
def DrawOk.ntup  (d:DrawOk H dr sc):∀q ys,H q=some (.tup ys)->q≠dr:=λq ys e z=>by
 obtain⟨xs,h⟩:=d.at;rw[z,h] at e;cases e
def mid (row:Za) (x:aj):Za:=((row.dropWhile λy=>decide (y≠x)).tail).takeWhile λy=>decide (y≠x)
def Xdt{x y:aj}(h:x∉y::r):decide (y≠x)=true:=by
 have:y≠x:=λe=>h (by rw[e];exact Oj);simpa using this
def drop_split{x:aj}(h:x∉A):(A++x::R).dropWhile (λy=>decide (y≠x))=x::R:=by
 induction A with
 | nil=>rw[Q7,Qw,Tc (by simp)]
 | cons y r ih=>
  rw[List.cons_append,Qw,Td (Xdt h)];exact ih λz=>h (Ol _ z)
def take_split{x:aj}(h:x∉A):(A++x::R).takeWhile (λy=>decide (y≠x))=A:=by
 induction A with
 | nil=>rw[Q7,Qx,Tc (by simp)]
 | cons y r ih=>
  rw[List.cons_append,Qx,Td (Xdt h)];rw[ih λz=>h (Ol _ z)]
def Nd  (hA:x∉A) (hB:x∉B):mid (A++x::(B++x::C)) x=B:=by
 unfold mid;rw[drop_split hA,List.tail_cons,take_split hB]
def split1:∀{row:Za},x∈row->∃A R,row=A++x::R/\x∉A:=by
 intro row
 induction row with
 | nil=>intro h;cases h
 | cons y r ih=>
  intro h;by_cases e:x=y
  ·exact⟨[],r,by rw[e];rfl,by simp⟩
  ·obtain⟨A,R,h1,h2⟩:=ih ((Ot.mp h).resolve_left e);exact⟨y::A,R,by rw[h1];rfl,λz=>(Ot.mp z).elim e h2⟩
def split2{x:aj}(h:row.count x=2):∃A B C,row=A++x::(B++x::C)/\x∉A/\x∉B/\x∉C:=by
 obtain⟨A,R,h1,h2⟩:=split1 (So.mp (by lia:0<row.count x));rw[h1,Q9,Rh.mpr h2,Ro] at h;have hR:R.count x=1:=by lia
 obtain⟨B,C,h3,h4⟩:=split1 (So.mp (by lia:0<R.count x));rw[h3,Q9,Rh.mpr h4,Ro] at hR;exact⟨A,B,C,by rw[h1,h3],h2,h4,Rh.mp (by lia)⟩
theorem Ik(x):∀n l r,A6 x n (l++r)=A6 x n l++A6 x (n+l.length) r
 | n,[],r=>rfl
 | n,y::l,r=>by
  have ih:=Ik x (n+1) l r;have e:n+(y::l).length=n+1+l.length:=by rw[Pe];lia
  rw[e];show (if y=x then (n:Int)::A6 x (n+1) (l++r) else A6 x (n+1) (l++r))=(if y=x then (n:Int)::A6 x (n+1) l else A6 x (n+1) l)++_;rw[ih];split<;>rfl
theorem Kj(x):∀n l,∀i∈A6 x n l,(n:Int)<=i/\i<n+l.length
 | n,[]=>λi h=>by cases h
 | n,y::l=>λi h=>by
  have ih:=Kj x (n+1) l;have h':i=n\/i∈A6 x (n+1) l:=by
   change i∈(if y=x then (n:Int)::A6 x (n+1) l else A6 x (n+1) l) at h;split at h
   ·exact Ot.mp h
   ·exact .inr h
  rw[Pe];rcases h' with rfl | h'
  ·lia
  ·have:=ih i h'
   lia
theorem Kk:∀n l,x∉l->A6 x n l=[]
 | _,[],_=>rfl
 | n,y::l,h=>by
  show (if y=x then (n:Int)::A6 x (n+1) l else A6 x (n+1) l)=[];rw[Tc (λe=>h (by rw[e];exact Oj))];exact Kk _ _ λz=>h (Ol _ z)
def Xld  (hx:row.count x=2) (n:x≠y):nIn (pl row x).1 (pl row x).2 (plc row y)=(mid row x).count y:=by
 obtain⟨A,B,C,e,hA,hB,hC⟩:=split2 hx;have ex:plc row x=[(A.length:Int),((A.length+1+B.length:Nat):Int)]:=by
  unfold plc;rw[e,Ik,Kk _ _ hA];show []++(if x=x then _ else _)=_;rw[Td rfl,Ik,Kk _ _ hB];show []++(_::([]++(if x=x then _ else _)))=_;rw[Td rfl,Kk _ _ hC];simp
 have ey:plc row y=A6 y 0 A++(A6 y (A.length+1) B++A6 y (A.length+1+B.length+1) C):=by
  unfold plc;rw[e,Ik];show _++(if x=y then _ else _)=_;rw[Tc n,Ik];show _++(_++(if x=y then _ else _))=_;rw[Tc n];simp
 rw[Xdi ex,ey];unfold nIn inn;rw[O2,O2];have e1:(A6 y 0 A).filter (λt=>decide ((A.length:Int)<t)&&decide (t<((A.length+1+B.length:Nat):Int)))=[]:=by
  rw[P6];intro i hi;have:=Kj y 0 A i hi;simp;intro
  lia
 have e2:(A6 y (A.length+1) B).filter (λt=>decide ((A.length:Int)<t)&&decide (t<((A.length+1+B.length:Nat):Int)))=A6 y (A.length+1) B:=by
  rw[Po];intro i hi;have:=Kj y (A.length+1) B i hi;simp
  lia
 have e3:(A6 y (A.length+1+B.length+1) C).filter (λt=>decide ((A.length:Int)<t)&&decide (t<((A.length+1+B.length:Nat):Int)))=[]:=by
  rw[P6];intro i hi;have:=Kj y _ C i hi;simp;intro
  lia
 rw[e1,e2,e3,Q7,Ps,Kc];rw[e,Nd hA hB]
def A3 (row:Za) (x y:aj):Prop:=lieR row x y = "cross"
instance (row:Za) (x y:aj):Decidable (A3 row x y):=inferInstanceAs (Decidable (_=_))
def Nf:D7 a b c e false = "cross" ↔ nIn a b [c,e]=1:=by
 unfold D7;have e3:(inn a b [c,e]).length=nIn a b [c,e]:=rfl;have h2:(inn a b [c,e]).length<=2:=M5 a b [c,e];rw[e3] at *;generalize nIn a b [c,e]=q at *
 match q,h2 with
 | 0,_=>
  rw[Tc (by decide)];split<;>decide
 | 1,_=>rw[Td (by decide)];decide
 | 2,_=>rw[Td (by decide)];decide
def Kl  (hx:row.count x=2) (hy:row.count y=2) (n:x≠y):A3 row x y↔(mid row x).count y=1:=by
 unfold A3;rw[Gn hx hy,Tf n,Nf,<-Fv hy,Xld hx n]
def E9  (hx:row.count x=2):¬A3 row x x:=by
 unfold A3 lieR lieT;rw[Td ⟨rfl,rfl⟩];decide
def D8  (hx:row.count x=2) (hy:row.count y=2) (h:A3 row x y):A3 row y x:=by
 by_cases n:x=y
 ·subst n;exact h
 ·obtain⟨n1,n2,n3,n4⟩:=Fw hx hy n;unfold A3 at *;rw[Gn hx hy,Tf n,Nf,Cl] at h;rw[Gn hy hx,Tf (λe=>n e.symm),Nf,Cl];have l1:=Ck hx;have l2:=Ck hy;generalize (pl row x).1=a at *;generalize (pl row x).2=b at *;generalize (pl row y).1=c at *;generalize (pl row y).2=e at *;by_cases p1:a<c/\c<b<;>by_cases p2:a<e/\e<b<;>by_cases q1:c<a/\a<e<;>by_cases q2:c<b/\b<e <;>
  (first | rw[Td p1] at h | rw[Tc p1] at h)<;>(first | rw[Td p2] at h | rw[Tc p2] at h) <;>
  (first | rw[Td q1] | rw[Tc q1])<;>(first | rw[Td q2] | rw[Tc q2])<;>lia
def Xdu  (h:p x=true):∀row:Za,mid (row.filter p) x=(mid row x).filter p:=by
 have tk:∀l:Za,(l.filter p).takeWhile (λy=>decide (y≠x))=(l.takeWhile λy=>decide (y≠x)).filter p:=by
  intro l
  induction l with
  | nil=>rfl
  | cons y r ih=>
   by_cases e:y=x
   ·subst e;rw[Pp,Td h,Qx,Tc (by simp),Qx,Tc (by simp)];rfl
   ·rw[Qx,Td (Te e),Pp,Pp];by_cases q:p y=true
    ·rw[Td q,Td q,Qx,Td (Te e),ih]
    ·rw[Tc q,Tc q,ih]
 intro row;unfold mid;rw[<-tk];congr 1
 induction row with
 | nil=>rfl
 | cons y r ih=>
  by_cases e:y=x
  ·subst e;rw[Pp,Td h,Qw,Tc (by simp),Qw,Tc (by simp)];rfl
  ·rw[Qw,Td (Te e),<-ih,Pp];by_cases q:p y=true
   ·rw[Td q,Qw,Td (Te e)]
   ·rw[Tc q]
def Xle  (hx:row.count x=2) (hy:row.count y=2) (iF:kT.count x=2) (i4:kT.count y=2)
  (e:row.filter (λz=>decide (z=x\/z=y))=kT.filter (λz=>decide (z=x\/z=y))):A3 row x y↔A3 kT x y:=by
 by_cases n:x=y
 ·subst n;exact⟨λh=>absurd h (E9 hx),λh=>absurd h (E9 iF)⟩
 ·rw[Kl hx hy n,Kl iF i4 n];have h1:∀r:Za,(mid r x).count y=(mid (r.filter λz=>decide (z=x\/z=y)) x).count y:=λr=>by
   rw[Xdu (by simp),List.count_filter (by simp)]
  rw[h1 row,h1 kT,e]
def B6 (row:Za):Prop:=∀x∈row,∀y∈row,∀z∈row,A3 row x y->A3 row x z->¬A3 row y z
def Xlf:B6 []:=λx h=>by cases h
def Xdv{x}(h:B6 row)(h2:∀y∈row,row.count y=2)(fE:∀y∈more,more.count y=2)(eE:∀y∈more,y=x\/y∈row)
  (hf:∀p:aj->Bool,p x=false->more.filter p=row.filter p) (hb:∀y∈more,∀z∈more,A3 more x y->A3 more x z->¬A3 more y z):B6 more:=by
 intro a ha b dq c hc k1 k2 k3;have iM:=D8 (fE a ha) (fE b dq) k1;have iK:=D8 (fE a ha) (fE c hc) k2;have CK:=D8 (fE b dq) (fE c hc) k3;by_cases ea:a=x
 ·subst ea;exact hb b dq c hc k1 k2 k3
 by_cases eb:b=x
 ·subst eb;exact hb a ha c hc iM k3 k2
 by_cases ec:c=x
 ·subst ec;exact hb a ha b dq iK CK k1
 have ra:=(eE a ha).resolve_left ea;have rb:=(eE b dq).resolve_left eb;have rc:=(eE c hc).resolve_left ec;have go:∀u v:aj,u≠x->v≠x->u∈row->v∈row->u∈more->v∈more->A3 more u v->A3 row u v:=λu v nu nv hu hv mu mv k=>
  (Xle (fE u mu) (fE v mv) (h2 u hu) (h2 v hv) (hf _ (by
   rw[decide_eq_false_iff_not];rintro (e | e)
   ·exact nu e.symm
   ·exact nv e.symm))).mp k
 exact h a ra b rb c rc (go a b ea eb ra rb ha dq k1) (go a c ea ec ra rc ha hc k2) (go b c eb ec rb rc dq hc k3)
def Xlg    (fb:a<=b) (h:p x=false):(E5 row x a b).filter p=row.filter p:=by
 unfold E5;have e:row=row.take a++((row.drop a).take (b - a)++row.drop b):=by
  have e1:row.drop b=(row.drop a).drop (b - a):=by rw[List.drop_drop];congr 1;lia
  rw[e1,O9,O9]
 conv=>rhs;rw[e]
 simp[O2,Pp,h]
def Xlh  (hx:(A++[x,x]++C).count x=2) (hy:(A++[x,x]++C).count y=2):¬A3 (A++[x,x]++C) x y:=by
 by_cases n:x=y
 ·subst n;exact E9 hx
 ·rw[Kl hx hy n];have hA:x∉A:=by
   rw[<-Rh];rw[Q9,Q9,Ro,Ro] at hx
   lia
  have e:A++[x,x]++C=A++x::([]++x::C):=by simp
  rw[e,Nd hA (by simp)];simp
def Xli{row:Za}   (h:p x=false):(row.take a++[x,x]++row.drop a).filter p=row.filter p:=by
 simp[O2,Pp,h];rw[<-O2,O9]
def Xdw  (hF:F.Nodup) (hx:x∈F) (n:x≠y):(mid (F++F.reverse) x).count y≠1:=by
 obtain⟨A,B,rfl,hA⟩:=split1 hx;have hB:x∉B:=by
  have h1:=(Qa.mp hF).2.1;exact(P7.mp h1).1
 have e:(A++x::B)++(A++x::B).reverse=A++x::((B++B.reverse)++x::A.reverse):=by simp
 rw[e,Nd hA (by simp[hB]),Q9,List.count_reverse]
 lia
def Fa  (hn:ns.Nodup) (c) (h2:∀z∈ns,(ns++(ns.take c).reverse++(ns.drop c).reverse).count z=2)
  (h:(x∈ns.take c/\y∈ns.take c)\/(x∈ns.drop c/\y∈ns.drop c)):¬A3 (ns++(ns.take c).reverse++(ns.drop c).reverse) x y:=by
 have sub:(∀z,z∈ns.take c->z∈ns)/\∀z,z∈ns.drop c->z∈ns:=⟨λz=>Pm,λz=>Pn⟩;have hx:x∈ns:=h.elim (λz=>sub.1 _ z.1) λz=>sub.2 _ z.1;have hy:y∈ns:=h.elim (λz=>sub.1 _ z.2) λz=>sub.2 _ z.2;by_cases n:x=y
 ·subst n;exact E9 (h2 x hx)
 rw[Kl (h2 x hx) (h2 y hy) n];have cM:(mid (ns++(ns.take c).reverse++(ns.drop c).reverse) x).count y=(mid ((ns++(ns.take c).reverse++(ns.drop c).reverse).filter λz=>decide (z=x\/z=y)) x).count y:=by
  rw[Xdu (by simp),List.count_filter (by simp)]
 rw[cM];have dj:∀z,z∈ns.take c->z∈ns.drop c->False:=by
  have:=hn;rw[<-O9 c ns] at this;intro z h1 h2;exact(Qa.mp this).2.2 z h1 z h2 rfl
 have e0:ns.filter (λz=>decide (z=x\/z=y))=(ns.take c).filter (λz=>decide (z=x\/z=y))++(ns.drop c).filter (λz=>decide (z=x\/z=y)):=by
  rw[<-O2,O9]
 rw[O2,O2,e0,List.filter_reverse,List.filter_reverse];rcases h with ⟨h1,h2⟩ | ⟨h1,h2⟩
 ·have e:(ns.drop c).filter (λz=>decide (z=x\/z=y))=[]:=by
   rw[P6];intro z hz q;rcases Tg q with q | q
   ·exact dj x h1 (q ▸ hz)
   ·exact dj y h2 (q ▸ hz)
  rw[e,Ps,List.reverse_nil,Ps];exact Xdw ((hn.sublist (Px ..)).filter _) (Oi.mpr ⟨h1,by simp⟩) n
 ·have e:(ns.take c).filter (λz=>decide (z=x\/z=y))=[]:=by
   rw[P6];intro z hz q;rcases Tg q with q | q
   ·exact dj x (q ▸ hz) h1
   ·exact dj y (q ▸ hz) h2
  rw[e,Q7,List.reverse_nil,Ps];exact Xdw ((hn.sublist (Qh ..)).filter _) (Oi.mpr ⟨h1,by simp⟩) n
def noThree_grid(hn:ns.Nodup)(c)(h2:∀z∈ns,(ns++(ns.take c).reverse++(ns.drop c).reverse).count z=2):B6 (ns++(ns.take c).reverse++(ns.drop c).reverse):=by
 have mem:∀z,z∈ns++(ns.take c).reverse++(ns.drop c).reverse->z∈ns.take c\/z∈ns.drop c:=by
  intro z hz;rw[<-Om,O9];simp only[Om,List.mem_reverse] at hz;rcases hz with (h | h) | h
  ·exact h
  ·exact Pm h
  ·exact Pn h
 intro x hx y hy z hz k1 k2 k3;rcases mem x hx with a | a<;>rcases mem y hy with b | b<;>rcases mem z hz with d | d
 ·exact Fa hn c h2 (.inl ⟨a,b⟩) k1
 ·exact Fa hn c h2 (.inl ⟨a,b⟩) k1
 ·exact Fa hn c h2 (.inl ⟨a,d⟩) k2
 ·exact Fa hn c h2 (.inr ⟨b,d⟩) k3
 ·exact Fa hn c h2 (.inl ⟨b,d⟩) k3
 ·exact Fa hn c h2 (.inr ⟨a,d⟩) k2
 ·exact Fa hn c h2 (.inr ⟨a,b⟩) k1
 ·exact Fa hn c h2 (.inr ⟨a,b⟩) k1
def spBarredN:Sp:=λvs H Q _=>∃(r:ae) (row:Za) (x:aj),vs=[.ref r,.str x]/\H r=some (.lst (row.map V.str))/\row.length<=1000/\(∀y∈row,row.count y=2)/\x∈row /\
 ∀b H',(b=false->∀y∈row,∀z∈row,A3 row x y->A3 row x z->¬A3 row y z)->Same H H'->Q (.bl b) H'
def spRowN:Sp:=λvs H Q _=>∃(dr sc nl:ae) (ns:Za),vs=[.ref dr,.ref nl]/\DrawOk H dr sc/\H nl=some (.lst (ns.map V.str))/\nl≠dr/\ns.Nodup/\ns.length<=14 /\
 ∀(l:ae) (row:Za) (H':Hp),H l=none->H' l=some (.lst (row.map V.str))->row.Perm (ns++ns)->B6 row->DrawOk H' dr sc->But dr H H'->Q (.ref l) H'
def spIslandN:Sp:=λvs H Q _=>∃(dr sc:ae) (m:Nat),vs=[.ref dr,.int m]/\m<=14/\DrawOk H dr sc /\
 ∀(l:ae) (row:Za) (n st:Nat) (aJ:Bool) (H':Hp),H l=none->n<=m->st<26->H' l=some (.lst (row.map V.str))->row.Perm (Bb st aJ n++Bb st aJ n)->B6 row->DrawOk H' dr sc->But dr H H'->Q (.ref l) H'
def Xdx{_:Decidable p}(h:decide p=false):¬p:=Th h
def Wh.pl{H:Hp}{kvs:List (Key×V)}{row:Za}{x:aj}(w:Wh H kvs row)(hx:x∈row)(h:row.count x=2):∃l,Ay kvs (Sum.inr x:Key)=some (.ref l)/\H l=some (.lst [.int (pl row x).1,.int (pl row x).2]):=by
 obtain⟨l,h1,h2⟩:=w.val x hx;rw[Fv h] at h2;exact⟨l,h1,h2⟩
def deg2 {α : Type} (R : α -> α->Bool) (l:List α):Nat:=(l.map λx=>l.countP (R x)).sum
def Xlj{a b:List Nat}(p:a.Perm b):a.sum=b.sum:=by
 induction p with
 | nil=>rfl
 | cons x _ ih=>simp[ih]
 | swap x y l=>simp;lia
 | trans _ _ h1 h2=>exact h1.trans h2
def Xlk{α : Type}{R}{a b:List α}(p:a.Perm b):deg2 R a=deg2 R b:=by
 unfold deg2;have e:(a.map λx=>a.countP (R x))=a.map λx=>b.countP (R x):=P2 λx _=>p.countP_eq _;rw[e];exact Xlj (p.map _)
theorem Fx{α : Type}(f g : α->Nat):∀l:List α,(l.map λx=>f x+g x).sum=(l.map f).sum+(l.map g).sum
 | []=>rfl
 | x::r=>by simp[Fx f g r];lia
theorem Er{α : Type}(p):∀l:List α,(l.map λx=>if p x=true then 1 else 0).sum=l.countP p
 | []=>rfl
 | x::r=>by
  rw[O8,Q0,Er p r,P3]
  lia
theorem Xdy{α : Type}:∀l:List α,(l.map λ_=>0).sum=0
 | []=>rfl
 | _::r=>by rw[O8,Q0,Xdy r]
def mantel{α : Type}[DecidableEq α]{R}:∀(n:Nat) (l:List α),l.length=n->l.Nodup->(∀x∈l,R x x=false)->(∀x∈l,∀y∈l,R x y=R y x) ->
  (∀x∈l,∀y∈l,∀z∈l,R x y=true->R x z=true->R y z=false)->2 * deg2 R l<=n * n:=by
 intro n
 induction n using Nat.strongRecOn with
 | ind n ih=>
  intro l hl nd irr sy yw;by_cases h:∃u∈l,∃v∈l,R u v=true
  ·obtain⟨u,hu,v,hv,kU⟩:=h;have CL:u≠v:=λe=>by subst e;rw[irr u hu] at kU;cases kU
   have p1:l.Perm (u::l.erase u):=List.perm_cons_erase hu;have CM:v∈l.erase u:=(List.mem_erase_of_ne CL.symm).mpr hv;have p2:l.Perm (u::v::(l.erase u).erase v):=p1.trans (List.Perm.cons u (List.perm_cons_erase CM));generalize (l.erase u).erase v=r at p2;have aI:=p2.length_eq;simp only[Pe] at aI;have CN:=p2.nodup_iff.mp nd;have mr:∀x∈r,x∈l:=λx hx=>p2.mem_iff.mpr (Ol _ (Ol _ hx));have yx:r.Nodup:=(P7.mp (P7.mp CN).2).2;have JF:=ih r.length (by lia) r rfl yx (λx hx=>irr x (mr x hx)) (λx hx y hy=>sy x (mr x hx) y (mr y hy)) (λx hx y hy z hz=>yw x (mr x hx) y (mr y hy) z (mr z hz));have e:deg2 R l=2+2 * (r.countP (R u)+r.countP (R v))+deg2 R r:=by
    rw[Xlk p2];unfold deg2;rw[O8,O8,Q0,Q0];have ef:(r.map λx=>(u::v::r).countP (R x))=r.map λx=>((if R u x=true then 1 else 0)+(if R v x=true then 1 else 0))+r.countP (R x):=by
     refine P2 λx hx=>?_;rw[P3,P3,sy x (mr x hx) u hu,sy x (mr x hx) v hv]
     lia
    rw[ef,Fx,Fx,Er,Er,P3,P3,P3,P3,irr u hu,irr v hv,kU,sy v hv u hu,kU];simp
    lia
   have le:r.countP (R u)+r.countP (R v)<=r.length:=by
    rw[<-Er (R u),<-Er (R v),<-Fx];have:∀m:List α,(∀x∈m,x∈l)->(m.map λx=>(if R u x=true then 1 else 0)+(if R v x=true then 1 else 0)).sum<=m.length:=by
     intro m
     induction m with
     | nil=>intro _;exact Og _
     | cons x t CO=>
      intro hm;have h1:=CO λy hy=>hm y (Ol _ hy);have hx:=hm x Oj;have h2:(if R u x=true then 1 else 0)+(if R v x=true then 1 else 0)<=1:=by
       by_cases a:R u x=true
       ·have:=yw u hu v hv x hx kU a;rw[this,Td a];decide
       ·rw[Tc a];split<;>decide
      rw[O8,Q0,Pe]
      lia
    exact this r mr
   have hn:n=r.length+2:=by lia
   rw[e,hn];have:(r.length+2) * (r.length+2)=r.length * r.length+4 * r.length+4:=by
    rw[Nat.add_mul,Nat.mul_add];lia
   rw[this]
   lia
  ·have z:deg2 R l=0:=by
    unfold deg2;have:(l.map λx=>l.countP (R x))=l.map λ_=>0:=by
     refine P2 λx hx=>?_;rw[List.countP_eq_zero];intro y hy q;exact h ⟨x,hx,y,hy,q⟩
    rw[this];exact Xdy l
   rw[z];exact Pg _
theorem Xdz{α β : Type}(p : α -> β->Bool)(m:List β):∀l:List α,(l.map λx=>m.countP (p x)).sum=(m.map λy=>l.countP λx=>p x y).sum
 | []=>by
  show 0=_
  induction m with
  | nil=>rfl
  | cons y r ih=>rw[O8,Q0,<-ih];rfl
 | x::l=>by
  rw[O8,Q0,Xdz p m l];have e:(m.map λy=>(x::l).countP λx=>p x y)=m.map λy=>(if p x y=true then 1 else 0)+l.countP λx=>p x y:=by
   refine P2 λy _=>?_;rw[P3]
   lia
  rw[e,Fx,Er]
def Xll(h2:∀y∈row,row.count y=2):2 * (crs row).length=deg2 (λx y=>decide (A3 row x y)) (dit row):=by
 have e:(crs row).length=((dit row).map λx=>(dit row).countP λy=>decide (ltS x y)&&decide (A3 row x y)).sum:=by
  unfold crs;rw[List.length_flatMap];congr 1;refine P2 λx _=>?_;rw[Oc,Ri];rfl
 have e2:=Xdz (λx y=>decide (ltS x y)&&decide (A3 row x y)) (dit row) (dit row);have e3:2 * (crs row).length=((dit row).map λx=>(dit row).countP λy=>decide (ltS x y)&&decide (A3 row x y)).sum+((dit row).map λy=>(dit row).countP λx=>decide (ltS x y)&&decide (A3 row x y)).sum:=by
  rw[<-e2,e];lia
 rw[e3,<-Fx];unfold deg2;congr 1;refine P2 λx hx=>?_;rw[<-Er,<-Er,<-Er,<-Fx];congr 1;refine P2 λy hy=>?_;have iF:=Ar.mp hx;have i4:=Ar.mp hy;by_cases c:A3 row x y
 ·have c':=D8 (h2 x iF) (h2 y i4) c;have n:x≠y:=λe=>by subst e;exact E9 (h2 x iF) c
  by_cases l:ltS x y
  ·have l':¬ltS y x:=λq=>Ht x (Hu l q);simp[c,c',l,l']
  ·have l':ltS y x:=ltS_of (Mn.mp l) n.symm;simp[c,c',l,l']
 ·have c':¬A3 row y x:=λq=>c (D8 (h2 y i4) (h2 x iF) q);simp[c,c']
def Xd0(h2:∀y∈row,row.count y=2)(h3:B6 row)(hl:(dit row).length<=14):(crs row).length<=49:=by
 have m:=mantel (R:=λx y=>decide (A3 row x y)) (dit row).length (dit row) rfl (Gf row) (λx hx=>Tf (E9 (h2 x (Ar.mp hx))))
  (λx hx y hy=>by
   by_cases c:A3 row x y
   ·rw[Te c,Te (D8 (h2 x (Ar.mp hx)) (h2 y (Ar.mp hy)) c)]
   ·rw[Tf c,Tf λq=>c (D8 (h2 y (Ar.mp hy)) (h2 x (Ar.mp hx)) q)])
  (λx hx y hy z hz a b=>Tf (h3 x (Ar.mp hx) y (Ar.mp hy) z (Ar.mp hz) (Tg a) (Tg b)))
 rw[<-Xll h2] at m;have:(dit row).length * (dit row).length<=14 * 14:=Nat.mul_le_mul hl hl
 lia
def upB (row:Za) (x y:aj):Bool:=decide (y=x)||decide (lieR row x y = "within")
def span (row:Za) (x:aj):Nat:=((pl row x).2 - (pl row x).1).toNat
def Xlm(a b c e):lieT a b c e = "same" \/ lieT a b c e = "cross" \/ lieT a b c e = "within" \/ lieT a b c e = "around" \/ lieT a b c e = "apart" := by
 unfold lieT;split
 ·exact .inl rfl
 ·split
  ·exact .inr (.inl rfl)
  ·split
   ·exact .inr (.inr (.inl rfl))
   ·split
    ·exact .inr (.inr (.inr (.inl rfl)))
    ·exact .inr (.inr (.inr (.inr rfl)))
def Xln  (hx:row.count x=2) (hy:row.count y=2) (n:x≠y) (h:lieR row x y = "around"):span row y<span row x:=by
 obtain⟨n1,n2,n3,n4⟩:=Fw hx hy n;have l1:=Ck hx;have l2:=Ck hy;unfold span;unfold lieR lieT at h;rw[Tc (λz=>n1 z.1)] at h;split at h
 ·exact absurd h (by decide)
 ·split at h
  ·exact absurd h (by decide)
  ·split at h
   ·rename_i q;rw[Cl] at q;generalize (pl row x).1=a at *;generalize (pl row x).2=b at *;generalize (pl row y).1=c at *;generalize (pl row y).2=e at *;by_cases p1:a<c/\c<b
    ·by_cases p2:a<e/\e<b
     ·lia
     ·rw[Td p1,Tc p2] at q;lia
    ·rw[Tc p1] at q;split at q<;>lia
   ·exact absurd h (by decide)
def Xd1  (hx:row.count x=2) (hy:row.count y=2) (h:lieR row x y = "same"):x=y:=by
 refine Classical.byContradiction λn=>?_;obtain⟨n1,n2,n3,n4⟩:=Fw hx hy n;unfold lieR lieT at h;rw[Tc (λz=>n1 z.1)] at h;split at h
 ·exact absurd h (by decide)
 ·split at h
  ·exact absurd h (by decide)
  ·split at h
   ·exact absurd h (by decide)
   ·exact absurd h (by decide)
theorem least{α : Type}(f : α->Nat):∀l:List α,l≠[]->∃a∈l,∀b∈l,f a<=f b
 | [],h=>absurd rfl h
 | [a],_=>⟨a,Oj,λb hb=>by rw[Oe.mp hb];exact Og _⟩
 | a::c::r,_=>by
  obtain⟨m,hm,hl⟩:=least f (c::r) (by simp);by_cases q:f a<=f m
  ·exact⟨a,Oj,λb hb=>by
    rcases Ot.mp hb with e | e
    ·rw[e];exact Og _
    ·exact Pb q (hl b e)⟩
  ·exact⟨m,Ol _ hm,λb hb=>by
    rcases Ot.mp hb with e | e
    ·rw[e];lia
    ·exact hl b e⟩
def cands (row:Za):List (Za):=(dit row).map (λa=>(dit row).filter (upB row a))++(crs row).map λp=>(dit row).filter λy=>upB row p.1 y||upB row p.2 y
def Xd2(h2:∀y∈row,row.count y=2)(h3:B6 row)(eW:S≠[])(hg:An row S=true):S∈cands row:=by
 have tD:=hg;rw[<-Nb h2] at tD;unfold Ij at tD;rw[O4] at tD;have hS:=Tg tD.1;unfold An at hg;rw[O4,O4] at hg;obtain⟨⟨_,vt⟩,en⟩:=hg;have inr:∀x∈S,x∈row:=λx hx=>Tg (O6.mp vt x hx);have al:∀x∈S,∀y∈row,Eo (lieR row x y) (decide (y∈S))=true:=λx hx y hy=>O6.mp (O6.mp en x hx) y (Ar.mpr hy);have within:∀x∈S,∀y∈row,lieR row x y = "within" -> y∈S:=λx hx y hy e=>by
  have:=al x hx y hy;unfold Eo at this;rw[Td e] at this;exact Tg this
 have apart:∀x∈S,∀y∈S,lieR row x y ≠ "apart" := λx hx y hy e=>by
  have:=al x hx y (inr y hy);unfold Eo at this;rw[Tc (by rw[e];decide),e,Te hy] at this;exact absurd this (by decide)
 have jc:∀a∈S,∀c∈S,upB row a c=false->¬span row c<span row a->A3 row a c:=λa ha c hc hu hs=>by
  have tE:=Bool.or_eq_false_iff.mp hu;have n1:c≠a:=Th tE.1;have n2:=Th tE.2;rcases Xlm (pl row a).1 (pl row a).2 (pl row c).1 (pl row c).2 with q | q | q | q | q
  ·exact absurd (Xd1 (h2 a (inr a ha)) (h2 c (inr c hc)) q).symm n1
  ·exact q
  ·exact absurd q n2
  ·exact absurd (Xln (h2 a (inr a ha)) (h2 c (inr c hc)) (λe=>n1 e.symm) q) hs
  ·exact absurd q (apart a ha c hc)
 have mZ:∀a∈S,∀y∈row,upB row a y=true->y∈S:=λa ha y hy q=>by
  rcases Sg.mp q with q | q
  ·rw[Tg q];exact ha
  ·exact within a ha y hy (Tg q)
 obtain⟨a,ha,la⟩:=least (span row) S eW;unfold cands;rw[Om];by_cases bS:∀c∈S,upB row a c=true
 ·left;rw[O0];refine⟨a,Ar.mpr (inr a ha),?_⟩;rw[hS];refine List.filter_congr λy hy=>?_;by_cases q:y∈S
  ·rw[bS y q,Te q]
  ·rw[Tf q,Q8];exact λz=>q (mZ a ha y (Ar.mp hy) z)
 ·right;have vw:S.filter (λc => !upB row a c)≠[]:=λe=>bS λc hc=>by
   rw[P6] at e;have:=e c hc;simpa using this
  obtain⟨b,hb,lb⟩:=least (span row) _ vw;obtain⟨kW,vy⟩:=Oi.mp hb;have vy:upB row a b=false:=by simpa using vy
  have cab:=jc a ha b kW vy (by have:=la b kW;lia);have all2:∀c∈S,upB row a c=true\/upB row b c=true:=λc hc=>by
   refine Classical.byContradiction λz=>?_;have z1:upB row a c=false:=by
    cases q:upB row a c with
    | false=>rfl
    | true=>exact absurd (.inl q) z
   have z2:upB row b c=false:=by
    cases q:upB row b c with
    | false=>rfl
    | true=>exact absurd (.inr q) z
   have k1:=jc a ha c hc z1 (by have:=la c hc;lia);have k2:=jc b kW c hc z2 (by have:=lb c (Oi.mpr ⟨hc,by simp[z1]⟩);lia);exact h3 a (inr a ha) b (inr b kW) c (inr c hc) cab k1 k2
  have cM:∀p q:aj,p∈S->q∈S->(∀c∈S,upB row p c=true\/upB row q c=true)->(dit row).filter (λy=>upB row p y||upB row q y)=S:=λp q hp hq h=>by
   conv=>rhs;rw[hS]
   refine List.filter_congr λy hy=>?_;by_cases m:y∈S
   ·rw[Te m,Sg];exact h y m
   ·rw[Tf m,Bool.or_eq_false_iff];exact⟨Q8.mpr λz=>m (mZ p hp y (Ar.mp hy) z),Q8.mpr λz=>m (mZ q hq y (Ar.mp hy) z)⟩
  have CP:a≠b:=λe=>by subst e;exact E9 (h2 a (inr a ha)) cab
  have mk:∀p q:aj,p∈S->q∈S->ltS p q->A3 row p q->(p,q)∈crs row:=λp q hp hq l c=>by
   unfold crs;rw[List.mem_flatMap];refine⟨p,Ar.mpr (inr p hp),O0.mpr ⟨q,Oi.mpr ⟨Ar.mpr (inr q hq),?_⟩,rfl⟩⟩;rw[O4];exact⟨Te l,Te c⟩
  rw[O0];by_cases l:ltS a b
  ·exact⟨(a,b),mk a b ha kW l cab,cM a b ha kW all2⟩
  ·have l':=ltS_of (Mn.mp l) CP.symm;exact⟨(b,a),mk b a kW ha l' (D8 (h2 a (inr a ha)) (h2 b (inr b kW)) cab),cM b a kW ha λc hc=>(all2 c hc).symm⟩
theorem Il{α : Type}[DecidableEq α]:∀{a b:List α},a.Nodup->(∀x∈a,x∈b)->a.length<=b.length
 | [],_,_,_=>Pg _
 | x::r,b,h,s=>by
  obtain⟨h1,h2⟩:=P7.mp h;have hx:=s x Oj;have:=Il (a:=r) (b:=b.erase x) h2 λy hy=>(List.mem_erase_of_ne (show y≠x from λe=>h1 (e ▸ hy))).mpr (s y (Ol _ hy));rw[List.length_erase_of_mem hx] at this;have:0<b.length:=List.length_pos_of_mem hx;rw[Pe]
  lia
def Ng{L:List (Za)}(h2:∀y∈row,row.count y=2)(h3:B6 row)(hl:(dit row).length<=14)(nd:L.Nodup)(h:∀S∈L,S≠[]/\An row S=true):L.length<64:=by
 have l1:=Il nd λS hS=>Xd2 h2 h3 (h S hS).1 (h S hS).2;have l2:=Xd0 h2 h3 hl;unfold cands at l1;rw[Op,Oc,Oc] at l1
 lia
end SH
namespace L2
open PySem.W (KasT kas_asc kas_desc kas_rev kas_tail3 kas_descPart kas_count kas_place kas_bin kas_sort kas_ask kas_item kat_run kat_snds kat_kind kat_lt KatLex kat_cons kat_go kat_yes kat_no kat_one kat_nil KatTups)
def KAll {α : Type} (n:Nat) (P : α->Prop):KasT α->Prop
 | .ret a=>P a
 | .ask i j k=>i<n/\j<n/\∀b,KAll n P (k b)
theorem KAll.bind{α β : Type}{P}{Q : β->Prop}{f}(hf:∀a,P a->KAll n Q (f a)):∀{t:KasT α},KAll n P t->KAll n Q (t.bind f)
 | .ret a,h=>hf a h
 | .ask i j k,h=>⟨h.1,h.2.1,λb=>KAll.bind hf (h.2.2 b)⟩
def Gd (n:Nat) (p:Array Nat):Prop:=p.Perm (List.toArray (List.range n))
def Gd.lt{n}{p}(h:Gd n p)(hn:0<n)(i):p.getD i 0<n:=by
 by_cases hi:i<p.size
 ·have e:p.getD i 0=p[i]:=by simp[Array.getD,hi]
  rw[e];have:p[i]∈p:=Array.getElem_mem hi;have:=h.mem_iff.mp this;simpa using this
 ·have e:p.getD i 0=0:=by simp[Array.getD,hi]
  rw[e];exact hn
def Gd.rev  (h:Gd n p) (i j):Gd n (kas_rev p i j):=(yy p i j _).trans h
theorem Nh  (hn:0<n) (h:Gd n p):∀f m,KAll n (λ_=>True) (kas_asc p f m)
 | 0,_=>trivial
 | f+1,m=>⟨h.lt hn _,h.lt hn _,λb=>by
  cases b with
  | true=>exact trivial
  | false=>exact Nh hn h f (m+1)⟩
theorem Km(hn:0<n):∀f (p:Array Nat) m q,Gd n p->KAll n (λr=>Gd n r.1) (kas_desc f p m q)
 | 0,p,m,q,h=>h
 | f+1,p,m,q,h=>⟨h.lt hn _,h.lt hn _,λb=>by
  cases b with
  | true=>
   show KAll n _ (if q > 0 then kas_desc f (kas_rev p (m - (q+1)) m) (m+1) 0 else kas_desc f p (m+1) 0);split
   ·exact Km hn f _ _ _ (h.rev _ _)
   ·exact Km hn f _ _ _ h
  | false=>
   refine⟨h.lt hn _,h.lt hn _,λd=>?_⟩;cases d with
   | true=>exact h
   | false=>exact Km hn f _ _ _ h⟩
def Xd3  (hn:0<n) (h:Gd n p) (m r):KAll n (λr=>Gd n r.2) (kas_tail3 m r p):=by
 unfold kas_tail3;refine KAll.bind (P:=λ_=>True) (Q:=λ(r:Nat×Array Nat)=>Gd n r.2) (λa _=>?_) (Nh hn (h.rev 0 m) _ _);exact h.rev 0 m
def Xd4  (hn:0<n) (h:Gd n p) (m r):KAll n (λr=>Gd n r.2) (kas_descPart m r p):=by
 refine KAll.bind (P:=λr=>Gd n r.1) (λa ha=>?_) (Km hn _ _ _ _ h);split
 ·exact Xd3 hn (ha.rev _ _) _ _
 ·exact Xd3 hn ha _ _
def Xlo  (hn:0<n) (h:Gd n p) (r):KAll n (λr=>Gd n r.2) (kas_count r p):=by
 refine KAll.bind (P:=λ_=>True) (λa _=>?_) (Nh hn h _ _);split
 ·exact h
 ·split
  ·refine⟨h.lt hn _,h.lt hn _,λb=>?_⟩;cases b with
   | true=>exact h
   | false=>exact Xd4 hn (h.rev _ _) _ _
  ·exact Xd4 hn h _ _
theorem Ni  (hn:0<n) (h:Gd n p) (k):∀f l r,KAll n (λ_=>True) (kas_place p k f l r)
 | 0,_,_=>trivial
 | f+1,l,r=>by
  show KAll n _ (if l ≥ r then _ else _);split
  ·exact trivial
  ·refine⟨h.lt hn _,h.lt hn _,λb=>?_⟩;cases b with
   | true=>exact Ni hn h k f _ _
   | false=>exact Ni hn h k f _ _
theorem Xd5(hn:0<n):∀f (p:Array Nat) k,Gd n p->KAll n (Gd n) (kas_bin f p k)
 | 0,p,_,h=>h
 | f+1,p,k,h=>KAll.bind (P:=λ_=>True) (λl _=>Xd5 hn f _ _ ((j8 p k _).trans h)) (Ni hn h k _ _ _)
def Kn{n}(hn:0<n):KAll n (Gd n) (kas_sort n):=by
 refine KAll.bind (P:=λr=>Gd n r.2) (λa ha=>?_) (Xlo hn (Sj _) n);split
 ·exact Xd5 hn _ _ _ ha
 ·exact ha
section
variable {prog:ao}{w:av}{A:aw}{E:Zb}{s:af}
def Xd6 (h:am) (v:aa):Prop:=∃a o xs n ss,v = .ref a/\h.get? a=some o/\o.cls = .type "tuple" /\ o.data = .seq xs n/\aD xs.toList ss/\ss≠[]
theorem Xd7:∀{vs:List aa},(∀v∈vs,Xd6 s.heap v)->∃fs,KatTups s.heap vs fs/\fs.length=vs.length/\∀f∈fs,∃x t,f = .str x t
 | [],_=>⟨[],KatTups.nil,rfl,λ_ h=>by cases h⟩
 | v::vs,h=>by
  obtain⟨fs,h1,h2,h3⟩:=Xd7 (vs:=vs) λu hu=>h u (Ol _ hu);obtain⟨a,o,xs,n,ss,rfl,g1,g2,g3,g4,g5⟩:=h v Oj;obtain⟨f,x,t,hf,rfl⟩:∃f x t,xs[0]? = some f/\f = .str x t:=by
   have e:xs[0]? = xs.toList[0]?:=by simp
   rw[e];generalize xs.toList=l at g4;cases g4 with
   | nil=>exact absurd rfl g5
   | cons x t r=>exact⟨_,x,t,rfl,rfl⟩
  exact⟨_::fs,KatTups.cons g1 g2 g3 hf h1,by simp[h2],λf hf=>by
   rcases Ot.mp hf with e | e
   ·exact⟨x,t,e⟩
   ·exact h3 f e⟩
end
section
variable {X:Cx}
end
section
variable {X:Cx}
def Xlp:B1 X (.builtin "sorted") (λxs H Q=>∃(a:ae) (ks:Za),xs=[.ref a]/\H a=some (.tup (ks.map V.str))/\ks.length<64/\∀l,H l=none->Q (.ref l) (upd H l (.lst ((srt ks).map V.str)))):=by
 intro pins s Z H xs us Q I r h;obtain⟨a,ks,rfl,ha,cN,q⟩:=h;obtain⟨u,rfl,rx⟩:=Co r;cases rx;obtain⟨ax,r2,p2,_⟩:=I.tuple (SqT.of (K:=X.K) ha);obtain⟨o,ho,hc,n,hd⟩:=id p2;have hl:ax.length=ks.length:=by
  have:=r2.length;rw[Oc] at this;exact this.symm
 refine Mi cN (λR k=>wpAny_collect_seq a (.inr rfl) ho hc hd (λh' kk=>k _ _ ks kk rfl rfl (by simpa using Hs r2) (Rp _)) (by rw[Oh,hl,Tb];lia)) λs1 s' vs ls e k1 o1 g1 k2 o2 g2 he st p so=>?_;refine Ml I cN k1 o1 g1 k2 o2 g2 he st p λl hl=>?_;rw[Hw p so];exact q l hl
def Xlq(hu:X.A.units+4<bj):OpR X (aF .NotIn) (λx y H Q=>∃d ds,DAt H d x/\DAt H (.list ds) y/\d.canLay0=true/\ah.canLayAll0 ds=true/\d.depth<=3/\Q (.bl (!ds.any λe=>ah.eqv e d)) H):=by
 intro pins s Z H x y v u Q I rx ry h;obtain⟨d,ds,h1,h2,c1,c2,hd,q⟩:=h;obtain⟨as,ra⟩:=C6 I d x v h1 rx;obtain⟨bs,rb⟩:=C6 I (.list ds) y u h2 ry;exact SeqAt.notIn_list_reads rb ra c2 c1 (by lia) ⟨.bl _,H,I,rfl,q⟩
end
end L2
namespace SH
open L2
def tupD (ss:Za):ah:=.tuple (ss.map ah.str)
def Plts (row:Za) (H:Hp) (ps:List ae):Prop:=∀p∈ps,∃ss:Za,H p=some (.tup (ss.map V.str))/\An row ss=true
def Es(h:An row ss=true):(∀x∈ss,x∈row)/\ss.Pairwise ltS:=by
 unfold An at h;rw[O4,O4] at h;refine⟨λx hx=>Tg (O6.mp h.1.2 x hx),?_⟩;rw[Tg h.1.1];exact M9 ss
def Nj(h:An row ss=true):ss.length<=(dit row).length:=
 Il (Ep (Es h).2) λx hx=>Ar.mpr ((Es h).1 x hx)
def Gq(row):An row []=true:=by
 unfold An;rw[Kg .nil];rfl
def Xlr  (h2:∀y∈row,row.count y=2) (h:An row ss=true) (hx:x∈row) (n:x∉ss) (hf:C7 (bars row) (srt (ss++[x]))=true):An row (srt (ss++[x]))=true:=by
 rw[<-Nb h2];unfold Ij;rw[hf,Bool.and_true];obtain⟨hr,hl⟩:=Es h;have nd:(ss++[x]).Nodup:=by
  rw[Qa];exact⟨Ep hl,by simp,λa ha b hb e=>n (by rw[Oe.mp hb] at e;exact e ▸ ha)⟩
 refine Te (Na.mpr ⟨?_,λy hy=>?_⟩)
 ·unfold told;have e1:srt (ddup (srt (ss++[x])))=srt (srt (ss++[x])):=Xjy (Xdm ((Cs _).nodup_iff.mpr nd));have e2:srt (srt (ss++[x]))=srt (ss++[x]):=Ez (Cs _) (Ej _) (Ej _);exact(e1.trans e2).symm
 ·rcases Om.mp (Hx.mp hy) with q | q
  ·exact hr y q
  ·rw[Oe.mp q];exact hx
def Xls  : srt (ss++[x])≠[]:=λe=>by
 have:x∈srt (ss++[x]):=Hx.mpr (by simp);rw[e] at this;cases this
structure Fresh (row:Za) (H:Hp) (f:ae) (xs:List V) (Ts:List (Za)):Prop where
 at':H f=some (.lst xs)
 all:DAll H (Ts.map tupD) xs
 nd:Ts.Nodup
 ok:∀T∈Ts,T≠[]/\An row T=true
def Fresh.same    {xs} (h:Fresh row H f xs Ts) (s:Same H H'):Fresh row H' f xs Ts:=⟨s _ _ h.at',DAll.same s _ _ h.all,h.nd,h.ok⟩
abbrev NPl:Za:=["_law_row_here", "_law_bars_here", "_law_names_here", "_law_told", "_law_layer", "_law_k", "_law_fresh", "_law_plot", "_law_name", "_law_over"]
end SH
namespace L2
def Tups (H:Hp) (ps:List ae) (Ts:List (Za)):Prop:=ps.length=Ts.length/\∀i,i<ps.length->H (ps.getD i 0)=some (.tup ((Ts.getD i []).map V.str))
def Tups.same   (h:Tups H ps Ts) (s:Same H H'):Tups H' ps Ts:=⟨h.1,λi hi=>s _ _ (h.2 i hi)⟩
def Tups.nil(H):Tups H [] []:=⟨rfl,λi hi=>absurd hi (P8 _)⟩
def Tups.cons{H}{p}{T}{ps}{Ts}(h:H p=some (.tup (T.map V.str)))(r:Tups H ps Ts):Tups H (p::ps) (T::Ts):=by
 refine⟨by simp[r.1],λi hi=>?_⟩;cases i with
 | zero=>exact h
 | succ i=>exact r.2 i (by simpa using hi)
theorem Tups.app:∀{ps qs:List ae} {Ts Us:List (Za)},Tups H ps Ts->Tups H qs Us->Tups H (ps++qs) (Ts++Us)
 | [],qs,Ts,Us,h,g=>by
  have:Ts=[]:=Pd.mp h.1.symm;rw[this];exact g
 | p::ps,qs,[],Us,h,g=>by have:=h.1;simp at this
 | p::ps,qs,T::Ts,Us,h,g=>by
  have r:Tups H ps Ts:=⟨by simpa using h.1,λi hi=>by simpa using h.2 (i+1) (by simpa using hi)⟩;exact Tups.cons (h.2 0 (by simp)) (Tups.app r g)
def Tups.mem   (h:Tups H ps Ts) {p} (hp:p∈ps):∃T∈Ts,H p=some (.tup (T.map V.str)):=by
 obtain⟨i,hi,rfl⟩:=Pi.mp hp;have cb:i<Ts.length:=by rw[<-h.1];exact hi
 have:=h.2 i hi;have e1:ps.getD i 0=ps[i]:=by simp[List.getD,hi]
 have e2:Ts.getD i []=Ts[i]:=by simp[List.getD,cb]
 rw[e1,e2] at this;exact⟨_,O5 cb,this⟩
open PySem.W (KasT kas_asc kas_desc kas_rev kas_tail3 kas_descPart kas_count kas_place kas_bin kas_sort kas_ask kas_item kat_run kat_snds kat_kind kat_lt KatLex kat_cons kat_go kat_yes kat_no kat_one kat_nil KatTups)
def Bf {α : Type} (lt:Nat->Nat->Bool):KasT α -> α
 | .ret a=>a
 | .ask i j k=>Bf lt (k (lt i j))
theorem Gr{α β : Type}{lt}{f : α->KasT β}:∀t:KasT α,Bf lt (t.bind f)=Bf lt (f (Bf lt t))
 | .ret _=>rfl
 | .ask i j k=>Gr (k (lt i j))
theorem Nk{α : Type}{n}{lt}{P}{G}  (hc:∀i j C,i<n->j<n->C (lt i j) s->tF i j C s):
  ∀{t:KasT α},KAll n P t->G (Bf lt t) s->t.kasWp tF G s
 | .ret a,_,h=>h
 | .ask i j k,h,g=>hc i j _ h.1 h.2.1 (Nk hc (h.2.2 _) g)
theorem KAll.run{α : Type}  {P}:∀{t:KasT α},KAll n P t->P (Bf lt t)
 | .ret a,h=>h
 | .ask i j k,h=>KAll.run (t:=k (lt i j)) (h.2.2 (lt i j))
structure Lin (n:Nat) (lt:Nat->Nat->Bool):Prop where
 irr:∀i,lt i i=false
 tr:∀i j k,lt i j=true->lt j k=true->lt i k=true
 tot:∀i j,i<n->j<n->i≠j->lt i j=true\/lt j i=true
section
variable {n:Nat}{lt:Nat->Nat->Bool}{p:Array Nat}
def B7 (lt:Nat->Nat->Bool) (p:Array Nat) (m:Nat):Prop:=∀i j,i<j->j<m->lt (p.getD i 0) (p.getD j 0)=true
def Xd8 (lt:Nat->Nat->Bool) (p:Array Nat) (m:Nat):Prop:=∀i j,i<j->j<m->lt (p.getD j 0) (p.getD i 0)=true
def Gd.size(h:Gd n p):p.size=n:=by
 have:=h.size_eq;simpa using this
def Gd.inj  (h:Gd n p) (hi:i<n) (hj:j<n) (ne:i≠j):p.getD i 0≠p.getD j 0:=λe=>by
 have sz:=h.size;have nd:p.toList.Nodup:=by
  have q:p.toList.Perm (List.range n):=by simpa using h.toList
  exact q.nodup_iff.mpr List.nodup_range
 have cb:i<p.toList.length:=by rw[O1,sz];exact hi
 have jN:j<p.toList.length:=by rw[O1,sz];exact hj
 have e1:p.getD i 0=p.toList[i]:=by simp[Array.getD,sz,hi]
 have e2:p.getD j 0=p.toList[j]:=by simp[Array.getD,sz,hj]
 rw[e1,e2] at e;exact ne ((Rq nd).mp e)
def Lin.flip(L:Lin n lt)(h:Gd n p)(hi:i<n)(hj:j<n)(ne:i≠j)(e:lt (p.getD i 0) (p.getD j 0)=false):lt (p.getD j 0) (p.getD i 0)=true:=by
 have hn:0<n:=by lia
 rcases L.tot _ _ (h.lt hn i) (h.lt hn j) (h.inj hi hj ne) with z | z
 ·rw[z] at e;cases e
 ·exact z
theorem Nl(L:Lin n lt)(h:Gd n p):∀f m,1<=m->m+f<=n->B7 lt p m->m<=Bf lt (kas_asc p f m)/\Bf lt (kas_asc p f m)<=m+f/\B7 lt p (Bf lt (kas_asc p f m)) /\
  (Bf lt (kas_asc p f m)<m+f->lt (p.getD (Bf lt (kas_asc p f m)) 0) (p.getD (Bf lt (kas_asc p f m) - 1) 0)=true)
 | 0,m,_,_,so=>⟨Og _,Og _,so,λz=>absurd z (by show ¬m<m+0;lia)⟩
 | f+1,m,h1,hn,so=>by
  have e:Bf lt (kas_asc p (f+1) m)=Bf lt (if lt (p.getD m 0) (p.getD (m - 1) 0)=true then KasT.ret m else kas_asc p f (m+1)):=rfl;cases c:lt (p.getD m 0) (p.getD (m - 1) 0) with
  | true=>
   rw[e,c,Td rfl];exact⟨Og _,by show m<=_;lia,so,λ_=>c⟩
  | false=>
   rw[e,c,Tc (by decide)];have c':=L.flip h (by lia) (by lia) (by lia) c;obtain⟨a1,a2,a3,a4⟩:=Nl L h f (m+1) (by lia) (by lia) (λi j hJ hj=>by
    by_cases vz:j<m
    ·exact so i j hJ vz
    ·have:j=m:=by lia
     subst this;by_cases hi:i=j - 1
     ·subst hi;exact c'
     ·exact L.tr _ _ _ (so i (j - 1) (by lia) (by lia)) c')
   exact⟨by lia,by lia,a3,λz=>a4 (by lia)⟩
theorem Xd9(L:Lin n lt)(h:Gd n p):∀f m,1<=m->m+f<=n->Xd8 lt p m->∃r,Bf lt (kas_desc f p m 0)=(p,r,0)/\m<=r/\r<=m+f/\Xd8 lt p r
 | 0,m,_,_,so=>⟨m,rfl,Og _,Og _,so⟩
 | f+1,m,h1,hn,so=>by
  have e:Bf lt (kas_desc (f+1) p m 0)=Bf lt (if lt (p.getD m 0) (p.getD (m - 1) 0)=true then (if 0 > 0 then kas_desc f (kas_rev p (m - (0+1)) m) (m+1) 0 else kas_desc f p (m+1) 0)
   else .ask (p.getD (m - 1) 0) (p.getD m 0) λd=>if d=true then .ret (p,m,0) else kas_desc f p (m+1) (0+1)):=rfl
  cases c:lt (p.getD m 0) (p.getD (m - 1) 0) with
  | true=>
   rw[e,c,Td rfl,Tc (by lia)];obtain⟨r,a1,a2,a3,a4⟩:=Xd9 L h f (m+1) (by lia) (by lia) (λi j hJ hj=>by
    by_cases vz:j<m
    ·exact so i j hJ vz
    ·have:j=m:=by lia
     subst this;by_cases hi:i=j - 1
     ·subst hi;exact c
     ·exact L.tr _ _ _ c (so i (j - 1) (by lia) (by lia)))
   exact⟨r,a1,by lia,by lia,a4⟩
  | false=>
   rw[e,c,Tc (by decide)];have c':=L.flip h (by lia) (by lia) (by lia) c;refine⟨m,?_,Og _,by lia,so⟩;show Bf lt (if lt (p.getD (m - 1) 0) (p.getD m 0)=true then _ else _)=_;rw[Td c'];rfl
def Im(p:Array Nat)(i):p.getD i 0=(p[i]?).getD 0:=by simp
def Xea  (hm:m<=p.size) (hi:i<m):(kas_rev p 0 m).getD i 0=p.getD (m - 1 - i) 0:=by
 rw[Im,Im];show ((mirror p 0 m ((m - 0) / 2))[i]?).getD 0=_;rw[jT hm,Td (by lia)];congr 2
 lia
def Xlt(L:Lin n lt)(h:Gd n p)(hn:1<=n):∃m p',Bf lt (kas_count n p)=(m,p')/\1<=m/\m<=n/\Gd n p'/\B7 lt p' m:=by
 have sz:=h.size;unfold kas_count;rw[Gr];obtain⟨a1,a2,a3,a4⟩:=Nl (lt:=lt) L h (n - 1) 1 (Og _) (by lia) (λi j hJ hj=>by lia);generalize Bf lt (kas_asc p (n - 1) 1)=r at *;by_cases e1:(r==n)=true
 ·rw[Td e1];exact⟨r,p,rfl,a1,by lia,h,a3⟩
 ·rw[Tc e1];have rn:r≠n:=λz=>e1 (by rw[z];exact beq_self_eq_true _);by_cases e2:r > 1
  ·rw[Td e2];refine⟨r,p,?_,a1,by lia,h,a3⟩;show Bf lt (if lt (p.getD 0 0) (p.getD (r - 1) 0)=true then _ else _)=_;rw[Td (a3 0 (r - 1) (by lia) (by lia))];rfl
  ·rw[Tc e2];obtain rfl:r=1:=by lia
   have a4:=a4 (by lia);unfold kas_descPart;rw[Gr];obtain⟨r2,b1,b2,b3,b4⟩:=Xd9 (lt:=lt) L h (n - (1+1)) (1+1) (by lia) (by lia) (λi j hJ hj=>by
    have:j=1:=by lia
    subst this;have:i=0:=by lia
    subst this;exact a4)
   rw[b1];dsimp only;rw[Tc (by lia)];unfold kas_tail3;rw[Gr];have yz:=h.rev 0 r2;obtain⟨c1,c2,c3,_⟩:=Nl (lt:=lt) L yz (n - r2) r2 (by lia) (by lia) (λi j hJ hj=>by
    rw[Xea (by lia) (by lia),Xea (by lia) (by lia)];exact b4 _ _ (by lia) (by lia))
   exact⟨_,_,rfl,by lia,by lia,yz,c3⟩
theorem Nm(L:Lin n lt)(h:Gd n p){k}(hk:k<n)(so:B7 lt p k):∀f l r,r - l<=f->l<=r->r<=k->(∀i,i<l->lt (p.getD i 0) (p.getD k 0)=true)->(∀i,r<=i->i<k->lt (p.getD k 0) (p.getD i 0)=true) ->
  Bf lt (kas_place p k f l r)<=k/\(∀i,i<Bf lt (kas_place p k f l r)->lt (p.getD i 0) (p.getD k 0)=true)/\(∀i,Bf lt (kas_place p k f l r)<=i->i<k->lt (p.getD k 0) (p.getD i 0)=true)
 | 0,l,r,hf,CQ,hr,hl,hg=>by
  have:l=r:=by lia
  subst this;exact⟨hr,hl,hg⟩
 | f+1,l,r,hf,CQ,hr,hl,hg=>by
  unfold kas_place;by_cases e:l ≥ r
  ·rw[Td e];have:l=r:=by lia
   subst this;exact⟨hr,hl,hg⟩
  ·rw[Tc e];have e2:Bf lt (KasT.ask (p.getD k 0) (p.getD ((l+r) / 2) 0) λc=>if c=true then kas_place p k f l ((l+r) / 2) else kas_place p k f ((l+r) / 2+1) r)=Bf lt (if lt (p.getD k 0) (p.getD ((l+r) / 2) 0)=true then kas_place p k f l ((l+r) / 2) else kas_place p k f ((l+r) / 2+1) r):=rfl;rw[e2];have qP:l<=(l+r) / 2:=by lia
   have yu:(l+r) / 2<r:=by lia
   generalize (l+r) / 2=md at *;cases c:lt (p.getD k 0) (p.getD md 0) with
   | true=>
    rw[Td rfl];refine Nm L h hk so f l md (by lia) (by lia) (by lia) hl λi h1 h2=>?_;by_cases e3:i=md
    ·rw[e3];exact c
    ·exact L.tr _ _ _ c (so md i (by lia) h2)
   | false=>
    rw[Tc (by decide)];have c':=L.flip h hk (by lia) (by lia) c;refine Nm L h hk so f (md+1) r (by lia) (by lia) hr (λi hi=>?_) hg;by_cases e3:i=md
    ·rw[e3];exact c'
    ·exact L.tr _ _ _ (so i md (by lia) (by lia)) c'
def Xeb(hk:k<p.size)(hl:l<=k)(i):(bubble p k (k - l)).getD i 0=if i=l then p.getD k 0 else if l<i/\i<=k then p.getD (i - 1) 0 else p.getD i 0:=by
 simp only[Im];rw[oR hk _ (by lia),show k - (k - l)=l by lia];by_cases h1:i=l
 ·rw[Td h1,Td h1]
 ·rw[Tc h1,Tc h1];by_cases h2:l<i/\i<=k
  ·rw[Td h2,Td h2]
  ·rw[Tc h2,Tc h2]
theorem Xec(L:Lin n lt):∀f (p:Array Nat) k,Gd n p->k+f<=n->B7 lt p k->B7 lt (Bf lt (kas_bin f p k)) (k+f)
 | 0,p,k,_,_,so=>so
 | f+1,p,k,h,hk,so=>by
  have sz:=h.size;have e:Bf lt (kas_bin (f+1) p k)=Bf lt ((kas_place p k k 0 k).bind λl=>kas_bin f (bubble p k (k - l)) (k+1)):=rfl;rw[e,Gr];obtain⟨a1,a2,a3⟩:=Nm (lt:=lt) L h (k:=k) (by lia) so k 0 k (by lia) (by lia) (Og _) (λi z=>absurd z (P8 _)) (λi h1 h2=>by lia);generalize Bf lt (kas_place p k k 0 k)=l at *;have:=Xec L f (bubble p k (k - l)) (k+1) ((j8 p k _).trans h) (by lia) (λi j hJ hj=>by
   rw[Xeb (by lia) a1,Xeb (by lia) a1];by_cases i1:i=l
   ·rw[Td i1,Tc (by lia),Td (by lia)];exact a3 _ (by lia) (by lia)
   ·rw[Tc i1];by_cases i2:l<i/\i<=k
    ·rw[Td i2,Tc (by lia),Td (by lia)];exact so _ _ (by lia) (by lia)
    ·rw[Tc i2];by_cases j1:j=l
     ·rw[Td j1];exact a2 i (by lia)
     ·rw[Tc j1];by_cases j2:l<j/\j<=k
      ·rw[Td j2];by_cases z:i=j - 1
       ·lia
       ·exact so _ _ (by lia) (by lia)
      ·rw[Tc j2];exact so _ _ hJ (by lia))
  rw[show k+(f+1)=k+1+f by lia];exact this
def Xed(L:Lin n lt)(hn:0<n):B7 lt (Bf lt (kas_sort n)) n:=by
 unfold kas_sort;rw[Gr];obtain⟨m,p',e,h1,h2,h3,h4⟩:=Xlt (lt:=lt) L (p:=List.toArray (List.range n)) (Sj _) hn;rw[e];dsimp only;by_cases hm:m<n
 ·rw[Td hm];have:=Xec L (n - max m 1) p' (max m 1) h3 (by lia) (by rw[show max m 1=m by lia];exact h4)
  rwa [show max m 1+(n - max m 1)=n by lia] at this
 ·rw[Tc hm];have:m=n:=by lia
  subst this;exact h4
end
open PySem.W (KasT kas_asc kas_desc kas_rev kas_tail3 kas_descPart kas_count kas_place kas_bin kas_sort kas_ask kas_item kat_run kat_snds kat_kind kat_lt KatLex kat_cons kat_go kat_yes kat_no kat_one kat_nil KatTups)
def ltL:Za->Za->Bool
 | [],[]=>false
 | [],_::_=>true
 | _::_,[]=>false
 | x::a,y::b=>if x=y then ltL a b else decide (ltS x y)
theorem Io:∀a,ltL a a=false
 | []=>rfl
 | x::a=>by
  show (if x=x then ltL a a else _)=false;rw[Td rfl];exact Io a
theorem Ko:∀a b c,ltL a b=true->ltL b c=true->ltL a c=true
 | [],[],c,h,_=>by cases h
 | [],_::_,[],_,g=>by cases g
 | [],_::_,_::_,_,_=>rfl
 | _::_,[],_,h,_=>by cases h
 | _::_,_::_,[],_,g=>by cases g
 | x::a,y::b,z::c,h,g=>by
  have h:(if x=y then ltL a b else decide (ltS x y))=true:=h;have g:(if y=z then ltL b c else decide (ltS y z))=true:=g;show (if x=z then ltL a c else decide (ltS x z))=true;by_cases e1:x=y
  ·subst e1;rw[Td rfl] at h;by_cases e2:x=z
   ·rw[Td e2] at g ⊢;exact Ko a b c h g
   ·rw[Tc e2] at g ⊢;exact g
  ·rw[Tc e1] at h;by_cases e2:y=z
   ·subst e2;rw[Tc e1];exact h
   ·rw[Tc e2] at g;have q:=Hu (Tg h) (Tg g);rw[Tc (Hv q)];exact Te q
theorem Nn:∀a b,a≠b->ltL a b=true\/ltL b a=true
 | [],[],n=>absurd rfl n
 | [],_::_,_=>.inl rfl
 | _::_,[],_=>.inr rfl
 | x::a,y::b,n=>by
  show (if x=y then ltL a b else decide (ltS x y))=true\/(if y=x then ltL b a else decide (ltS y x))=true;by_cases e:x=y
  ·subst e;rw[Td rfl,Td rfl];exact Nn a b λz=>n (by rw[z])
  ·rw[Tc e,Tc (λz=>e z.symm)];rcases Mm x y with z | z
   ·exact .inl (Te (ltS_of z e))
   ·exact .inr (Te (ltS_of z λq=>e q.symm))
def Xlu{Ts:List (Za)}(nd:Ts.Nodup):Lin Ts.length λi j=>ltL (Ts.getD i []) (Ts.getD j []) where
 irr i:=Io _
 tr i j k:=Ko _ _ _
 tot i j hi hj ne:=Nn _ _ λe=>ne (by
  have e1:Ts.getD i []=Ts[i]:=by simp[List.getD,hi]
  have e2:Ts.getD j []=Ts[j]:=by simp[List.getD,hj]
  rw[e1,e2] at e;exact(Rq nd).mp e)
def Xlv{Ts}(g:Gd Ts.length p)(so:B7 (λi j=>ltL (Ts.getD i []) (Ts.getD j [])) p Ts.length):
  (p.toList.map λi=>Ts.getD i []).Perm Ts/\(p.toList.map λi=>Ts.getD i []).Pairwise λa b=>ltL a b=true:=by
 constructor
 ·have e:((List.range Ts.length).map λi=>Ts.getD i [])=Ts:=by
   refine Rr (by simp) λi h1 h2=>?_;simp[Qz,List.getElem_range,List.getD,h2]
  have q:p.toList.Perm (List.range Ts.length):=by
   have:=g.toList;simpa using this
  have:=q.map λi=>Ts.getD i [];rw[e] at this;exact this
 ·rw[Qi];intro i j hi hj hJ;have sz:=g.size;rw[Oc,O1,sz] at hi hj;have:=so i j hJ hj;rw[Qz,Qz];have e1:p.getD i 0=p.toList[i]'(by rw[O1,sz];exact hi):=by simp[Array.getD,sz,hi]
  have e2:p.getD j 0=p.toList[j]'(by rw[O1,sz];exact hj):=by simp[Array.getD,sz,hj]
  rw[e1,e2] at this;exact this
section
variable {prog:ao}{w:av}{A:aw}{E:Zb}{s:af}
theorem Xee  : ∀{us vs:List aa} {as bs:Za} (i:Nat),aD us as->aD vs bs->fin=decide (as.length<bs.length)->C (ltL as bs) s->KatLex prog w A b fin C (us.zip vs) i s
 | _,_,_,_,_,.nil,.nil,hf,h=>kat_nil (by rw[hf];exact h)
 | _,_,_,_,_,.nil,.cons _ _ _,hf,h=>kat_nil (by rw[hf];exact h)
 | _,_,_,_,_,.cons _ _ _,.nil,hf,h=>kat_nil (by rw[hf];exact h)
 | _,_,_,_,i,.cons x t r,.cons y u r',hf,h=>by
  have h:C (if x=y then ltL _ _ else decide (ltS x y)) s:=h;refine kat_cons (eqBool_str ?_);refine kat_go (λe=>kat_yes (Xee (i+1) r r' ?_ ?_)) (λe=>kat_no ?_)
  ·rw[hf];simp
  ·rw[Td (by simpa using e)] at h;exact h
  ·have e:¬x=y:=by simpa using e
   rw[Tc e] at h;cases (b&&i==0) with
   | true=>exact oneLt_str h
   | false=>exact kat_one _ _ (PyProof.Rows.lt_str h)
def Dt (h:am) (v:aa) (ss:Za):Prop:=∃a o xs n,v = .ref a/\h.get? a=some o/\o.cls = .type "tuple" /\ o.data = .seq xs n/\aD xs.toList ss
def Xlw    (hx:Dt s.heap x as) (hy:Dt s.heap y bs) (h:C (ltL as bs) s):ai (ag prog w) A (qQ (tuples' b) x y) C E s:=by
 obtain⟨a,o,xs,n,rfl,h1,_,h2,h3⟩:=hx;obtain⟨b,o',ys,n',rfl,g1,_,g2,g3⟩:=hy;refine kat_lt h1 h2 g1 g2 (Xee 0 h3 g3 ?_ h);have e1:=h3.length;have e2:=g3.length;rw[O1] at e1 e2;rw[e1,e2]
def Dt.toS   (t:Dt h v ss) (n:ss≠[]):Xd6 h v:=by
 obtain⟨a,o,xs,k,e,h1,h2,h3,h4⟩:=t;exact⟨a,o,xs,k,ss,e,h1,h2,h3,h4,n⟩
def Dt.kept{h h'}  (t:Dt h v ss)(k:∀b o,o.cls = .type "tuple" -> h.get? b=some o->h'.get? b=some o):Dt h' v ss:=by
 obtain⟨a,o,xs,n,e,h1,h2,h3,h4⟩:=t;exact⟨a,o,xs,n,e,k a o h2 h1,h2,h3,h4⟩
def Xef (h:am) (vs:List aa) (Ts:List (Za)):Prop:=vs.length=Ts.length/\∀i,i<vs.length->Dt h (vs.getD i .none) (Ts.getD i [])
def Xlx     (ho:s.heap.get? a=some (ar "list" vs.toArray n)) (hv:Xef s.heap vs Ts) (eW:[]∉Ts) (nd:Ts.Nodup) (cN:vs.length<64)
  (h:∀p:Array Nat,Gd vs.length p->B7 (λi j=>ltL (Ts.getD i []) (Ts.getD j [])) p vs.length->P (.done (.ret .none)) {s with heap:=BQ s.heap a vs (p.toList.map λi=>vs.getD i aa.none).toArray}):
  ai (ag prog w) A (au.«list.sort» ⟨[.ref a],[]⟩) P E s:=by
 rw[list_sort_plain];have ha:a<s.heap.objs.size:=Ti ho;have L:=Xlu nd;rw[<-hv.1] at L;have mem:∀i,i<vs.length->Ts.getD i []∈Ts:=λi hi=>by
  have cb:i<Ts.length:=by rw[<-hv.1];exact hi
  have:Ts.getD i []=Ts[i]:=by simp[List.getD,cb]
  rw[this];exact O5 cb
 refine S7 (iN ho rfl ?_);refine S7 (bM ho rfl ?_);obtain⟨e1,qR⟩:∃e1,(s.heap.update a (aM.mapSeq λ_ => #[])).get? a=some (ar "list" #[] e1):=⟨_,ft ho (λ_ => #[])⟩;refine S7 (cX qR rfl ?_);refine S7 (fW ?_);refine S7 (cG ?_);refine a8 ?_;have oV:(((s.heap.update a (aM.mapSeq λ_ => #[])).push (ar "tuple" vs.toArray 0)).push (ar "list" #[] 0)).get? a=some (ar "list" #[] e1):=by
  rw[am.get?_push_ne _ _ _ (by rw[bO,am.size_update];exact Oq (P9 ha)),am.get?_push_ne _ _ _ (by rw[am.size_update];exact Oq ha)];exact qR
 have jd:∀b o,o.cls = .type "tuple" -> s.heap.get? b=some o->(((s.heap.update a (aM.mapSeq λ_ => #[])).push (ar "tuple" vs.toArray 0)).push (ar "list" #[] 0)).get? b=some o:=λb o g2 g1=>by
  have eW:b≠a:=λe=>by
   rw[e,ho] at g1;have e1:=Ov g1;rw[<-e1] at g2;exact absurd (show aa.type "list" = aa.type "tuple" from g2) (by decide)
  exact Tj _ (Tj _ (by rw[am.get?_update_ne _ _ _ _ eW];exact g1))
 have vA:∀i,i<vs.length->Dt (((s.heap.update a (aM.mapSeq λ_ => #[])).push (ar "tuple" vs.toArray 0)).push (ar "list" #[] 0)) (vs.getD i .none) (Ts.getD i []):=λi hi=>(hv.2 i hi).kept jd;show ai (ag prog w) A _ P E {s with heap:=((s.heap.update a (aM.mapSeq λ_ => #[])).push (ar "tuple" vs.toArray 0)).push (ar "list" #[] 0)};dsimp only;have hsz:vs.toArray.size=vs.length:=by simp
 by_cases h2:vs.toArray.size<2
 ·rw[Td h2,Td h2];refine S7 (S8 ?_);rw[StateT.run_pure];refine S7 (S8 ?_);dsimp only;refine S7 (cX oV rfl ?_);refine S7 (bM oV rfl ?_ (hsz2:=by rw[Array.size_map];show (pairsOf vs).size<=_;rw[pairsOf_size,Tb];lia));simp only[bne_self_eq_false,Pz,if_false];have q:=h (List.toArray (List.range vs.length)) (Sj _) (λi j hJ hj=>by lia);refine S8 ?_;have e:(bh (bd.mk' general' (vs.toArray.zip vs.toArray) #[] 7 none)).map (·.2)=(((List.range vs.length).toArray).toList.map λi=>vs.getD i aa.none).toArray:=by
   show ((vs.toArray.zip vs.toArray).map (·.2))=_;apply Array.toList_inj.mp;simp only[Array.toList_map,List.zip_toArray];rw[List.map_snd_zip (Og _)];refine Rr (by simp) λi h1 h2=>?_;simp[List.getD,h1]
  rw[e];exact q
 ·rw[Tc h2,Tc h2];obtain⟨fs,t1,t2,t3⟩:=Xd7 (s:={s with heap:=((s.heap.update a (aM.mapSeq λ_ => #[])).push (ar "tuple" vs.toArray 0)).push (ar "list" #[] 0)}) (vs:=vs) λv hm=>by
   obtain⟨i,hi,rfl⟩:=Pi.mp hm;have e:vs.getD i .none=vs[i]:=by simp[List.getD,hi]
   have:=vA i hi;rw[e] at this;exact Dt.toS this λz=>eW (z ▸ mem i hi)
  refine S7 (kat_kind (T:=.type "str") t1 (by lia) (λv hm=>?_) (by decide) ?_)
  ·obtain⟨x,t,rfl⟩:=t3 v hm;exact .now
  have eb:((aa.type "str") != aa.type "tuple")=true:=by decide
  rw[eb];refine S7 (aG (kat_run (κ:=tuples' true) (ks:=vs) (vs:=vs) (Q:=λay s'=>s' = {s with heap:=((s.heap.update a (aM.mapSeq λ_ => #[])).push (ar "tuple" vs.toArray 0)).push (ar "list" #[] 0)}/\bv ay=none/\∃p,Gd vs.length p/\B7 (λi j=>ltL (Ts.getD i []) (Ts.getD j [])) p vs.length/\(bh ay).map (·.2)=(p.toList.map λi=>vs.getD i aa.none).toArray)
   (G:=λp s'=>s' = {s with heap:=((s.heap.update a (aM.mapSeq λ_ => #[])).push (ar "tuple" vs.toArray 0)).push (ar "list" #[] 0)}/\Gd vs.length p/\B7 (λi j=>ltL (Ts.getD i []) (Ts.getD j [])) p vs.length) rfl (by lia) cN (λp ay s' a1 a2 a3 a4=>⟨a4.1,a3,p,a4.2.1,a4.2.2,kat_snds rfl a2⟩) ?_) ?_ λ_ _ e=>e)
  ·refine Nk (n:=vs.length) (lt:=λi j=>ltL (Ts.getD i []) (Ts.getD j [])) (λi j C hi hj hC=>?_) (Kn (n:=vs.length) (by lia)) ⟨rfl,(Kn (n:=vs.length) (by lia)).run,Xed L (by lia)⟩;show ai _ _ (qQ (tuples' true) (vs.getD i aa.none) (vs.getD j aa.none)) C _ _;exact Xlw (vA i hi) (vA j hj) hC
  rintro ⟨⟨⟩,ay⟩ s' ⟨rfl,hf,p,hp,so,ea⟩;dsimp only;refine S7 (cX oV rfl ?_);have gH:=hp.size;refine S7 (bM oV rfl ?_ (hsz2:=by
   rw[ea,Oh,Oc,O1,gH,Tb];lia))
  rw[hf];simp only[bne_self_eq_false,Pz,if_false];rw[ea];exact S8 (h p hp so)
def Xly   {Ts} (hl:s.heap.IsList l vs.toArray) (hv:Xef s.heap vs Ts) (eW:[]∉Ts) (nd:Ts.Nodup) (cN:vs.length<64)
  (h:∀p:Array Nat,Gd vs.length p->B7 (λi j=>ltL (Ts.getD i []) (Ts.getD j [])) p vs.length->Q (.ref (s.heap.objs.size+1)) {s with heap:=JG s.heap vs (p.toList.map λi=>vs.getD i aa.none).toArray}):
  ai (ag prog w) A (call (.builtin "sorted") [.ref l]) Q E s:=by
 refine Calls.call_function_entry j0 iI iJ (vd _) ?_;unfold au.«sorted»;refine S7 (m:=kM "sorted" 1 1 _) (S8 ?_);refine S7 (vB hl ?_);refine S7 (cG ?_);have hsz:((s.heap.push (ar "list" #[] 0)).update s.heap.objs.size (aM.mapSeq (· ++ vs.toArray))).objs.size=s.heap.objs.size+1:=by
  rw[am.size_update,bO]
 have kh:(((s.heap.push (ar "list" #[] 0)).update s.heap.objs.size (aM.mapSeq (· ++ vs.toArray))).push (ar "list" vs.toArray 0)).get? (s.heap.objs.size+1)=some (ar "list" vs.toArray 0):=by
  rw[<-hsz];exact am.get?_push_size _ rfl
 have keep:∀b o,s.heap.get? b=some o->(((s.heap.push (ar "list" #[] 0)).update s.heap.objs.size (aM.mapSeq (· ++ vs.toArray))).push (ar "list" vs.toArray 0)).get? b=some o:=λb o q=>by
  have aZ:b<s.heap.objs.size:=Ti q;rw[am.get?_push_ne _ _ _ (by rw[hsz];exact Oq (P9 aZ)),am.get?_update_ne _ _ _ _ (Oq aZ),am.get?_push_ne _ _ _ (Oq aZ)];exact q
 show ai _ _ _ _ _ {s with heap:=((s.heap.push (ar "list" #[] 0)).update s.heap.objs.size (aM.mapSeq (· ++ vs.toArray))).push (ar "list" vs.toArray 0)};rw[hsz];refine S7 (a8 (aX gc ⟨_,kh,rfl⟩ fq (Xlx kh ⟨hv.1,λi hi=>(hv.2 i hi).kept λb o _=>keep b o⟩ eW nd cN λp a1 a2=>⟨_,rfl,?_⟩) (qI _)));exact S8 ⟨_,rfl,h p a1 a2⟩
end
section
variable {X:Cx}
def Xlz:B1 X (.builtin "sorted") (λxs H Q=>∃(a:ae) (ps:List ae) (Ts:List (Za)),xs=[.ref a]/\H a=some (.lst (ps.map V.ref))/\Tups H ps Ts/\[]∉Ts/\Ts.Nodup/\ps.length<64 /\
  ∀l ni eu,H l=none->Tups H ni eu->eu.Perm Ts->(eu.Pairwise λa b=>ltL a b=true)->Q (.ref l) (upd H l (.lst (ni.map V.ref)))):=by
 intro pins s Z H xs us Q I r h;obtain⟨a,ps,Ts,rfl,ha,ht,eW,nd,cN,q⟩:=h;obtain⟨u,rfl,rx⟩:=Co r;cases rx;obtain⟨ax,rv,pl,hz⟩:=I.list (SqL.of ha);have nk:ax=ps.map aa.ref:=by
  clear ht cN q hz pl ha
  induction ps generalizing ax with
  | nil=>cases rv;rfl
  | cons p t ih=>
   cases rv with
   | cons r t'=>cases r;rw[ih _ t'];rfl
 subst nk;have qS:∀i,i<ps.length->(ps.map aa.ref).getD i .none = .ref (ps.getD i 0):=λi hi=>by simp[List.getD,hi]
 refine Xly pl.isList (Ts:=Ts) ⟨by rw[Oc];exact ht.1,λi hi=>?_⟩ eW nd (by rw[Oc];exact cN) λp h1 h2=>?_
 ·rw[Oc] at hi;obtain⟨fh,r2,p2,_⟩:=I.tuple (SqT.of (K:=X.K) (ht.2 i hi));obtain⟨o,ho,hc,n,hd⟩:=id p2;exact⟨ps.getD i 0,o,fh.toArray,n,qS i hi,ho,hc,hd,by simpa using Hs r2⟩
 ·rw[Oc] at h1 h2;obtain⟨e,he⟩:=sortedAll_at s.heap (ps.map aa.ref) (p.toList.map λi=>(ps.map aa.ref).getD i aa.none).toArray;have hf:H (s.heap.objs.size+1)=none:=I.hok.fresh (Qb _);have gH:=h1.size;have lt:∀i∈p.toList,i<ps.length:=λi hi=>by
   have q:p.toList.Perm (List.range ps.length):=by
    have:=h1.toList;simpa using this
   simpa using q.mem_iff.mp hi
  have eo:(p.toList.map λi=>(ps.map aa.ref).getD i aa.none)=(p.toList.map λi=>ps.getD i 0).map aa.ref:=by
   rw[Ph];exact P2 λi hi=>qS i (lt i hi)
  have bi:=Xlv (Ts:=Ts) (by rw[<-ht.1];exact h1) (by rw[<-ht.1];exact h2);refine⟨.ref (s.heap.objs.size+1),_,I.laid (t':=s.toks) (h':=JG s.heap (ps.map aa.ref) _) (o:=.lst ((p.toList.map λi=>ps.getD i 0).map V.ref)) (λb ob q=>sortedAll_old q) (Qb _) ?_,rfl,q _ _ (p.toList.map λi=>Ts.getD i []) hf ⟨by simp,λi hi=>?_⟩ bi.1 bi.2⟩
  ·refine⟨by rw[Oc,Oc,O1,gH,Tb];lia,_,e,?_,he⟩;show Vals ((p.toList.map λi=>ps.getD i 0).map V.ref) (p.toList.map λi=>(ps.map aa.ref).getD i aa.none);rw[eo];generalize (p.toList.map λi=>ps.getD i 0)=z
   induction z with
   | nil=>exact .nil
   | cons p t ih=>exact .cons rfl ih
  ·rw[Oc] at hi;have g1:(p.toList.map λi=>ps.getD i 0).getD i 0=ps.getD (p.toList[i]) 0:=by rw[Oy,Ou,Od hi];rfl
   have g2:(p.toList.map λi=>Ts.getD i []).getD i []=Ts.getD (p.toList[i]) []:=by rw[Oy,Ou,Od hi];rfl
   rw[g1,g2];exact ht.2 _ (lt _ (O5 hi))
end
def Xl0(x y)(xs ys):ltL (x::xs) (y::ys)=if x=y then ltL xs ys else decide (ltS x y):=rfl
def Xl1:ltL [] []=false:=rfl
def Xl2(y)(ys):ltL [] (y::ys)=true:=rfl
def Xl3(x)(xs):ltL (x::xs) []=false:=rfl
def Xl4(A)(s)(a)(t)(c)(u):∃e,SeqAt.EqAt A s (.str a t) (.str c u) e/\(e=true↔a=c):=
 ⟨(a==c),SeqAt.EqAt.str_str a t c u,by simp⟩
def Xl5(A)(s)(a)(t)(c)(u)(prog)(w)(E)(Q)(h:Q (.bool (decide (ltS a c))) s):
  ai (ag prog w) A (richCompare .Lt (.str a t) (.str c u)) Q E s:=
 (PyProof.Rows.lt_str h:ai (ag prog w) A (aF .Lt (.str a t) (.str c u)) Q E s)
section
open PySem.SeqAt
open PySem.AutoSeq1 (wpAny_loadPart')
open PySem.MeetsSeq PySem.MeetsSeq2 PySem.MeetsSeq3
def Xl6(l b)(aP cA)(n n2)(dd jL)(sl lH)(ns ms)(hi:aD aP.toList ns)(hj:aD cA.toList ms):
  Meets (au.«tuple.__lt__» ⟨[.ref l,.ref b],[]⟩)
   (λ_ R s=>s.heap.get? l=some {cls:=.type "tuple",dict:=dd,data:=.seq aP n,slots:=sl}/\s.heap.get? b=some {cls:=.type "tuple",dict:=jL,data:=.seq cA n2,slots:=lH} /\
    R (.ok (.ret (.bool (ltL ns ms)))) s):=
 .of_wp λprog w A R s h=>by
  obtain⟨hp,g,d,tk,os⟩:=s;obtain⟨hl,hb,h⟩:=h;have f2:=AutoSeq1.sub_tuple_tuple;have z1:aP.size=ns.length:=by rw[<-hi.length];simp
  have z2:cA.size=ms.length:=by rw[<-hj.length];simp
  wp_walk using wpAny_loadPart' hl,wpAny_loadPart' hb,wpAny_forIn_list _ (λrest b s'=>b.1=none/\s'=⟨hp,g,d,tk,os⟩/\∃(vs ws:List aa) (oW oX:Za),rest=vs.zip ws /\
   aD vs oW/\aD ws oX/\oW.length+cA.size=oX.length+aP.size/\R (.ok (.ret (.bool (ltL oW oX)))) ⟨hp,g,d,tk,os⟩) _
  case turn=>
   rintro ⟨y,x⟩ rest b s' ⟨dq,rfl,vs,ws,oW,oX,hz,vC,tG,aI,hR⟩;cases vC with
   | nil=>rw[List.zip_nil_left] at hz;cases hz
   | cons a t vD=>
    cases tG with
    | nil=>rw[List.zip_nil_right] at hz;cases hz
    | cons c u vE=>
     rw[List.zip_cons_cons] at hz;injection hz with CS qT
     injection CS with hy hx
     subst hy hx;rw[Xl0] at hR;simp only[Pe] at aI;obtain⟨e,he,qU⟩:=Xl4 A.in1 ⟨hp,g,d,tk,os⟩ a t c u;refine S7 (he prog w _ _ ?_);cases e with
     | true=>
      rw[Td (qU.mp rfl)] at hR
      wp_walk
      exact⟨rfl,rfl,_,_,_,_,qT,vD,vE,by lia,hR⟩
     | false=>
      rw[Tc (λq=>absurd (qU.mpr q) Oz)] at hR;have CT:=Xl5 A.in1 ⟨hp,g,d,tk,os⟩ a t c u prog w
      wp_walk using CT
      exact⟨_,rfl,by simpa using hR⟩
  case fin=>
   rintro ⟨b1,b2⟩ s' ⟨dq,rfl,vs,ws,oW,oX,hz,vC,tG,aI,hR⟩;simp only at dq;subst dq;have hv:ltL oW oX=decide (aP.size<cA.size):=by
    cases vC with
    | nil=>
     cases tG with
     | nil=>
      simp only[Qu] at aI;rw[Xl1];exact(Tf (by lia)).symm
     | cons c u hw=>
      simp only[Qu,Pe] at aI;rw[Xl2];exact(Te (by lia)).symm
    | cons a t hv=>
     cases tG with
     | nil=>
      simp only[Qu,Pe] at aI;rw[Xl3];exact(Tf (by lia)).symm
     | cons c u hw=>
      rw[List.zip_cons_cons] at hz;cases hz
   rw[hv] at hR
   wp_walk
   exact⟨_,rfl,by simpa [au.Tuple.tupleCompareSizes] using hR⟩
  case h=>
   exact⟨rfl,rfl,aP.toList,cA.toList,ns,ms,rfl,hi,hj,by lia,h⟩
end
open PySem.W (KasT kas_sort kas_ask kas_item kat_run kat_snds kat_kind kat_lt KatLex kat_cons kat_go kat_yes kat_no kat_one kat_nil KatTups)
section
variable {prog:ao}{w:av}{A:aw}{E:Zb}{s:af}
def Xl7    (hl:fG s.heap l aP) (hb:fG s.heap b cA) (hi:aD aP.toList ns) (hj:aD cA.toList ms)
  (hu:A.units<bj) (h:Q (.bool (ltL ns ms)) s):ai (ag prog w) A (aF .Lt (.ref l) (.ref b)) Q E s:=by
 obtain⟨⟨cls,dd,data,sl⟩,ho,hc,n,hd⟩:=id hl;obtain⟨⟨pY,jL,data2,lH⟩,iY,eK,n2,cU⟩:=id hb;simp only at hc hd eK cU;subst hc hd eK cU;exact richCompare_meets_room (op:=.Lt) ⟨_,ho,rfl⟩ ⟨_,iY,rfl⟩ PySem.F.slot_tuple_lt PySem.F.entry_tuple_lt (PySem.F.args_tuple_lt_2 _ _) (Xl6 l b aP cA n n2 dd jL sl lH ns ms hi hj)
  ⟨ho,iY,show aa.bool (ltL ns ms)≠aa.notImplemented/\Q (.bool (ltL ns ms)) s from ⟨(λx=>nomatch x),h⟩⟩ hu
def Cv (n:Nat) (a:Za) (m:Nat) (b:Za):Bool:=if n=m then ltL a b else decide (n<m)
def Xeg  (h:aD vs ss):ItemsAre (A7 prog w) (ss.map Sum.inr) vs:=by
 induction h with
 | nil=>exact .nil
 | cons x t r ih=>exact .cons (show Ed (.inr x) (.str x t)=true by simp[Ed,aa.isStrOf]) ih
def Ip (h:am) (v:aa) (n:Nat) (ss:Za):Prop:=∃a o xs k t u,v = .ref a/\h.get? a=some o/\o.cls = .type "tuple" /\ o.data = .seq xs k/\xs.toList=[.int n t,u]/\Dt h u ss
def Xl8    (hu:A.units<bj) (hx:Ip s.heap x n as) (hy:Ip s.heap y m bs) (h:C (Cv n as m bs) s):ai (ag prog w) A (qQ (tuples' true) x y) C E s:=by
 obtain⟨a,o,xs,k,t,u,rfl,h1,h2,h3,h4,h5⟩:=hx;obtain⟨b,o',ys,k',t',u',rfl,g1,g2,g3,g4,g5⟩:=hy;refine kat_lt h1 h3 g1 g3 ?_;rw[h4,g4];have ef:decide (xs.size<ys.size)=false:=by
  have e1:xs.size=2:=by rw[<-O1,h4];rfl
  have e2:ys.size=2:=by rw[<-O1,g4];rfl
  rw[e1,e2];decide
 rw[ef];show KatLex prog w A true false C [(.int n t,.int m t'),(u,u')] 0 s;unfold Cv at h;refine kat_cons (mw ?_);refine kat_go (λe=>kat_yes ?_) (λe=>kat_no ?_)
 ·have e:n=m:=by have:=Tg e;lia
  rw[Td e] at h;obtain⟨c,oc,cs,kc,rfl,c1,c2,c3,c4⟩:=h5;obtain⟨d,od,ds,kd,rfl,d1,d2,d3,d4⟩:=g5;refine kat_cons (wpAny_eqBool_tuple (knd:=A7 prog w) hu ⟨oc,cs,kc,c1,c2,c3,Xeg c4⟩ ⟨od,ds,kd,d1,d2,d3,Xeg d4⟩ ?_);refine kat_go (λe2=>kat_yes (kat_nil ?_)) (λe2=>kat_no ?_)
  ·have e2:as=bs:=by
    have:=Tg e2;exact Sq (λ_ _ q=>Qo q) |>.mp this
   rw[e2,Io] at h;exact h
  ·exact kat_one _ _ (Xl7 ⟨oc,c1,c2,kc,c3⟩ ⟨od,d1,d2,kd,d3⟩ c4 d4 hu h)
 ·have e:¬n=m:=λz=>by
   have:=Th e
   lia
  rw[Tc e] at h;refine oneLt_int ?_;have:decide ((n:Int)<(m:Int))=decide (n<m):=by simp
  rw[this];exact h
end
open PySem.W (KasT kas_sort kas_ask kas_item kat_run kat_snds kat_kind KatTups)
section
variable {X:Cx}{pins:List (ae×aM)}{Z:List (Option V)}{H:Hp}{s:af}
def Inv.unpin(I:Inv X (p::pins) Z H s):Inv X pins Z H s:=
 I.pins_of λq hq=>I.pin q (Pc _ (Ol _ hq))
def Xl9    (I:Inv X ((D,ar "list" #[] e1)::pins) Z H s) (hD:X.s₀.heap.objs.size<=D) (jU:∀p∈X.pn++pins,p.1≠D) (hv:Vals ys out) (hz:ys.length<=sizeLine):
  Inv X pins Z (upd H D (.lst ys)) {s with heap:=s.heap.update D (aM.mapSeq λ_=>out.toArray)}:=by
 obtain⟨hg,hn,hl,hf,_⟩:=I.pin (D,ar "list" #[] e1) (Pc _ Oj);have J:=I.unpin;have sb:=Tk s.heap D (aM.mapSeq λ_=>out.toArray);obtain⟨c2,eK⟩:∃c2,(s.heap.update D (aM.mapSeq λ_=>out.toArray)).get? D=some (ar "list" out.toArray c2):=⟨_,ft hg λ_=>out.toArray⟩;have kp:∀b o,b≠D->s.heap.get? b=some o->(s.heap.update D (aM.mapSeq λ_=>out.toArray)).get? b=some o:=λb o n e=>(sb.2 b n).trans e;have nD:∀b u,H b=some u->b≠D:=λb u e z=>by rw[z,hn] at e;cases e
 have up:∀b u,H b=some u->(upd H D (.lst ys)) b=some u:=λb u e=>by rw[Ad (nD b u e)];exact e
 refine J.step (g':=s.gens) (d':=s.drawn) (t':=s.toks) (ch:=[D]) (λb hb=>?_) (λb o _ _ hc e _=>kp b o (λz=>hc (by rw[z];exact Qg _)) e) (λb o _ _ hc e _=>⟨o.slots,kp b o (λz=>hc (by rw[z];exact Qg _)) e⟩)
  (λb o hc e n=>?_) (λb o hc e=>⟨o,kp b o (λz=>hc (by rw[z];exact Qg _)) e⟩) (λb xs e=>up b _ e) (λb o u e=>up b _ e) (λb pz e=>⟨#[],by rw[up b _ e];simp⟩) (λm hm=>hm.sameBut sb (Ne.symm hl)) ?_ J.bare
 ·rw[Oe.mp hb];refine⟨.inr hD,hl,λx c e z=>?_,λp hp=>jU p hp⟩;obtain⟨v,o,ho,hd⟩:=J.cell x c e;rw[z,hg] at ho;cases ho;cases hd
 ·rw[Ad (λz=>hc (by rw[z];exact Qg _))];exact n
 ·intro b u e;by_cases z:b=D
  ·subst z;rw[Ab] at e;cases e;exact⟨hz,out,c2,hv,eK⟩
  ·rw[Ad z] at e;refine(J.hok b u e).stay (λd v hd g=>kp d v ?_ g) (λd g=>up d _ g) λd xs g=>up d _ g;rcases hd with rfl | hd
   ·exact z
   ·exact nD d _ hd
end
abbrev SM:=StateT bd i9
def Dj:Bool->ap->Array ap->Nat->Nat->Nat->SM (Option Nat):=sortPriv% PySem.Builtin.gallop
def bey (l:Bool) (k:ap) (c:Array ap) (i:Nat):SM (Option Bool):=do
 let x <-elem' c i
 if l then lt' x k else
  let r <-lt' k x
  return r.map (!·)
def Kq (l:Bool) (k:ap) (c:Array ap) (b n u0 v0:Nat):SM (Option Nat):=do
 let mut u:=u0
 let mut v:=v0
 for _ in [0:n] do
  if u ≥ v then break
  let q:=u+(v - u) / 2
  let some m <-bey l k c (b+q) | return none
  if m then u:=q+1 else v:=q
 return some v
def Xma(l:Bool)(k:ap)(c:Array ap)(b n h:Nat):Dj l k c b n h=(do
  let some r <-bey l k c (b+h) | return none
  if r then
   let mut la:=0
   let mut o:=1
   for _ in [0:n] do
    if o ≥ n - h then break
    let some m <-bey l k c (b+(h+o)) | return none
    if !m then break
    la:=o
    o:=2 * o+1
   Kq l k c b n (h+la+1) (h+min o (n - h))
  else
   let mut la:=0
   let mut o:=1
   for _ in [0:n] do
    if o ≥ h+1 then break
    let some m <-bey l k c (b+(h - o)) | return none
    if m then break
    la:=o
    o:=2 * o+1
   Kq l k c b n (h+1 - min o (h+1)) (h - la)):=rfl
open PySem.W (kas_item kas_cmp)
structure CmS (prog:ao) (w:av) (A:aw) (s:af) (κ : bT) (it:Array ap) (n:Nat) (lt:Nat->Nat->Bool):Prop where
 L:Lin n lt
 c:∀i j (C:Bool->af->Prop),i<n->j<n->C (lt i j) s->kas_cmp prog w A κ it i j C s
def Fk (it:Array ap) (l:List Nat):Array ap:=(l.map (kas_item it)).toArray
section
variable {prog:ao}{w:av}{A:aw}{E:Zb}{s:af}{κ : bT}{it:Array ap}{n:Nat}{lt:Nat->Nat->Bool}
def Iq(hc:CmS prog w A s κ it n lt)  (hx:x<n)(hy:y<n){st}(hk:kindOf st = κ)(h:Q (some (lt x y)) st):eG (ag prog w) A E s (lt' (kas_item it x) (kas_item it y)) Q st:=by
 rw[lt'_eq];refine S9 (bI ?_);rw[hk];refine S9 (cI (dE (aG (hc.c x y (λb s'=>s'=s/\b=lt x y) hx hy ⟨rfl,rfl⟩) (λb s' e=>?_) λ_ _ hF=>hF.elim)));obtain⟨rfl,rfl⟩:=e;exact⟨rfl,Ta h⟩
def Bv   (hi:l[i]? = some x) {st} (h:Q (kas_item it x) st):eG (ag prog w) A E s (elem' (Fk it l) i) Q st:=by
 rw[elem'_eq];have e:(Fk it l)[i]? = some (kas_item it x):=by
  unfold Fk;rw[Qk,Ou,hi];rfl
 rw[e];exact Ta h
def beyB (lt:Nat->Nat->Bool) (l:Bool) (k x:Nat):Bool:=if l then lt x k else !lt k x
def Gs(hc:CmS prog w A s κ it n lt)  {left}  (hi:l[i]? = some x)(hx:x<n)(hk:k<n){st}(jV:kindOf st = κ)(h:Q (some (beyB lt left k x)) st):eG (ag prog w) A E s (bey left (kas_item it k) (Fk it l) i) Q st:=by
 unfold bey;refine S9 (Bv hi ?_);cases left with
 | true=>
  rw[Td rfl];exact Iq hc hx hk jV h
 | false=>
  rw[Tc (by decide)];exact S9 (Iq hc hk hx jV (Ta h))
structure Mono (m:Nat) (P:Nat->Bool):Prop where
 dn:∀i j,i<j->j<m->P j=true->P i=true
def Mono.up   (M:Mono m P) (h:i<=j) (hj:j<m) (e:P i=false):P j=false:=by
 by_cases z:i=j
 ·rw[<-z];exact e
 ·cases q:P j with
  | false=>rfl
  | true=>rw[M.dn i j (by lia) hj q] at e;cases e
def Gu     {P} {st} (M:Mono m P) (hh:h<m)
  (ask:∀i,i<m->∀Q:Option Bool->bd->Prop,Q (some (P i)) st->eG (ag prog w) A E s (bey left cM y0 (b+i)) Q st) (hq:∀r,r<=m->(∀i,i<r->P i=true)->(∀i,r<=i->i<m->P i=false)->Q (some r) st):eG (ag prog w) A E s (Dj left cM y0 b m h) Q st:=by
 rw[Xma];have fu:∀(u v:Nat),u<=v->v<=m->(∀i,i<u->P i=true)->(∀i,v<=i->i<m->P i=false) ->
   eG (ag prog w) A E s (Kq left cM y0 b m u v) Q st:=by
  intro u v kU hv hu CU;unfold Kq;refine S9 (aW (aE (I:=λx c ay=>ay=st/\∃u v,c=(none,u,v)/\u<=v/\v<=m/\v - u<=m - x/\(∀i,i<u->P i=true)/\(∀i,v<=i->i<m->P i=false)) (Q:=λc ay=>ay=st/\∃u,c=(none,u,u)/\u<=m/\(∀i,i<u->P i=true)/\(∀i,u<=i->i<m->P i=false)) ?step ?fin ⟨rfl,u,v,rfl,kU,hv,by lia,hu,CU⟩) ?post)
  case fin=>
   rintro c ay ⟨rfl,u,v,rfl,h1,h2,h3,h4,h5⟩;have:u=v:=by lia
   subst this;exact⟨rfl,u,rfl,h2,h4,h5⟩
  case step=>
   rintro x c ay _ hx ⟨rfl,u,v,rfl,h1,h2,h3,h4,h5⟩;dsimp only;by_cases e:u ≥ v
   ·rw[Td e];have:u=v:=by lia
    subst this;exact Ta ⟨rfl,u,rfl,h2,h4,h5⟩
   ·rw[Tc e];refine S9 (ask _ (by lia) _ ?_);dsimp only;cases q:P (u+(v - u) / 2) with
    | true=>
     rw[Td rfl];refine Ta ⟨rfl,_,v,rfl,by lia,h2,by lia,λi hi=>?_,h5⟩;by_cases z:i=u+(v - u) / 2
     ·rw[z];exact q
     ·exact M.dn i _ (by lia) (by lia) q
    | false=>
     rw[Tc (by decide)];refine Ta ⟨rfl,u,_,rfl,by lia,by lia,by lia,h4,λi hi hm=>M.up hi hm q⟩
  case post=>
   rintro c ay ⟨rfl,u,rfl,h2,h4,h5⟩;exact Ta (hq u h2 h4 h5)
 refine S9 (ask h hh _ ?_);dsimp only;cases q:P h with
 | true=>
  rw[Td rfl];refine S9 (aW (aE (I:=λx c ay=>ay=st/\∃la o,c=(none,la,o)/\P (h+la)=true/\h+la<m/\la<o/\x+1<=o) (Q:=λc ay=>ay=st/\∃la o,c=(none,la,o)/\P (h+la)=true/\h+la<m/\la<o/\(h+min o (m - h)<m->P (h+min o (m - h))=false)) ?step ?fin ⟨rfl,0,1,rfl,q,hh,by lia,by lia⟩) ?post)
  case fin=>
   rintro c ay ⟨rfl,la,o,rfl,h1,h2,h3,h4⟩;exact⟨rfl,la,o,rfl,h1,h2,h3,λz=>by lia⟩
  case step=>
   rintro x c ay _ hx ⟨rfl,la,o,rfl,h1,h2,h3,h4⟩;dsimp only;by_cases e:o ≥ m - h
   ·rw[Td e];exact Ta ⟨rfl,la,o,rfl,h1,h2,h3,λz=>by lia⟩
   ·rw[Tc e];refine S9 (ask _ (by lia) _ ?_);dsimp only;cases q2:P (h+o) with
    | true=>exact Ta ⟨rfl,o,2 * o+1,rfl,q2,by lia,by lia,by lia⟩
    | false=>exact Ta ⟨rfl,la,o,rfl,h1,h2,h3,λz=>by rw[show min o (m - h)=o by lia];exact q2⟩
  case post=>
   rintro c ay ⟨rfl,la,o,rfl,h1,h2,h3,h4⟩;dsimp only;refine fu (h+la+1) (h+min o (m - h)) (by lia) (by lia) (λi hi=>?_) (λi hi hm=>M.up hi hm (h4 (by lia)));by_cases z:i=h+la
   ·rw[z];exact h1
   ·exact M.dn i _ (by lia) h2 h1
 | false=>
  rw[Tc (by decide)];refine S9 (aW (aE (I:=λx c ay=>ay=st/\∃la o,c=(none,la,o)/\P (h - la)=false/\la<=h/\la<o/\x+1<=o) (Q:=λc ay=>ay=st/\∃la o,c=(none,la,o)/\P (h - la)=false/\la<=h/\la<o/\(o<h+1->P (h - o)=true)) ?step ?fin ⟨rfl,0,1,rfl,q,by lia,by lia,by lia⟩) ?post)
  case fin=>
   rintro c ay ⟨rfl,la,o,rfl,h1,h2,h3,h4⟩;exact⟨rfl,la,o,rfl,h1,h2,h3,λz=>by lia⟩
  case step=>
   rintro x c ay _ hx ⟨rfl,la,o,rfl,h1,h2,h3,h4⟩;dsimp only;by_cases e:o ≥ h+1
   ·rw[Td e];exact Ta ⟨rfl,la,o,rfl,h1,h2,h3,λz=>by lia⟩
   ·rw[Tc e];refine S9 (ask _ (by lia) _ ?_);dsimp only;cases q2:P (h - o) with
    | true=>exact Ta ⟨rfl,la,o,rfl,h1,h2,h3,λz=>q2⟩
    | false=>exact Ta ⟨rfl,o,2 * o+1,rfl,q2,by lia,by lia,by lia⟩
  case post=>
   rintro c ay ⟨rfl,la,o,rfl,h1,h2,h3,h4⟩;dsimp only;refine fu (h+1 - min o (h+1)) (h - la) (by lia) (by lia) (λi hi=>?_) (λi hi hm=>M.up hi hm h1);have ho:o<h+1:=by lia
   have:=h4 ho;rw[show min o (h+1)=o by lia] at hi;by_cases z:i=h - o
   ·rw[z];exact this
   ·exact M.dn i _ (by lia) (by lia) this
end
open PySem.W (kas_item kas_cmp)
def mLo:Array ap->Array ap->SM (Array ap):=sortPriv% PySem.Builtin.mergeLo
def D9:Nat->SM Unit:=sortPriv% PySem.Builtin.setMinGallop
def Xmb(g):D9 g=modify λst=>bd.mk' (kindOf st) (bh st) (aU st) g (bv st):=rfl
def dnL (a b o:Array ap) (i j:Nat):Array ap:=o++a.extract i a.size++b.extract j b.size
def lsL (a b o:Array ap) (i j:Nat):Array ap:=o++b.extract j b.size++a.extract i a.size
abbrev MTO:=Option (Array ap)×Array ap×Nat×Nat×Nat
abbrev MTI:=Option (Array ap)×Array ap×Nat×Nat×Nat×Nat
abbrev MTG:=Option (Array ap)×Array ap×Nat×Nat×Nat×Nat×Nat
def Np (a b:Array ap) (g:Nat) (d:MTI):SM (ForInStep MTI):=do
 let y <-elem' b d.2.2.2.1
 let x <-elem' a d.2.2.1
 let r <-lt' y x
 match r with
 | some c=>
  if c=true then do
   let y <-elem' b d.2.2.2.1
   if (d.2.2.2.1+1==b.size)=true then pure (.done (some (dnL a b (d.2.1.push y) d.2.2.1 (d.2.2.2.1+1)),d.2.1.push y,d.2.2.1,d.2.2.2.1+1,0,d.2.2.2.2.2+1))
   else if d.2.2.2.2.2+1 ≥ g then pure (.done (none,d.2.1.push y,d.2.2.1,d.2.2.2.1+1,0,d.2.2.2.2.2+1))
   else pure (.yield (none,d.2.1.push y,d.2.2.1,d.2.2.2.1+1,0,d.2.2.2.2.2+1))
  else do
   let x <-elem' a d.2.2.1
   if (d.2.2.1+1+1==a.size)=true then pure (.done (some (lsL a b (d.2.1.push x) (d.2.2.1+1) d.2.2.2.1),d.2.1.push x,d.2.2.1+1,d.2.2.2.1,d.2.2.2.2.1+1,0))
   else if d.2.2.2.2.1+1 ≥ g then pure (.done (none,d.2.1.push x,d.2.2.1+1,d.2.2.2.1,d.2.2.2.2.1+1,0))
   else pure (.yield (none,d.2.1.push x,d.2.2.1+1,d.2.2.2.1,d.2.2.2.2.1+1,0))
 | _=>pure (.done (some (dnL a b d.2.1 d.2.2.1 d.2.2.2.1),d.2.1,d.2.2.1,d.2.2.2.1,d.2.2.2.2.1,d.2.2.2.2.2))
def gV3 (a b o:Array ap) (i j g p q:Nat):SM (ForInStep MTG):=do
 let x <-elem' a i
 if (i+1+1==a.size)=true then pure (.done (some (lsL a b (o.push x) (i+1) j),o.push x,i+1,j,g,p,q))
 else if (decide (p<7)&&decide (q<7))=true then pure (.done (none,o.push x,i+1,j,g,p,q))
 else pure (.yield (none,o.push x,i+1,j,g,p,q))
def gV2 (a b o:Array ap) (i j g p q:Nat):SM (ForInStep MTG):=do
 let y <-elem' b j
 if (j+1==b.size)=true then pure (.done (some (dnL a b (o.push y) i (j+1)),o.push y,i,j+1,g,p,q))
 else do
  let x <-elem' a i
  let r <-Dj true x b (j+1) (b.size - (j+1)) 0
  match r with
  | some k=>
   if k > 0 then
    if (j+1+k==b.size)=true then pure (.done (some (dnL a b (o.push y++b.extract (j+1) (j+1+k)) i (j+1+k)),o.push y++b.extract (j+1) (j+1+k),i,j+1+k,g,p,k))
    else gV3 a b (o.push y++b.extract (j+1) (j+1+k)) i (j+1+k) g p k
   else gV3 a b (o.push y) i (j+1) g p k
  | _=>pure (.done (some (dnL a b (o.push y) i (j+1)),o.push y,i,j+1,g,p,q))
def gV1 (a b o:Array ap) (i j g p q:Nat):SM (ForInStep MTG):=do
 D9 g
 let y <-elem' b j
 let r <-Dj false y a i (a.size - i) 0
 match r with
 | some k=>
  if k > 0 then
   if (i+k+1==a.size)=true then pure (.done (some (lsL a b (o++a.extract i (i+k)) (i+k) j),o++a.extract i (i+k),i+k,j,g,k,q))
   else if (i+k==a.size)=true then pure (.done (some (dnL a b (o++a.extract i (i+k)) (i+k) j),o++a.extract i (i+k),i+k,j,g,k,q))
   else gV2 a b (o++a.extract i (i+k)) (i+k) j g k q
  else gV2 a b o i j g k q
 | _=>pure (.done (some (dnL a b o i j),o,i,j,g,p,q))
def Kr (a b:Array ap) (c:MTO):SM (ForInStep MTO):=do
 let d <-forIn [0:a.size+b.size] ((none,c.2.1,c.2.2.1,c.2.2.2.1,0,0):MTI) λ_ d=>Np a b c.2.2.2.2 d
 match d.1 with
 | some r=>pure (.done (some r,d.2.1,d.2.2.1,d.2.2.2.1,c.2.2.2.2))
 | none=>do
  liftM (rule "list.sort.gallop")
  let e <-forIn [0:a.size+b.size] ((none,d.2.1,d.2.2.1,d.2.2.2.1,c.2.2.2.2+1,d.2.2.2.2.1,d.2.2.2.2.2):MTG) λ_ e=>
   if e.2.2.2.2.1 > 1 then gV1 a b e.2.1 e.2.2.1 e.2.2.2.1 (e.2.2.2.2.1 - 1) e.2.2.2.2.2.1 e.2.2.2.2.2.2 else gV1 a b e.2.1 e.2.2.1 e.2.2.2.1 e.2.2.2.2.1 e.2.2.2.2.2.1 e.2.2.2.2.2.2
  match e.1 with
  | some r=>pure (.done (some r,e.2.1,e.2.2.1,e.2.2.2.1,e.2.2.2.2.1))
  | none=>do
   D9 (e.2.2.2.2.1+1)
   pure (.yield (none,e.2.1,e.2.2.1,e.2.2.2.1,e.2.2.2.2.1+1))
def Xmc(a b:Array ap):mLo a b=(do
  liftM (rule "list.sort.merge-lo")
  let x0 <-elem' b 0
  let mut o:Array ap := #[x0]
  let mut i:=0
  let mut j:=1
  if j==b.size then return dnL a b o i j
  if i+1==a.size then return lsL a b o i j
  let mut g:=cY (<-get)
  for _ in [0:a.size+b.size] do
   let mut p:=0
   let mut q:=0
   for _ in [0:a.size+b.size] do
    let some c <-lt' (<-elem' b j) (<-elem' a i) | return dnL a b o i j
    if c then
     o:=o.push (<-elem' b j)
     j:=j+1
     q:=q+1
     p:=0
     if j==b.size then return dnL a b o i j
     if q ≥ g then break
    else
     o:=o.push (<-elem' a i)
     i:=i+1
     p:=p+1
     q:=0
     if i+1==a.size then return lsL a b o i j
     if p ≥ g then break
   liftM (rule "list.sort.gallop")
   g:=g+1
   for _ in [0:a.size+b.size] do
    if g > 1 then g:=g - 1
    D9 g
    let some k <-Dj false (<-elem' b j) a i (a.size - i) 0 | return dnL a b o i j
    p:=k
    if k > 0 then
     o:=o++a.extract i (i+k)
     i:=i+k
     if i+1==a.size then return lsL a b o i j
     if i==a.size then return dnL a b o i j
    o:=o.push (<-elem' b j)
    j:=j+1
    if j==b.size then return dnL a b o i j
    let some k <-Dj true (<-elem' a i) b j (b.size - j) 0 | return dnL a b o i j
    q:=k
    if k > 0 then
     o:=o++b.extract j (j+k)
     j:=j+k
     if j==b.size then return dnL a b o i j
    o:=o.push (<-elem' a i)
    i:=i+1
    if i+1==a.size then return lsL a b o i j
    if p<7&&q<7 then break
   g:=g+1
   D9 g
  unsupported "internal:list.sort.merge-bound"):=rfl
def Xmd(a b:Array ap):mLo a b=(do
  liftM (rule "list.sort.merge-lo")
  let x0 <-elem' b 0
  if (1==b.size)=true then pure (dnL a b #[x0] 0 1)
  else if (0+1==a.size)=true then pure (lsL a b #[x0] 0 1)
  else do
   let st <-get
   let c <-forIn [0:a.size+b.size] ((none, #[x0],0,1,cY st):MTO) λ_ c=>Kr a b c
   match c.1 with
   | some r=>pure r
   | none=>unsupported "internal:list.sort.merge-bound"):=by
 rw[Xmc];congr 1;funext _u;congr 1;funext x0;dsimp only;congr 1;congr 1;congr 1;funext st;congr 1
 ·congr 1;funext _x c;unfold Kr;congr 1;funext d;obtain⟨r,d⟩:=d;cases r with
  | some r=>rfl
  | none=>
   dsimp only;congr 1;funext _v;congr 1;funext e;obtain⟨r,e⟩:=e;cases r<;>rfl
 ·funext c;obtain⟨r,c⟩:=c;cases r<;>rfl
open PySem.W (kas_item kas_cmp)
section
variable {it:Array ap}
def Ir(l)(x):(Fk it l).push (kas_item it x)=Fk it (l++[x]):=by
 unfold Fk;rw[List.push_toArray,Oo];rfl
def Du(l m):Fk it l++Fk it m=Fk it (l++m):=by
 unfold Fk;rw[List.append_toArray,Oo]
def Ea(l)(i j):(Fk it l).extract i j=Fk it ((l.drop i).take (j - i)):=by
 unfold Fk;rw[List.extract_toArray,Sc,Sd]
def Cb(l):(Fk it l).size=l.length:=by
 unfold Fk;rw[Oh,Oc]
def Iu(la lb lo)(i j):dnL (Fk it la) (Fk it lb) (Fk it lo) i j=Fk it (lo++la.drop i++lb.drop j):=by
 unfold dnL;rw[Ea,Ea,Cb,Cb,Du,Du,P5 (by rw[Pj];exact Og _),P5 (by rw[Pj];exact Og _)]
def Ks(la lb lo)(i j):lsL (Fk it la) (Fk it lb) (Fk it lo) i j=Fk it (lo++lb.drop j++la.drop i):=by
 unfold lsL;rw[Ea,Ea,Cb,Cb,Du,Du,P5 (by rw[Pj];exact Og _),P5 (by rw[Pj];exact Og _)]
end
structure Two (lt:Nat->Nat->Bool) (n:Nat) (la lb:List Nat):Prop where
 L:Lin n lt
 an:∀x∈la,x<n
 bn:∀x∈lb,x<n
 dj:∀x∈la,∀y∈lb,x≠y
 sa:la.Pairwise λx y=>lt x y=true
 sb:lb.Pairwise λx y=>lt x y=true
structure MI (lt:Nat->Nat->Bool) (la lb lo:List Nat) (i j:Nat):Prop where
 so:lo.Pairwise λx y=>lt x y=true
 pm:lo.Perm (la.take i++lb.take j)
 ba:∀x∈lo,∀y∈la.drop i,lt x y=true
 bb:∀x∈lo,∀y∈lb.drop j,lt x y=true
section
variable {lt:Nat->Nat->Bool}{n:Nat}{la lb lo:List Nat}{i j k:Nat}
def Two.flip(T:Two lt n la lb)(hx:x∈la)(hy:y∈lb)(h:lt y x=false):lt x y=true:=by
 rcases T.L.tot x y (T.an x hx) (T.bn y hy) (T.dj x hx y hy) with z | z
 ·exact z
 ·rw[z] at h;cases h
def drop_split(l:List Nat)(i k):l.drop i=(l.drop i).take k++l.drop (i+k):=by
 rw[<-List.drop_drop,O9]
def take_split(l:List Nat)(i k):l.take (i+k)=l.take i++(l.drop i).take k:=by
 rw[List.take_add]
def MI.chA(T:Two lt n la lb)(m:MI lt la lb lo i j)(h:∀x∈(la.drop i).take k,∀y∈lb.drop j,lt x y=true):MI lt la lb (lo++(la.drop i).take k) (i+k) j:=by
 have sp:=drop_split la i k;have sd:=T.sa.sublist (Qh i la);rw[sp] at sd;obtain⟨s1,s2,s3⟩:=O7.mp sd;refine⟨O7.mpr ⟨m.so,s1,λx hx y hy=>m.ba x hx y (Pm hy)⟩,?_,λx hx y hy=>?_,λx hx y hy=>?_⟩
 ·rw[take_split];refine(m.pm.append_right _).trans ?_;rw[Pa,Pa];exact P1 _ Ql
 ·rcases Om.mp hx with z | z
  ·exact m.ba x z y (by rw[sp];exact Pc _ hy)
  ·exact s3 x z y hy
 ·rcases Om.mp hx with z | z
  ·exact m.bb x z y hy
  ·exact h x z y hy
def MI.chB(T:Two lt n la lb)(m:MI lt la lb lo i j)(h:∀x∈(lb.drop j).take k,∀y∈la.drop i,lt x y=true):MI lt la lb (lo++(lb.drop j).take k) i (j+k):=by
 have sp:=drop_split lb j k;have sd:=T.sb.sublist (Qh j lb);rw[sp] at sd;obtain⟨s1,s2,s3⟩:=O7.mp sd;refine⟨O7.mpr ⟨m.so,s1,λx hx y hy=>m.bb x hx y (Pm hy)⟩,?_,λx hx y hy=>?_,λx hx y hy=>?_⟩
 ·rw[take_split,<-Pa];exact m.pm.append_right _
 ·rcases Om.mp hx with z | z
  ·exact m.ba x z y hy
  ·exact h x z y hy
 ·rcases Om.mp hx with z | z
  ·exact m.bb x z y (by rw[sp];exact Pc _ hy)
  ·exact s3 x z y hy
def Xeh(la lb)(h:lo.Perm (la.take i++lb.take j)):(lo++la.drop i++lb.drop j).Perm (la++lb):=by
 refine((h.append_right _).append_right _).trans ?_;rw[Pa,Pa];have e:la++lb=la.take i++(la.drop i++(lb.take j++lb.drop j)):=by rw[O9,<-Pa,O9]
 rw[e];refine P1 _ ?_;rw[<-Pa,<-Pa];exact Ql.append_right _
def Mrg (lt:Nat->Nat->Bool) (la lb r:List Nat):Prop:=r.Perm (la++lb)/\r.Pairwise λx y=>lt x y=true
def MI.endB(T:Two lt n la lb)(m:MI lt la lb lo i j)(h:∀x∈la.drop i,∀y∈lb.drop j,lt x y=true):Mrg lt la lb (lo++la.drop i++lb.drop j):=by
 refine⟨Xeh la lb m.pm,O7.mpr ⟨O7.mpr ⟨m.so,T.sa.sublist (Qh ..),m.ba⟩,T.sb.sublist (Qh ..),λx hx y hy=>?_⟩⟩;rcases Om.mp hx with z | z
 ·exact m.bb x z y hy
 ·exact h x z y hy
def MI.endA(T:Two lt n la lb)(m:MI lt la lb lo i j)(h:∀x∈lb.drop j,∀y∈la.drop i,lt x y=true):Mrg lt la lb (lo++lb.drop j++la.drop i):=by
 refine⟨?_,O7.mpr ⟨O7.mpr ⟨m.so,T.sb.sublist (Qh ..),m.bb⟩,T.sa.sublist (Qh ..),λx hx y hy=>?_⟩⟩
 ·refine List.Perm.trans ?_ (Xeh la lb m.pm);rw[Pa,Pa];exact P1 _ Ql
 ·rcases Om.mp hx with z | z
  ·exact m.ba x z y hy
  ·exact h x z y hy
def Gv{l:List Nat}(L:Lin n lt)(so:l.Pairwise λx y=>lt x y=true)(hz:l[i]? = some z)(h:lt x z=true):∀y∈l.drop i,lt x y=true:=by
 intro y hy;obtain⟨hi,e⟩:=Ox.mp hz;rw[Q4 hi,e] at hy;have sd:=so.sublist (Qh i l);rw[Q4 hi,e] at sd;rcases Ot.mp hy with q | q
 ·rw[q];exact h
 ·exact L.tr _ _ _ h (List.rel_of_pairwise_cons sd q)
end
section
variable {lt:Nat->Nat->Bool}{n:Nat}{la lb lo:List Nat}{i j k:Nat}
def Bm{l:List Nat}(h:i<l.length):l[i]? = some (l.getD i 0):=by
 rw[Oy,Od h];rfl
def Cd{l:List Nat}(h:i<l.length):l.getD i 0∈l:=Q5 (Bm h)
def Dv{l:List Nat}(h:i<l.length):(l.drop i).take 1=[l.getD i 0]:=by
 rw[Q4 h];show [l[i]]=_;rw[Oy,Od h];rfl
def Kt{l:List Nat}(h:i+1=l.length):l.drop i=[l.getD (l.length - 1) 0]:=by
 have hi:i<l.length:=by lia
 rw[Q4 hi,Qc (by lia),show l.length - 1=i by lia,Oy,Od hi];rfl
def Dk{l:List Nat}(h:x∈(l.drop i).take k):∃t,t<k/\i+t<l.length/\x=l.getD (i+t) 0:=by
 obtain⟨t,ht,e⟩:=Pi.mp h;rw[Os,Pj] at ht;rw[R4,Sw] at e;have hl:i+t<l.length:=by lia
 exact⟨t,by lia,hl,by rw[<-e,Oy,Od hl];rfl⟩
def Gw{l:List Nat}  (h:l.Pairwise R)(fb:a<b)(hb:b<l.length):R (l.getD a 0) (l.getD b 0):=by
 have:=Qi.mp h a b (by lia) hb fb
 rwa [show l.getD a 0=l[a] by rw[Oy,Od (show a<l.length by lia)];rfl,show l.getD b 0=l[b] by rw[Oy,Od hb];rfl]
def MI.nil:MI lt la lb [] 0 0:=⟨.nil,.nil,λ_ h=>(nomatch h),λ_ h=>(nomatch h)⟩
end
structure SG (cg st:bd):Prop where
 k:kindOf st=kindOf cg
 a:bh st=bh cg
 p:aU st=aU cg
 f:bv st=bv cg
def RsI {τ : Type} (it:Array ap) (lt:Nat->Nat->Bool) (la lb:List Nat) (c:Option (Array ap)×Array ap×Nat×Nat × τ):Prop:=∃res,c.1=some (Fk it res)/\Mrg lt la lb res
def NxI {τ : Type} (it:Array ap) (lt:Nat->Nat->Bool) (la lb:List Nat) (m:Nat) (c:Option (Array ap)×Array ap×Nat×Nat × τ):Prop:=∃lo i j t,c=(none,Fk it lo,i,j,t)/\MI lt la lb lo i j/\i+1<la.length/\j<lb.length/\m<i+j
def StI {τ : Type} (it:Array ap) (lt:Nat->Nat->Bool) (la lb:List Nat) (m:Nat) (r:ForInStep (Option (Array ap)×Array ap×Nat×Nat × τ)):Prop:=match r with
 | .done c=>RsI it lt la lb c\/NxI it lt la lb m c
 | .yield c=>NxI it lt la lb m c
def StO {τ : Type} (it:Array ap) (lt:Nat->Nat->Bool) (la lb:List Nat) (m:Nat) (r:ForInStep (Option (Array ap)×Array ap×Nat×Nat × τ)):Prop:=match r with
 | .done c=>RsI it lt la lb c
 | .yield c=>NxI it lt la lb m c
def NxI.mono{τ : Type}    {c:Option (Array ap)×Array ap×Nat×Nat × τ}(h:NxI it lt la lb m c)(hm:m'<=m):NxI it lt la lb m' c:=by
 obtain⟨lo,i,j,t,e,a1,a2,a3,a4⟩:=h;exact⟨lo,i,j,t,e,a1,a2,a3,by lia⟩
section
variable {prog:ao}{w:av}{A:aw}{E:Zb}{s:af}{κ : bT}{it:Array ap}{n:Nat}{lt:Nat->Nat->Bool}{la lb lo:List Nat}{i j k g p q:Nat}{cg st:bd}
def wS_setG(sg:SG cg st)(h:∀ay,SG cg ay->Q () ay):eG (ag prog w) A E s (D9 g) Q st:=by
 rw[Xmb];exact bP (h _ ⟨sg.k,sg.a,sg.p,sg.f⟩)
def Xme(hc:CmS prog w A s κ it n lt)(T:Two lt n la lb)(top:∀x∈lb,lt x (la.getD (la.length - 1) 0)=true)(hk:kindOf cg = κ)(sg:SG cg st)(m:MI lt la lb lo i j)(hi:i+1<la.length)(hj:j<lb.length)(h:∀r,StI it lt la lb (i+j) r->Q r st):eG (ag prog w) A E s (Np (Fk it la) (Fk it lb) g (none,Fk it lo,i,j,p,q)) Q st:=by
 unfold Np;dsimp only;have cb:i<la.length:=by lia
 have ea:=Bm cb;have eb:=Bm hj;have ma:=Cd cb;have mb:=Cd hj;refine S9 (Bv eb (S9 (Bv ea (S9 (Iq hc (T.bn _ mb) (T.an _ ma) (sg.k.trans hk) ?_)))));dsimp only;cases c:lt (lb.getD j 0) (la.getD i 0) with
 | true=>
  rw[Td rfl];refine S9 (Bv eb ?_);rw[Ir,Iu,Cb];have m':=MI.chB (k:=1) T m (by rw[Dv hj];intro x hx y hy;rw[Oe.mp hx];exact Gv T.L T.sa ea c y hy);rw[Dv hj] at m';by_cases e:(j+1==lb.length)=true
  ·rw[Td e];have e':j+1=lb.length:=by simpa using e
   exact Ta (h _ (.inl ⟨_,rfl,m'.endB T (by rw[Qc (by lia:lb.length<=j+1)];intro _ _ y hy;cases hy)⟩))
  ·rw[Tc e];have e':j+1≠lb.length:=by simpa using e
   by_cases e2:q+1 ≥ g
   ·rw[Td e2];exact Ta (h _ (.inr ⟨_,_,_,_,rfl,m',hi,by lia,by lia⟩))
   ·rw[Tc e2];exact Ta (h _ ⟨_,_,_,_,rfl,m',hi,by lia,by lia⟩)
 | false=>
  rw[Tc (by decide)];have c':=T.flip ma mb c;refine S9 (Bv ea ?_);rw[Ir,Ks,Cb];have m':=MI.chA (k:=1) T m (by rw[Dv cb];intro x hx y hy;rw[Oe.mp hx];exact Gv T.L T.sb eb c' y hy);rw[Dv cb] at m';by_cases e:(i+1+1==la.length)=true
  ·rw[Td e];have e':i+1+1=la.length:=by simpa using e
   exact Ta (h _ (.inl ⟨_,rfl,m'.endA T (by rw[Kt e'];intro x hx y hy;rw[Oe.mp hy];exact top x (Pn hx))⟩))
  ·rw[Tc e];have e':i+1+1≠la.length:=by simpa using e
   by_cases e2:p+1 ≥ g
   ·rw[Td e2];exact Ta (h _ (.inr ⟨_,_,_,_,rfl,m',by lia,hj,by lia⟩))
   ·rw[Tc e2];exact Ta (h _ ⟨_,_,_,_,rfl,m',by lia,hj,by lia⟩)
def Xei(T:Two lt n la lb)(top:∀x∈lb,lt x (la.getD (la.length - 1) 0)=true)(m:MI lt la lb lo i j)(hi:i+1<la.length)(hj:j<lb.length)(c:lt (la.getD i 0) (lb.getD j 0)=true)  (hm:m0<=i+j)(h:∀r,StI it lt la lb m0 r->Q r st):eG (ag prog w) A E s (gV3 (Fk it la) (Fk it lb) (Fk it lo) i j g p q) Q st:=by
 unfold gV3;have cb:i<la.length:=by lia
 refine S9 (Bv (Bm cb) ?_);rw[Ir,Ks,Cb];have m':=MI.chA (k:=1) T m (by rw[Dv cb];intro x hx y hy;rw[Oe.mp hx];exact Gv T.L T.sb (Bm hj) c y hy);rw[Dv cb] at m';by_cases e:(i+1+1==la.length)=true
 ·rw[Td e];have e':i+1+1=la.length:=by simpa using e
  exact Ta (h _ (.inl ⟨_,rfl,m'.endA T (by rw[Kt e'];intro x hx y hy;rw[Oe.mp hy];exact top x (Pn hx))⟩))
 ·rw[Tc e];have e':i+1+1≠la.length:=by simpa using e
  by_cases e2:(decide (p<7)&&decide (q<7))=true
  ·rw[Td e2];exact Ta (h _ (.inr ⟨_,_,_,_,rfl,m',by lia,hj,by lia⟩))
  ·rw[Tc e2];exact Ta (h _ ⟨_,_,_,_,rfl,m',by lia,hj,by lia⟩)
def Xej(hc:CmS prog w A s κ it n lt)(T:Two lt n la lb)(top:∀x∈lb,lt x (la.getD (la.length - 1) 0)=true)(hk:kindOf cg = κ)(sg:SG cg st)(m:MI lt la lb lo i j)(hi:i+1<la.length)(hj:j<lb.length)(c:lt (lb.getD j 0) (la.getD i 0)=true)  (hm:m0<=i+j)(h:∀r,StI it lt la lb m0 r->Q r st):eG (ag prog w) A E s (gV2 (Fk it la) (Fk it lb) (Fk it lo) i j g p q) Q st:=by
 unfold gV2;have cb:i<la.length:=by lia
 have ea:=Bm cb;have ma:=Cd cb;refine S9 (Bv (Bm hj) ?_);rw[Ir,Iu,Cb];have m':=MI.chB (k:=1) T m (by rw[Dv hj];intro x hx y hy;rw[Oe.mp hx];exact Gv T.L T.sa ea c y hy);rw[Dv hj] at m';by_cases e:(j+1==lb.length)=true
 ·rw[Td e];have e':j+1=lb.length:=by simpa using e
  exact Ta (h _ (.inl ⟨_,rfl,m'.endB T (by rw[Qc (by lia:lb.length<=j+1)];intro _ _ y hy;cases hy)⟩))
 rw[Tc e];have e':j+1≠lb.length:=by simpa using e
 refine S9 (Bv ea ?_);refine S9 (Gu (P:=λt=>lt (lb.getD (j+1+t) 0) (la.getD i 0)) ⟨λa b fb hb e=>?_⟩ (by lia) (λt ht Q' hq=>?_) λr hr jm jW=>?_)
 ·exact T.L.tr _ _ _ (Gw T.sb (by lia) (by lia)) e
 ·exact Gs hc (Bm (by lia)) (T.bn _ (Cd (by lia))) (T.an _ ma) (sg.k.trans hk) (left:=true) hq
 dsimp only;by_cases j9:r > 0
 ·rw[Td j9,Ea,Du,Iu,show j+1+r - (j+1)=r by lia];have m2:=MI.chB (k:=r) T m' (λx hx y hy=>by
   obtain⟨t,h1,h2,rfl⟩:=Dk hx;exact Gv T.L T.sa ea (jm t h1) y hy)
  by_cases e3:(j+1+r==lb.length)=true
  ·rw[Td e3];have kX:j+1+r=lb.length:=by simpa using e3
   exact Ta (h _ (.inl ⟨_,rfl,m2.endB T (by rw[Qc (by lia:lb.length<=j+1+r)];intro _ _ y hy;cases hy)⟩))
  ·rw[Tc e3];have kX:j+1+r≠lb.length:=by simpa using e3
   have y1:j+1+r<lb.length:=by lia
   exact Xei T top m2 hi y1 (T.flip ma (Cd y1) (jW r (Og _) (by lia))) (by lia) h
 ·rw[Tc j9];have hz:=jW 0 (by lia) (by lia);exact Xei T top m' hi (by lia) (T.flip ma (Cd (by lia)) hz) (by lia) h
def Xek(hc:CmS prog w A s κ it n lt)(T:Two lt n la lb)(top:∀x∈lb,lt x (la.getD (la.length - 1) 0)=true)(hk:kindOf cg = κ)(sg:SG cg st)(m:MI lt la lb lo i j)(hi:i+1<la.length)(hj:j<lb.length)(h:∀r ay,SG cg ay->StI it lt la lb (i+j) r->Q r ay):eG (ag prog w) A E s (gV1 (Fk it la) (Fk it lb) (Fk it lo) i j g p q) Q st:=by
 unfold gV1;refine S9 (wS_setG sg λay cB=>?_);have eb:=Bm hj;have mb:=Cd hj;refine S9 (Bv eb ?_);rw[Cb];refine S9 (Gu (P:=λt => !lt (lb.getD j 0) (la.getD (i+t) 0)) ⟨λa b fb hb e=>?_⟩ (by lia) (λt ht Q' hq=>?_) λr hr jm jW=>?_)
 ·have e:lt (lb.getD j 0) (la.getD (i+b) 0)=false:=by simpa using e
  cases q:lt (lb.getD j 0) (la.getD (i+a) 0) with
  | false=>rfl
  | true=>
   have:=T.L.tr _ _ _ q (Gw T.sa (show i+a<i+b by lia) (by lia));rw[this] at e;cases e
 ·exact Gs hc (Bm (by lia)) (T.an _ (Cd (by lia))) (T.bn _ mb) (cB.k.trans hk) (left:=false) hq
 dsimp only;have tp:=top _ mb;have bR:r<la.length - i:=by
  rcases Nat.lt_or_ge r (la.length - i) with z | z
  ·exact z
  ·have:=jm (la.length - 1 - i) (by lia);rw[show i+(la.length - 1 - i)=la.length - 1 by lia,tp] at this;cases this
 have fF:lt (lb.getD j 0) (la.getD (i+r) 0)=true:=by
  have:=jW r (Og _) bR;simpa using this
 by_cases j9:r > 0
 ·rw[Td j9,Ea,Du,Iu,Ks,show i+r - i=r by lia];have m2:=MI.chA (k:=r) T m (λx hx y hy=>by
   obtain⟨t,h1,h2,rfl⟩:=Dk hx;have:=jm t h1;exact Gv T.L T.sb eb (T.flip (Cd h2) mb (by simpa using this)) y hy)
  by_cases e3:(i+r+1==la.length)=true
  ·rw[Td e3];have kX:i+r+1=la.length:=by simpa using e3
   exact Ta (h _ _ cB (.inl ⟨_,rfl,m2.endA T (by rw[Kt kX];intro x hx y hy;rw[Oe.mp hy];exact top x (Pn hx))⟩))
  ·rw[Tc e3];have kX:i+r+1≠la.length:=by simpa using e3
   have e4:¬(i+r==la.length)=true:=by
    simp
    lia
   rw[Tc e4];exact Xej hc T top hk cB m2 (by lia) hj fF (by lia) λr' n0=>h r' _ cB n0
 ·rw[Tc j9];have:r=0:=by lia
  subst this;exact Xej hc T top hk cB m hi hj fF (Og _) λr' n0=>h r' _ cB n0
def Xmf(hc:CmS prog w A s κ it n lt)(T:Two lt n la lb)(top:∀x∈lb,lt x (la.getD (la.length - 1) 0)=true)(hk:kindOf cg = κ)(sg:SG cg st)(m:MI lt la lb lo i j)(hi:i+1<la.length)(hj:j<lb.length)(h:∀r ay,SG cg ay->StO it lt la lb (i+j) r->Q r ay):eG (ag prog w) A E s (Kr (Fk it la) (Fk it lb) (none,Fk it lo,i,j,g)) Q st:=by
 unfold Kr;dsimp only;rw[Cb,Cb];refine S9 (aW (aE (I:=λx c ay=>SG cg ay/\∃je i' j' t,c=(none,Fk it je,i',j',t)/\MI lt la lb je i' j'/\i'+1<la.length/\j'<lb.length/\i+j+x<=i'+j') (Q:=λc ay=>SG cg ay/\(RsI it lt la lb c\/NxI it lt la lb (i+j) c)) ?step ?fin ⟨sg,lo,i,j,_,rfl,m,hi,hj,Og _⟩) ?post)
 case fin=>
  rintro c ay ⟨cB,je,i',j',t,rfl,m',h1,h2,h3⟩;exact⟨cB,.inr ⟨je,i',j',t,rfl,m',h1,h2,by lia⟩⟩
 case step=>
  rintro x c ay _ hx ⟨cB,je,i',j',t,rfl,m',h1,h2,h3⟩;refine Xme hc T top hk cB m' h1 h2 λr hr=>?_;cases r with
  | done c=>
   rcases hr with z | z
   ·exact⟨cB,.inl z⟩
   ·exact⟨cB,.inr (z.mono (by lia))⟩
  | yield c=>
   obtain⟨qV,i2,j2,t2,e,a1,a2,a3,a4⟩:=hr;exact⟨cB,qV,i2,j2,t2,e,a1,a2,a3,by lia⟩
 case post=>
  rintro ⟨r,o1,i1,j1,p1,q1⟩ jQ ⟨qW,z⟩;rcases z with ⟨res,e,mr⟩ | ⟨lo1,i2,j2,t,e,m1,a1,a2,a3⟩
  ·obtain rfl:r=some (Fk it res):=e;exact Ta (h _ _ qW ⟨res,rfl,mr⟩)
  ·cases e;dsimp only;refine S9 (cI (aO ⟨rfl,?_⟩));refine S9 (aW (aE (I:=λx c ay=>SG cg ay/\NxI it lt la lb (i+j) c) (Q:=λc ay=>SG cg ay/\(RsI it lt la lb c\/NxI it lt la lb (i+j) c)) ?step ?fin ⟨qW,lo1,i1,j1,_,rfl,m1,a1,a2,a3⟩) ?post)
   case fin=>exact λc ay z=>⟨z.1,.inr z.2⟩
   case step=>
    rintro x c ay _ hx ⟨cB,je,i',j',⟨g',p',q'⟩,rfl,m',h1,h2,h3⟩;dsimp only;have go:∀(r:ForInStep MTG) bU,SG cg bU->StI it lt la lb (i'+j') r->(match r with
     | .done c'=>SG cg bU/\(RsI it lt la lb c'\/NxI it lt la lb (i+j) c')
     | .yield c'=>SG cg bU/\NxI it lt la lb (i+j) c'):=λr bU du hr=>by
     cases r with
     | done c=>
      rcases hr with z | z
      ·exact⟨du,.inl z⟩
      ·exact⟨du,.inr (z.mono (by lia))⟩
     | yield c=>exact⟨du,NxI.mono hr (by lia)⟩
    by_cases e:g' > 1
    ·rw[Td e];exact Xek hc T top hk cB m' h1 h2 λr bU s1 s2=>by have:=go r bU s1 s2;cases r<;>exact this
    ·rw[Tc e];exact Xek hc T top hk cB m' h1 h2 λr bU s1 s2=>by have:=go r bU s1 s2;cases r<;>exact this
   case post=>
    rintro ⟨r,o2,i2,j2,g2,p2,q2⟩ dz ⟨kY,z⟩;rcases z with ⟨res,e,mr⟩ | ⟨qV,i3,j3,t,e,m2,b1,b2,b3⟩
    ·obtain rfl:r=some (Fk it res):=e;exact Ta (h _ _ kY ⟨res,rfl,mr⟩)
    ·cases e;dsimp only;exact S9 (wS_setG kY λoH vF=>Ta (h _ _ vF ⟨qV,i2,j2,_,rfl,m2,b1,b2,b3⟩))
def Xmg(hc:CmS prog w A s κ it n lt)(T:Two lt n la lb)(ha:1<=la.length)(hb:1<=lb.length)(h0:∀y∈la,lt (lb.getD 0 0) y=true)(top:∀x∈lb,lt x (la.getD (la.length - 1) 0)=true)
  (hk:kindOf st = κ) (h:∀res ay,Mrg lt la lb res->SG st ay->Q (Fk it res) ay):eG (ag prog w) A E s (mLo (Fk it la) (Fk it lb)) Q st:=by
 rw[Xmd];have nA:SG st st:=⟨rfl,rfl,rfl,rfl⟩;refine S9 (cI (aO ⟨rfl,?_⟩));have dq:0<lb.length:=hb;refine S9 (Bv (Bm dq) ?_);have e0:(#[kas_item it (lb.getD 0 0)]:Array ap)=Fk it [lb.getD 0 0]:=rfl;rw[e0,Iu,Ks,Cb,Cb];have m1:=MI.chB (k:=1) T (MI.nil (lt:=lt) (la:=la) (lb:=lb)) (by rw[Dv dq];intro x hx y hy;rw[Oe.mp hx];exact h0 y (Pn hy));rw[Dv dq,Q7,Qq] at m1;by_cases e1:(1==lb.length)=true
 ·rw[Td e1];have nB:1=lb.length:=by simpa using e1
  exact Ta (h _ _ (m1.endB T (by rw[Qc (by lia:lb.length<=1)];intro _ _ y hy;cases hy)) nA)
 rw[Tc e1];have nB:1≠lb.length:=by simpa using e1
 by_cases e2:(0+1==la.length)=true
 ·rw[Td e2];have tH:0+1=la.length:=by simpa using e2
  exact Ta (h _ _ (m1.endA T (by rw[Kt tH];intro x hx y hy;rw[Oe.mp hy];exact top x (Pn hx))) nA)
 rw[Tc e2];have tH:0+1≠la.length:=by simpa using e2
 refine S9 (bI ?_);refine S9 (aW (aE (I:=λx c ay=>SG st ay/\NxI it lt la lb x c) (Q:=λc ay=>SG st ay/\RsI it lt la lb c) ?step ?fin ⟨nA,_,_,_,_,rfl,m1,by lia,by lia,by lia⟩) ?post)
 case fin=>
  rintro c ay ⟨cB,je,i',j',t,rfl,m',h1,h2,h3⟩
  lia
 case step=>
  rintro x c ay _ hx ⟨cB,je,i',j',t,rfl,m',h1,h2,h3⟩;refine Xmf hc T top hk cB m' h1 h2 λr bU du hr=>?_;cases r with
  | done c=>exact⟨du,hr⟩
  | yield c=>exact⟨du,NxI.mono hr (by lia)⟩
 case post=>
  rintro ⟨r,o2,i2,j2,g2⟩ dz ⟨kY,res,e,mr⟩;obtain rfl:r=some (Fk it res):=e;exact Ta (h res _ mr kY)
end
open PySem.W (kas_item kas_cmp)
def mHi:Array ap->Array ap->SM (Array ap):=sortPriv% PySem.Builtin.mergeHi
def dnH (a b o:Array ap) (i j:Nat):Array ap:=a.extract 0 i++b.extract 0 j++o.reverse
def fsH (a b o:Array ap) (i j:Nat):Array ap:=b.extract 0 j++a.extract 0 i++o.reverse
abbrev HTO:=Option (Array ap)×Nat×Nat×Array ap×Nat
abbrev HTI:=Option (Array ap)×Nat×Nat×Array ap×Nat×Nat
abbrev HTG:=Option (Array ap)×Nat×Nat×Array ap×Nat×Nat×Nat
def Nq (a b:Array ap) (g:Nat) (d:HTI):SM (ForInStep HTI):=do
 let y <-elem' b (d.2.2.1 - 1)
 let x <-elem' a (d.2.1 - 1)
 let r <-lt' y x
 match r with
 | some c=>
  if c=true then do
   let x <-elem' a (d.2.1 - 1)
   if (d.2.1 - 1==0)=true then pure (.done (some (dnH a b (d.2.2.2.1.push x) (d.2.1 - 1) d.2.2.1),d.2.1 - 1,d.2.2.1,d.2.2.2.1.push x,d.2.2.2.2.1+1,0))
   else if d.2.2.2.2.1+1 ≥ g then pure (.done (none,d.2.1 - 1,d.2.2.1,d.2.2.2.1.push x,d.2.2.2.2.1+1,0))
   else pure (.yield (none,d.2.1 - 1,d.2.2.1,d.2.2.2.1.push x,d.2.2.2.2.1+1,0))
  else do
   let y <-elem' b (d.2.2.1 - 1)
   if (d.2.2.1 - 1==1)=true then pure (.done (some (fsH a b (d.2.2.2.1.push y) d.2.1 (d.2.2.1 - 1)),d.2.1,d.2.2.1 - 1,d.2.2.2.1.push y,0,d.2.2.2.2.2+1))
   else if d.2.2.2.2.2+1 ≥ g then pure (.done (none,d.2.1,d.2.2.1 - 1,d.2.2.2.1.push y,0,d.2.2.2.2.2+1))
   else pure (.yield (none,d.2.1,d.2.2.1 - 1,d.2.2.2.1.push y,0,d.2.2.2.2.2+1))
 | _=>pure (.done (some (dnH a b d.2.2.2.1 d.2.1 d.2.2.1),d.2.1,d.2.2.1,d.2.2.2.1,d.2.2.2.2.1,d.2.2.2.2.2))
def gH3 (a b o:Array ap) (i j g p q:Nat):SM (ForInStep HTG):=do
 let x <-elem' a (i - 1)
 if (i - 1==0)=true then pure (.done (some (dnH a b (o.push x) (i - 1) j),i - 1,j,o.push x,g,p,q))
 else if (decide (p<7)&&decide (q<7))=true then pure (.done (none,i - 1,j,o.push x,g,p,q))
 else pure (.yield (none,i - 1,j,o.push x,g,p,q))
def gH2 (a b o:Array ap) (i j g p q:Nat):SM (ForInStep HTG):=do
 let y <-elem' b (j - 1)
 if (j - 1==1)=true then pure (.done (some (fsH a b (o.push y) i (j - 1)),i,j - 1,o.push y,g,p,q))
 else do
  let x <-elem' a (i - 1)
  let r <-Dj true x b 0 (j - 1) (j - 1 - 1)
  match r with
  | some r=>
   if j - 1 - r > 0 then
    if (r==1)=true then pure (.done (some (fsH a b (o.push y++(b.extract r (j - 1)).reverse) i r),i,r,o.push y++(b.extract r (j - 1)).reverse,g,p,j - 1 - r))
    else if (r==0)=true then pure (.done (some (dnH a b (o.push y++(b.extract r (j - 1)).reverse) i r),i,r,o.push y++(b.extract r (j - 1)).reverse,g,p,j - 1 - r))
    else gH3 a b (o.push y++(b.extract r (j - 1)).reverse) i r g p (j - 1 - r)
   else gH3 a b (o.push y) i (j - 1) g p (j - 1 - r)
  | _=>pure (.done (some (dnH a b (o.push y) i (j - 1)),i,j - 1,o.push y,g,p,q))
def gH1 (a b o:Array ap) (i j g p q:Nat):SM (ForInStep HTG):=do
 D9 g
 let y <-elem' b (j - 1)
 let r <-Dj false y a 0 i (i - 1)
 match r with
 | some r=>
  if i - r > 0 then
   if (r==0)=true then pure (.done (some (dnH a b (o++(a.extract r i).reverse) r j),r,j,o++(a.extract r i).reverse,g,i - r,q))
   else gH2 a b (o++(a.extract r i).reverse) r j g (i - r) q
  else gH2 a b o i j g (i - r) q
 | _=>pure (.done (some (dnH a b o i j),i,j,o,g,p,q))
def Ku (a b:Array ap) (c:HTO):SM (ForInStep HTO):=do
 let d <-forIn [0:a.size+b.size] ((none,c.2.1,c.2.2.1,c.2.2.2.1,0,0):HTI) λ_ d=>Nq a b c.2.2.2.2 d
 match d.1 with
 | some r=>pure (.done (some r,d.2.1,d.2.2.1,d.2.2.2.1,c.2.2.2.2))
 | none=>do
  liftM (rule "list.sort.gallop")
  let e <-forIn [0:a.size+b.size] ((none,d.2.1,d.2.2.1,d.2.2.2.1,c.2.2.2.2+1,d.2.2.2.2.1,d.2.2.2.2.2):HTG) λ_ e=>
   if e.2.2.2.2.1 > 1 then gH1 a b e.2.2.2.1 e.2.1 e.2.2.1 (e.2.2.2.2.1 - 1) e.2.2.2.2.2.1 e.2.2.2.2.2.2 else gH1 a b e.2.2.2.1 e.2.1 e.2.2.1 e.2.2.2.2.1 e.2.2.2.2.2.1 e.2.2.2.2.2.2
  match e.1 with
  | some r=>pure (.done (some r,e.2.1,e.2.2.1,e.2.2.2.1,e.2.2.2.2.1))
  | none=>do
   D9 (e.2.2.2.2.1+1)
   pure (.yield (none,e.2.1,e.2.2.1,e.2.2.2.1,e.2.2.2.2.1+1))
def Xmh(a b:Array ap):mHi a b=(do
  liftM (rule "list.sort.merge-hi")
  let mut i:=a.size - 1
  let mut j:=b.size
  let x0 <-elem' a i
  let mut o:Array ap := #[x0]
  if i==0 then return dnH a b o i j
  if j==1 then return fsH a b o i j
  let mut g:=cY (<-get)
  for _ in [0:a.size+b.size] do
   let mut p:=0
   let mut q:=0
   for _ in [0:a.size+b.size] do
    let some c <-lt' (<-elem' b (j - 1)) (<-elem' a (i - 1)) | return dnH a b o i j
    if c then
     i:=i - 1
     o:=o.push (<-elem' a i)
     p:=p+1
     q:=0
     if i==0 then return dnH a b o i j
     if p ≥ g then break
    else
     j:=j - 1
     o:=o.push (<-elem' b j)
     q:=q+1
     p:=0
     if j==1 then return fsH a b o i j
     if q ≥ g then break
   liftM (rule "list.sort.gallop")
   g:=g+1
   for _ in [0:a.size+b.size] do
    if g > 1 then g:=g - 1
    D9 g
    let some r <-Dj false (<-elem' b (j - 1)) a 0 i (i - 1) | return dnH a b o i j
    let k:=i - r
    p:=k
    if k > 0 then
     o:=o++(a.extract r i).reverse
     i:=r
     if i==0 then return dnH a b o i j
    j:=j - 1
    o:=o.push (<-elem' b j)
    if j==1 then return fsH a b o i j
    let some r <-Dj true (<-elem' a (i - 1)) b 0 j (j - 1) | return dnH a b o i j
    let k:=j - r
    q:=k
    if k > 0 then
     o:=o++(b.extract r j).reverse
     j:=r
     if j==1 then return fsH a b o i j
     if j==0 then return dnH a b o i j
    i:=i - 1
    o:=o.push (<-elem' a i)
    if i==0 then return dnH a b o i j
    if p<7&&q<7 then break
   g:=g+1
   D9 g
  unsupported "internal:list.sort.merge-bound"):=rfl
def Xmi(a b:Array ap):mHi a b=(do
  liftM (rule "list.sort.merge-hi")
  let x0 <-elem' a (a.size - 1)
  if (a.size - 1==0)=true then pure (dnH a b #[x0] (a.size - 1) b.size)
  else if (b.size==1)=true then pure (fsH a b #[x0] (a.size - 1) b.size)
  else do
   let st <-get
   let c <-forIn [0:a.size+b.size] ((none,a.size - 1,b.size, #[x0],cY st):HTO) λ_ c=>Ku a b c
   match c.1 with
   | some r=>pure r
   | none=>unsupported "internal:list.sort.merge-bound"):=by
 rw[Xmh];congr 1;funext _u;dsimp only;congr 1;funext x0;congr 1;congr 1;congr 1;funext st;congr 1
 ·congr 1;funext _x c;unfold Ku;congr 1;funext d;obtain⟨r,d⟩:=d;cases r with
  | some r=>rfl
  | none=>
   dsimp only;congr 1;funext _v;congr 1;funext e;obtain⟨r,e⟩:=e;cases r<;>rfl
 ·funext c;obtain⟨r,c⟩:=c;cases r<;>rfl
open PySem.W (kas_item kas_cmp)
section
variable {it:Array ap}
def Nr(l):(Fk it l).reverse=Fk it l.reverse:=by
 unfold Fk;rw[List.reverse_toArray,List.map_reverse]
def Kv(l)(j):(Fk it l).extract 0 j=Fk it (l.take j):=by
 rw[Ea,R5,Nat.sub_zero]
def Xel(l lo)(r i):Fk it lo.reverse++((Fk it l).extract r i).reverse=Fk it (((l.take i).drop r)++lo).reverse:=by
 rw[Ea,Nr,Du,List.reverse_append,R6]
def Kw(lo)(x):(Fk it lo.reverse).push (kas_item it x)=Fk it (x::lo).reverse:=by
 rw[Ir,Ss]
def Iv(la lb lo)(i j):dnH (Fk it la) (Fk it lb) (Fk it lo.reverse) i j=Fk it (la.take i++lb.take j++lo):=by
 unfold dnH;rw[Kv,Kv,Nr,List.reverse_reverse,Du,Du]
def Kx(la lb lo)(i j):fsH (Fk it la) (Fk it lb) (Fk it lo.reverse) i j=Fk it (lb.take j++la.take i++lo):=by
 unfold fsH;rw[Kv,Kv,Nr,List.reverse_reverse,Du,Du]
end
structure MJ (lt:Nat->Nat->Bool) (la lb lo:List Nat) (i j:Nat):Prop where
 so:lo.Pairwise λx y=>lt x y=true
 pm:lo.Perm (la.drop i++lb.drop j)
 ba:∀x∈la.take i,∀y∈lo,lt x y=true
 bb:∀x∈lb.take j,∀y∈lo,lt x y=true
section
variable {lt:Nat->Nat->Bool}{n:Nat}{la lb lo:List Nat}{i j k r:Nat}
def Ky{l:List Nat}(h:r<=i):l.take i=l.take r++(l.take i).drop r:=by
 have:=O9 r (l.take i);rw[List.take_take,Qv h] at this;exact this.symm
def Xem{l:List Nat}(h:r<=i)(hi:i<=l.length):l.drop r=(l.take i).drop r++l.drop i:=by
 have e:=O9 i l;have:=congrArg (List.drop r) e;rw[List.drop_append_of_le_length (by rw[Os];lia)] at this;exact this.symm
def MJ.chA(T:Two lt n la lb)(m:MJ lt la lb lo i j)(hr:r<=i)(hi:i<=la.length)(h:∀x∈lb.take j,∀y∈(la.take i).drop r,lt x y=true):MJ lt la lb ((la.take i).drop r++lo) r j:=by
 have sd:=T.sa.sublist (Px i la);rw[Ky hr] at sd;obtain⟨s1,s2,s3⟩:=O7.mp sd;refine⟨O7.mpr ⟨s2,m.so,λx hx y hy=>m.ba x (Pn hx) y hy⟩,?_,λx hx y hy=>?_,λx hx y hy=>?_⟩
 ·rw[Xem hr hi,Pa];exact P1 _ m.pm
 ·rcases Om.mp hy with z | z
  ·exact s3 x hx y z
  ·exact m.ba x (by rw[Ky hr];exact Pw _ hx) y z
 ·rcases Om.mp hy with z | z
  ·exact h x hx y z
  ·exact m.bb x hx y z
def MJ.chB(T:Two lt n la lb)(m:MJ lt la lb lo i j)(hr:r<=j)(hj:j<=lb.length)(h:∀x∈la.take i,∀y∈(lb.take j).drop r,lt x y=true):MJ lt la lb ((lb.take j).drop r++lo) i r:=by
 have sd:=T.sb.sublist (Px j lb);rw[Ky hr] at sd;obtain⟨s1,s2,s3⟩:=O7.mp sd;refine⟨O7.mpr ⟨s2,m.so,λx hx y hy=>m.bb x (Pn hx) y hy⟩,?_,λx hx y hy=>?_,λx hx y hy=>?_⟩
 ·rw[Xem hr hj];refine(P1 _ m.pm).trans ?_;rw[<-Pa,<-Pa];exact Ql.append_right _
 ·rcases Om.mp hy with z | z
  ·exact h x hx y z
  ·exact m.ba x hx y z
 ·rcases Om.mp hy with z | z
  ·exact s3 x hx y z
  ·exact m.bb x (by rw[Ky hr];exact Pw _ hx) y z
def Xen(h:lo.Perm (la.drop i++lb.drop j)):(la.take i++lb.take j++lo).Perm (la++lb):=by
 refine(P1 _ h).trans ?_;have e:la++lb=la.take i++(la.drop i++(lb.take j++lb.drop j)):=by rw[O9,<-Pa,O9]
 rw[e,Pa];refine P1 _ ?_;rw[<-Pa,<-Pa];exact Ql.append_right _
def MJ.endD(T:Two lt n la lb)(m:MJ lt la lb lo i j)(h:∀x∈la.take i,∀y∈lb.take j,lt x y=true):Mrg lt la lb (la.take i++lb.take j++lo):=by
 refine⟨Xen m.pm,O7.mpr ⟨O7.mpr ⟨T.sa.sublist (Px ..),T.sb.sublist (Px ..),h⟩,m.so,λx hx y hy=>?_⟩⟩;rcases Om.mp hx with z | z
 ·exact m.ba x z y hy
 ·exact m.bb x z y hy
def MJ.endF(T:Two lt n la lb)(m:MJ lt la lb lo i j)(h:∀x∈lb.take j,∀y∈la.take i,lt x y=true):Mrg lt la lb (lb.take j++la.take i++lo):=by
 refine⟨?_,O7.mpr ⟨O7.mpr ⟨T.sb.sublist (Px ..),T.sa.sublist (Px ..),h⟩,m.so,λx hx y hy=>?_⟩⟩
 ·refine List.Perm.trans ?_ (Xen m.pm);exact Ql.append_right _
 ·rcases Om.mp hx with z | z
  ·exact m.bb x z y hy
  ·exact m.ba x z y hy
def Iw{l:List Nat}(L:Lin n lt)(so:l.Pairwise λx y=>lt x y=true)(hi:1<=i)(hl:i<=l.length)(h:lt (l.getD (i - 1) 0) x=true):∀y∈l.take i,lt y x=true:=by
 intro y hy;obtain⟨t,ht,e⟩:=Pi.mp hy;rw[Os] at ht;rw[R4] at e;have CV:t<l.length:=by lia
 have ey:y=l.getD t 0:=by rw[<-e,Oy,Od CV];rfl
 by_cases z:t=i - 1
 ·rw[ey,z];exact h
 ·rw[ey];exact L.tr _ _ _ (Gw so (by lia) (by lia)) h
def Eb{l:List Nat}(h1:1<=i)(h:i<=l.length):(l.take i).drop (i - 1)=[l.getD (i - 1) 0]:=by
 rw[R6,show i - (i - 1)=1 by lia];exact Dv (by lia)
def Nt{l:List Nat}(h:x∈(l.take i).drop r)(hi:i<=l.length):∃t,r<=t/\t<i/\x=l.getD t 0:=by
 rw[R6] at h;obtain⟨t,h1,h2,e⟩:=Dk h;exact⟨r+t,by lia,by lia,e⟩
def Fy{l:List Nat}(h:x∈l.take i)(hi:i<=l.length):∃t,t<i/\x=l.getD t 0:=by
 obtain⟨t,_,h2,e⟩:=Nt (r:=0) (by rw[R5];exact h) hi;exact⟨t,h2,e⟩
end
def RsH {τ : Type} (it:Array ap) (lt:Nat->Nat->Bool) (la lb:List Nat) (c:Option (Array ap) × τ):Prop:=∃res,c.1=some (Fk it res)/\Mrg lt la lb res
def NxH {τ : Type} (it:Array ap) (lt:Nat->Nat->Bool) (la lb:List Nat) (m:Nat) (c:Option (Array ap)×Nat×Nat×Array ap × τ):Prop:=∃lo i j t,c=(none,i,j,Fk it lo.reverse,t)/\MJ lt la lb lo i j/\1<=i/\2<=j/\i<=la.length/\j<=lb.length/\i+j<m
def StH {τ : Type} (it:Array ap) (lt:Nat->Nat->Bool) (la lb:List Nat) (m:Nat) (r:ForInStep (Option (Array ap)×Nat×Nat×Array ap × τ)):Prop:=match r with
 | .done c=>RsH it lt la lb c\/NxH it lt la lb m c
 | .yield c=>NxH it lt la lb m c
def SuH {τ : Type} (it:Array ap) (lt:Nat->Nat->Bool) (la lb:List Nat) (m:Nat) (r:ForInStep (Option (Array ap)×Nat×Nat×Array ap × τ)):Prop:=match r with
 | .done c=>RsH it lt la lb c
 | .yield c=>NxH it lt la lb m c
def NxH.mono{τ : Type}    {c:Option (Array ap)×Nat×Nat×Array ap × τ}(h:NxH it lt la lb m c)(hm:m<=m'):NxH it lt la lb m' c:=by
 obtain⟨lo,i,j,t,e,a1,a2,a3,a4,a5,a6⟩:=h;exact⟨lo,i,j,t,e,a1,a2,a3,a4,a5,by lia⟩
section
variable {prog:ao}{w:av}{A:aw}{E:Zb}{s:af}{κ : bT}{it:Array ap}{n:Nat}{lt:Nat->Nat->Bool}{la lb lo:List Nat}{i j k g p q:Nat}{cg st:bd}
def Xmj(hc:CmS prog w A s κ it n lt)(T:Two lt n la lb)(gl:∀y∈la,lt (lb.getD 0 0) y=true)(hk:kindOf cg = κ)(sg:SG cg st)(m:MJ lt la lb lo i j)(hi:1<=i)(hj:2<=j)(ha:i<=la.length)(hb:j<=lb.length)(h:∀r,StH it lt la lb (i+j) r->Q r st):eG (ag prog w) A E s (Nq (Fk it la) (Fk it lb) g (none,i,j,Fk it lo.reverse,p,q)) Q st:=by
 unfold Nq;dsimp only;have ea:=Bm (show i - 1<la.length by lia);have eb:=Bm (show j - 1<lb.length by lia);have ma:=Cd (show i - 1<la.length by lia);have mb:=Cd (show j - 1<lb.length by lia);refine S9 (Bv eb (S9 (Bv ea (S9 (Iq hc (T.bn _ mb) (T.an _ ma) (sg.k.trans hk) ?_)))));dsimp only;cases c:lt (lb.getD (j - 1) 0) (la.getD (i - 1) 0) with
 | true=>
  rw[Td rfl];refine S9 (Bv ea ?_);rw[Kw,Iv];have m':=MJ.chA (r:=i - 1) T m (by lia) ha (by rw[Eb hi ha];intro x hx y hy;rw[Oe.mp hy];exact Iw T.L T.sb (by lia) hb c x hx);rw[Eb hi ha] at m';by_cases e:(i - 1==0)=true
  ·rw[Td e];have e':i - 1=0:=by simpa using e
   exact Ta (h _ (.inl ⟨_,rfl,m'.endD T (by rw[e'];intro _ hx;simp at hx)⟩))
  ·rw[Tc e];have e':i - 1≠0:=by simpa using e
   by_cases e2:p+1 ≥ g
   ·rw[Td e2];exact Ta (h _ (.inr ⟨_,_,_,_,rfl,m',by lia,hj,by lia,hb,by lia⟩))
   ·rw[Tc e2];exact Ta (h _ ⟨_,_,_,_,rfl,m',by lia,hj,by lia,hb,by lia⟩)
 | false=>
  rw[Tc (by decide)];have c':=T.flip ma mb c;refine S9 (Bv eb ?_);rw[Kw,Kx];have m':=MJ.chB (r:=j - 1) T m (by lia) hb (by rw[Eb (by lia) hb];intro x hx y hy;rw[Oe.mp hy];exact Iw T.L T.sa hi ha c' x hx);rw[Eb (by lia) hb] at m';by_cases e:(j - 1==1)=true
  ·rw[Td e];have e':j - 1=1:=by simpa using e
   refine Ta (h _ (.inl ⟨_,rfl,m'.endF T λx hx y hy=>?_⟩));obtain⟨t,ht,rfl⟩:=Fy hx (by lia);rw[show t=0 by lia];exact gl y (Pm hy)
  ·rw[Tc e];have e':j - 1≠1:=by simpa using e
   by_cases e2:q+1 ≥ g
   ·rw[Td e2];exact Ta (h _ (.inr ⟨_,_,_,_,rfl,m',hi,by lia,ha,by lia,by lia⟩))
   ·rw[Tc e2];exact Ta (h _ ⟨_,_,_,_,rfl,m',hi,by lia,ha,by lia,by lia⟩)
def Xeo(T:Two lt n la lb)(m:MJ lt la lb lo i j)(hi:1<=i)(hj:2<=j)(ha:i<=la.length)(hb:j<=lb.length)(c:∀x∈lb.take j,lt x (la.getD (i - 1) 0)=true)  (hm:i+j<=m0)(h:∀r,StH it lt la lb m0 r->Q r st):eG (ag prog w) A E s (gH3 (Fk it la) (Fk it lb) (Fk it lo.reverse) i j g p q) Q st:=by
 unfold gH3;refine S9 (Bv (Bm (show i - 1<la.length by lia)) ?_);rw[Kw,Iv];have m':=MJ.chA (r:=i - 1) T m (by lia) ha (by rw[Eb hi ha];intro x hx y hy;rw[Oe.mp hy];exact c x hx);rw[Eb hi ha] at m';by_cases e:(i - 1==0)=true
 ·rw[Td e];have e':i - 1=0:=by simpa using e
  exact Ta (h _ (.inl ⟨_,rfl,m'.endD T (by rw[e'];intro _ hx;simp at hx)⟩))
 ·rw[Tc e];have e':i - 1≠0:=by simpa using e
  by_cases e2:(decide (p<7)&&decide (q<7))=true
  ·rw[Td e2];exact Ta (h _ (.inr ⟨_,_,_,_,rfl,m',by lia,hj,by lia,hb,by lia⟩))
  ·rw[Tc e2];exact Ta (h _ ⟨_,_,_,_,rfl,m',by lia,hj,by lia,hb,by lia⟩)
def Xep(hc:CmS prog w A s κ it n lt)(T:Two lt n la lb)(gl:∀y∈la,lt (lb.getD 0 0) y=true)(hk:kindOf cg = κ)(sg:SG cg st)(m:MJ lt la lb lo i j)(hi:1<=i)(hj:2<=j)(ha:i<=la.length)(hb:j<=lb.length)(c:lt (la.getD (i - 1) 0) (lb.getD (j - 1) 0)=true)  (hm:i+j<=m0)(h:∀r,StH it lt la lb m0 r->Q r st):eG (ag prog w) A E s (gH2 (Fk it la) (Fk it lb) (Fk it lo.reverse) i j g p q) Q st:=by
 unfold gH2;have ea:=Bm (show i - 1<la.length by lia);have ma:=Cd (show i - 1<la.length by lia);refine S9 (Bv (Bm (show j - 1<lb.length by lia)) ?_);rw[Kw,Kx];have m':=MJ.chB (r:=j - 1) T m (by lia) hb (by rw[Eb (by lia) hb];intro x hx y hy;rw[Oe.mp hy];exact Iw T.L T.sa hi ha c x hx);rw[Eb (by lia) hb] at m';by_cases e:(j - 1==1)=true
 ·rw[Td e];have e':j - 1=1:=by simpa using e
  refine Ta (h _ (.inl ⟨_,rfl,m'.endF T λx hx y hy=>?_⟩));obtain⟨t,ht,rfl⟩:=Fy hx (by lia);rw[show t=0 by lia];exact gl y (Pm hy)
 rw[Tc e];have e':j - 1≠1:=by simpa using e
 refine S9 (Bv ea ?_);refine S9 (Gu (P:=λt=>lt (lb.getD t 0) (la.getD (i - 1) 0)) ⟨λa b fb dq e=>?_⟩ (by lia) (λt ht Q' hq=>?_) λr hr jm jW=>?_)
 ·exact T.L.tr _ _ _ (Gw T.sb fb (by lia)) e
 ·rw[Qq];exact Gs hc (Bm (by lia)) (T.bn _ (Cd (by lia))) (T.an _ ma) (sg.k.trans hk) (left:=true) hq
 dsimp only;have below:∀z≤r,∀x∈lb.take z,lt x (la.getD (i - 1) 0)=true:=λz hz x hx=>by
  obtain⟨t,ht,rfl⟩:=Fy hx (by lia);exact jm t (by lia)
 by_cases j9:j - 1 - r > 0
 ·rw[Td j9,Xel,Iv,Kx];have m2:=MJ.chB (r:=r) T m' hr (by lia) (λx hx y hy=>by
   obtain⟨t,h1,h2,rfl⟩:=Nt hy (by lia);exact Iw T.L T.sa hi ha (T.flip ma (Cd (by lia)) (jW t h1 h2)) x hx)
  by_cases e3:(r==1)=true
  ·rw[Td e3];have kX:r=1:=by simpa using e3
   refine Ta (h _ (.inl ⟨_,rfl,m2.endF T λx hx y hy=>?_⟩));obtain⟨t,ht,rfl⟩:=Fy hx (by lia);rw[show t=0 by lia];exact gl y (Pm hy)
  ·rw[Tc e3];have kX:r≠1:=by simpa using e3
   by_cases e4:(r==0)=true
   ·rw[Td e4];have y3:r=0:=by simpa using e4
    exact Ta (h _ (.inl ⟨_,rfl,m2.endD T (by rw[y3];intro _ _ y hy;simp at hy)⟩))
   ·rw[Tc e4];have y3:r≠0:=by simpa using e4
    exact Xeo T m2 hi (by lia) ha (by lia) (below r (Og _)) (by lia) h
 ·rw[Tc j9];exact Xeo T m' hi (by lia) ha (by lia) (below (j - 1) (by lia)) (by lia) h
def Xeq(hc:CmS prog w A s κ it n lt)(T:Two lt n la lb)(gl:∀y∈la,lt (lb.getD 0 0) y=true)(hk:kindOf cg = κ)(sg:SG cg st)(m:MJ lt la lb lo i j)(hi:1<=i)(hj:2<=j)(ha:i<=la.length)(hb:j<=lb.length)(h:∀r ay,SG cg ay->StH it lt la lb (i+j) r->Q r ay):eG (ag prog w) A E s (gH1 (Fk it la) (Fk it lb) (Fk it lo.reverse) i j g p q) Q st:=by
 unfold gH1;refine S9 (wS_setG sg λay cB=>?_);have eb:=Bm (show j - 1<lb.length by lia);have mb:=Cd (show j - 1<lb.length by lia);refine S9 (Bv eb ?_);refine S9 (Gu (P:=λt => !lt (lb.getD (j - 1) 0) (la.getD t 0)) ⟨λa b fb dq e=>?_⟩ (by lia) (λt ht Q' hq=>?_) λr hr jm jW=>?_)
 ·have e:lt (lb.getD (j - 1) 0) (la.getD b 0)=false:=by simpa using e
  cases q:lt (lb.getD (j - 1) 0) (la.getD a 0) with
  | false=>rfl
  | true=>
   have:=T.L.tr _ _ _ q (Gw T.sa fb (by lia));rw[this] at e;cases e
 ·rw[Qq];exact Gs hc (Bm (by lia)) (T.an _ (Cd (by lia))) (T.bn _ mb) (cB.k.trans hk) (left:=false) hq
 dsimp only;have fu:1<=r->lt (la.getD (r - 1) 0) (lb.getD (j - 1) 0)=true:=λh1=>by
  have:=jm (r - 1) (by lia);exact T.flip (Cd (by lia)) mb (by simpa using this)
 by_cases j9:i - r > 0
 ·rw[Td j9,Xel,Iv];have m2:=MJ.chA (r:=r) T m hr ha (λx hx y hy=>by
   obtain⟨t,h1,h2,rfl⟩:=Nt hy (by lia);have:=jW t h1 h2;exact Iw T.L T.sb (by lia) hb (by simpa using this) x hx)
  by_cases e3:(r==0)=true
  ·rw[Td e3];have kX:r=0:=by simpa using e3
   exact Ta (h _ _ cB (.inl ⟨_,rfl,m2.endD T (by rw[kX];intro _ hx;simp at hx)⟩))
  ·rw[Tc e3];have kX:r≠0:=by simpa using e3
   exact Xep hc T gl hk cB m2 (by lia) hj (by lia) hb (fu (by lia)) (by lia) λr' n0=>h r' _ cB n0
 ·rw[Tc j9];have:r=i:=by lia
  subst this;exact Xep hc T gl hk cB m hi hj ha hb (fu hi) (Og _) λr' n0=>h r' _ cB n0
def Xmk(hc:CmS prog w A s κ it n lt)(T:Two lt n la lb)(gl:∀y∈la,lt (lb.getD 0 0) y=true)(hk:kindOf cg = κ)(sg:SG cg st)(m:MJ lt la lb lo i j)(hi:1<=i)(hj:2<=j)(ha:i<=la.length)(hb:j<=lb.length)(h:∀r ay,SG cg ay->SuH it lt la lb (i+j) r->Q r ay):eG (ag prog w) A E s (Ku (Fk it la) (Fk it lb) (none,i,j,Fk it lo.reverse,g)) Q st:=by
 unfold Ku;dsimp only;rw[Cb,Cb];refine S9 (aW (aE (I:=λx c ay=>SG cg ay/\NxH it lt la lb (i+j+1 - x) c) (Q:=λc ay=>SG cg ay/\(RsH it lt la lb c\/NxH it lt la lb (i+j) c)) ?step ?fin ⟨sg,lo,i,j,_,rfl,m,hi,hj,ha,hb,by lia⟩) ?post)
 case fin=>
  rintro c ay ⟨cB,z⟩;exact⟨cB,.inr (z.mono (by lia))⟩
 case step=>
  rintro x c ay _ hx ⟨cB,je,i',j',t,rfl,m',h1,h2,h3,h4,h5⟩;refine Xmj hc T gl hk cB m' h1 h2 h3 h4 λr hr=>?_;cases r with
  | done c=>
   rcases hr with z | z
   ·exact⟨cB,.inl z⟩
   ·exact⟨cB,.inr (z.mono (by lia))⟩
  | yield c=>exact⟨cB,NxH.mono hr (by lia)⟩
 case post=>
  rintro ⟨r,i1,j1,o1,p1,q1⟩ jQ ⟨qW,z⟩;rcases z with ⟨res,e,mr⟩ | ⟨lo1,i2,j2,t,e,m1,a1,a2,a3,a4,a5⟩
  ·obtain rfl:r=some (Fk it res):=e;exact Ta (h _ _ qW ⟨res,rfl,mr⟩)
  ·cases e;dsimp only;refine S9 (cI (aO ⟨rfl,?_⟩));refine S9 (aW (aE (I:=λx c ay=>SG cg ay/\NxH it lt la lb (i+j) c) (Q:=λc ay=>SG cg ay/\(RsH it lt la lb c\/NxH it lt la lb (i+j) c)) ?step ?fin ⟨qW,lo1,i1,j1,_,rfl,m1,a1,a2,a3,a4,a5⟩) ?post)
   case fin=>exact λc ay z=>⟨z.1,.inr z.2⟩
   case step=>
    rintro x c ay _ hx ⟨cB,je,i',j',⟨g',p',q'⟩,rfl,m',h1,h2,h3,h4,h5⟩;dsimp only;have go:∀(r:ForInStep HTG) bU,SG cg bU->StH it lt la lb (i'+j') r->(match r with
     | .done c'=>SG cg bU/\(RsH it lt la lb c'\/NxH it lt la lb (i+j) c')
     | .yield c'=>SG cg bU/\NxH it lt la lb (i+j) c'):=λr bU du hr=>by
     cases r with
     | done c=>
      rcases hr with z | z
      ·exact⟨du,.inl z⟩
      ·exact⟨du,.inr (z.mono (by lia))⟩
     | yield c=>exact⟨du,NxH.mono hr (by lia)⟩
    by_cases e:g' > 1
    ·rw[Td e];exact Xeq hc T gl hk cB m' h1 h2 h3 h4 λr bU s1 s2=>by have:=go r bU s1 s2;cases r<;>exact this
    ·rw[Tc e];exact Xeq hc T gl hk cB m' h1 h2 h3 h4 λr bU s1 s2=>by have:=go r bU s1 s2;cases r<;>exact this
   case post=>
    rintro ⟨r,i2,j2,o2,g2,p2,q2⟩ dz ⟨kY,z⟩;rcases z with ⟨res,e,mr⟩ | ⟨qV,i3,j3,t,e,m2,b1,b2,b3,b4,b5⟩
    ·obtain rfl:r=some (Fk it res):=e;exact Ta (h _ _ kY ⟨res,rfl,mr⟩)
    ·cases e;dsimp only;exact S9 (wS_setG kY λoH vF=>Ta (h _ _ vF ⟨qV,i2,j2,_,rfl,m2,b1,b2,b3,b4,b5⟩))
def Xml(hc:CmS prog w A s κ it n lt)(T:Two lt n la lb)(ha:1<=la.length)(hb:1<=lb.length)(gl:∀y∈la,lt (lb.getD 0 0) y=true)(top:∀x∈lb,lt x (la.getD (la.length - 1) 0)=true)
  (hk:kindOf st = κ) (h:∀res ay,Mrg lt la lb res->SG st ay->Q (Fk it res) ay):eG (ag prog w) A E s (mHi (Fk it la) (Fk it lb)) Q st:=by
 rw[Xmi];have nA:SG st st:=⟨rfl,rfl,rfl,rfl⟩;refine S9 (cI (aO ⟨rfl,?_⟩));rw[Cb,Cb];refine S9 (Bv (Bm (show la.length - 1<la.length by lia)) ?_);have e0:(#[kas_item it (la.getD (la.length - 1) 0)]:Array ap)=Fk it [la.getD (la.length - 1) 0].reverse:=rfl;rw[e0,Iv,Kx];have mn:MJ lt la lb [] la.length lb.length:=⟨.nil,by rw[Qc (Og _),Qc (Og _)];exact .nil,λ_ _ _ h=>(nomatch h),λ_ _ _ h=>(nomatch h)⟩;have m1:=MJ.chA (r:=la.length - 1) T mn (by lia) (Og _) (by rw[Eb ha (Og _)];intro x hx y hy;rw[Oe.mp hy];exact top x (Pm hx));rw[Eb ha (Og _),Ps] at m1;by_cases e1:(la.length - 1==0)=true
 ·rw[Td e1];have nB:la.length - 1=0:=by simpa using e1
  exact Ta (h _ _ (m1.endD T (by rw[nB];intro _ hx;simp at hx)) nA)
 rw[Tc e1];have nB:la.length - 1≠0:=by simpa using e1
 by_cases e2:(lb.length==1)=true
 ·rw[Td e2];have tH:lb.length=1:=by simpa using e2
  refine Ta (h _ _ (m1.endF T λx hx y hy=>?_) nA);obtain⟨t,ht,rfl⟩:=Fy hx (Og _);rw[show t=0 by lia];exact gl y (Pm hy)
 rw[Tc e2];have tH:lb.length≠1:=by simpa using e2
 refine S9 (bI ?_);refine S9 (aW (aE (I:=λx c ay=>SG st ay/\NxH it lt la lb (la.length+lb.length - x) c) (Q:=λc ay=>SG st ay/\RsH it lt la lb c) ?step ?fin ⟨nA,_,_,_,_,rfl,m1,by lia,by lia,by lia,by lia,by lia⟩) ?post)
 case fin=>
  rintro c ay ⟨cB,je,i',j',t,rfl,m',h1,h2,h3,h4,h5⟩
  lia
 case step=>
  rintro x c ay _ hx ⟨cB,je,i',j',t,rfl,m',h1,h2,h3,h4,h5⟩;refine Xmk hc T gl hk cB m' h1 h2 h3 h4 λr bU du hr=>?_;cases r with
  | done c=>exact⟨du,hr⟩
  | yield c=>exact⟨du,NxH.mono hr (by lia)⟩
 case post=>
  rintro ⟨r,o2,i2,j2,g2⟩ dz ⟨kY,res,e,mr⟩;obtain rfl:r=some (Fk it res):=e;exact Ta (h res _ mr kY)
end
open PySem.W (kas_item kas_cmp kas_swaps_map)
def SoL (lt:Nat->Nat->Bool) (l:List Nat) (u v:Nat):Prop:=∀i j,u<=i->i<j->j<v->lt (l.getD i 0) (l.getD j 0)=true
def DeL (lt:Nat->Nat->Bool) (l:List Nat) (u v:Nat):Prop:=∀i j,u<=i->i<j->j<v->lt (l.getD j 0) (l.getD i 0)=true
structure SA (κ : bT) (it:Array ap) (pd:Array (Nat×Nat×Nat)) (l:List Nat) (st:bd):Prop where
 k:kindOf st = κ
 a:bh st=Fk it l
 f:bv st=none
 p:aU st=pd
section
variable {κ : bT}{it:Array ap}{pd:Array (Nat×Nat×Nat)}{l:List Nat}{st:bd}
def Gx:Fk it l=l.toArray.map (kas_item it):=by
 unfold Fk;rw[List.map_toArray]
def Ix(l:List Nat)(k):l.getD k 0=(l.toArray[k]?).getD 0:=by
 rw[Qk,Oy]
def Xer(p:Array Nat)(k):p.toList.getD k 0=(p[k]?).getD 0:=by
 rw[Oy,Rl]
def Xmm(bi:SA κ it pd l st){i j}(hj:j<=l.length):∃l',SA κ it pd l' (iO st (mirror (bh st) i j ((j - i) / 2)))/\l'.Perm l/\∀k,l'.getD k 0=if i<=k/\k<j then l.getD (i+j - 1 - k) 0 else l.getD k 0:=by
 refine⟨(mirror l.toArray i j ((j - i) / 2)).toList,⟨bi.k,?_,bi.f,bi.p⟩,?_,λk=>?_⟩
 ·show mirror (bh st) i j ((j - i) / 2)=_;rw[bi.a,Gx,Gx];exact kas_swaps_map (kas_item it) (λk=>i+k) (λk=>j - 1 - k) _ l.toArray
 ·have:=(yy l.toArray i j ((j - i) / 2)).toList;simpa using this
 ·rw[Xer,jT (by simpa using hj)];split<;>rw[Ix]
def Xmn(bi:SA κ it pd l st){k d}(hk:k<l.length)(hd:d<=k):∃l',SA κ it pd l' (iO st (bubble (bh st) k (k - d)))/\l'.Perm l/\∀i,l'.getD i 0=if i=d then l.getD k 0 else if d<i/\i<=k then l.getD (i - 1) 0 else l.getD i 0:=by
 refine⟨(bubble l.toArray k (k - d)).toList,⟨bi.k,?_,bi.f,bi.p⟩,?_,λi=>?_⟩
 ·show bubble (bh st) k (k - d)=_;rw[bi.a,Gx,Gx];exact kas_swaps_map (kas_item it) (λi=>k - i) (λi=>k - i - 1) _ l.toArray
 ·have:=(j8 l.toArray k (k - d)).toList;simpa using this
 ·rw[Xer,oR (by simpa using hk) _ (by lia),show k - (k - d)=d by lia];split
  ·rw[Ix]
  ·split<;>rw[Ix]
end
section
variable {prog:ao}{w:av}{A:aw}{E:Zb}{s:af}{κ : bT}{it:Array ap}{n:Nat}{lt:Nat->Nat->Bool}{pd:Array (Nat×Nat×Nat)}{l:List Nat}{st:bd}
structure Al (n:Nat) (l:List Nat):Prop where
 pm:l.Perm (List.range n)
def Al.len(h:Al n l):l.length=n:=by rw[h.pm.length_eq,Py]
def Al.ltn(h:Al n l)(hi:i<n):l.getD i 0<n:=Pu.mp (h.pm.mem_iff.mp (Cd (by rw[h.len];exact hi)))
def Al.nd(h:Al n l):l.Nodup:=h.pm.nodup_iff.mpr List.nodup_range
def Al.ne(h:Al n l){i j}(hi:i<n)(hj:j<n)(ne:i≠j):l.getD i 0≠l.getD j 0:=λe=>by
 have hl:=h.len;have e1:l.getD i 0=l[i]'(by lia):=by rw[Oy,Od (by lia)];rfl
 have e2:l.getD j 0=l[j]'(by lia):=by rw[Oy,Od (by lia)];rfl
 rw[e1,e2] at e;exact ne ((Rq h.nd).mp e)
def Al.flip(L:Lin n lt)(h:Al n l)(hi:i<n)(hj:j<n)(ne:i≠j)(e:lt (l.getD i 0) (l.getD j 0)=false):lt (l.getD j 0) (l.getD i 0)=true:=by
 rcases L.tot _ _ (h.ltn hi) (h.ltn hj) (h.ne hi hj ne) with z | z
 ·rw[z] at e;cases e
 ·exact z
def Gy(hc:CmS prog w A s κ it n lt)(bi:SA κ it pd l st)(al:Al n l)  (hi:i<n)(hj:j<n)(h:Q (some (lt (l.getD i 0) (l.getD j 0))) st):eG (ag prog w) A E s (ltAt' i j) Q st:=by
 rw[ltAt'_eq];refine S9 (bI ?_)
 show eG _ _ _ _ (do  let x <-elem' (bh st) i;let y <-elem' (bh st) j;lt' x y) Q st;rw[bi.a];have hl:=al.len;exact S9 (Bv (Bm (by lia)) (S9 (Bv (Bm (by lia)) (Iq hc (al.ltn hi) (al.ltn hj) bi.k h))))
def Xes(L:Lin n lt){u v}(so:SoL lt l u v)(kU:u<v)(h:lt (l.getD (v - 1) 0) (l.getD v 0)=true):SoL lt l u (v+1):=λi j h1 h2 h3=>by
 by_cases e:j<v
 ·exact so i j h1 h2 e
 ·have:j=v:=by lia
  subst this;by_cases z:i=j - 1
  ·rw[z];exact h
  ·exact L.tr _ _ _ (so i (j - 1) h1 (by lia) (by lia)) h
def Xet(L:Lin n lt){u v}(so:DeL lt l u v)(kU:u<v)(h:lt (l.getD v 0) (l.getD (v - 1) 0)=true):DeL lt l u (v+1):=λi j h1 h2 h3=>by
 by_cases e:j<v
 ·exact so i j h1 h2 e
 ·have:j=v:=by lia
  subst this;by_cases z:i=j - 1
  ·rw[z];exact h
  ·exact L.tr _ _ _ h (so i (j - 1) h1 (by lia) (by lia))
def Xeu(hc:CmS prog w A s κ it n lt)(bi:SA κ it pd l st)(al:Al n l){lo r}(hr:1<=r)(hn:lo+r=n)(h:∀m l' ay,SA κ it pd l' ay->l'.Perm l->1<=m->m<=r->SoL lt l' lo (lo+m)->(∀i,i<lo->l'.getD i 0=l.getD i 0)->Q (some m) ay):eG (ag prog w) A E s (countRun' lo r) Q st:=by
 have L:=hc.L;have hl:=al.len;rw[countRun'_eq];refine S9 (aW (aE (I:=λx c ay=>st=ay/\c=(none,x)/\SoL lt l lo (lo+x)) (Q:=λc ay=>st=ay/\∃m,c=(none,m)/\1<=m/\m<=r/\SoL lt l lo (lo+m)/\(m<r->lt (l.getD (lo+m) 0) (l.getD (lo+m - 1) 0)=true)) ?step ?fin ⟨rfl,rfl,λi j h1 h2 h3=>by lia⟩) ?post)
 case fin=>
  rintro c ay ⟨rfl,rfl,so⟩;exact⟨rfl,_,rfl,by lia,by lia,so,λz=>by lia⟩
 case step=>
  rintro x c ay lJ hx ⟨rfl,rfl,so⟩;dsimp only;refine S9 (Gy hc bi al (by lia) (by lia) ?_);dsimp only;cases e:lt (l.getD (lo+x) 0) (l.getD (lo+x - 1) 0) with
  | true=>
   rw[Td rfl];exact Ta ⟨rfl,x,rfl,lJ,by lia,so,λ_=>e⟩
  | false=>
   rw[Tc (by decide)];exact Ta ⟨rfl,rfl,Xes (v:=lo+x) L so (by lia) (al.flip L (by lia) (by lia) (by lia) e)⟩
 case post=>
  rintro c ay ⟨rfl,m,rfl,m1,m2,so,nx⟩;dsimp only;by_cases e1:(m==r)=true
  ·rw[Td e1];exact Ta (h m l _ bi (.refl _) m1 m2 so λ_ _=>rfl)
  rw[Tc e1];have nB:m≠r:=by simpa using e1
  by_cases e2:m > 1
  ·rw[Td e2];refine S9 (Gy hc bi al (by lia) (by lia) ?_);dsimp only;rw[so lo (lo+m - 1) (Og _) (by lia) (by lia),Td rfl];exact Ta (h m l _ bi (.refl _) m1 m2 so λ_ _=>rfl)
  rw[Tc e2];obtain rfl:m=1:=by lia
  have nx:=nx (by lia);refine S9 (cI (aO ⟨rfl,?_⟩));refine S9 (aW (aE (I:=λx c ay=>st=ay/\c=(none,x,0)/\DeL lt l lo (lo+x)) (Q:=λc ay=>st=ay/\∃m,c=(none,m,0)/\2<=m/\m<=r/\DeL lt l lo (lo+m)) ?step ?fin ⟨rfl,rfl,Xet (v:=lo+1) L (λi j h1 h2 h3=>by lia) (by lia) nx⟩) ?post)
  case fin=>
   rintro c ay ⟨rfl,rfl,so⟩;exact⟨rfl,_,rfl,by lia,by lia,so⟩
  case step=>
   rintro x c ay lJ hx ⟨rfl,rfl,so⟩;dsimp only;refine S9 (Gy hc bi al (by lia) (by lia) ?_);dsimp only;cases e:lt (l.getD (lo+x) 0) (l.getD (lo+x - 1) 0) with
   | true=>
    rw[Td rfl,Tc (by lia)];exact Ta ⟨rfl,rfl,Xet (v:=lo+x) L so (by lia) e⟩
   | false=>
    rw[Tc (by decide)];refine S9 (Gy hc bi al (by lia) (by lia) ?_);dsimp only;rw[al.flip L (by lia) (by lia) (by lia) e,Td rfl];exact Ta ⟨rfl,x,rfl,by lia,by lia,so⟩
  case post=>
   rintro c ay ⟨rfl,m,rfl,m1,m2,de⟩;dsimp only;rw[Tc (by lia)];obtain⟨l',jQ,hV,g1⟩:=Xmm bi (i:=lo) (j:=lo+m) (by lia);refine S9 (wpS_reverse ?_);have oY:Al n l':=⟨hV.trans al.pm⟩;have gp:SoL lt l' lo (lo+m):=λi j h1 h2 h3=>by
    rw[g1,g1,Td (by lia),Td (by lia)];exact de _ _ (by lia) (by lia) (by lia)
   have pre:∀i,i<lo->l'.getD i 0=l.getD i 0:=λi hi=>by rw[g1,Tc (by lia)]
   refine S9 (aW (aE (I:=λx c ay=>SA κ it pd l' ay/\c=(none,x)/\SoL lt l' lo (lo+x)) (Q:=λc ay=>SA κ it pd l' ay/\∃m,c=(none,m)/\1<=m/\m<=r/\SoL lt l' lo (lo+m)) ?step ?fin ⟨jQ,rfl,gp⟩) ?post)
   case fin=>
    rintro c ay ⟨s1,rfl,so⟩;exact⟨s1,_,rfl,by lia,by lia,so⟩
   case step=>
    rintro x c ay lJ hx ⟨s1,rfl,so⟩;dsimp only;refine S9 (Gy hc s1 oY (by lia) (by lia) ?_);dsimp only;cases e:lt (l'.getD (lo+x) 0) (l'.getD (lo+x - 1) 0) with
    | true=>
     rw[Td rfl];exact Ta ⟨s1,x,rfl,by lia,by lia,so⟩
    | false=>
     rw[Tc (by decide)];exact Ta ⟨s1,rfl,Xes (v:=lo+x) L so (by lia) (oY.flip L (by lia) (by lia) (by lia) e)⟩
   case post=>
    rintro c ay ⟨s1,m',rfl,a1,a2,a3⟩;exact Ta (h m' l' _ s1 hV a1 a2 a3 pre)
def Xev(hc:CmS prog w A s κ it n lt)(bi:SA κ it pd l st)(al:Al n l){lo m ok}(h1:1<=ok)(h2:ok<=m)(hn:lo+m<=n)(so:SoL lt l lo (lo+ok))(h:∀l' ay,SA κ it pd l' ay->l'.Perm l->SoL lt l' lo (lo+m)->(∀i,i<lo->l'.getD i 0=l.getD i 0)->Q true ay):eG (ag prog w) A E s (binarySort' lo m ok) Q st:=by
 have L:=hc.L;have hl:=al.len;rw[binarySort'_eq];refine S9 (aW (aE (I:=λx c ay=>c=(none,())/\∃l',SA κ it pd l' ay/\l'.Perm l/\SoL lt l' lo (lo+x)/\(∀i,i<lo->l'.getD i 0=l.getD i 0)) (Q:=λc ay=>c=(none,())/\∃l',SA κ it pd l' ay/\l'.Perm l/\SoL lt l' lo (lo+m)/\(∀i,i<lo->l'.getD i 0=l.getD i 0)) ?step ?fin ⟨rfl,l,bi,.refl _,by rw[show max ok 1=ok by lia];exact so,λ_ _=>rfl⟩) ?post)
 case fin=>
  rintro c ay ⟨rfl,l',s1,pm,gp,pre⟩;exact⟨rfl,l',s1,pm,by rw[show max (max ok 1) m=m by lia] at gp;exact gp,pre⟩
 case post=>
  rintro c ay ⟨rfl,l',s1,pm,gp,pre⟩;exact Ta (h l' _ s1 pm gp pre)
 case step=>
  rintro k c ay lV hk ⟨rfl,l',s1,pm,gp,pre⟩;have oY:Al n l':=⟨pm.trans al.pm⟩;have oP:=oY.len;refine S9 (aW (aE (I:=λx c bU=>ay=bU/\∃u v,c=(none,u,v)/\u<=v/\v<=k/\v - u<=k - x/\(∀i,i<u->lt (l'.getD (lo+i) 0) (l'.getD (lo+k) 0)=true)/\(∀i,v<=i->i<k->lt (l'.getD (lo+k) 0) (l'.getD (lo+i) 0)=true))
   (Q:=λc bU=>ay=bU/\∃u,c=(none,u,u)/\u<=k/\(∀i,i<u->lt (l'.getD (lo+i) 0) (l'.getD (lo+k) 0)=true)/\(∀i,u<=i->i<k->lt (l'.getD (lo+k) 0) (l'.getD (lo+i) 0)=true)) ?step ?fin ⟨rfl,0,k,rfl,by lia,by lia,by lia,λi hi=>by lia,λi h1 h2=>by lia⟩) ?post)
  case fin=>
   rintro c bU ⟨rfl,u,v,rfl,b1,b2,b3,b4,b5⟩;have:u=v:=by lia
   subst this;exact⟨rfl,u,rfl,b2,b4,b5⟩
  case step=>
   rintro x c bU _ hx ⟨rfl,u,v,rfl,b1,b2,b3,b4,b5⟩;dsimp only;by_cases e:u ≥ v
   ·rw[Td e];have:u=v:=by lia
    subst this;exact Ta ⟨rfl,u,rfl,b2,b4,b5⟩
   ·rw[Tc e];refine S9 (Gy hc s1 oY (by lia) (by lia) ?_);dsimp only;have q1:u<=(u+v) / 2:=by lia
    have q2:(u+v) / 2<v:=by lia
    generalize (u+v) / 2=md at q1 q2;cases c:lt (l'.getD (lo+k) 0) (l'.getD (lo+md) 0) with
    | true=>
     rw[Td rfl];refine Ta ⟨rfl,u,md,rfl,q1,by lia,by lia,b4,λi z1 z2=>?_⟩;by_cases z:i=md
     ·rw[z];exact c
     ·exact L.tr _ _ _ c (gp _ _ (by lia) (by lia) (by lia))
    | false=>
     rw[Tc (by decide)];have c':=oY.flip L (by lia) (by lia) (by lia) c;refine Ta ⟨rfl,md+1,v,rfl,by lia,b2,by lia,λi z1=>?_,b5⟩;by_cases z:i=md
     ·rw[z];exact c'
     ·exact L.tr _ _ _ (gp _ _ (by lia) (by lia) (by lia)) c'
  case post=>
   rintro c bU ⟨rfl,u,rfl,b2,b4,b5⟩;dsimp only;obtain⟨l2,s2,gq,g2⟩:=Xmn s1 (k:=lo+k) (d:=lo+u) (by lia) (by lia);have wm:∀{Q:Unit->bd->Prop},Q () (iO ay (bubble (bh ay) (lo+k) (lo+k - (lo+u))))->eG (ag prog w) A E s (moveDown' (lo+k) (lo+u)) Q ay:=λhq=>by
    rw[moveDown'_eq];exact bP hq
   refine S9 (wm (Ta ⟨rfl,l2,s2,gq.trans pm,λi j h1 h2 h3=>?_,λi hi=>?_⟩))
   ·rw[g2,g2];by_cases i1:i=lo+u
    ·rw[Td i1,Tc (by lia),Td (by lia)];have:=b5 (j - 1 - lo) (by lia) (by lia)
     rwa [show lo+(j - 1 - lo)=j - 1 by lia] at this
    ·rw[Tc i1];by_cases i2:lo+u<i/\i<=lo+k
     ·rw[Td i2,Tc (by lia),Td (by lia)];exact gp _ _ (by lia) (by lia) (by lia)
     ·rw[Tc i2];by_cases j1:j=lo+u
      ·rw[Td j1];have:=b4 (i - lo) (by lia)
       rwa [show lo+(i - lo)=i by lia] at this
      ·rw[Tc j1];by_cases j2:lo+u<j/\j<=lo+k
       ·rw[Td j2];exact gp _ _ (by lia) (by lia) (by lia)
       ·rw[Tc j2];exact gp _ _ (by lia) h2 (by lia)
   ·rw[g2,Tc (by lia),Tc (by lia)];exact pre i hi
end
open PySem.W (kas_item kas_cmp kas_swaps_map)
def Gz (m:Array ap) (u:Nat) (c:Array ap):Array ap:=m.toList.zipIdx.foldl (λa z=>a.setIfInBounds (u+z.2) z.1) c
def Xew (c:Array ap) (u v m r:Nat):SM Bool:=do
 let z <-if m<=r then mLo (c.extract u v) (c.extract v (v+r)) else mHi (c.extract u v) (c.extract v (v+r))
 modify λs=>iO s (Gz z u (bh s))
 return (bv (<-get)).isNone
def Xmo(i:Nat):qX i=(do
  let s <-get
  let (some (u,m,pw),some (v,r,_)):=((aU s)[i]?,(aU s)[i+1]?) | unsupported "internal:list.sort.pending"
  set (bd.mk' (kindOf s) (bh s) (((aU s).setIfInBounds i (u,m+r,pw)).eraseIdxIfInBounds (i+1)) (cY s) (bv s))
  let some k <-Dj false (<-elem' (bh s) v) (bh s) u m 0 | return false
  if m - k==0 then return true
  let some q <-Dj true (<-elem' (bh s) (u+k+(m - k) - 1)) (bh s) v r (r - 1) | return false
  if q==0 then return true
  Xew (bh s) (u+k) v (m - k) q):=rfl
theorem Xex(k):∀(xs:List ap) (o:Nat) (c:Array ap) (m:Nat),k+o+xs.length<=c.size->((xs.zipIdx o).foldl (λa z=>a.setIfInBounds (k+z.2) z.1) c)[m]? = if k+o<=m/\m<k+o+xs.length then xs[m - (k+o)]? else c[m]?
 | [],o,c,m,_=>by rw[Tc (by simp)];rfl
 | x::xs,o,c,m,h=>by
  have hl:(x::xs).length=xs.length+1:=rfl;rw[List.zipIdx_cons,List.foldl_cons,Xex k xs (o+1) _ m (by rw[Array.size_setIfInBounds];lia),Array.getElem?_setIfInBounds];by_cases h1:k+(o+1)<=m/\m<k+(o+1)+xs.length
  ·rw[Td h1,Td (by lia),show m - (k+o)=m - (k+(o+1))+1 by lia,List.getElem?_cons_succ]
  ·rw[Tc h1];by_cases h2:k+o=m
   ·rw[Td h2,Td (by lia),Td (by lia),show m - (k+o)=0 by lia];rfl
   ·rw[Tc h2,Tc (by lia)]
def Xmp   (h:k+res.length<=l.length):Gz (Fk it res) k (Fk it l)=Fk it (l.take k++res++l.drop (k+res.length)):=by
 have e1:(Fk it res).toList=res.map (kas_item it):=by unfold Fk;rfl
 unfold Gz;rw[e1];apply Array.ext_getElem?;intro m;rw[Xex k _ 0 _ m (by rw[Oc,Cb];lia),Oc,Nat.add_zero];unfold Fk;rw[Qk,Qk,Ou,Ou,Ou];by_cases h1:k<=m/\m<k+res.length
 ·rw[Td h1,P4 (by rw[Op,Os];lia),Qy (by rw[Os];lia),Os,Qv (by lia)]
 ·rw[Tc h1];by_cases h2:m<k
  ·rw[P4 (by rw[Op,Os];lia),P4 (by rw[Os];lia),Sr,Td h2]
  ·rw[Qy (by rw[Op,Os];lia),Op,Os,Q3];congr 2
   lia
def Kz{lt}{l}{u v}(h:SoL lt l u v)(hv:v<=l.length):((l.take v).drop u).Pairwise λx y=>lt x y=true:=by
 rw[Qi];intro i j hi hj hJ;rw[Pj,Os] at hi hj;rw[Sw,Sw,R4,R4];have:=h (u+i) (u+j) (by lia) (by lia) (by lia)
 rwa [Oy,Oy,Od (by lia),Od (by lia)] at this
section
variable {prog:ao}{w:av}{A:aw}{E:Zb}{s:af}{κ : bT}{it:Array ap}{n:Nat}{lt:Nat->Nat->Bool}{l:List Nat}{st:bd}
def wS_mAt(hc:CmS prog w A s κ it n lt)  (bi:SA κ it #[(0,n1,pw),(n1,n2,0)] l st)(al:Al n l)(h1:1<=n1)(h2:1<=n2)(hn:n1+n2=n)(iP:SoL lt l 0 n1)(iQ:SoL lt l n1 n)(h:∀l' ay,SA κ it #[(0,n,pw)] l' ay->l'.Perm l->SoL lt l' 0 n->Q true ay):eG (ag prog w) A E s (qX 0) Q st:=by
 have L:=hc.L;have hl:=al.len;rw[Xmo];refine S9 (bI ?_);rw[bi.p,bi.a];have e0:(#[(0,n1,pw),(n1,n2,0)]:Array (Nat×Nat×Nat))[0]? = some (0,n1,pw):=rfl;have e1:(#[(0,n1,pw),(n1,n2,0)]:Array (Nat×Nat×Nat))[0+1]? = some (n1,n2,0):=rfl;have ep:((#[(0,n1,pw),(n1,n2,0)]:Array (Nat×Nat×Nat)).setIfInBounds 0 (0,n1+n2,pw)).eraseIdxIfInBounds (0+1) = #[(0,n1+n2,pw)]:=by simp
 rw[e0,e1];dsimp only;rw[ep];clear e0 e1 ep;have s1:SA κ it #[(0,n,pw)] l (bd.mk' (kindOf st) (Fk it l) #[(0,n1+n2,pw)] (cY st) (bv st)):=⟨bi.k,rfl,bi.f,by rw[<-hn]⟩;have vG:∀{Q:PUnit->bd->Prop} {x y:bd},Q ⟨⟩ x->eG (ag prog w) A E s (set x:StateT bd i9 PUnit) Q y:=λhq=>by
  unfold eG;rw[StateT.run_set];exact S8 ⟨rfl,hq⟩
 refine S9 (vG ?_);generalize bd.mk' (kindOf st) (Fk it l) #[(0,n1+n2,pw)] (cY st) (bv st)=jQ at s1;have m1:l.getD n1 0∈l:=Cd (by lia);refine S9 (Bv (Bm (show n1<l.length by lia)) ?_);refine S9 (Gu (P:=λt => !lt (l.getD n1 0) (l.getD t 0)) ⟨λa b fb hb e=>?_⟩ (by lia) (λt ht Q' hq=>?_) λk hk jm jW=>?_)
 ·have e:lt (l.getD n1 0) (l.getD b 0)=false:=by simpa using e
  cases q:lt (l.getD n1 0) (l.getD a 0) with
  | false=>rfl
  | true=>
   have:=L.tr _ _ _ q (iP a b (Pg _) fb hb);rw[this] at e;cases e
 ·rw[Qq];exact Gs hc (Bm (by lia)) (al.ltn (by lia)) (al.ltn (by lia)) s1.k (left:=false) hq
 dsimp only;have lo1:∀t,t<k->lt (l.getD t 0) (l.getD n1 0)=true:=λt ht=>by
  have:=jm t ht;exact al.flip L (by lia) (by lia) (by lia) (by simpa using this)
 have nC:∀t,k<=t->t<n1->lt (l.getD n1 0) (l.getD t 0)=true:=λt ht mU=>by
  have:=jW t ht mU;simpa using this
 have ge:∀{x t:Nat},n1<=t->t<n->lt x (l.getD n1 0)=true->lt x (l.getD t 0)=true:=λ{x t} h1 h2 hx=>by
  by_cases z:t=n1
  ·rw[z];exact hx
  ·exact L.tr _ _ _ hx (iQ n1 t (Og _) (by lia) h2)
 by_cases e1:(n1 - k==0)=true
 ·rw[Td e1];have nB:n1 - k=0:=by simpa using e1
  refine Ta (h l _ s1 (.refl _) λi j a1 a2 a3=>?_);by_cases c1:j<n1
  ·exact iP i j a1 a2 c1
  ·by_cases c2:n1<=i
   ·exact iQ i j c2 a2 a3
   ·exact ge (by lia) a3 (lo1 i (by lia))
 rw[Tc e1];have nB:n1 - k≠0:=by simpa using e1
 rw[show 0+k+(n1 - k) - 1=n1 - 1 by lia,Qq];refine S9 (Bv (Bm (show n1 - 1<l.length by lia)) ?_);refine S9 (Gu (P:=λt=>lt (l.getD (n1+t) 0) (l.getD (n1 - 1) 0)) ⟨λa b fb hb e=>?_⟩ (by lia) (λt ht Q' hq=>?_) λr hr vH vI=>?_)
 ·exact L.tr _ _ _ (iQ _ _ (by lia) (by lia) (by lia)) e
 ·exact Gs hc (Bm (by lia)) (al.ltn (by lia)) (al.ltn (by lia)) s1.k (left:=true) hq
 dsimp only;have eZ:∀t,r<=t->t<n2->lt (l.getD (n1 - 1) 0) (l.getD (n1+t) 0)=true:=λt a b=>al.flip L (by lia) (by lia) (by lia) (vI t a b);have le:∀{x t:Nat},t<n1->lt (l.getD (n1 - 1) 0) x=true->lt (l.getD t 0) x=true:=λ{x t} h1 hx=>by
  by_cases z:t=n1 - 1
  ·rw[z];exact hx
  ·exact L.tr _ _ _ (iP t (n1 - 1) (Pg _) (by lia) (by lia)) hx
 have r1:1<=r:=by
  rcases Nat.eq_zero_or_pos r with z | z
  ·have a:=eZ 0 (by lia) (by lia);have b:=nC (n1 - 1) (by lia) (by lia);have:=L.tr _ _ _ a b;rw[L.irr] at this;cases this
  ·exact z
 rw[Tc (by simp;lia)];unfold Xew;rw[Ea,Ea,show n1+r - n1=r by lia];have CW:(l.drop k).take (n1 - k)=(l.take n1).drop k:=(R6 ..).symm;have CY:(l.drop n1).take r=(l.take (n1+r)).drop n1:=by rw[R6,show n1+r - n1=r by lia]
 have T:Two lt n ((l.drop k).take (n1 - k)) ((l.drop n1).take r):=by
  refine⟨L,λx hx=>?_,λx hx=>?_,λx hx y hy=>?_,?_,?_⟩
  ·obtain⟨t,b1,b2,rfl⟩:=Dk hx;exact al.ltn (by lia)
  ·obtain⟨t,b1,b2,rfl⟩:=Dk hx;exact al.ltn (by lia)
  ·obtain⟨t,b1,b2,rfl⟩:=Dk hx;obtain⟨t',c1,c2,rfl⟩:=Dk hy;exact al.ne (by lia) (by lia) (by lia)
  ·rw[CW];exact Kz (λi j a1 a2 a3=>iP i j (Pg _) a2 a3) (by lia)
  ·rw[CY];exact Kz (λi j a1 a2 a3=>iQ i j a1 a2 (by lia)) (by lia)
 have qY:((l.drop k).take (n1 - k)).length=n1 - k:=by rw[Os,Pj];lia
 have vJ:((l.drop n1).take r).length=r:=by rw[Os,Pj];lia
 have b0:((l.drop n1).take r).getD 0 0=l.getD n1 0:=by
  rw[Oy,Sr,Td (by lia),Q3,<-Oy];rfl
 have a9:((l.drop k).take (n1 - k)).getD (((l.drop k).take (n1 - k)).length - 1) 0=l.getD (n1 - 1) 0:=by
  rw[qY,Oy,Sr,Td (by lia),Q3,show k+(n1 - k - 1)=n1 - 1 by lia,<-Oy]
 have gl:∀y∈(l.drop k).take (n1 - k),lt (((l.drop n1).take r).getD 0 0) y=true:=λy hy=>by
  obtain⟨t,b1,b2,rfl⟩:=Dk hy;rw[b0];exact nC _ (by lia) (by lia)
 have top:∀x∈(l.drop n1).take r,lt x (((l.drop k).take (n1 - k)).getD (((l.drop k).take (n1 - k)).length - 1) 0)=true:=λx hx=>by
  obtain⟨t,b1,b2,rfl⟩:=Dk hx;rw[a9];exact vH t b1
 have fin:∀res ay,Mrg lt ((l.drop k).take (n1 - k)) ((l.drop n1).take r) res->SG jQ ay->eG (ag prog w) A E s (do
   modify λs=>iO s (Gz (Fk it res) k (bh s))
   let z <-get
   pure (bv z).isNone) Q ay:=by
  intro res ay mr sg;have qZ:res.length=n1 - k+r:=by rw[mr.1.length_eq,Op,qY,vJ]
  refine S9 (bP (S9 (bI (Ta ?_))));have ef:bv (iO ay (Gz (Fk it res) k (bh ay)))=none:=sg.f.trans s1.f;rw[ef];have rg:∀x∈res,(∃t,k<=t/\t<n1/\x=l.getD t 0)\/(∃t,t<r/\x=l.getD (n1+t) 0):=λx hx=>by
   rcases Om.mp (mr.1.mem_iff.mp hx) with z | z
   ·obtain⟨t,b1,b2,e⟩:=Dk z;exact .inl ⟨k+t,by lia,by lia,e⟩
   ·obtain⟨t,b1,b2,e⟩:=Dk z;exact .inr ⟨t,b1,e⟩
  refine h (l.take k++res++l.drop (k+res.length)) _ ⟨sg.k.trans s1.k,?_,ef,sg.p.trans s1.p⟩ ?_ ?_
  ·show Gz (Fk it res) k (bh ay)=_;rw[sg.a,s1.a,Xmp (by lia)]
  ·rw[show k+res.length=n1+r by lia];have e:l=l.take k++((l.drop k).take (n1 - k)++(l.drop n1).take r)++l.drop (n1+r):=by
    rw[<-Pa,<-take_split,show k+(n1 - k)=n1 by lia,<-take_split,O9]
   refine List.Perm.trans ?_ (List.Perm.of_eq e.symm);exact(P1 _ mr.1).append_right _
  ·have pw:(l.take k++res++l.drop (k+res.length)).Pairwise λx y=>lt x y=true:=by
    refine O7.mpr ⟨O7.mpr ⟨?_,mr.2,λx hx y hy=>?_⟩,?_,λx hx y hy=>?_⟩
    ·have:=Kz (u:=0) (v:=k) (l:=l) (lt:=lt) (λi j a1 a2 a3=>iP i j a1 a2 (by lia)) (by lia)
     rwa [R5] at this
    ·obtain⟨t,ht,rfl⟩:=Fy hx (by lia);rcases rg y hy with ⟨u,c1,c2,rfl⟩ | ⟨u,c1,rfl⟩
     ·exact iP _ _ (Pg _) (by lia) c2
     ·exact ge (by lia) (by lia) (lo1 t ht)
    ·have:=Kz (u:=k+res.length) (v:=n) (l:=l) (lt:=lt) (λi j a1 a2 a3=>iQ i j (by lia) a2 a3) (by lia)
     rwa [P5 (by lia)] at this
    ·have i4:y∈(l.drop (k+res.length)).take n:=by rw[P5 (by rw[Pj];lia)];exact hy
     obtain⟨u,c1,c2,rfl⟩:=Dk i4;have CZ:k+res.length+u=n1+(r+u):=by lia
     rw[CZ];have vK:=eZ (r+u) (by lia) (by lia);rcases Om.mp hx with z | z
     ·obtain⟨t,ht,rfl⟩:=Fy z (by lia);exact ge (by lia) (by lia) (lo1 t ht)
     ·rcases rg x z with ⟨t,c1,c2,rfl⟩ | ⟨t,c1,rfl⟩
      ·exact le c2 vK
      ·exact iQ _ _ (by lia) (by lia) (by lia)
   have len:(l.take k++res++l.drop (k+res.length)).length=n:=by
    rw[Op,Op,Os,Pj]
    lia
   exact λi j a1 a2 a3=>Gw pw a2 (by lia)
 by_cases e5:n1 - k<=r
 ·rw[Td e5];exact S9 (Xmg hc T (by lia) (by lia) gl top s1.k λres ay mr sg=>fin res ay mr sg)
 ·rw[Tc e5];exact S9 (Xml hc T (by lia) (by lia) gl top s1.k λres ay mr sg=>fin res ay mr sg)
end
open PySem.W (KasT kas_item kas_cmp kas_ask kas_sort kat_run kat_snds kat_ask_eq kas_range)
section
variable {prog:ao}{w:av}{A:aw}{E:Zb}{s:af}{κ : bT}{it:Array ap}{lt:Nat->Nat->Bool}{l:List Nat}{st:bd}
def Rn (κ : bT) (it:Array ap) (lt:Nat->Nat->Bool) (l:List Nat) (st:bd):Prop:=∃l',l'.Perm l/\((SA κ it #[(0,64,0)] l' st/\SoL lt l' 0 64) \/ ∃n1 n2 pw,1<=n1/\1<=n2/\n1+n2=64/\SA κ it #[(0,n1,pw),(n1,n2,0)] l' st/\SoL lt l' 0 n1/\SoL lt l' n1 64)
def Xmq(hc:CmS prog w A s κ it 64 lt)(bi:SA κ it #[] l st)(al:Al 64 l){Q}(h:∀l' ay pd,SA κ it pd l' ay->l'.Perm l->SoL lt l' 0 64->Q () ay):eG (ag prog w) A E s JH Q st:=by
 have hl:=al.len;rw[sortRuns'_eq];refine S9 (bI ?_);have hsz:(bh st).size=64:=by rw[bi.a,Cb,hl]
 have Do:minRun' 64 64 0=32:=by
  rw[minRun'_succ,Tc (by decide)];rfl
 dsimp only;rw[hsz,Do];refine S9 (aW (aE (I:=λx c ay=>(x=0/\c=(none,0)/\SA κ it #[] l ay)\/(x=1/\∃l' n1,c=(none,n1)/\SA κ it #[(0,n1,0)] l' ay/\l'.Perm l/\32<=n1/\n1<=64/\SoL lt l' 0 n1)\/(2<=x/\c=(none,64)/\Rn κ it lt l ay)) (Q:=λc ay=>c=(none,64)/\Rn κ it lt l ay) ?step ?fin (.inl ⟨rfl,rfl,bi⟩)) ?post)
 case fin=>
  rintro c ay (⟨z,_⟩ | ⟨z,_⟩ | ⟨_,z⟩)
  ·exact absurd z (by decide)
  ·exact absurd z (by decide)
  ·exact z
 case step=>
  rintro x c ay _ hx (⟨rfl,rfl,s0⟩ | ⟨rfl,l1,n1,rfl,s1,hV,b1,b2,iP⟩ | ⟨x2,rfl,z⟩)
  ·dsimp only;rw[Tc (by lia),Nat.sub_zero];refine S9 (Xeu hc s0 al (by lia) (by lia) λm l1 jQ s1 hV m1 m2 so _=>?_);have nE:Al 64 l1:=⟨hV.trans al.pm⟩;dsimp only;rw[Qq] at so;by_cases hm:m<32
   ·rw[Td hm];refine S9 (cI (aO ⟨rfl,?_⟩));refine S9 (Xev hc s1 nE m1 (by lia) (by lia) (by rw[Qq];exact so) λl2 dz s2 gq iQ _=>?_);rw[Tc (by decide)];refine S9 (bI ?_);rw[s2.p];refine S9 (bP (Ta (.inr (.inl ⟨rfl,l2,32,rfl,⟨s2.k,s2.a,s2.f,?_⟩,gq.trans hV,by lia,by lia,iQ⟩))));show (aU dz).push _=_;rw[s2.p];rfl
   ·rw[Tc hm];refine S9 (bI ?_);rw[s1.p];refine S9 (bP (Ta (.inr (.inl ⟨rfl,l1,m,by rw[Qq],⟨s1.k,s1.a,s1.f,?_⟩,hV,by lia,by lia,so⟩))));show (aU jQ).push _=_;rw[s1.p];rfl
  ·dsimp only;by_cases e:n1 ≥ 64
   ·rw[Td e];obtain rfl:n1=64:=by lia
    exact Ta ⟨rfl,l1,hV,.inl ⟨s1,iP⟩⟩
   rw[Tc e];have nE:Al 64 l1:=⟨hV.trans al.pm⟩;have fin:∀l2 dz,SA κ it #[(0,n1,0)] l2 dz->l2.Perm l1->SoL lt l2 n1 64->(∀i,i<n1->l2.getD i 0=l1.getD i 0)->∀pw,SA κ it #[(0,n1,pw),(n1,64 - n1,0)] l2 (kZ (kZ dz ((aU dz).modify ((aU dz).size - 1) λx=>(x.fst,x.2.fst,pw))) ((aU (kZ dz ((aU dz).modify ((aU dz).size - 1) λx=>(x.fst,x.2.fst,pw)))).push (n1,64 - n1,0)))/\SoL lt l2 0 n1:=by
    intro l2 dz s2 gq iQ pre pw;refine⟨⟨s2.k,s2.a,s2.f,?_⟩,λi j a1 a2 a3=>?_⟩
    ·show ((aU dz).modify ((aU dz).size - 1) λx=>(x.fst,x.2.fst,pw)).push (n1,64 - n1,0)=_;rw[s2.p];simp[Array.modify,Array.modifyM]
    ·rw[pre i (by lia),pre j (by lia)];exact iP i j a1 a2 a3
   refine S9 (Xeu hc s1 nE (by lia) (by lia) λm l2 dz s2 gq m1 m2 so pre=>?_);have rh:Al 64 l2:=⟨gq.trans nE.pm⟩;dsimp only;by_cases hm:m<32
   ·rw[Td hm];refine S9 (cI (aO ⟨rfl,?_⟩));rw[show min (64 - n1) 32=64 - n1 by lia];refine S9 (Xev hc s2 rh m1 (by lia) (by lia) so λl3 oH s3 rj tI vL=>?_);rw[Tc (by decide)];have rm:SoL lt l3 n1 64:=by rw[show n1+(64 - n1)=64 by lia] at tI;exact tI
    refine S9 (bI ?_);rw[s3.p];have eb:(#[(0,n1,0)]:Array (Nat×Nat×Nat)).back? = some (0,n1,0):=rfl;rw[eb];dsimp only;refine S9 (aW (aE (I:=λx c ay=>c=(none,())/\SA κ it #[(0,n1,0)] l3 ay) (Q:=λc ay=>c=(none,())/\SA κ it #[(0,n1,0)] l3 ay) ?_ (λc ay z=>z) ⟨rfl,s3⟩) ?_)
    ·rintro x c ay _ _ ⟨rfl,q⟩;refine S9 (bI ?_);rw[q.p,Tc (by show ¬ 1 > 1;decide)];exact Ta ⟨rfl,q⟩
    ·rintro c ay ⟨rfl,q⟩;dsimp only;obtain⟨q1,q2⟩:=fin l3 ay q (rj.trans gq) rm (λi hi=>(vL i hi).trans (pre i hi)) (power' 64 (2 * 0+n1) (2 * 0+n1+n1+(64 - n1)) 64);refine S9 (bP (S9 (bP (Ta (.inr (.inr ⟨by lia,by rw[show n1+(64 - n1)=64 by lia],l3,((rj.trans gq)).trans hV,.inr ⟨n1,64 - n1,_,by lia,by lia,by lia,q1,q2,rm⟩⟩))))))
   ·rw[Tc hm];obtain rfl:m=64 - n1:=by lia
    have gp:SoL lt l2 n1 64:=by rw[show n1+(64 - n1)=64 by lia] at so;exact so
    refine S9 (bI ?_);rw[s2.p];have eb:(#[(0,n1,0)]:Array (Nat×Nat×Nat)).back? = some (0,n1,0):=rfl;rw[eb];dsimp only;refine S9 (aW (aE (I:=λx c ay=>c=(none,())/\SA κ it #[(0,n1,0)] l2 ay) (Q:=λc ay=>c=(none,())/\SA κ it #[(0,n1,0)] l2 ay) ?_ (λc ay z=>z) ⟨rfl,s2⟩) ?_)
    ·rintro x c ay _ _ ⟨rfl,q⟩;refine S9 (bI ?_);rw[q.p,Tc (by show ¬ 1 > 1;decide)];exact Ta ⟨rfl,q⟩
    ·rintro c ay ⟨rfl,q⟩;dsimp only;obtain⟨q1,q2⟩:=fin l2 ay q gq gp pre (power' 64 (2 * 0+n1) (2 * 0+n1+n1+(64 - n1)) 64);refine S9 (bP (S9 (bP (Ta (.inr (.inr ⟨by lia,by rw[show n1+(64 - n1)=64 by lia],l2,(gq).trans hV,.inr ⟨n1,64 - n1,_,by lia,by lia,by lia,q1,q2,gp⟩⟩))))))
  ·dsimp only;rw[Td (Og _)];exact Ta ⟨rfl,z⟩
 case post=>
  rintro c ay ⟨rfl,l1,hV,z⟩;dsimp only;have nE:Al 64 l1:=⟨hV.trans al.pm⟩;refine S9 (aW (aE (I:=λx c ay=>c=(none,())/\∃l2 pd,l2.Perm l/\Al 64 l2/\SA κ it pd l2 ay/\((pd.size<=1/\SoL lt l2 0 64)\/(x=0/\∃n1 n2 pw,1<=n1/\1<=n2/\n1+n2=64/\pd = #[(0,n1,pw),(n1,n2,0)]/\SoL lt l2 0 n1/\SoL lt l2 n1 64))) (Q:=λc ay=>c=(none,())/\∃l2 pd,l2.Perm l/\SA κ it pd l2 ay/\SoL lt l2 0 64) ?step ?fin ?init) ?post)
  case init=>
   rcases z with ⟨s1,so⟩ | ⟨n1,n2,pw,a1,a2,a3,s1,iP,iQ⟩
   ·exact⟨rfl,l1,_,hV,nE,s1,.inl ⟨by show 1<=1;decide,so⟩⟩
   ·exact⟨rfl,l1,_,hV,nE,s1,.inr ⟨rfl,n1,n2,pw,a1,a2,a3,rfl,iP,iQ⟩⟩
  case fin=>
   rintro c ay ⟨rfl,l2,pd,gq,rh,s2,⟨_,so⟩ | ⟨e,_⟩⟩
   ·exact⟨rfl,l2,pd,gq,s2,so⟩
   ·exact absurd e (by decide)
  case step=>
   rintro x c ay _ _ ⟨rfl,l2,pd,gq,rh,s2,⟨e,so⟩ | ⟨rfl,n1,n2,pw,a1,a2,a3,rfl,iP,iQ⟩⟩
   ·refine S9 (bI ?_);rw[s2.p,Td e];exact Ta ⟨rfl,l2,pd,gq,s2,so⟩
   ·refine S9 (bI ?_);rw[s2.p,Tc (by show ¬ 2<=1;decide)]
    show eG _ _ _ _ (do
     let b <-qX 0
     if (!b)=true then pure (ForInStep.done (some (),())) else pure (ForInStep.yield (none,()))) _ _
    refine S9 (wS_mAt hc s2 rh a1 a2 a3 iP iQ λl3 oH s3 rj tI=>?_);rw[Tc (by decide)];exact Ta ⟨rfl,l3,_,rj.trans gq,⟨rj.trans rh.pm⟩,s3,.inl ⟨by show 1<=1;decide,tI⟩⟩
  case post=>
   rintro c ay ⟨rfl,l2,pd,gq,s2,so⟩;exact Ta (h l2 _ pd s2 gq so)
end
section
variable {prog:ao}{w:av}{A:aw}{E:Zb}{s:af}{κ : bT}{ks vs:List aa}{lt:Nat->Nat->Bool}
def Xmr{Q:bd->af->Prop}(hl:ks.length=vs.length)(h2:2<=vs.length)(cN:vs.length<=64)(L:Lin vs.length lt)
  (hc:∀i j (C:Bool->af->Prop),i<vs.length->j<vs.length->C (lt i j) s->kas_ask prog w A κ ks i j C s)
  (h:∀p ay,Gd vs.length p->B7 lt p vs.length->bh ay=p.map (kas_item (ks.toArray.zip vs.toArray))->bv ay=none->Q ay s):
  ai (ag prog w) A ((JH).run (bd.mk' κ (ks.toArray.zip vs.toArray) #[] 7 none)) (λr s'=>Q r.2 s') E s:=by
 by_cases e:vs.length<64
 ·exact kat_run (G:=λp s'=>s'=s/\Gd vs.length p/\B7 lt p vs.length) hl h2 e (λp ay s' _ b1 b2 ⟨e1,b3,b4⟩=>by subst e1;exact h p ay b3 b4 b1 b2)
   (Nk (n:=vs.length) (lt:=lt) (λi j C hi hj hC=>hc i j C hi hj hC) (Kn (n:=vs.length) (by lia)) ⟨rfl,(Kn (n:=vs.length) (by lia)).run,Xed L (by lia)⟩)
 ·have tJ:vs.length=64:=by lia
  have hz:(ks.toArray.zip vs.toArray).size=64:=by simp[hl,tJ]
  rw[tJ] at L;have cm:CmS prog w A s κ (ks.toArray.zip vs.toArray) 64 lt:=⟨L,λi j C hi hj hC=>by
   have:=hc i j C (by lia) (by lia) hC;rw[kat_ask_eq hl] at this;exact this⟩
  have ea:(ks.toArray.zip vs.toArray)=Fk (ks.toArray.zip vs.toArray) (List.range 64):=by
   have:=kas_range (ks.toArray.zip vs.toArray);rw[hz] at this;rw[Gx];exact this.symm
  have s0:SA κ (ks.toArray.zip vs.toArray) #[] (List.range 64) (bd.mk' κ (ks.toArray.zip vs.toArray) #[] 7 none):=⟨rfl,ea,rfl,rfl⟩;have run:=Xmq (E:=E) (Q:=λ_ ay=>Q ay s) cm s0 ⟨.refl _⟩ λl' ay pd s1 pm so=>by
   refine h l'.toArray ay ?_ ?_ ?_ s1.f
   ·rw[tJ];exact(List.perm_iff_toArray_perm).mp pm
   ·rw[tJ];intro i j h1 h2;have:=so i j (Pg _) h1 h2;show lt (l'.toArray.getD i 0) (l'.toArray.getD j 0)=true;rw[Im,Im,<-Ix,<-Ix];exact this
   ·rw[s1.a,Gx]
  exact aG run (λr s' q=>by obtain⟨rfl,q⟩:=q;exact q) λ_ _ z=>z
end
open PySem.W (KasT kas_sort kas_ask kas_item kat_run kat_snds kat_kind KatTups)
def Fb (Ts:List (Za)) (i j:Nat):Bool:=Cv (Ts.getD i []).length (Ts.getD i []) (Ts.getD j []).length (Ts.getD j [])
def Xms(n)(a):Cv n a n a=false:=by unfold Cv;rw[Td rfl];exact Io a
def Xmt  (h:Cv n a m b=true) (g:Cv m b k c=true):Cv n a k c=true:=by
 unfold Cv at *;by_cases e1:n=m
 ·rw[Td e1] at h;by_cases e2:m=k
  ·rw[Td e2] at g;rw[Td (e1.trans e2)];exact Ko _ _ _ h g
  ·rw[Tc e2] at g;rw[Tc (by lia)];have:=Tg g;exact Te (by lia)
 ·rw[Tc e1] at h;have h:=Tg h;by_cases e2:m=k
  ·rw[Tc (by lia)];exact Te (by lia)
  ·rw[Tc e2] at g;have g:=Tg g;rw[Tc (by lia)];exact Te (by lia)
def Xmu  (h:a≠b):Cv n a m b=true\/Cv m b n a=true:=by
 unfold Cv;by_cases e:n=m
 ·rw[Td e,Td e.symm];exact Nn _ _ h
 ·rw[Tc e,Tc (Ne.symm e)];rcases Nat.lt_or_ge n m with z | z
  ·exact .inl (Te z)
  ·exact .inr (Te (by lia))
def linP{Ts:List (Za)}(nd:Ts.Nodup):Lin Ts.length (Fb Ts) where
 irr i:=Xms _ _
 tr i j k:=Xmt
 tot i j hi hj ne:=Xmu λe=>ne (by
  have e1:Ts.getD i []=Ts[i]:=by simp[List.getD,hi]
  have e2:Ts.getD j []=Ts[j]:=by simp[List.getD,hj]
  rw[e1,e2] at e;exact(Rq nd).mp e)
def Turns (X:Cx) (f:ae) (H:Hp) (ps:List ae) (Ts:List (Za)):Prop:=
 ∀(pins:List (ae×aM)) (Z:L2.St) (s1:af) (H1:Hp) (i:Nat),i<ps.length->Same H H1->Inv X pins Z H1 s1 ->
  ai (ag X.prog X.w) X.A.in1.in1 (call (.ref f) [.ref (ps.getD i 0)]) (λu s'=>∃t H2,u = .ref t/\Inv X pins Z H2 s'/\H2 t=some (.tup [.int (Ts.getD i []).length,.ref (ps.getD i 0)])/\Same H1 H2) (λ_ _=>False) s1
section
variable {X:Cx}{pins:List (ae×aM)}{Z:L2.St}{H:Hp}{s:af}
def Xmv  {n:Nat} (I:Inv X pins Z H s) (ht:H t=some (.tup [.int n,.ref p])) (hp:H p=some (.tup (ss.map V.str))):Ip s.heap (.ref t) n ss:=by
 obtain⟨ax,r,⟨o,ho,hc,k,hd⟩,_⟩:=I.tuple (SqT.of (K:=X.K) ht);obtain⟨fh,r2,⟨o2,iY,eK,k2,cU⟩,_⟩:=I.tuple (SqT.of (K:=X.K) hp);cases r with
 | cons r1 r'=>
  cases r' with
  | cons DA DB=>
   cases DB;obtain⟨tk,rfl⟩:∃tk,_=aa.int n tk:=r1;cases DA;exact⟨t,o,_,k,tk,.ref p,rfl,ho,hc,hd,rfl,p,o2,_,k2,rfl,iY,eK,cU,by simpa using Hs r2⟩
def Xey    {st} {out:List ae}   (I:Inv X ((D,ar "list" #[] e1)::pins) Z H s) (hD:X.s₀.heap.objs.size<=D) (jU:∀p∈X.pn++pins,p.1≠D)
  (hk:H kS=some (.lst ks)) (ho:(bh st).map (·.2)=(out.map aa.ref).toArray) (hf:bv st=none) (hz:out.length<=64) (h:∀s',Inv X pins Z (upd (upd H kS (.lst [])) D (.lst (out.map V.ref))) s'->P (.done (.ret .none)) s'):
  ai (ag X.prog X.w) A (ksk_tail D false e1 (.ref kS) st) P E s:=by
 obtain⟨z,ax,n,r,hl,e⟩:=I.lstM hk;have J:=I.lset (its':=[]) (f:=λ_ => #[]) (ys:=[]) (t':=s.toks) hk e rfl .nil (by decide);unfold ksk_tail
 try dsimp only
 rw[ho];simp only[Pz,if_false];refine S7 (bM e rfl ?_ (by rw[Oh,<-hl];exact z) (Pg _));refine S7 (wpAny_letGo ?_);obtain⟨hg,_⟩:=J.pin (D,ar "list" #[] e1) (Pc _ Oj);refine S7 (cX hg rfl ?_);refine S7 (bM hg rfl ?_ (Pg _) (by rw[Oh,Oc,Tb];lia));rw[hf];simp only[bne_self_eq_false,Pz,if_false];refine S8 (h _ ?_);have vr:Vals (out.map V.ref) (out.map aa.ref):=by
  clear ho hz h
  induction out with
  | nil=>exact .nil
  | cons p t ih=>exact .cons rfl ih
 exact Xl9 J hD jU vr (by rw[Oc,Tb];lia)
def Xmw   {ks} {ps:List ae}  {ax:List aa}   (I:Inv X ((D,ar "list" #[] e1)::pins) Z H s) (hu:A.units<bj) (hD:X.s₀.heap.objs.size<=D) (jU:∀p∈X.pn++pins,p.1≠D)
  (hk:H kS=some (.lst ks)) (aI:ax.length=ps.length) (hT:ps.length=Ts.length) (nd:Ts.Nodup) (hp:∀i,i<ps.length->Ip s.heap (ax.getD i .none) (Ts.getD i []).length (Ts.getD i [])) (cN:ps.length<=64)
  (h:∀(p:Array Nat) s',Gd ps.length p->B7 (Fb Ts) p ps.length->Inv X pins Z (upd (upd H kS (.lst [])) D (.lst ((p.toList.map λi=>ps.getD i 0).map V.ref))) s'->P (.done (.ret .none)) s'):
  ai (ag X.prog X.w) A (ksk_end D false (ps.map aa.ref).toArray e1 (.ref kS) ax.toArray) P E s:=by
 have hsz:(ps.map aa.ref).toArray.size=ps.length:=by simp
 have L:=linP nd;rw[<-hT] at L;have rq:∀p:Array Nat,Gd ps.length p->(p.toList.map λi=>(ps.map aa.ref).getD i aa.none)=((p.toList.map λi=>ps.getD i 0).map aa.ref):=λp g=>by
  rw[Ph];refine P2 λi hi=>?_;have cb:i<ps.length:=by
   have:=(Array.perm_iff_toList_perm.mp g).mem_iff.mp hi;simpa using this
  simp[List.getD,cb]
 unfold ksk_end
 try dsimp only
 simp only[Pz,if_false];by_cases h2:(ps.map aa.ref).toArray.size<2
 ·rw[Td h2,Td h2];refine S7 (S8 ?_);rw[StateT.run_pure];refine S7 (S8 ?_)
  try dsimp only
  have g0:Gd ps.length (List.toArray (List.range ps.length)):=Sj _;refine Xey (st:=bd.mk' general' (ax.toArray.zip (ps.map aa.ref).toArray) #[] 7 none) (out:=(List.toArray (List.range ps.length)).toList.map λi=>ps.getD i 0) I hD jU hk ?_ rfl (by simpa using cN) λs' J=>h _ s' g0 (λi j hJ hj=>by lia) J;rw[<-rq _ g0];show ((ax.toArray.zip (ps.map aa.ref).toArray).map (·.2))=_;apply Array.toList_inj.mp;simp only[Array.toList_map,List.zip_toArray];rw[List.map_snd_zip (by simp[aI])];refine Rr (by simp) λi h1 h2=>?_;simp[List.getD] at h1 ⊢;simp[h1]
 ·rw[Tc h2,Tc h2];have fst:∀(l:List aa) (q:∀v∈l,∃n ss,Ip s.heap v n ss),∃fs,KatTups s.heap l fs/\fs.length=l.length/\∀f∈fs,∃(x:Int) (t:AB),f = .int x t:=by
   intro l
   induction l with
   | nil=>exact λ_=>⟨[],KatTups.nil,rfl,λ_ h=>by cases h⟩
   | cons v l ih=>
    intro q;obtain⟨fs,t1,t2,t3⟩:=ih λu hm=>q u (Ol _ hm);obtain⟨n,ss,a,o,xs,k,t,u,rfl,g1,g2,g3,g4,_⟩:=q v Oj;refine⟨.int n t::fs,KatTups.cons g1 g2 g3 ?_ t1,by simp[t2],λf hf=>?_⟩
    ·have:xs[0]? = xs.toList[0]?:=by simp
     rw[this,g4];rfl
    ·rcases Ot.mp hf with e | e
     ·exact⟨_,_,e⟩
     ·exact t3 f e
  obtain⟨fs,t1,t2,t3⟩:=fst ax λv hv=>by
   obtain⟨i,hi,rfl⟩:=Pi.mp hv;have:=hp i (by lia);have e:ax.getD i .none=ax[i]:=by simp[List.getD,hi]
   rw[e] at this;exact⟨_,_,this⟩
  refine S7 (kat_kind (T:=.type "int") t1 (by lia) (λv hm=>?_) (by decide) ?_)
  ·obtain⟨x,t,rfl⟩:=t3 v hm;exact .now
  have eb:((aa.type "int") != aa.type "tuple")=true:=by decide
  rw[eb];refine S7 (aG (Xmr (lt:=Fb Ts) (κ:=tuples' true) (ks:=ax) (vs:=ps.map aa.ref) (Q:=λay s'=>s'=s/\bv ay=none/\∃p,Gd ps.length p/\B7 (Fb Ts) p ps.length/\(bh ay).map (·.2)=(p.toList.map λi=>(ps.map aa.ref).getD i aa.none).toArray)
   (by simp[aI]) (by rw[Oc];lia) (by rw[Oc];exact cN) (by rw[Oc];exact L) (λi j C hi hj hC=>?_) (λp ay g so a2 a3=>by rw[Oc] at g so;exact⟨rfl,a3,p,g,so,kat_snds (by simp[aI]) a2⟩)) ?_ λ_ _ e=>e)
  ·rw[Oc] at hi hj;show ai _ _ (qQ (tuples' true) (ax.getD i aa.none) (ax.getD j aa.none)) C _ _;exact Xl8 hu (hp i hi) (hp j hj) hC
  rintro ⟨⟨⟩,ay⟩ s' ⟨rfl,hf,p,g,so,ea⟩
  try dsimp only
  refine Xey (out:=p.toList.map λi=>ps.getD i 0) I hD jU hk (by rw[ea,rq p g]) hf (by rw[Oc,O1,g.size];exact cN) λs' J=>h p s' g so J
end
section
variable {X:Cx}{pins:List (ae×aM)}{Z:L2.St}{H:Hp}{s:af}
def Xmx{D kS f}      (hA:A=X.A.in1.in1)(I:Inv X ((D,ar "list" #[] e1)::pins) Z (upd H kS (.lst [])) s)(oZ:H kS=none)(hu:A.units<bj)(hD:X.s₀.heap.objs.size<=D)(jU:∀p∈X.pn++pins,p.1≠D)(mR:H D=none)
  (hT:Tups H ps Ts) (nd:Ts.Nodup) (cN:ps.length<=64) (turn:Turns X f H ps Ts)
  (h:∀(p:Array Nat) (H':Hp) s',Gd ps.length p->B7 (Fb Ts) p ps.length->Same H H'->H' D=some (.lst ((p.toList.map λi=>ps.getD i 0).map V.ref))->Inv X pins Z H' s'->P (.done (.ret .none)) s'):
  ai (ag X.prog X.w) A (ksk_rest D (.ref f) false (ps.map aa.ref).toArray e1 (.ref kS)) P E s:=by
 subst hA;unfold ksk_rest;refine S7 (aO ?_)
 first
  | rw[List.forIn_toArray]
  | (rw[<-Array.forIn_toList];simp only[List.toList_toArray])
  | rw[<-Array.forIn_toList]
 refine S7 (ksk_fold (λi s'=>∃(H':Hp) (ks:List V),Inv X ((D,ar "list" #[] e1)::pins) Z H' s'/\Same H H'/\H' kS=some (.lst ks)/\ks.length=i/\∀j,j<i->∃t,ks[j]? = some (.ref t)/\H' t=some (.tup [.int (Ts.getD j []).length,.ref (ps.getD j 0)])) (ps.map aa.ref) 0 s
  ⟨_,[],I,Same.upd0 oZ,Ab,rfl,λj hj=>absurd hj (P8 _)⟩ ?step ?done)
 case step=>
  rintro j x s' hx ⟨H',ks,J,sm,hk,dI,jV⟩;simp only[Qq] at dI jV ⊢;obtain⟨hj,ex⟩:=Ox.mp hx;rw[Oc] at hj;have xL:x = .ref (ps.getD j 0):=by rw[<-ex];simp[List.getD,hj]
  subst xL;refine S7 (dE (aG (turn _ Z s' H' j hj sm J) (λv kr he=>?_) λ_ _ hF=>hF.elim));obtain⟨t,H2,rfl,J2,ht,vM⟩:=he
  try dsimp only
  have vN:=vM _ _ hk;obtain⟨z,ax,n,r,hl,e⟩:=J2.lstM vN;have DC:t≠kS:=λq=>by rw[q,vN] at ht;cases ht
  refine S7 (bM e rfl ?_ (by rw[Oh,<-hl];exact z) (by rw[Array.size_push,Oh,<-hl,dI,Tb];lia));refine S8 ⟨rfl,_,ks++[.ref t],J2.lset (ys:=ks++[.ref t]) (its':=ax++[.ref t]) (t':=kr.toks) vN e (by simp) (r.append (.cons (show Ah (.ref t) (.ref t) from rfl) .nil)) (by rw[Op,Pq,dI,Tb];lia),(sm.trans vM).upd oZ,Ab,by simp[dI],λi hi=>?_⟩;by_cases q:i=j
  ·subst q;exact⟨t,by rw[Qy (by lia),dI];simp,by rw[Ad DC];exact ht⟩
  ·obtain⟨t',a1,a2⟩:=jV i (by lia);refine⟨t',by rw[P4 (by lia)];exact a1,?_⟩;rw[Ad λq=>by rw[q,hk] at a2;cases a2];exact vM _ _ a2
 case done=>
  rintro s' ⟨H',ks,J,sm,hk,dI,jV⟩;simp only[Qq,Oc] at dI jV
  try dsimp only
  obtain⟨z,ax,n,r,hl,e⟩:=J.lstM hk;refine S7 (iN e rfl ?_);have tK:=hT.same sm;have JI:kS≠D:=λq=>by
   obtain⟨_,hn,_⟩:=J.pin (D,ar "list" #[] e1) (Pc _ Oj);have hn:H' D=none:=hn;rw[<-q,hk] at hn;cases hn
  refine Xmw (ks:=ks) J hu hD jU hk (by lia) hT.1 nd (λi hi=>?_) cN λp s2 g so J2=>h p _ s2 g so ((sm.upd oZ).upd mR) Ab J2;obtain⟨t,a1,a2⟩:=jV i hi;obtain⟨u,nF,lW⟩:=r.get a1;have lW:u=aa.ref t:=lW;have e2:ax.getD i .none = .ref t:=by simp[List.getD,nF,lW]
  rw[e2];exact Xmv J a2 (tK.2 i hi)
def Xmy    (I:Inv X pins Z H s) (hu:X.A.in1.in1.units<bj) (hl:H l=some (.lst (ps.map V.ref))) (hT:Tups H ps Ts) (nd:Ts.Nodup) (cN:ps.length<=64) (turn:Turns X f H ps Ts)
  (h:∀(D:ae) (p:Array Nat) (H':Hp),H D=none->Gd ps.length p->B7 (Fb Ts) p ps.length->Same H H'->H' D=some (.lst ((p.toList.map λi=>ps.getD i 0).map V.ref))->Q (.ref D) H'):
  ai (ag X.prog X.w) X.A (call (.builtin "sorted") [.ref l] [(aj.ofString "key",.ref f)]) (EP X pins Z Q) X.xe s:=by
 obtain⟨ax,rv,pl,hz⟩:=I.list (SqL.of hl);have nk:ax=ps.map aa.ref:=by
  clear hT cN turn h pl hl hz
  induction ps generalizing ax with
  | nil=>cases rv;rfl
  | cons p t ih=>
   cases rv with
   | cons r t'=>cases r;rw[ih _ t'];rfl
 subst nk;refine call_function_entry_kw j0 iI iJ (ksk_s1 _ _) ?_;unfold au.«sorted»;refine S7 (m:=kM "sorted" 1 1 _) (S8 ?_);refine S7 (vB pl.isList ?_ (by rw[Oc,Tb];lia));refine S7 (cG ?_ (by rw[Oc,Tb];lia));generalize y4:ps.map aa.ref=vs at *;have kK:vs.length=ps.length:=by rw[<-y4,Oc]
 have hsz:((s.heap.push (ar "list" #[] 0)).update s.heap.objs.size (aM.mapSeq (· ++ vs.toArray))).objs.size=s.heap.objs.size+1:=by
  rw[am.size_update,bO]
 have kh:(((s.heap.push (ar "list" #[] 0)).update s.heap.objs.size (aM.mapSeq (· ++ vs.toArray))).push (ar "list" vs.toArray 0)).get? (s.heap.objs.size+1)=some (ar "list" vs.toArray 0):=by
  rw[<-hsz];exact am.get?_push_size _ rfl
 have keep:∀b o,s.heap.get? b=some o->(((s.heap.push (ar "list" #[] 0)).update s.heap.objs.size (aM.mapSeq (· ++ vs.toArray))).push (ar "list" vs.toArray 0)).get? b=some o:=λb o q=>by
  have aZ:b<s.heap.objs.size:=Ti q;rw[am.get?_push_ne _ _ _ (by rw[hsz];exact Oq (P9 aZ)),am.get?_update_ne _ _ _ _ (Oq aZ),am.get?_push_ne _ _ _ (Oq aZ)];exact q
 have vO:(((s.heap.push (ar "list" #[] 0)).update s.heap.objs.size (aM.mapSeq (· ++ vs.toArray))).push (ar "list" vs.toArray 0)).objs.size=s.heap.objs.size+2:=by
  rw[bO,hsz]
 show ai _ _ _ _ _ {s with heap:=((s.heap.push (ar "list" #[] 0)).update s.heap.objs.size (aM.mapSeq (· ++ vs.toArray))).push (ar "list" vs.toArray 0)};rw[hsz];generalize tL:((s.heap.push (ar "list" #[] 0)).update s.heap.objs.size (aM.mapSeq (· ++ vs.toArray))).push (ar "list" vs.toArray 0)=hA at *;refine S7 (a8 (wpAny_call_entry_kw gc ⟨_,kh,rfl⟩ fq ?body (ksk_l1 _ _)))
 case body=>
  show ai (ag X.prog X.w) X.A.in1.in1 (au.«list.sort» ⟨[.ref (s.heap.objs.size+1)],[(aj.ofString "key",.ref f)]⟩) _ _ _;rw[ksk_t1];unfold ksk_tree;refine S7 (iN kh rfl ?_);refine S7 (bM kh rfl ?_ (by rw[Oh,kK,Tb];lia) (Pg _));obtain⟨e1,qR⟩:∃e1,(hA.update (s.heap.objs.size+1) (aM.mapSeq λ_=>(#[]:Array aa))).get? (s.heap.objs.size+1)=some (ar "list" #[] e1):=⟨_,ft kh λ_ => #[]⟩;refine S7 (cX qR rfl ?_);refine S7 (fW ?_ (by show vs.length<=_;rw[kK,Tb];lia));refine S7 (cG ?_ (Pg _));refine a8 ?_;have oZ:((hA.update (s.heap.objs.size+1) (aM.mapSeq λ_=>(#[]:Array aa))).push (ar "tuple" vs.toArray 0)).objs.size=s.heap.objs.size+3:=by rw[bO,am.size_update,vO]
  have k6:∀b o,s.heap.get? b=some o->(((hA.update (s.heap.objs.size+1) (aM.mapSeq λ_=>(#[]:Array aa))).push (ar "tuple" vs.toArray 0)).push (ar "list" #[] 0)).get? b=some o:=λb o e=>by
   refine Tj _ (Tj _ ?_);rw[am.get?_update_ne _ _ _ _ (Oq (P9 (Ti e)))];exact keep b o e
  have oV:(((hA.update (s.heap.objs.size+1) (aM.mapSeq λ_=>(#[]:Array aa))).push (ar "tuple" vs.toArray 0)).push (ar "list" #[] 0)).get? (s.heap.objs.size+1)=some (ar "list" #[] e1):=Tj _ (Tj _ qR);have jd:(((hA.update (s.heap.objs.size+1) (aM.mapSeq λ_=>(#[]:Array aa))).push (ar "tuple" vs.toArray 0)).push (ar "list" #[] 0)).get? (s.heap.objs.size+3)=some (ar "list" #[] 0):=by rw[<-oZ];exact am.get?_push_size _ rfl
  have J0:Inv X pins Z (upd H (s.heap.objs.size+3) (.lst [])) {s with heap:=((hA.update (s.heap.objs.size+1) (aM.mapSeq λ_=>(#[]:Array aa))).push (ar "tuple" vs.toArray 0)).push (ar "list" #[] 0)}:=
   I.laid (t':=s.toks) (o:=.lst []) k6 (by lia) ⟨by decide,[],0,.nil,jd⟩
  have mR:H (s.heap.objs.size+1)=none:=I.hok.fresh (Qb _);have jU:∀p∈X.pn++pins,p.1≠s.heap.objs.size+1:=λp hp=>Oq (P9 (Ti (I.pin p hp).1));have J1:Inv X ((s.heap.objs.size+1,ar "list" #[] e1)::pins) Z (upd H (s.heap.objs.size+3) (.lst [])) {s with heap:=((hA.update (s.heap.objs.size+1) (aM.mapSeq λ_=>(#[]:Array aa))).push (ar "tuple" vs.toArray 0)).push (ar "list" #[] 0)}:=by
   refine J0.pins_of λp hp=>?_;rcases Ot.mp hp with rfl | hp
   ·exact⟨oV,by rw[Ad (by show s.heap.objs.size+1≠s.heap.objs.size+3;lia)];exact mR,Sz (P9 I.lt),I.nofs (Qb _),λv q=>by cases q⟩
   ·exact J0.pin p (Pc _ hp)
  rw[oZ];subst y4;refine Xmx (f:=f) rfl J1 (I.hok.fresh (by lia)) hu (Pb I.sz (Qb _)) jU mR hT nd cN turn λp H' s' g so sm er J=>⟨_,rfl,?_⟩;exact S8 ⟨_,rfl,⟨.ref (s.heap.objs.size+1),H',J,rfl,h _ p H' mR g so sm er⟩⟩
end
structure FunT (K:KL) (x:aj) (st:aK) (f:ae) (fd:bK) (T:ae):Prop where
 ex:∃(oc:aa) (od:Option ae) (kV cQ pm:aa) (an:Option ae) (c0:ae) (ct:aa) (iu:Array (Option aa)),
  fd=Le x x (Eh st) (C3 st) (defScope st) .none kV cQ pm an (.ref c0) ct/\K.lookup f=some ⟨oc,od,.func fd,iu⟩/\LA K (.ref c0) x=true/\KW K c0 T=true
 kp:KR K (.ref f)=true
structure DefT (K:KL) (x:aj) (st:aK) (T:ae):Prop where
 ex:∃f fd,KO K ak x=some (some (.ref f))/\KR K (.ref f)=true/\FunT K x st f fd T/\Fun K x x st f fd
def DefT.of{K}{x}{st}    {kV cQ pm ct}(a:KO K ak x=some (some (.ref f)))
  (l:K.lookup f=some ⟨oc,od,.func (Le x x (Eh st) (C3 st) (defScope st) .none kV cQ pm an (.ref c0) ct),iu⟩) (c:LA K (.ref c0) x=true) (k:KR K (.ref f)=true) (t:KW K c0 T=true):DefT K x st T:=
 ⟨⟨f,_,a,k,⟨⟨oc,od,kV,cQ,pm,an,c0,ct,iu,rfl,l,c,t⟩,k⟩,Xbi l c k⟩⟩
section
variable {P:ao}{w:av}{K:KL}{mg:aj->Option aa}{base:am}
def FunT.ok{x}{st}  {fd}   (F:FunT K x st f fd T)(S:FnScope N ps (defScope st))(len:∀vs H Q E,sp vs H Q E->vs.length=ps.length)
  (dS:∀(c0:ae),KW K c0 T=true->∀(A:aw) (outer:List eJ) (s:af) (H:Hp) (vs:List V) (Q:VK) (E:XK),Room k (A.deeper (aH x (defScope st) s.heap.objs.size f (.ref c0)))->sp vs H Q E ->
   ∃t,PSs (Cp CX0 P w K mg base N x (defScope st) f (.ref c0) A outer s H E).nox (C3 st) t/\t {nx:=λ_ H'=>Q .non H',rt:=Q} (start N vs) H):FnOk P w K mg base CX0 (k+1) f fd ps sp:=by
 obtain⟨oc,od,kV,cQ,pm,an,c0,ct,iu,rfl,lk,gG,hhd⟩:=F.ex;refine Lo lk gG S len λA outer s H vs Q E hr fD=>?_;obtain⟨t,h,q⟩:=dS c0 hhd A outer s H vs Q E hr fD;exact⟨t,h.nox,q⟩
end
section
variable {X:Cx}
def Xmz (X:Cx) (ta tk:TA):TE:=fun Z H Q=>ta Z H λvs H1=>tk Z H1 λzs H2=>∃(l f:ae) (ps:List ae) (Ts:List (Za)),vs=[.ref l]/\zs=[.ref f]/\H2 l=some (.lst (ps.map V.ref))/\Tups H2 ps Ts/\Ts.Nodup/\ps.length<=64/\Turns X f H2 ps Ts /\
 ∀(D:ae) (p:Array Nat) (H':Hp),H2 D=none->Gd ps.length p->B7 (Fb Ts) p ps.length->Same H2 H'->H' D=some (.lst ((p.toList.map λi=>ps.getD i 0).map V.ref))->Q (.ref D) H'
def Xm0      (hu:X.A.in1.in1.units<bj) (hg:Gl X x) (hm:X.mg x=none) (hv:bG x=some (.builtin "sorted")) (ha:PA X (e::es) ta) (DD:PK X jK tk)
  (jV:(c5 pos (bE jK X.env)).filterMap (·.1)=[aj.ofString "key"]:=by rfl)
  (hn:x ≠ "__name__" := by decide) (gO:(x==("__debug__" : aj))=false:=by decide)
  (he:bp pos (aq (e::es) X.env)=(false,eval e X.env)::bp pos (aq es X.env):=by rfl)
  (dX:(bp pos (aq (e::es) X.env)).any (·.1)=false:=by rfl)
  (bS:(c5 pos (bE jK X.env)).all (·.1.isSome)=true:=by rfl)
  (gJ:(c5 pos (bE jK X.env)).any (·.1.isNone)=false:=by rfl):PE X (.Call (.Name x p) (e::es) jK pos) (Xmz X ta tk):=by
 intro pins s Z H Q I h;refine bN (Fg I hg hm hv ?_ hn gO);refine callWith_kw (thn (ha pos pins s Z H _ I h) λus s1 ⟨vs,H1,I1,r1,q1⟩=>thn (DD pos pins s1 Z H1 _ I1 q1) λws s2 ⟨zs,H2,I2,r2,q2⟩=>?_) he dX bS gJ;rw[jV];obtain⟨l,f,ps,Ts,rfl,rfl,hl,hT,nd,cN,turn,k⟩:=q2;obtain⟨u,rfl,rx⟩:=Co r1;obtain⟨v,rfl,rf⟩:=Co r2;cases rx;cases rf;exact Xmy I2 hu hl hT nd cN turn k
def Xm1{k}  {x qual}       (hf:H f=some (.ext (E4 f (L' "<lambda>" qual params body scope [] pm (.ref c) iL))))(hc:H c=some (.ext (E3 c qual)))
  (S:FnScope [x] [x] scope) (hr:Room (k+3) X.A) (hb:∀u,dR (L' "<lambda>" qual params body scope [] pm (.ref c) iL) ⟨[u],[]⟩=pure ([x].zip [u]))
  (iA:∀(A:aw) (outer:List eJ) (s1:af) (H1:Hp) (i:Nat),i<ps.length->Same H H1->Room k (A.deeper (aH qual scope s1.heap.objs.size f (.ref c)))->∃t,PE (Cp CX0 X.prog X.w X.K X.mg X.base [x] qual scope f (.ref c) A outer s1 H1 E0) body t /\
   ∀Q:VK,(∀t H2,H2 t=some (.tup [.int (Ts.getD i []).length,.ref (ps.getD i 0)])->Same H1 H2->Q (.ref t) H2)->t (start [x] [.ref (ps.getD i 0)]) H1 Q):Turns X f H ps Ts:=by
 intro pins Z s1 H1 i hi sm I;have bR:Room (k+1) X.A.in1.in1:=(Room.in1 (k:=k+2) hr).in1;obtain⟨t,ht,hq⟩:=iA X.A.in1.in1 X.stack s1 H1 i hi sm (bR.deeper _);refine fI (br (Xkl (Q:=λv H2=>∃t,v = .ref t/\H2 t=some (.tup [.int (Ts.getD i []).length,.ref (ps.getD i 0)])/\Same H1 H2) (sm _ _ hf) (sm _ _ hc) S bR I.env0.in1.in1 rfl (.cons (show Ah (.ref (ps.getD i 0)) (.ref (ps.getD i 0)) from rfl) .nil) (hb _) ht (hq _ λt H2 a b=>⟨t,rfl,a,b⟩)) λr s' r6=>?_);cases r with
 | error e=>exact r6.elim
 | ok fl=>
  cases fl with
  | next=>exact False.elim r6
  | brk=>exact False.elim r6
  | cont=>exact False.elim r6
  | ret u=>
   obtain⟨v,H2,J,rv,t,rfl,a,b⟩:=I.after r6;exact⟨t,H2,rv,J,a,b⟩
end
end L2
namespace SH
open L2
def Nv  : Eo jc qO=true↔(jc = "within" -> qO=true)/\(jc = "apart" -> qO=false):=by
 unfold Eo;by_cases h:jc = "within"
 ·rw[Td h];have n:jc ≠ "apart" := by rw[h];decide
  exact⟨λz=>⟨λ_=>z,λz=>absurd z n⟩,λz=>z.1 h⟩
 ·rw[Tc h];by_cases g:jc = "apart"
  ·rw[Te g];constructor
   ·exact λz=>⟨λq=>absurd q h,λ_=>by simpa using z⟩
   ·intro z;rw[z.2 g];rfl
  ·rw[Tf g];exact⟨λ_=>⟨λq=>absurd q h,λq=>absurd q g⟩,λ_=>rfl⟩
def Dw:An row S=true↔S.Pairwise ltS/\(∀x∈S,x∈row)/\(∀x∈S,∀y∈row,lieR row x y = "within" -> y∈S)/\(∀x∈S,∀y∈S,lieR row x y ≠ "apart"):=by
 constructor
 ·intro h;obtain⟨h1,h2⟩:=Es h;unfold An at h;rw[O4] at h;have al:∀x∈S,∀y∈row,Eo (lieR row x y) (decide (y∈S))=true:=λx hx y hy=>O6.mp (O6.mp h.2 x hx) y (Ar.mpr hy);refine⟨h2,h1,λx hx y hy e=>Tg ((Nv.mp (al x hx y hy)).1 e),λx hx y hy e=>?_⟩;have:=(Nv.mp (al x hx y (h1 y hy))).2 e;rw[Te hy] at this;cases this
 ·rintro ⟨h1,h2,h3,h4⟩;unfold An;rw[O4,O4];refine⟨⟨Te (Kg h1).symm,O6.mpr λx hx=>Te (h2 x hx)⟩,O6.mpr λx hx=>O6.mpr λy hy=>Nv.mpr ⟨λe=>Te (h3 x hx y (Ar.mp hy) e),λe=>Tf λz=>h4 x hx y z e⟩⟩
def K0(h:lieT a b c e = "within"):c<a/\a<e/\c<b/\b<e:=by
 unfold lieT at h;split at h
 ·exact absurd h (by decide)
 ·split at h
  ·exact absurd h (by decide)
  ·split at h
   ·rename_i q;rw[Cl] at q;by_cases p1:c<a/\a<e
    ·by_cases p2:c<b/\b<e
     ·exact⟨p1.1,p1.2,p2.1,p2.2⟩
     ·rw[Td p1,Tc p2] at q;lia
    ·rw[Tc p1] at q;split at q<;>lia
   ·split at h
    ·exact absurd h (by decide)
    ·exact absurd h (by decide)
def Xm2  (hx:row.count x=2) (h:lieR row x y = "within"):span row x<span row y:=by
 have l1:=Ck hx;obtain⟨h1,h2,h3,h4⟩:=K0 h;unfold span
 lia
def Xm3{S:Za}(h:S.Pairwise ltS):(S.filter p).Pairwise ltS:=h.filter p
def Xm4(h2:∀y∈row,row.count y=2)(h:An row S=true)(ne:S≠[]):∃x∈S,An row (S.filter λy=>decide (y≠x))=true:=by
 obtain⟨p1,p2,p3,p4⟩:=Dw.mp h;obtain⟨x,hx,lx⟩:=least (span row) S ne;refine⟨x,hx,Dw.mpr ⟨Xm3 p1,λy hy=>p2 y (Oi.mp hy).1,λy hy z hz e=>?_,λy hy z hz=>p4 y (Oi.mp hy).1 z (Oi.mp hz).1⟩⟩;obtain⟨h8,j7⟩:=Oi.mp hy;refine Oi.mpr ⟨p3 y h8 z hz e,Te λq=>?_⟩;subst q;have:=Xm2 (h2 y (p2 y h8)) e;have:=lx y h8
 lia
def Xez  (h:S.Pairwise ltS) (hx:x∈S):srt ((S.filter λy=>decide (y≠x))++[x])=S:=by
 have nd:=Ep h;refine Ez ((Cs _).trans (Hy ?_ nd λy=>?_)) (Ej _) (Kf h)
 ·rw[Qa];refine⟨nd.filter _,by simp,λa ha b hb e=>?_⟩;rw[Oe.mp hb] at e;exact Tg (Oi.mp ha).2 e
 ·rw[Om,Oe,Oi];constructor
  ·rintro (z | z)
   ·exact z.1
   ·rw[z];exact hx
  ·intro z;by_cases e:y=x
   ·exact .inr e
   ·exact .inl ⟨z,Te e⟩
def Xm5{S:Za}(h:S.Pairwise ltS)(hx:x∈S):(S.filter λy=>decide (y≠x)).length+1=S.length:=by
 have e:=Xez h hx;have:=congrArg List.length e;rw[(Cs _).length_eq,Op] at this;exact this
theorem Nw:∀{Ts:List (Za)} {xs:List V},DAll H (Ts.map tupD) xs->∃ps:List ae,xs=ps.map V.ref/\Tups H ps Ts
 | [],xs,h=>by unfold List.map DAll at h;exact⟨[],h,Tups.nil H⟩
 | T::Ts,xs,h=>by
  rw[O8] at h;unfold DAll at h;obtain⟨v,vr,rfl,h1,h2⟩:=h;obtain⟨p,ys,rfl,hp,hy⟩:=Mx h1;rw[Ii hy] at hp;obtain⟨ps,rfl,hq⟩:=Nw h2;exact⟨p::ps,rfl,Tups.cons hp hq⟩
theorem Xe0:∀{ps:List ae} {Ts:List (Za)},Tups H ps Ts->DAll H (Ts.map tupD) (ps.map V.ref)
 | [],Ts,h=>by
  have:Ts=[]:=Pd.mp h.1.symm;rw[this];unfold List.map DAll;rfl
 | p::ps,[],h=>by have:=h.1;simp at this
 | p::ps,T::Ts,h=>by
  rw[O8,O8];unfold DAll;exact⟨.ref p,ps.map V.ref,rfl,E7 (h.2 0 (by simp)),Xe0 ⟨by simpa using h.1,λi hi=>by simpa using h.2 (i+1) (by simpa using hi)⟩⟩
def Xm6(h2:∀y∈row,row.count y=2)(h:An row T=true):C7 (bars row) T=true:=by
 rw[<-Nb h2] at h;unfold Ij at h;rw[O4] at h;exact h.2
def Cov (row:Za) (Us:List (Za)) (j:Nat) (Ts:List (Za)):Prop:=∀i,i<j->∀x∈row,x∉Us.getD i []->An row (srt (Us.getD i []++[x]))=true->srt (Us.getD i []++[x])∈Ts
theorem K1{α : Type}{R}(irr:∀a,¬R a a)(tr:∀a b c,R a b->R b c->R a c):∀{A B:List α},A.Pairwise R->B.Pairwise R->(∀x,x∈A↔x∈B)->A=B
 | [],[],_,_,_=>rfl
 | [],b::_,_,_,h=>absurd ((h b).mpr Oj) (by simp)
 | a::_,[],_,_,h=>absurd ((h a).mp Oj) (by simp)
 | a::A,b::B,hA,hB,h=>by
  obtain⟨a1,a2⟩:=Qn.mp hA;obtain⟨b1,b2⟩:=Qn.mp hB;have e:a=b:=by
   rcases Ot.mp ((h a).mp Oj) with z | z
   ·exact z
   ·rcases Ot.mp ((h b).mpr Oj) with u | u
    ·exact u.symm
    ·exact absurd (tr _ _ _ (a1 b u) (b1 a z)) (irr a)
  subst e;rw[K1 irr tr a2 b2 λx=>?_];constructor
  ·intro hx;rcases Ot.mp ((h x).mp (Ol _ hx)) with z | z
   ·exact absurd (z ▸ a1 x hx) (irr a)
   ·exact z
  ·intro hx;rcases Ot.mp ((h x).mpr (Ol _ hx)) with z | z
   ·exact absurd (z ▸ b1 x hx) (irr a)
   ·exact z
def LayC (row:Za) (n:Nat) (Us:List (Za)):Prop:=∀T,T∈Us↔An row T=true/\T.length=n
end SH
namespace L2
def Nx   (K) (h:X.K=K) (hl:PE X l tl):PI X tg l (Xaf K tl):=by subst h;exact pi_list hl
def Xe1{t u}   (P:St->Hp->Prop)(h2:∀Z' H',P Z' H'->u D Z' H')(h1:∀nx,(∀Z' H',P Z' H'->nx Z' H')->t {D with nx:=nx} Z H):Jk t u D Z H:=h1 (u D) h2
end L2
namespace SH
open L2
def spOne:Sp:=λvs H Q _=>∃(dr sc l:ae) (xs:List V),vs=[.ref dr,.ref l]/\DrawOk H dr sc/\H l=some (.lst xs)/\l≠dr/\0<xs.length/\xs.length<=1000 /\
 ∀(i:Nat) (H':Hp),i<xs.length->DrawOk H' dr sc->But dr H H'->Q (xs.getD i .non) H'
def mostL (a b c:Za):Za:=srt ((a.filter λx=>decide (x∈b)||decide (x∈c))++(b.filter λx=>decide (x∈c) && !decide (x∈a)))
def Xm7{a b:Za}(ha:a.Pairwise ltS)(hb:b.Pairwise ltS)(h:∀x,x∈a↔x∈b):a=b:=K1 Ht (λ_ _ _=>Hu) ha hb h
end SH
set_option maxHeartbeats 3200000
namespace L2
open PySem.Calls
def Mask (mask:Nat):Prop:=mask=7\/mask=15\/mask=31
section
variable {mask:Nat}{owner:Array (Option Nat)}
def liveL (owner:Array (Option Nat)):List Nat:=owner.toList.filterMap id
end
section
variable {P:ao}{w:av}{A:aw}{E:Zb}{s:af}{a b c:ae}{ks ls:Za}
structure Nu (w:av) (h:am) (a:ae) (n:Nat):Prop where
 ex:∃o ep t,h.get? a=some o/\o.ExactSet/\o.data = .set #[] ep t/\t.place = #[]/\t.dummies = #[]/\Mask t.mask/\n<=t.mask/\t.led = !Ci w/\t.plain=true
def Wl (P:ao) (w:av) (wl:Array (Int×aa)) (ks:Za):Prop:=lK (PySem.strKind P w) wl.toList/\∃zs,aD (wl.toList.map (·.2)) zs/\zs.Perm ks
end
section
variable {P:ao}{w:av}{A:aw}{E:Zb}{s:af}{a b c:ae}{ks ls:Za}
def xor1 (ks:Za) (x:aj):Za:=if x∈ks then ks.erase x else ks++[x]
end
section
variable {P:ao}{w:av}{A:aw}{E:Zb}{s:af}{a b c:ae}{ks ls:Za}
end
section
variable {X:Cx}
end
end L2
set_option maxHeartbeats 4000000
namespace SH
open L2
def Ny (a b:Za):Za:=srt ((a.filter λx => !decide (x∈b))++(b.filter λx => !decide (x∈a)))
structure Two (H:Hp) (r p q:ae) (row a b:Za):Prop where
 hr:H r=some (.lst (row.map V.str))
 r2:Row2 row
 hd:(dit row).length<=14
 hp:H p=some (.tup (a.map V.str))
 hq:H q=some (.tup (b.map V.str))
 oa:∀y∈a,okN y
 ob:∀y∈b,okN y
 la:a.length<=24
 lb:b.length<=24
def Fc (a b:Za):Bool:=Cv a.length a b.length b
def Xm8{Ts}(g:Gd Ts.length p)(so:B7 (Fb Ts) p Ts.length):
  (p.toList.map λi=>Ts.getD i []).Perm Ts/\(p.toList.map λi=>Ts.getD i []).Pairwise λa b=>Fc a b=true:=by
 constructor
 ·have e:((List.range Ts.length).map λi=>Ts.getD i [])=Ts:=by
   refine Rr (by simp) λi h1 h2=>?_;simp[Qz,List.getElem_range,List.getD,h2]
  have q:p.toList.Perm (List.range Ts.length):=by
   have:=g.toList;simpa using this
  have:=q.map λi=>Ts.getD i [];rw[e] at this;exact this
 ·rw[Qi];intro i j hi hj hJ;have sz:=g.size;rw[Oc,O1,sz] at hi hj;have:=so i j hJ hj;rw[Qz,Qz];have e1:p.getD i 0=p.toList[i]'(by rw[O1,sz];exact hi):=by simp[Array.getD,sz,hi]
  have e2:p.getD j 0=p.toList[j]'(by rw[O1,sz];exact hj):=by simp[Array.getD,sz,hj]
  rw[e1,e2] at this;exact this
def K2{α : Type}(f:Nat -> α)(d : α)(l:List Nat)(hi:i<l.length):(l.map f).getD i d=f l[i]:=by simp[List.getD,hi]
def Xm9    (h:Tups H ps Ts) (g:Gd ps.length p):Tups H (p.toList.map λi=>ps.getD i 0) (p.toList.map λi=>Ts.getD i []):=by
 refine⟨by simp,λi hi=>?_⟩;rw[Oc] at hi;have e1:(p.toList.map λi=>ps.getD i 0).getD i 0=ps.getD p.toList[i] 0:=K2 _ _ _ hi;have e2:(p.toList.map λi=>Ts.getD i []).getD i []=Ts.getD p.toList[i] []:=K2 _ _ _ hi;rw[e1,e2];refine h.2 _ ?_;have q:p.toList.Perm (List.range ps.length):=by
  have:=g.toList;simpa using this
 simpa using q.mem_iff.mp (O5 hi)
abbrev qIn:aj:=(aj.ofString "in_order" ++ aj.ofString ".<locals>.")++aj.ofString "<lambda>"
def spInOrder (T:ae) (pos:ce):Sp:=λvs H Q _=>∃(l:ae) (ps:List ae) (Ts:List (Za)),vs=[.ref l]/\H l=some (.lst (ps.map V.ref))/\Tups H ps Ts/\Ts.Nodup/\ps.length<=64/\Az T pos qIn H /\
 ∀(D:ae) (ni:List ae) (eu:List (Za)) (H':Hp),H D=none->H' D=some (.lst (ni.map V.ref))->Tups H' ni eu->eu.Perm Ts->(eu.Pairwise λa b=>Fc a b=true)->Az T pos qIn H'->But T H H'->Q (.ref D) H'
def Az.same    (h:Az T pos q H) (s:Same H H'):Az T pos q H':=by
 rcases h with e | ⟨c,e,ec⟩
 ·exact .inl (s _ _ e)
 ·exact .inr ⟨c,s _ _ e,s _ _ ec⟩
def Az.but     (h:Az T pos q H) (hd:H dr=some (.lst o')) (b:But dr H H'):Az T pos q H':=by
 rcases h with e | ⟨c,e,ec⟩
 ·exact .inl (b _ _ e λz=>by rw[z,hd] at e;cases e)
 ·exact .inr ⟨c,b _ _ e (λz=>by rw[z,hd] at e;cases e),b _ _ ec λz=>by rw[z,hd] at ec;cases ec⟩
def lamPos (s:aK):ce:=match C3 s with
 | [.Return (some (.Call _ _ [⟨_,.Lambda _ _ _ p,_⟩] _)) _]=>p
 | _=>⟨0,0,0,0⟩
def Xna(h1:a<b)(h2:c<e)(n1:a≠c)(n2:a≠e)(n3:b≠c)(n4:b≠e)(h:lieT a b c e = "apart"):e<a\/b<c:=by
 unfold lieT at h;rw[Tc (by lia)] at h;split at h
 ·exact absurd h (by decide)
 ·split at h
  ·exact absurd h (by decide)
  ·split at h
   ·exact absurd h (by decide)
   ·rename_i q1 q2 q3;rw[Cl] at q1 q2 q3;by_cases p1:c<a/\a<e
    ·by_cases p2:c<b/\b<e
     ·rw[Td p1,Td p2] at q2;lia
     ·rw[Td p1,Tc p2] at q1;lia
    ·by_cases p2:c<b/\b<e
     ·rw[Tc p1,Td p2] at q1;lia
     ·by_cases p3:a<c/\c<b
      ·by_cases p4:a<e/\e<b
       ·rw[Td p3,Td p4] at q3;lia
       ·lia
      ·lia
def Xe2(h1:a<b)(h:lieT a b c e = "cross"):a<e/\c<b:=by
 unfold lieT at h;split at h
 ·exact absurd h (by decide)
 ·split at h
  ·rename_i q;rw[Cl] at q;by_cases p1:c<a/\a<e
   ·lia
   ·by_cases p2:c<b/\b<e
    ·lia
    ·rw[Tc p1,Tc p2] at q;lia
  ·split at h
   ·exact absurd h (by decide)
   ·split at h
    ·exact absurd h (by decide)
    ·exact absurd h (by decide)
def Xnb(h1:a<b)(h2:c<a)(h3:b<e):lieT a b c e = "within" := by
 unfold lieT;have q:nIn c e [a,b]=2:=by rw[Cl,Td ⟨h2,by lia⟩,Td ⟨by lia,h3⟩]
 rw[Tc (by lia),q,Tc (by decide),Td rfl]
section
variable {row:Za}
def Xe3(h:upB row a y=true):(pl row y).1<=(pl row a).1/\(pl row a).2<=(pl row y).2:=by
 unfold upB at h;rw[Rm] at h;rcases h with h | h
 ·rw[Tg h];exact⟨Int.le_refl _,Int.le_refl _⟩
 ·obtain⟨h1,h2,h3,h4⟩:=K0 (Tg h);exact⟨by lia,by lia⟩
def Xe4(hx:row.count x=2)(h:lieR row x y = "within")(g:lieR row y z = "within"):lieR row x z = "within" := by
 have l:=Ck hx;obtain⟨h1,h2,h3,h4⟩:=K0 h;obtain⟨g1,g2,g3,g4⟩:=K0 g;exact Xnb l (by lia) (by lia)
def Nz:lieR row x x ≠ "within" := by rw[Ke];decide
structure Core (row:Za) (cs:Za) (p:aj->Bool):Prop where
 inr:∀c∈cs,c∈row
 is:∀y,p y=true ↔ ∃c∈cs,upB row c y=true
 ov:∀c∈cs,∀d∈cs,(pl row c).1<(pl row d).2
 an:∀c∈cs,∀d∈cs,lieR row c d ≠ "within"
variable {cs y6:Za}{p p':aj->Bool}
def Core.plot(h2:∀y∈row,row.count y=2)(C:Core row cs p):An row ((dit row).filter p)=true:=by
 refine Dw.mpr ⟨(D4 row).filter p,λx hx=>Ar.mp (Oi.mp hx).1,λx hx y hy e=>?_,λx hx y hy e=>?_⟩
 ·obtain⟨c,hc,hu⟩:=(C.is x).mp (Oi.mp hx).2;refine Oi.mpr ⟨Ar.mpr hy,(C.is y).mpr ⟨c,hc,?_⟩⟩;unfold upB at hu ⊢;rw[Rm] at hu ⊢;rcases hu with hu | hu
  ·rw[Tg hu] at e;exact .inr (Te e)
  ·exact .inr (Te (Xe4 (h2 c (C.inr c hc)) (Tg hu) e))
 ·have mx:=Oi.mp hx;have my:=Oi.mp hy;obtain⟨c,hc,hu⟩:=(C.is x).mp mx.2;obtain⟨d,hd,hv⟩:=(C.is y).mp my.2;have oM:=h2 x (Ar.mp mx.1);have j7:=h2 y (Ar.mp my.1);have ne:x≠y:=λz=>by rw[z,Ke] at e;exact absurd e (by decide)
  obtain⟨n1,n2,n3,n4⟩:=Fw oM j7 ne;have u1:=Xe3 hu;have u2:=Xe3 hv;have o1:=C.ov c hc d hd;have o2:=C.ov d hd c hc;rcases Xna (Ck oM) (Ck j7) n1 n2 n3 n4 e with z | z
  ·lia
  ·lia
def Core.min(h2:∀y∈row,row.count y=2)(C:Core row cs p)(x):x∈cs↔x∈(dit row).filter p/\∀y∈(dit row).filter p,lieR row y x ≠ "within" := by
 have self:∀c∈cs,c∈(dit row).filter p:=λc hc=>Oi.mpr ⟨Ar.mpr (C.inr c hc),(C.is c).mpr ⟨c,hc,by unfold upB;simp⟩⟩;constructor
 ·intro hx;refine⟨self x hx,λy hy e=>?_⟩;obtain⟨c,hc,hu⟩:=(C.is y).mp (Oi.mp hy).2;unfold upB at hu;rw[Rm] at hu;rcases hu with hu | hu
  ·rw[Tg hu] at e;exact C.an c hc x hx e
  ·exact C.an c hc x hx (Xe4 (h2 c (C.inr c hc)) (Tg hu) e)
 ·rintro ⟨hx,hm⟩;obtain⟨c,hc,hu⟩:=(C.is x).mp (Oi.mp hx).2;unfold upB at hu;rw[Rm] at hu;rcases hu with hu | hu
  ·rw[Tg hu];exact hc
  ·exact absurd (Tg hu) (hm c (self c hc))
def Core.eq(h2:∀y∈row,row.count y=2)(C:Core row cs p)(C':Core row y6 p')(e:(dit row).filter p=(dit row).filter p'):∀x,x∈cs↔x∈y6:=λx=>by
 rw[C.min h2,C'.min h2,e]
def core1(h2:∀y∈row,row.count y=2){a:aj}(ha:a∈row):Core row [a] (upB row a) where
 inr c hc:=by rw[Oe.mp hc];exact ha
 is y:=by simp
 ov c hc d hd:=by rw[Oe.mp hc,Oe.mp hd];exact Ck (h2 a ha)
 an c hc d hd:=by rw[Oe.mp hc,Oe.mp hd];exact Nz
def Iy(h:q∈crs row):q.1∈row/\q.2∈row/\ltS q.1 q.2/\lieR row q.1 q.2 = "cross" := by
 unfold crs at h;obtain⟨x,hx,h⟩:=List.mem_flatMap.mp h;obtain⟨y,hy,rfl⟩:=O0.mp h;obtain⟨h1,h3⟩:=Oi.mp hy;rw[O4] at h3;exact⟨Ar.mp hx,Ar.mp h1,Tg h3.1,Tg h3.2⟩
def core2(h2:∀y∈row,row.count y=2)(h:q∈crs row):Core row [q.1,q.2] λy=>upB row q.1 y||upB row q.2 y:=by
 obtain⟨ha,hb,hl,hx⟩:=Iy h;have hy:lieR row q.2 q.1 = "cross" := D8 (h2 _ ha) (h2 _ hb) hx;have la:=Ck (h2 _ ha);have lb:=Ck (h2 _ hb);have c1:=Xe2 la hx;have c2:=Xe2 lb hy;refine⟨λc hc=>?_,λy=>by simp,λc hc d hd=>?_,λc hc d hd=>?_⟩
 ·simp at hc;rcases hc with rfl | rfl
  ·exact ha
  ·exact hb
 ·simp at hc hd;rcases hc with rfl | rfl<;>rcases hd with rfl | rfl
  ·exact la
  ·exact c1.1
  ·exact c2.1
  ·exact lb
 ·simp at hc hd;rcases hc with rfl | rfl<;>rcases hd with rfl | rfl
  ·exact Nz
  ·rw[hx];decide
  ·rw[hy];decide
  ·exact Nz
def Xnc(h2:∀y∈row,row.count y=2):∀S∈cands row,An row S=true:=λS hS=>by
 unfold cands at hS;rcases Om.mp hS with h | h
 ·obtain⟨a,ha,rfl⟩:=O0.mp h;exact(core1 h2 (Ar.mp ha)).plot h2
 ·obtain⟨q,hq,rfl⟩:=O0.mp h;exact(core2 h2 hq).plot h2
def Xnd(row):(crs row).Nodup:=by
 unfold crs;have nd:=Ep (D4 row);rw[List.Nodup,List.pairwise_flatMap];refine⟨λx hx=>?_,nd.imp λ{x y} ne a ha b hb e=>?_⟩
 ·rw[Ra];exact(nd.filter _).imp λne e=>ne (Prod.mk.inj e).2
 ·obtain⟨u,_,rfl⟩:=O0.mp ha;obtain⟨v,_,rfl⟩:=O0.mp hb;exact ne (Prod.mk.inj e).1
def Xne(h2:∀y∈row,row.count y=2):(cands row).Nodup:=by
 have nd:=Ep (D4 row);unfold cands;rw[List.Nodup,O7];refine⟨?_,?_,?_⟩
 ·rw[Ra];refine nd.imp_of_mem λ{a b} ha hb ne e=>ne ?_;have:=(Core.eq h2 (core1 h2 (Ar.mp ha)) (core1 h2 (Ar.mp hb)) e a).mp (Qg _);exact Oe.mp this
 ·rw[Ra];refine(Xnd row).imp_of_mem λ{q r} hq hr ne e=>ne ?_;have E:=Core.eq h2 (core2 h2 hq) (core2 h2 hr) e;obtain⟨_,_,l1,_⟩:=Iy hq;obtain⟨_,_,l2,_⟩:=Iy hr;have e1:=(E q.1).mp (by simp);have e2:=(E q.2).mp (by simp);have e3:=(E r.1).mpr (by simp);simp at e1 e2 e3;obtain⟨a,b⟩:=q;obtain⟨c,d⟩:=r;simp only at *;rcases e1 with e1 | e1
  ·rcases e2 with e2 | e2
   ·exact absurd (e1.trans e2.symm) (Hv l1)
   ·rw[e1,e2]
  ·rcases e2 with e2 | e2
   ·rw[e1,e2] at l1;exact absurd (Hu l1 l2) (Ht _)
   ·exact absurd (e1.trans e2.symm) (Hv l1)
 ·intro A hA B hB e;obtain⟨a,ha,rfl⟩:=O0.mp hA;obtain⟨q,hq,rfl⟩:=O0.mp hB;have E:=Core.eq h2 (core1 h2 (Ar.mp ha)) (core2 h2 hq) e;obtain⟨_,_,l1,_⟩:=Iy hq;have e1:=Oe.mp ((E q.1).mpr (by simp));have e2:=Oe.mp ((E q.2).mpr (by simp));exact Hv l1 (e1.trans e2.symm)
def Xnf(h2:∀y∈row,row.count y=2)(h3:B6 row)(S):S∈[]::cands row↔An row S=true:=by
 constructor
 ·intro h;rcases Ot.mp h with e | e
  ·rw[e];exact Gq row
  ·exact Xnc h2 S e
 ·intro h;by_cases e:S=[]
  ·rw[e];exact Oj
  ·exact Ol _ (Xd2 h2 h3 e h)
def Xng(h2:∀y∈row,row.count y=2):[]∉cands row:=λh=>by
 unfold cands at h;rcases Om.mp h with h | h
 ·obtain⟨a,ha,e⟩:=O0.mp h;have:=((core1 h2 (Ar.mp ha)).min h2 a).mp (Qg _);rw[e] at this;cases this.1
 ·obtain⟨q,hq,e⟩:=O0.mp h;have:=((core2 h2 hq).min h2 q.1).mp (by simp);rw[e] at this;cases this.1
def Xnh(h2:∀y∈row,row.count y=2):([]::cands row).Nodup:=P7.mpr ⟨Xng h2,Xne h2⟩
end
end SH
namespace L2
def Xe5  {N:Za} {cap:List (Option Nat)}         {i:Nat}  (C:CompScope X N cap scope) (aS:X.calm=true) (hN:X.N.Nodup) (qL:X.N[i]? = some y) (hy:X.env.scope.names.lookup y=some .local) (hi:PI X tg iter wi)
  (hg:∀s0 H0 ex,PG (X.comp N scope s0 H0 ex) tg g) (ht:∀s0 H0 ex,PIfs (X.comp N scope s0 H0 ex) bV tt) (he:∀s0 H0 ex,PE (X.comp N scope s0 H0 ex) cH te)
  (qM:dc (.ListComp cH [⟨tg,iter,bV,0⟩] scope pos) (some (.Name y py)) j4.line X.env=pure true:=by rfl)
  (hs:∀x,az iter X.env x=pure x:=by intro _;rfl):PS X (.Assign [.Name y py] (.ListComp cH [⟨tg,iter,bV,0⟩] scope pos) j4) (Xcu i cap (.lst []) wi g tt (J5 te)):=
 Xcv (act := fun D env => do let _ <- call (.builtin "list.append") [.ref D, <- eval cH env]) J7 (fun use => rfl) rfl C aS Hz hN qL hy hi (fun it D env => rfl) hg ht (fun D s0 H0 ex => J6 (he s0 H0 ex)) qM hs
end L2
namespace SH
open L2
def spPlotsA (T:ae) (pos:ce):Sp:=λvs H Q _=>∃(r:ae) (row:Za),vs=[.ref r]/\H r=some (.lst (row.map V.str))/\Row2 row/\B6 row/\(dit row).length<=14/\Az T pos qIn H /\
 ∀(D:ae) (ps:List ae) (Ts:List (Za)) (H':Hp),H D=none->H' D=some (.lst (ps.map V.ref))->Tups H' ps Ts->(∀S,S∈Ts↔An row S=true)->(Ts.Pairwise λa b=>Fc a b=true)->ps.length<=64->Az T pos qIn H'->But T H H'->Q (.ref D) H'
abbrev NPp:Za:=["row", "span", "off", "single", "double"]
abbrev NPo:Za:=["name", "span"]
abbrev NPi:Za:=["other", "name", "span"]
abbrev NPs:Za:=["name", "off"]
abbrev NPd:Za:=["one", "other", "off"]
structure Offs (H:Hp) (kvs:List (Key×V)) (row:Za) (ns:Za):Prop where
 keys:kvs.map (·.1)=ns.map (λx=>(Sum.inr x:Key))
 val:∀x∈ns,∃l,Ay kvs (Sum.inr x:Key)=some (.ref l)/\H l=some (.lst (((dit row).filter (upB row x)).map V.str))
def Offs.mono   (s:Offs H kvs row ns) (h:Same H H'):Offs H' kvs row ns:=⟨s.keys,λx hx=>let ⟨l,h1,h2⟩:=s.val x hx; ⟨l,h1,h _ _ h2⟩⟩
def Offs.snoc     (s:Offs H kvs row ns) (nx:x∉ns) (h:H' l=some (.lst (((dit row).filter (upB row x)).map V.str))) (k:∀b xs,H b=some (.lst xs)->H' b=some (.lst xs)):
  Offs H' (Be kvs (Sum.inr x) (.ref l)) row (ns++[x]):=by
 have hn:Ay kvs (Sum.inr x:Key)=none:=by
  cases e:Ay kvs (Sum.inr x:Key) with
  | none=>rfl
  | some v=>
   exfalso;have:=Hh e;rw[s.keys] at this;obtain⟨y,hy,e2⟩:=O0.mp this;rw[Qo e2] at hy;exact nx hy
 refine⟨by rw[He _ hn,Oo,Oo,s.keys];rfl,λy hy=>?_⟩;rw[Ga];by_cases e:y=x
 ·subst e;exact⟨l,Td rfl,h⟩
 ·have i4:y∈ns:=by
   rcases Om.mp hy with z | z
   ·exact z
   ·exact absurd (Oe.mp z) e
  obtain⟨l0,h1,h2⟩:=s.val y i4;exact⟨l0,by rw[Tc (λz=>e (Qo z))];exact h1,k _ _ h2⟩
def Offs.get    {x} (s:Offs H kvs row ns) (hd:Rd H d (.dK kvs)) (hx:x∈ns):∃l,DGet H d (.str x) (some (.ref l))/\H l=some (.lst (((dit row).filter (upB row x)).map V.str)):=by
 obtain⟨l,h1,h2⟩:=s.val x hx;exact⟨l,DGet.rd hd h1,h2⟩
def Offs.at{H}{kvs}(s:Offs H kvs row ns)(i)(hi:i<ns.length):(kvs.map λp=>kV p.1).getD i .non = .str (ns.getD i aj.empty):=by
 have e:(kvs.map λp=>kV p.1)=ns.map V.str:=by
  have:(kvs.map λp=>kV p.1)=(kvs.map (·.1)).map kV:=by rw[Ph];rfl
  rw[this,s.keys,Ph];rfl
 rw[e];exact Bo V.str aj.empty ns hi
def Offs.len   (s:Offs H kvs row ns):kvs.length=ns.length:=by
 have:=congrArg List.length s.keys;simpa using this
def Xni{row}{x y}(hx:row.count x=2)(hy:row.count y=2):decide (lieR row x y∈[aj.ofString "same",aj.ofString "within"])=upB row x y:=by
 unfold upB;by_cases e:y=x
 ·subst e;rw[Ke];simp
 ·have n:lieR row x y ≠ "same" := λz=>e (Xd1 hx hy z).symm;simp[e,n]
end SH
namespace L2
open PySem.Calls
section
variable {P:ao}{w:av}{A:aw}{E:Zb}{s:af}
def Xnj(h:Q (.ref s.heap.objs.size) {s with heap:=s.heap.push (D3 w)}):ai (ag P w) A (DE (.type "set")) Q E s:=by
 unfold DE dH;refine S7 (S7 (aY (S8 ?_)));dsimp only;simp only[newObj];exact S7 (jo (S8 h))
def SSet.tySet  (S:SSet P w s.heap a ks):s.TypeIs (.ref a) "set" := by
 obtain⟨o,es,ep,t,ls,ho,hex,_⟩:=S;exact⟨o,ho,hex.1⟩
def call_add     (S:SSet P w s.heap a ks) (hr:ks.length+1<aT)
  (h:∀h' rA,am.SameBut a s.heap h'->SSet P w h' a (dd1 ks x)->Q .none {s with heap:=h',toks:=rA}):ai (ag P w) A (call (.builtin "set.add") [.ref a,.str x tk]) Q E s:=by
 refine aX F.slot_set_add S.tySet F.entry_set_add ?_ (F.args_set_add_2 _ _);unfold au.«set.add» au.Frozenset.oneOther;simp only[List.isEmpty_nil,bind_assoc];unfold au.Frozenset.addrOf BG;refine S7 (S8 ?_)
 try dsimp only
 refine S7 (S8 ?_)
 try dsimp only
 refine S7 ?_;refine a8 (S7 ((PySem.strKind P w).pyHash (k:=x) (fT P w _ tk) ?_));refine Xb2 (s:={s with toks:=s.toks+1}) S hr λb h' sb S2=>?_;show ai _ _ (ret aa.none) _ _ _;exact S8 ⟨_,rfl,h h' _ sb S2⟩
end
section
variable {X:Cx}{N:Za}{cap:List (Option Nat)}{scope:bX}{tg iter cH:aC}{bV:List aC}{g:TG}{tt:TT}{te:TE}{wi:TI}{pos:ce}
def Xnk    : Cm (.SetComp cH gs sc p):=⟨λ_ _ _ _ _ _=>rfl,λ_ _ _ _ _ _=>rfl,λ_ _ _ _ _=>rfl,λ_ _ _ _ _=>rfl⟩
def Xe6    (S:SSet X.prog X.w h a ks):A4 X.prog X.w H h a (Cj X.prog X.w a ks):=
 ⟨S,by obtain⟨o,_,_,_,_,g,_⟩:=S;exact⟨o,g⟩,λh1 h2 S1 kk=>S1.stay kk⟩
def Iz (P:ao) (w:av) (te:TE) (D:ae):TM:=fun Z H Q=>te Z H λy H6=>∃x ks,y = .str x/\H6 D=some (Cj P w D ks)/\ks.length+1<aT/\Q Z (upd H6 D (Cj P w D (dd1 ks x)))
def Xnl{Y}(he:PE Y cH te):PM Y (do  let v <-eval cH Y.env;bZ cH.pos;let _ <-call (.builtin "set.add") [.ref D,v]) (Iz Y.prog Y.w te D):=by
 intro pins s Z H Q I h;refine S7 (thn (he pins s Z H _ I h) λyv s8 ⟨y,H8,I8,r8,x,ks,ey,hD,aZ,q8⟩=>?_);subst ey;obtain⟨tk,rfl⟩:=r8;obtain⟨S,_,_⟩:=(show A4 Y.prog Y.w H8 s8.heap D (Cj Y.prog Y.w D ks) from I8.hok D _ hD);refine S7 (aQ (S7 (call_add S aZ λh' rA sb S2=>?_)));refine S8 ⟨Z,_,Hg I8 (by rw[hD];exact True.intro) sb ?_ (Xe6 S2),q8⟩;obtain⟨o,_,_,_,_,g,_⟩:=S2;exact⟨o,g⟩
def Xnm:AccA X (DE (.type "set")) (D3 X.w) (λD=>Cj X.prog X.w D []):=
 ⟨λs Q E' h=>Xnj h,λpins Z H s I=>I.laid (a:=s.heap.objs.size) (t':=s.toks) (λ_ _ q=>Tj _ q) (Og _) (Xe6 (Xb4 (am.get?_push_size _ rfl)))⟩
def Xnn(C:CompScope X N cap scope)(aS:X.calm=true)(hi:PI X tg iter wi)
  (hg:∀s0 H0 ex,PG (X.comp N scope s0 H0 ex) tg g) (ht:∀s0 H0 ex,PIfs (X.comp N scope s0 H0 ex) bV tt) (he:∀s0 H0 ex,PE (X.comp N scope s0 H0 ex) cH te)
  (hs:∀x,az iter X.env x=pure x:=by intro _;rfl):PE X (.SetComp cH [⟨tg,iter,bV,0⟩] scope pos) (Mr cap (λD=>Cj X.prog X.w D []) wi g tt (Iz X.prog X.w te)):=
 Xct (act := fun D env => do let v <- eval cH env; bZ cH.pos; let _ <- call (.builtin "set.add") [.ref D, v]) Xnm rfl rfl C aS Xnk hi (fun it D env => rfl) hg ht (fun D s0 H0 ex => Xnl (Y := X.comp N scope s0 H0 ex) (he s0 H0 ex)) hs
end
def Xno{P}{w}       (n:Nat)(hn:n+1<aT)(vs:Nat->V)(ys:Nat->aj)
  (fk:∀i H2,i<n->Same H1 H2->J.go i H2/\∀x H3,J.yld i H2 x H3->H3=H2/\x=vs i)
  (bi:∀H2,Same H1 H2->J.stop n H2)
  (step:∀i H2 Q,i<n->Same H1 H2->(∀H',Same H2 H'->Q (.str (ys i)) H')->te ((Bk cap Z).set j (some (vs i))) H2 Q)
  (hd:∀D H2,H1 D=none->Same H1 H2->H2 D=some (Cj P w D (ddup ((List.range n).map ys)))->F D H2):Mq cap (λD=>Cj P w D []) (Ax j) Dd (Iz P w te) J Z H1 F:=by
 intro D hD;refine⟨wN n λi Z2 H2=>(∀v, Z2.set j v=(Bk cap Z).set j v)/\Same H1 H2/\H2 D=some (Cj P w D (ddup ((List.range i).map ys))),⟨n,by simp,Pg _,λ_=>rfl,(Same.refl H1).step hD,Ab⟩,?_⟩;rintro i m Z1 H2 ⟨rfl,hi,e,s2,hb⟩;by_cases aZ:i<n
 ·obtain⟨h1,h2⟩:=fk i H2 aZ s2;refine .inr ⟨h1,λx H3 y=>?_⟩;obtain⟨e1,e2⟩:=h2 x H3 y;subst e1 e2;dsimp only[Ax,Dd,Iz];rw[Td rfl,e];refine step i _ _ aZ s2 λH4 s4=>?_;have hl:(ddup ((List.range i).map ys)).length<=i:=by
   have:=Ge ((List.range i).map ys);rw[Oc,Py] at this;exact this
  refine⟨ys i,_,rfl,s4 _ _ hb,by lia,wskip aZ ⟨λv=>by rw[R7],λb u e'=>?_,?_⟩⟩
  ·rw[Ad (Am e' hD)];exact s4 _ _ (s2 b u e')
  ·rw[Ab,P0,Oo,List.map_singleton,Mf]
 ·have:i=n:=by lia
  subst this;exact .inl ⟨bi H2 s2,hd D H2 hD s2 hb⟩
end L2
namespace L2
def Xnp        (n:Nat) (hn:n<sizeLine) (vs:Nat->V) (ok:Nat->Bool) (Us:Nat->Za)
  (fk:∀i H2,i<n->Same H1 H2->J.go i H2/\∀x H3,J.yld i H2 x H3->H3=H2/\x=vs i)
  (bi:∀H2,Same H1 H2->J.stop n H2)
  (kO:∀i H2 Q,i<n->Same H1 H2->(∀H',Same H2 H'->Q (ok i) H')->tt ((Bk cap Z).set j (some (vs i))) H2 Q)
  (step:∀i H2 Q,i<n->ok i=true->Same H1 H2->(∀t H',H' t=some (.tup ((Us i).map V.str))->Same H2 H'->Q (.ref t) H')->te ((Bk cap Z).set j (some (vs i))) H2 Q)
  (hd:∀D ps H2,H1 D=none->Same H1 H2->H2 D=some (.lst (ps.map V.ref))->Tups H2 ps (((List.range n).filter ok).map Us)->F D H2):D1 cap (Ax j) tt te J Z H1 F:=by
 refine D2 n vs (λD i Z2 H2=>(∀v, Z2.set j v=(Bk cap Z).set j v)/\Same H1 H2/\∃ps:List ae,H2 D=some (.lst (ps.map V.ref))/\Tups H2 ps (((List.range i).filter ok).map Us)) ?_ ?_ ?_ ?_ ?_
 ·intro D hD;exact⟨λ_=>rfl,(Same.refl H1).step hD,[],Ab,Tups.nil _⟩
 ·rintro D i Z2 H2 hD hi ⟨_,s2,_⟩;exact fk i H2 hi s2
 ·rintro D Z2 H2 hD ⟨_,s2,_⟩;exact bi H2 s2
 ·rintro D i Z2 H2 hD hi ⟨e,s2,ps,hb,ht⟩;show tt (Z2.set j (some (vs i))) H2 _;rw[e];refine kO i H2 _ hi s2 λH3 s3=>?_;have iK:=s2.trans s3;have mP:=s3 _ _ hb;have lX:=ht.same s3;have gf:∀v,((Bk cap Z).set j (some (vs i))).set j v=(Bk cap Z).set j v:=λv=>by rw[R7]
  refine A2 (λhk=>?_) (λhk=>?_)
  ·refine step i H3 _ hi hk iK λt H4 h4 s4=>?_;have lR:=s4 _ _ mP;have hl:(ps.map V.ref).length<=i:=by
    have:=ht.1;rw[Oc] at this;rw[Oc,this];exact Pb (Pk ..) (by rw[Py];lia)
   have keep:∀b w,H4 b=some (.tup w)->upd H4 D (.lst (ps.map V.ref++[.ref t])) b=some (.tup w):=λb w e=>by
    rw[Ad (λz=>by rw[z,lR] at e;cases e)];exact e
   refine wput hi lR (by lia) ⟨gf,λb u e'=>?_,ps++[t],by rw[Ab,Oo];rfl,?_⟩
   ·rw[Ad (Am e' hD)];exact s4 _ _ (iK b u e')
   ·rw[P0,O2,Rv hk,Sh,Oo];exact Tups.app ⟨lX.1,λj hj=>keep _ _ (s4 _ _ (lX.2 j hj))⟩ (Tups.cons (keep _ _ h4) (Tups.nil _))
  ·refine wskip hi ⟨gf,iK,ps,mP,?_⟩;rw[P0,O2,Rw (by rw[hk];decide),Sh,Ps];exact lX
 ·rintro D Z2 H2 hD ⟨_,s2,ps,hb,ht⟩;exact hd D ps H2 hD s2 hb ht
end L2
set_option maxHeartbeats 8000000
namespace SH
open L2
def isin{U:List (Za)}(h1:∀W∈U,∀y∈W,okN y)(h2:∀y∈S,okN y):((U.map tupD).any λe=>ah.eqv e (tupD S))=decide (S∈U):=by
 rw[List.any_map];by_cases hS:S∈U
 ·rw[Te hS,Rc];exact⟨S,hS,by show ah.eqv (.tuple _) (.tuple _)=true;rw[Ki h2 h2];exact Te rfl⟩
 ·rw[Tf hS,List.any_eq_false];intro W hW;show ¬ah.eqv (.tuple _) (.tuple _)=true;rw[Ki (h1 W hW) h2];simp;exact λz=>hS (z ▸ hW)
theorem N0:∀(U:List (Za)),ah.depthAll (U.map tupD)<=1
 | []=>by show 0<=1;decide
 | S::U=>by
  have:=N0 U;show max (ah.depthAll (S.map ah.str)+1) (ah.depthAll (U.map tupD))<=1;rw[Gp]
  lia
def N1{U:List (Za)}(h:∀S∈U,∀y∈S,okN y):Ct (U.map tupD)=true:=plainAll_map tupD U λS hS=>E6 (h S hS)
def C9{U:List (Za)}(h:∀S∈U,∀y∈S,okN y):A8 (.list (U.map tupD))=true:=N1 h
def G0{U W:List (Za)}(h1:∀S∈U,∀y∈S,okN y)(h2:∀S∈W,∀y∈S,okN y):ah.eqv (.list (U.map tupD)) (.list (W.map tupD))=decide (U=W):=
 Xcx (λU=>ah.list (U.map tupD)) (λa b e=>by injection e with e;exact(Sq Xdn).mp e) U W (C9 h1) (C9 h2)
def Da    (h:H l=some (.lst (ps.map V.ref))) (t:Tups H ps Ts):DAt H (.list (Ts.map tupD)) (.ref l):=Gh h (Xe0 t)
def G1(U W:List (Za)):min (ah.depth (.list (U.map tupD))) (ah.depth (.list (W.map tupD)))<=3:=by
 show min (ah.depthAll (U.map tupD)+1) _<=3;have:=N0 U
 lia
end SH
set_option maxHeartbeats 4000000
namespace L2
section
variable {X:Cx}{N:Za}{cap:List (Option Nat)}{scope:bX}{tg iter cH:aC}{bV:List aC}{g:TG}{tt:TT}{te:TE}{wi:TI}{pos:ce}
def Xnq(P)(w)(h1:X.prog=P)(h2:X.w=w)(hc:X.calm=true):B1 X (.builtin "sorted") (λxs H Q=>∃a ks,xs=[.ref a]/\H a=some (Cj P w a ks)/\ks.length<64/\∀l ls,H l=none->ls.Perm ks->el ls=true->Q (.ref l) (upd H l (.lst (ls.map V.str)))):=by
 subst h1 h2;exact J3 hc
def Xnr{P:ao}{w:av}(C:CompScope X N cap scope)(aS:X.calm=true)(hi:PI X tg iter wi)
  (hg:∀s0 H0 ex,PG (X.comp N scope s0 H0 ex) tg g) (ht:∀s0 H0 ex,PIfs (X.comp N scope s0 H0 ex) bV tt) (he:∀s0 H0 ex,PE (X.comp N scope s0 H0 ex) cH te) (h1:X.prog=P:=by rfl) (h2:X.w=w:=by rfl)
  (hs:∀x,az iter X.env x=pure x:=by intro _;rfl):PE X (.SetComp cH [⟨tg,iter,bV,0⟩] scope pos) (Mr cap (λD=>Cj P w D []) wi g tt (Iz P w te)):=by
 subst h1 h2;exact Xnn C aS hi hg ht he hs
end
end L2
namespace SH
open L2
def bk (S:Za) (x:aj):aj:=if x∈S then "off" else "home"
def Xns  : bk S x=bk T x↔(x∈S↔x∈T):=by
 unfold bk;by_cases h:x∈S<;>by_cases g:x∈T
 ·simp[h,g]
 ·rw[Td h,Tc g];simp only[h,g];exact⟨λe=>absurd e (by decide),λe=>absurd (e.mp trivial) id⟩
 ·rw[Tc h,Td g];simp only[h,g];exact⟨λe=>absurd e (by decide),λe=>absurd (e.mpr trivial) id⟩
 ·simp[h,g]
def Ja  : bk S x = "off" ↔ x∈S:=by
 unfold bk;by_cases h:x∈S
 ·rw[Td h];simp[h]
 ·rw[Tc h];simp only[h];exact⟨λe=>absurd e (by decide),λe=>e.elim⟩
def Xnt(S)(x):okN (bk S x):=by
 unfold bk;by_cases h:x∈S
 ·rw[Td h];decide +kernel
 ·rw[Tc h];decide +kernel
def A9 (Ts:List (Za)) (x:aj):Za:=srt (ddup (Ts.map λS=>bk S x))
def Ce (row:Za) (Ts:List (Za)):List (aj×aj):=((dit row).filter λx=>decide ((A9 Ts x).length=1)).map λx=>(x,(A9 Ts x).headD aj.empty)
def pr2 (q:aj×aj):Za:=[q.1,q.2]
def K3(ne:Ts≠[])(x b):((A9 Ts x).length=1/\(A9 Ts x).headD aj.empty=b) ↔ ∀S∈Ts,bk S x=b:=by
 have m:∀z,z∈A9 Ts x ↔ ∃S∈Ts,bk S x=z:=λz=>by
  unfold A9;rw[Hx,Hq,O0]
 have nd:(A9 Ts x).Nodup:=(Cs _).nodup_iff.mpr (Hr _);constructor
 ·rintro ⟨h1,h2⟩ S hS;obtain⟨c,hc⟩:=R0.mp h1;rw[hc] at h2;have:bk S x∈A9 Ts x:=(m _).mpr ⟨S,hS,rfl⟩;rw[hc] at this;rw[Oe.mp this];exact h2
 ·intro h;obtain⟨S,hS⟩:=Qd _ ne;have mb:∀z∈A9 Ts x,z=b:=λz hz=>by
   obtain⟨S,hS,e⟩:=(m z).mp hz;rw[<-e];exact h S hS
  have hb:b∈A9 Ts x:=(m b).mpr ⟨S,hS,h S hS⟩;cases e:A9 Ts x with
  | nil=>rw[e] at hb;cases hb
  | cons c r=>
   rw[e] at nd mb;have hc:=mb c Oj;cases r with
   | nil=>exact⟨rfl,hc⟩
   | cons d r=>
    have hd:=mb d (by simp);rw[hc,hd] at nd;simp at nd
def Ec  (ne:Ts≠[]) {x b}:(x,b)∈Ce row Ts↔x∈row/\∀S∈Ts,bk S x=b:=by
 unfold Ce;rw[<-K3 ne x b,O0];constructor
 ·rintro ⟨y,hy,e⟩;obtain⟨h1,h2⟩:=Oi.mp hy;cases e;exact⟨Ar.mp h1,Tg h2,rfl⟩
 ·rintro ⟨h1,h2,h3⟩;exact⟨x,Oi.mpr ⟨Ar.mpr h1,Te h2⟩,by rw[h3]⟩
def N2(row)(Ts):(Ce row Ts).Pairwise λp q=>ltS p.1 q.1:=by
 unfold Ce;rw[Ra];exact(D4 row).filter _
def Xnu(row)(Ts):(Ce row Ts).length<=(dit row).length:=by
 unfold Ce;rw[Oc];exact Pk ..
def Xnv{A B:List (aj×aj)}(hA:A.Pairwise λp q=>ltS p.1 q.1)(hB:B.Pairwise λp q=>ltS p.1 q.1)(h:∀q,q∈A↔q∈B):A=B:=
 K1 (R:=λp q:aj×aj=>ltS p.1 q.1) (λa=>Ht _) (λ_ _ _=>Hu) hA hB h
def keeps (kept:List (aj×aj)) (S:Za):Bool:=kept.all λq=>decide (bk S q.1=q.2)
def Fz  : keeps kept S=true ↔ ∀q∈kept,bk S q.1=q.2:=by
 unfold keeps;rw[O6];exact⟨λh q hq=>Tg (h q hq),λh q hq=>Te (h q hq)⟩
def Good (row:Za) (kept:List (aj×aj)):Prop:=∃Us,Us≠[]/\(∀S∈Us,An row S=true)/\kept=Ce row Us
def Xnw   (ne:Us≠[]) (h:S∈Us):keeps (Ce row Us) S=true:=
 Fz.mpr λq hq=>((Ec ne (x:=q.1) (b:=q.2)).mp hq).2 S h
def Xe7   (h:∀S,S∈Ts↔An row S=true/\keeps kept S=true):Good row kept↔Ts≠[]/\Ce row Ts=kept:=by
 constructor
 ·rintro ⟨Us,ne,hp,rfl⟩;have sub:∀S∈Us,S∈Ts:=λS hS=>(h S).mpr ⟨hp S hS,Xnw ne hS⟩;have y7:Ts≠[]:=λe=>by
   obtain⟨S,hS⟩:=Qd _ ne;have:=sub S hS;rw[e] at this;cases this
  refine⟨y7,Xnv (N2 ..) (N2 ..) λq=>?_⟩;rw[show q=(q.1,q.2) from rfl,Ec y7,Ec ne];refine⟨λz=>⟨z.1,λS hS=>z.2 S (sub S hS)⟩,λz=>⟨z.1,λS hS=>?_⟩⟩;exact Fz.mp ((h S).mp hS).2 (q.1,q.2) ((Ec ne).mpr z)
 ·rintro ⟨ne,e⟩;exact⟨Ts,ne,λS hS=>((h S).mp hS).1,e.symm⟩
def Good.len  (g:Good row kept):kept.length<=(dit row).length:=by
 obtain⟨Us,_,_,rfl⟩:=g;exact Xnu ..
def Good.pw  (g:Good row kept):kept.Pairwise λp q=>ltS p.1 q.1:=by
 obtain⟨Us,_,_,rfl⟩:=g;exact N2 ..
def Xe8  (ne:Ts≠[]) (ok:∀y∈row,okN y):∀S∈(Ce row Ts).map pr2,∀y∈S,okN y:=λS hS y hy=>by
 obtain⟨q,hq,rfl⟩:=O0.mp hS;obtain⟨h1,h2⟩:=(Ec ne (x:=q.1) (b:=q.2)).mp hq;obtain⟨U,hU⟩:=Qd _ ne;unfold pr2 at hy;rcases Ot.mp hy with e | e
 ·rw[e];exact ok _ h1
 ·rw[Oe.mp e,<-h2 U hU];exact Xnt ..
def Xe9{A B:List (aj×aj)}(h:A.map pr2=B.map pr2):A=B:=by
 induction A generalizing B with
 | nil=>cases B with
  | nil=>rfl
  | cons b B=>cases h
 | cons a A ih=>cases B with
  | nil=>cases h
  | cons b B=>
   rw[O8,O8] at h;obtain⟨h1,h2⟩:=Se h;unfold pr2 at h1;obtain⟨e1,e2⟩:=Se h1;obtain⟨e2,_⟩:=Se e2;rw[ih h2,Prod.ext e1 e2]
structure Lsts (H:Hp) (kvs:List (Key×V)) (f:aj->Za) (ns:Za):Prop where
 keys:kvs.map (·.1)=ns.map (λx=>(Sum.inr x:Key))
 val:∀x∈ns,∃l,Ay kvs (Sum.inr x:Key)=some (.ref l)/\H l=some (.lst ((f x).map V.str))
def Lsts.mono    (s:Lsts H kvs f ns) (h:Same H H'):Lsts H' kvs f ns:=⟨s.keys,λx hx=>let ⟨l,h1,h2⟩:=s.val x hx; ⟨l,h1,h _ _ h2⟩⟩
def Lsts.snoc      (s:Lsts H kvs f ns) (nx:x∉ns) (h:H' l=some (.lst ((f x).map V.str))) (k:∀b xs,H b=some (.lst xs)->H' b=some (.lst xs)):
  Lsts H' (Be kvs (Sum.inr x) (.ref l)) f (ns++[x]):=by
 have hn:Ay kvs (Sum.inr x:Key)=none:=by
  cases e:Ay kvs (Sum.inr x:Key) with
  | none=>rfl
  | some v=>
   exfalso;have:=Hh e;rw[s.keys] at this;obtain⟨y,hy,e2⟩:=O0.mp this;rw[Qo e2] at hy;exact nx hy
 refine⟨by rw[He _ hn,Oo,Oo,s.keys];rfl,λy hy=>?_⟩;rw[Ga];by_cases e:y=x
 ·subst e;exact⟨l,Td rfl,h⟩
 ·have i4:y∈ns:=by
   rcases Om.mp hy with z | z
   ·exact z
   ·exact absurd (Oe.mp z) e
  obtain⟨l0,h1,h2⟩:=s.val y i4;exact⟨l0,by rw[Tc (λz=>e (Qo z))];exact h1,k _ _ h2⟩
def Lsts.get     {x} (s:Lsts H kvs f ns) (hd:Rd H d (.dK kvs)) (hx:x∈ns):∃l,DGet H d (.str x) (some (.ref l))/\H l=some (.lst ((f x).map V.str)):=by
 obtain⟨l,h1,h2⟩:=s.val x hx;exact⟨l,DGet.rd hd h1,h2⟩
def Lsts.at{H}{kvs}  (s:Lsts H kvs f ns)(i)(hi:i<ns.length):(kvs.map λp=>kV p.1).getD i .non = .str (ns.getD i aj.empty):=by
 have e:(kvs.map λp=>kV p.1)=ns.map V.str:=by
  have:(kvs.map λp=>kV p.1)=(kvs.map (·.1)).map kV:=by rw[Ph];rfl
  rw[this,s.keys,Ph];rfl
 rw[e];exact Bo V.str aj.empty ns hi
def Lsts.len    (s:Lsts H kvs f ns):kvs.length=ns.length:=by
 have:=congrArg List.length s.keys;simpa using this
def spShared:Sp:=λvs H Q _=>∃(r c:ae) (row:Za) (ps:List ae) (Ts:List (Za)),vs=[.ref r,.ref c]/\H r=some (.lst (row.map V.str))/\Row2 row/\H c=some (.lst (ps.map V.ref))/\Tups H ps Ts/\ps.length<=200 /\
 ∀(D:ae) (qs:List ae) (H':Hp),H D=none->H' D=some (.lst (qs.map V.ref))->Tups H' qs ((Ce row Ts).map pr2)->Same H H'->Q (.ref D) H'
def spLiesOn:Sp:=λvs H Q _=>∃(p k:ae) (S:Za) (qs:List ae) (kept:List (aj×aj)),vs=[.ref p,.ref k]/\H p=some (.tup (S.map V.str))/\H k=some (.lst (qs.map V.ref))/\Tups H qs (kept.map pr2)/\qs.length<=1000/\∀H',Same H H'->Q (.bl (keeps kept S)) H'
abbrev NSh:Za:=["row", "some", "sides"]
abbrev NSh1:Za:=["name", "some"]
abbrev NSh2:Za:=["plot", "name"]
abbrev NSh3:Za:=["name", "sides"]
abbrev NLo1:Za:=["name", "side", "plot"]
end SH
namespace L2
def okR (z:aj):Prop:=z.length<=9/\∀c∈z.cps.toList,c<16 ^ 8
def Xfa (te:TE) (t:L2.St->Hp->(Hp->Prop)->Prop):L2.St->Hp->(Hp->Prop)->Prop:=fun Z H Q=>te Z H λx H1=>∃(a:ae) (ps:List ae) (Ts:List (Za)),x = .ref a/\H1 a=some (.lst (ps.map V.ref))/\Tups H1 ps Ts/\ps.length<=16/\(∀S∈Ts,S.length<=3/\∀z∈S,okR z)/\t Z H1 Q
theorem Xfb     : ∀{us:List aa} {ts:Za},ReprAll P w us ts->ReprAllK P w as h0 d us ts
 | _,_,.nil=>.nil
 | _,_,.cons h r=>.cons (ReprK.of_is h as h0 d) (Xfb r)
section
variable {X:Cx}{es:List aC}{t:L2.St->Hp->(Hp->Prop)->Prop}{e:aC}{te:TE}{pos:ce}
def Xnx{S:Za}(h1:S.length<=3)(h2:∀z∈S,okR z):(cy (S.map cj)).length<=285:=by
 have a:=Xkh (S.map cj);have b:piled (S.map cj)<=94 * S.length:=by
  clear a h1
  induction S with
  | nil=>simp[piled]
  | cons z S ih=>
   obtain⟨g1,g2⟩:=h2 z Oj;have:=StrLaws.reprText_len z g2;have:=ih λy hy=>h2 y (Ol _ hy);rw[O8,piled_cons,Pe]
   lia
 lia
theorem Xfc:∀(Ts:List (Za)),(∀S∈Ts,S.length<=3/\∀z∈S,okR z)->((Ts.map λS=>cy (S.map cj)).map (·.length)).sum<=285 * Ts.length
 | [],_=>by simp
 | S::Ts,h=>by
  obtain⟨h1,h2⟩:=h S Oj;have:=Xnx h1 h2;have ih:=Xfc Ts λy hy=>h y (Ol _ hy);rw[O8,O8,Q0,Pe]
  lia
def Xny  (hr:Room k X.A) (ha:PE X e te) (h:PJ X es t) (he:c6 (.FormattedValue e 114 none p::es) X.env=eval (.FormattedValue e 114 none p) X.env::c6 es X.env:=by rfl):PJ X (.FormattedValue e 114 none p::es) (Xfa te t):=by
 intro out pins s Z H Q I hw hl;rw[he];rw[Pe] at hl;refine fR (gI (thn (ha pins s Z H _ I hw) λv s1 ⟨x,H1,I1,r1,q1⟩=>?_));obtain⟨a,ps,Ts,ez,hp,hT,h1,h2,q⟩:=q1;subst ez;cases r1;obtain⟨_,ax,n,rv,hx⟩:(ps.map V.ref).length<=sizeLine/\∃(ax:List aa) (n:Nat),Vals (ps.map V.ref) ax/\s1.heap.get? a=some {cls:=.type "list",data:=.seq ax.toArray n}:=I1.hok a _ hp;have jA:ax.length=ps.length:=by rw[<-rv.length,Oc]
 have uT:=listText_len_le (Ts.map λS=>cy (S.map cj));have ve:=Xfc Ts h2;have DF:=hT.1;rw[Oc] at uT;have ym:(listText (Ts.map λS=>cy (S.map cj))).length<=5000:=by lia
 have t4:(listText (Ts.map λS=>cy (S.map cj))).length<=sizeLine:=by rw[Tb];lia
 cases ax with
 | nil=>
  refine wpAny_pyReprObj_list_empty ⟨_,hx,rfl⟩ hr.units0 hx rfl ?_;refine fr (λt' k=>⟨by rw[Ei];have:(("[]" : String):aj).length=2:=rfl;lia,?_⟩) (by decide);exact h _ pins _ Z H1 Q ((I1.tok _).tok _) q (by rw[Ei];have:(("[]" : String):aj).length=2:=rfl;lia)
 | cons v r=>
  refine wpAny_pyReprObj_listK (as:=ps) (h₀:=s1.heap) (d:=1) (g:=[]) hx rfl rfl ?_ ?_ (λi y hy=>?_) hr.gd (λb _=>Clear.nil b) (by have:=hr.units;lia) (λ_ _ e=>e) (λh' u tk k=>?_) t4
  ·intro hm;obtain⟨T,_,e⟩:=hT.mem hm;rw[hp] at e;cases e
  ·rw[Oc,Oh,jA,DF]
  ·rw[Qk] at hy;have hi:i<ps.length:=by
    have:=(Ox.mp hy).1
    lia
   have cb:i<Ts.length:=by lia
   obtain⟨u,hu,ru⟩:=rv.get (i:=i) (x:=.ref (ps.getD i 0)) (by rw[Ou,Od hi];simp[List.getD,hi]);have e0:y=u:=by
    rw[hu] at hy;exact(Ov hy).symm
   subst e0;cases ru;have hS:Ts.getD i []∈Ts:=by
    have:Ts.getD i []=Ts[i]:=by simp[List.getD,cb]
    rw[this];exact O5 cb
   have ht:=hT.2 i hi;have jy:ps.getD i 0∈ps:=by
    have:ps.getD i 0=ps[i]:=by simp[List.getD,hi]
    rw[this];exact O5 hi
   refine⟨cy ((Ts.getD i []).map cj),by rw[Ou,Od cb];simp[List.getD,cb],?_⟩;generalize Ts.getD i []=S at hS ht;generalize ps.getD i 0=p at ht jy;obtain⟨JJ,y8⟩:=h2 S hS;obtain⟨fh,r2,pl,_⟩:=I1.tuple (SqT.of (K:=X.K) ht);obtain⟨o,ho,hc,n2,hd⟩:=pl;refine(ReprK.tuple (as:=[]) (d:=0) ho hc hd (by simp) (Xfb (Xc3 (λz hz=>⟨Pb (y8 z hz).1 (by decide),(y8 z hz).2⟩) (by simpa using r2)))).more λb hb=>?_;rw[Oe.mp hb];exact jy
  ·refine fr (λt' k2=>⟨by rw[Ei];lia,?_⟩) t4;exact h _ pins _ Z H1 Q ((I1.kept k).tok _) q (by rw[Ei];lia)
end
end L2
namespace L2
open PySem.Calls
section
variable {P:ao}{w:av}{A:aw}{E:Zb}{s:af}
def Xnz:fK (.type "list") "keys" = pure none:=by rw[fo,cS];kernel_rfl
def Xn0    (hx:s.heap.get? a=some {cls:=.type "list",data:=.seq xs k}) (hA:A.handled=none)
  (h:∀h' tk,(∀b o,s.heap.get? b=some o->h'.get? b=some o)->Q none {s with heap:=h',toks:=tk}):ai (ag P w) A (ju (.ref a) "keys") Q E s:=by
 obtain⟨hp,g,d,tk,os⟩:=s;have hT:∀rA,(⟨hp,g,d,rA,os⟩:af).TypeIs (.ref a) "list" := λ_=>⟨_,hx,rfl⟩;have f1:=sub_AttributeError;have f3:=PySem.F.slot_list_getattribute.lookup;have f4:=PySem.F.slot_list_getattribute.bind (.ref a);have f5:=am_list_getattr_none;unfold ju BA IZ
 repeat (any_goals (first | assumption | exact hT _ | ((with_reducible show ai _ _ (call (aa.builtin "list.__getattribute__") _ _) _ _ _);refine cL PySem.F.slot_list_getattribute (hT _) am_entry_list_getattribute (PySem.F.args_list_getattribute_2 _ _) (meets_getattribute_miss_list a xs k #[] "keys" _ Xnz (by decide +kernel)) ⟨hx,hA,λh' rA e iF=>?_⟩) | wp_step))
 obtain⟨t',u',he⟩:=iF.there;show ai _ _ (lc _ _ _ _ _ _ _) _ _ _;unfold lc
 repeat (any_goals (first | assumption | wp_step))
 all_goals first | exact h _ _ iF.keeps | trace_state
def Xfd:jx table "dict.update.loop" = some au.«dict.update.loop»:=mI (by kernel_rfl)
def K4:plainId "dict.update.loop" = true:=by decide +kernel
def Bp (prs:List (Key×V)):List (Key×V):=prs.foldl (λm q=>Be m q.1 q.2) []
def N3(prs)(q):Bp (prs++[q])=Be (Bp prs) q.1 q.2:=by
 unfold Bp;rw[List.foldl_append];rfl
def Xfe(prs):(Bp prs).length<=prs.length:=by
 have:∀n,∀prs:List (Key×V),prs.length=n->(Bp prs).length<=n:=by
  intro n
  induction n with
  | zero=>intro prs h;rw[Pd.mp h];exact Og _
  | succ n ih=>
   intro prs h;obtain⟨l,q,rfl⟩:∃l q,prs=l++[q]:=⟨prs.dropLast,prs.getLast (λe=>by rw[e] at h;cases h),(Rg _).symm⟩;rw[N3];have:=Gb (Bp l) q.1 q.2;have:=ih l (by simpa using h)
   lia
 exact this _ prs rfl
def Xn1     {St} (prs:List (Key×V)) (W:WalksS P w A.in1 I fp wr G prs.length Pv St) (d:ae) (nd:d∉fp) (h0:am) (rB:Key×V)
  (fU:∀i v,i<prs.length->Pv i v->∃p o n kv vv,v = .ref p/\p≠d/\p∉wr/\h0.get? p=some o/\o.cls = .type "tuple" /\ o.data = .seq #[kv,vv] n/\Ah (kV (prs.getD i rB).1) kv/\Ah (prs.getD i rB).2 vv) (hb:prs.length<sizeLine):
  ∀(k i:Nat) (j:Int) (tj:AB) (s:af),prs.length - i=k->i<=prs.length->St i s->(∀b o,b≠d->b∉wr->h0.get? b=some o->s.heap.get? b=some o)->(∃vs,KV (Bp (prs.take i)) vs/\s.heap.DictOf (A7 P w) d vs) ->
   (∀s',jv (d::wr) G s s'->(∃vs,KV (Bp prs) vs/\s'.heap.DictOf (A7 P w) d vs)->R (.ok (.ret .none)) s') ->
   bf (ag P w) A (.builtin "dict.update.loop" ⟨[.ref d,.ref I,.int j tj,.none],[]⟩) R s:=by
 have nw:d∉wr:=λz=>nd (W.sub _ z);have up:∀b∈wr,b∈d::wr:=λb z=>Ol _ z;intro k
 induction k with
 | zero=>
  intro i j tj s e hi st hk ⟨vs,cP,dd⟩ hR;have:i=prs.length:=by lia
  subst this;rw[Pl] at cP;refine aV Xfd ?_;rw[aw.under_plainId K4 _];show ai _ A.in1 (cK (.ref I) >>= λ_=>_) _ _ s;refine S7 (W.done s _ _ st λs' mv=>?_);show ai _ A.in1 (au.Dict.addKeywords d [] >>= _) _ _ s';obtain⟨o,es,ep,ho,r⟩:=dd;exact S7 (S8 (S8 (hR s' (mv.mono up) ⟨vs,cP,o,es,ep,mv.heap d o nw ho,r⟩)))
 | succ k ih=>
  intro i j tj s e hi st hk ⟨vs,cP,dd⟩ hR;have lt:i<prs.length:=by lia
  refine aV Xfd ?_;rw[aw.under_plainId K4 _];show ai _ A.in1 (cK (.ref I) >>= λ_=>_) _ _ s;refine S7 (W.item i s _ _ lt st λv s' hP ay mv=>?_);obtain⟨p,o,n,kv,vv,rfl,DG,DH,ho,hc,hd,rk,rv⟩:=fU i v lt hP;have eV:∀b o,b≠d->b∉wr->h0.get? b=some o->s'.heap.get? b=some o:=λb o h1 h2 h3=>mv.heap b o h2 (hk b o h1 h2 h3);have dF:=eV p o DG DH ho;have ja:s'.heap.DictOf (A7 P w) d vs:=by
   obtain⟨o,es,ep,ho,r⟩:=dd;exact⟨o,es,ep,mv.heap d o nw ho,r⟩
  have hT:s'.TypeIs (.ref p) "tuple" := ⟨o,dF,hc⟩;have jb:vs.length<=i:=by
   have:=Xfe (prs.take i);rw[<-cP.length];rw[Os] at this
   lia
  show ai _ A.in1 (holding [aa.ref p] _ >>= λ_=>_) _ _ s';refine S7 (a8 (S7 (wpAny_tryCatch ?_)));unfold au.Dict.pairItems;refine S7 (cx hT ?_);rw[Td (by decide)];refine S7 (fZ dF hd (S8 ?_));show ai _ _ (holding [kv,vv] (dictSet d kv vv)) _ _ s';refine a8 (jS (knd:=A7 P w) (Fp rk) ja (λh' jL hs=>?_) (by lia));have e3:Bp (prs.take (i+1))=Be (Bp (prs.take i)) (prs.getD i rB).1 (prs.getD i rB).2:=by
   rw[Ow lt,N3];have:prs.getD i rB=prs[i]:=by simp[List.getD,lt]
   rw[this]
  refine S8 ⟨bL K4 _,ih (i+1) _ _ _ (by lia) lt (W.frame _ s' _ _ ay (Qb _) λb hb o q=>?_) (λb o h1 h2 h3=>?_) ⟨_,by rw[e3];exact cP.put _ rv,jL⟩ λkr uX S4=>?_⟩
  ·show h'.get? b=some o;rw[hs.2 b (λz=>nd (z ▸ hb))];exact q
  ·show h'.get? b=some o;rw[hs.2 b h1];exact eV b o h1 h2 h3
  ·refine hR kr (jv.trans W.gtrans ((mv.mono up).then_heap (Qb _) λb o hb q=>?_) uX) S4;rw[hs.2 b (λz=>hb (z ▸ Oj))];exact q
abbrev dft0:Key×V:=(Sum.inl 0,.non)
abbrev Fd:aM:={cls:=.type "dict",data:=.dict #[]}
def Xn2    {prs} (hA:A.handled=none) (hl:s.heap.get? l=some {cls:=.type "list",data:=.seq aP k}) (hz:aP.size=prs.length) (hb:prs.length<sizeLine)
  (fU:∀i v,i<prs.length->aP[i]? = some v->∃p o n kv vv,v = .ref p/\s.heap.get? p=some o/\o.cls = .type "tuple" /\ o.data = .seq #[kv,vv] n/\Ah (kV (prs.getD i dft0).1) kv/\Ah (prs.getD i dft0).2 vv)
  (h:∀(h':am) (tk:Nat),(∃vs,KV (Bp prs) vs/\h'.DictOf (A7 P w) s.heap.objs.size vs)->(∀b o,s.heap.get? b=some o->h'.get? b=some o)->Q (.ref s.heap.objs.size) {s with heap:=h',toks:=tk}):
  ai (ag P w) A (call (.type "dict") [.ref l]) Q E s:=by
 refine callType_codes (Q₁:=λobj s₁=>obj = .ref s.heap.objs.size/\s₁ = {s with heap:=s.heap.push Fd}) PySem.F.kt_called_dict (PySem.F.kt_typeCall_dict_1 _) PySem.F.entry_dict_init (kt_code_dict_new _ ⟨rfl,rfl⟩) ?_;rintro obj s₁ ⟨rfl,rfl⟩;have fi:(s.heap.push Fd).DictOf (A7 P w) s.heap.objs.size []:=am.DictOf.new s.heap;have jb:(s.heap.push Fd).get? l=some {cls:=.type "list",data:=.seq aP k}:=Tj _ hl;have DI:=Ti hl;refine⟨fi.typeIs,PySem.F.args_dict_init_2 _ _,?_⟩;unfold au.«dict.__init__»;refine S7 ?_;unfold au.Dict.selfAndRest;refine S7 (wpAny_notOrdered_dict fi.typeIs ?_);show ai _ _ (pure (s.heap.objs.size,[aa.ref l])) _ _ _;refine S8 ?_;show ai _ _ (au.Dict.updateFrom "dict.__init__" s.heap.objs.size (.ref l) [] .none) _ _ _;unfold au.Dict.updateFrom;refine S7 (cx (T := "list") ⟨_,jb,rfl⟩ ?_);rw[Td (by decide)];refine S7 (Xn0 (s:={s with heap:=s.heap.push Fd}) jb (by simp[hA]) λh2 DJ k2=>?_);rw[Td (show (none:Option aa).isNone=true from rfl)];have iZ:h2.get? l=some {cls:=.type "list",data:=.seq aP k}:=k2 _ _ jb;have gS:(s.heap.push Fd).get? s.heap.objs.size=some Fd:=am.get?_push_size _ rfl;have ltS:=Ti (k2 _ _ gS);have vP:=Ti iZ;have eZ:h2.IsList l aP:=⟨_,iZ,rfl,k,rfl⟩;refine S7 (aO (S7 (cD (s:={s with heap:=h2,toks:=DJ}) eZ ?_)));have nI:s.heap.objs.size∉[h2.objs.size,l]:=by simp only[Ot,R8,or_false,not_or];exact⟨Oq ltS,(Oq DI).symm⟩
 have W:=(lG.list (prog:=P) (w:=w) (A:=A.in1.in1) (by simp[hA]) h2.objs.size l (Oq vP) aP).toS;rw[hz] at W;refine S8 ⟨bL K4 _,?_⟩;refine Xn1 (A:=A.in1) prs W s.heap.objs.size nI s.heap dft0 (λi v hi hv=>?_) hb _ 0 _ _ _ rfl (Pg _) ⟨⟨_,am.get?_push_size _ rfl,rfl,rfl⟩,eZ.push _⟩ (λb o _ _ q=>Tj _ (k2 _ _ (Tj _ q))) ⟨[],.nil,?_⟩ λs' mv S'=>?_
 ·obtain⟨p,o,n,kv,vv,e,ho,hc,hd,rk,rv⟩:=fU i v hi hv;have DK:=Ti ho;have vQ:=Ti (k2 _ _ (Tj Fd ho));exact⟨p,o,n,kv,vv,e,Oq DK,by simp only[Ot,R8,or_false];exact Oq vQ,ho,hc,hd,rk,rv⟩
 ·obtain⟨o,es,ep,ho,r⟩:=fi;exact⟨o,es,ep,Tj _ (k2 _ _ ho),r⟩
 ·rw[jv.eq_with mv];refine⟨rfl,h s'.heap s'.toks S' λb o q=>mv.heap b o (λz=>?_) (Tj _ (k2 _ _ (Tj _ q)))⟩;have DL:=Ti q;rcases Ot.mp z with z | z
  ·exact absurd DL (by rw[z];exact Pt _)
  ·have:=Ti (k2 _ _ (Tj Fd q));exact absurd this (by rw[Oe.mp z];exact Pt _)
end
section
variable {X:Cx}
def Xff(aS:X.calm=true):B1 X (.type "dict") (λxs H Q=>∃(p:ae) (qs:List ae) (prs:List (Key×V)),xs=[.ref p]/\H p=some (.lst (qs.map V.ref))/\qs.length=prs.length/\prs.length<=1000 /\
  (∀i,i<qs.length->H (qs.getD i 0)=some (.tup [kV (prs.getD i dft0).1,(prs.getD i dft0).2]))/\∀d,H d=none->Q (.ref d) (upd H d (.dK (Bp prs)))):=by
 intro pins s Z H xs us Q I r h;obtain⟨p,qs,prs,rfl,hp,hz,hb,ht,q⟩:=h;obtain⟨u,rfl,rx⟩:=Co r;cases rx;obtain⟨_,ax,n,rv,hx⟩:(qs.map V.ref).length<=sizeLine/\∃(ax:List aa) (n:Nat),Vals (qs.map V.ref) ax/\s.heap.get? p=some {cls:=.type "list",data:=.seq ax.toArray n}:=I.hok p _ hp;have jA:ax.length=qs.length:=by rw[<-rv.length,Oc]
 have DM:(s.heap.objs.size==bg)=false:=by
  have:=I.big;exact beq_eq_false_iff_ne.mpr (Sz this)
 refine Xn2 (prs:=prs) (I.ok.hd aS) hx (by rw[Oh,jA,hz]) (by rw[Tb];lia) (λi v hi hv=>?_) λh' tk ⟨vs,cP,dd⟩ k=>?_
 ·have cb:i<qs.length:=by lia
  obtain⟨u,hu,ru⟩:=rv.get (i:=i) (x:=.ref (qs.getD i 0)) (by rw[Ou,Od cb];simp[List.getD,cb]);have:v=u:=by
   rw[Qk,hu] at hv;exact(Ov hv).symm
  subst this;obtain⟨fh,r2,pl,_⟩:=I.tuple (SqT.of (K:=X.K) (ht i cb));obtain⟨kv,vv,e2,rk,DN⟩:=r2.two;subst e2;obtain⟨o,ho,hc,n2,hd⟩:=pl;exact⟨_,o,n2,kv,vv,ru,ho,hc,hd,rk,DN⟩
 ·refine⟨.ref s.heap.objs.size,_,I.laidM (s':={s with heap:=h',toks:=tk}) k rfl rfl (Og _) ?_,rfl,q _ (I.hok.fresh (Og _))⟩;exact⟨by have:=Xfe prs;rw[Tb];lia,DM,vs,cP,dd⟩
end
end L2
namespace L2
section
variable {X:Cx}
end
end L2
namespace SH
open L2
def CrOk (Ts:List (Za)):Prop:=∀S∈Ts,(∀y∈S,okN y)/\S.length<=24
def Tups.at{H}  {i}(h:Tups H ps Ts)(hi:i<ps.length):Ts.getD i []∈Ts:=by
 have cb:i<Ts.length:=by rw[<-h.1];exact hi
 have:Ts.getD i []=Ts[i]:=by simp[List.getD,cb]
 rw[this];exact O5 cb
def Az.ne{T b}    (tb:Az T pos q H)(e:H b=some o)(n:∀z,o ≠ .tbl z):b≠T:=λz=>by
 rcases tb with q | ⟨_,q,_⟩<;>(rw[z,q] at e;cases e;exact n _ rfl)
def ne2 (a b:Za) (x:aj):Bool:=xor (decide (x∈a)) (decide (x∈b))
def btw (a b c:Za):Bool:=decide ((Ny a c).length+(Ny c b).length=(Ny a b).length)
def Jb   {I:List Nat} (h:Tups H ps Ts) (g:∀i∈I,i<ps.length):Tups H (I.map λi=>ps.getD i 0) (I.map λi=>Ts.getD i []):=by
 refine⟨by simp,λi hi=>?_⟩;rw[Oc] at hi;rw[K2 _ _ _ hi,K2 _ _ _ hi];exact h.2 _ (g _ (O5 hi))
def Xqs:Sp:=λvs H Q _=>∃(r p q u:ae) (row a b c:Za),vs=[.ref r,.ref p,.ref q,.ref u]/\H r=some (.lst (row.map V.str))/\Row2 row/\(dit row).length<=14/\H p=some (.tup (a.map V.str))/\H q=some (.tup (b.map V.str))/\H u=some (.tup (c.map V.str)) /\
 An row a=true/\An row b=true/\An row c=true/\∀H',Same H H'->Q (.bl (btw a b c)) H'
def Xqt (T:ae) (pos:ce):Sp:=λvs H Q _=>∃(r p q:ae) (row a b:Za),vs=[.ref r,.ref p,.ref q]/\H r=some (.lst (row.map V.str))/\Row2 row/\B6 row/\(dit row).length<=14/\H p=some (.tup (a.map V.str))/\H q=some (.tup (b.map V.str)) /\
 An row a=true/\An row b=true/\Az T pos qIn H /\
 ∀(D:ae) (ps:List ae) (Ts:List (Za)) (H':Hp),H D=none->H' D=some (.lst (ps.map V.ref))->Tups H' ps Ts->(∀S,S∈Ts↔An row S=true/\btw a b S=true)->(Ts.Pairwise λx y=>Fc x y=true)->ps.length<=64->Az T pos qIn H'->But T H H'->Q (.ref D) H'
structure KpOk (kept:List (aj×aj)):Prop where
 len:kept.length<=16
 ok:∀q∈kept,okR q.1/\okR q.2/\okN q.1/\okN q.2
def KpOk.okL(h:KpOk kept):∀S∈kept.map pr2,∀y∈S,okN y:=λS hS y hy=>by
 obtain⟨q,hq,rfl⟩:=O0.mp hS;obtain⟨_,_,h3,h4⟩:=h.ok q hq;rcases Ot.mp hy with e | e
 ·rw[e];exact h3
 ·rw[Oe.mp e];exact h4
structure HeldAt (H:Hp) (T:ae) (pos:ce) (r k:ae) (row:Za) (kept:List (aj×aj)):Prop where
 hr:H r=some (.lst (row.map V.str))
 r2:Row2 row
 n3:B6 row
 d:(dit row).length<=14
 tab:Az T pos qIn H
 kp:∃qs:List ae,H k=some (.lst (qs.map V.ref))/\Tups H qs (kept.map pr2)
 ok:KpOk kept
def Xfg (row:Za) (kept:List (aj×aj)) (Ts:List (Za)):Prop:=(∀S,S∈Ts↔An row S=true/\keeps kept S=true)/\Ts.Pairwise (λa b=>Fc a b=true)
def Xfh (B T:ae) (pos:ce):Sp:=λvs H Q E=>∃(r k:ae) (row:Za) (kept:List (aj×aj)),vs=[.ref r,.ref k]/\HeldAt H T pos r k row kept /\
 (Good row kept->∀(D:ae) (ps:List ae) (Ts:List (Za)) (H':Hp),H D=none->H' D=some (.lst (ps.map V.ref))->Tups H' ps Ts->Xfg row kept Ts->ps.length<=64->Az T pos qIn H'->But T H H'->Q (.ref D) H') /\
 (¬Good row kept->∀H',Az T pos qIn H'->But T H H'->E (.ref B) none H')
def Dl (row:Za) (kept:List (aj×aj)) (S:Za):Za:=(dit row).filter λx=>decide ((kept.lookup x).getD (bk S x) = "off")
def Good.row{row}(g:Good row kept):∀q∈kept,q.1∈row/\(q.2 = "off" \/ q.2 = "home"):=by
 obtain⟨Us,ne,_,rfl⟩:=g;intro q hq;obtain⟨h1,h2⟩:=(Ec ne (x:=q.1) (b:=q.2)).mp hq;obtain⟨U,hU⟩:=Qd _ ne;refine⟨h1,?_⟩;rw[<-h2 U hU];unfold bk;by_cases z:q.1∈U
 ·rw[Td z];exact .inl rfl
 ·rw[Tc z];exact .inr rfl
def kvK (kept:List (aj×aj)):List (Key×V):=kept.map λq=>((Sum.inr q.1:Key),V.str q.2)
def Xn3(kept)(nd:(kept.map (·.1)).Nodup)(x):Ay (Bp (kvK kept)) (Sum.inr x:Key)=(kept.lookup x).map V.str:=by
 have cM:∀(n:Nat) (kept:List (aj×aj)),kept.length=n->(kept.map (·.1)).Nodup->Ay (Bp (kvK kept)) (Sum.inr x:Key)=(kept.lookup x).map V.str:=by
  intro n
  induction n with
  | zero=>intro kept h _;rw[Pd.mp h];rfl
  | succ n ih=>
   intro kept h nd;obtain⟨l,q,rfl⟩:∃l q,kept=l++[q]:=⟨kept.dropLast,kept.getLast (λe=>by rw[e] at h;cases h),(Rg _).symm⟩;have e:kvK (l++[q])=kvK l++[((Sum.inr q.1:Key),V.str q.2)]:=by unfold kvK;rw[Oo];rfl
   rw[Oo,Qa] at nd;rw[e,N3,Ga,List.lookup_append];have DO:=ih l (by simpa using h) nd.1;by_cases z:x=q.1
   ·subst z;have hn:l.lookup q.1=none:=by
     cases e2:l.lookup q.1 with
     | none=>rfl
     | some b=>
      have hm:q.1∈l.map (·.1):=by
       have:=List.lookup_eq_some_iff.mp e2;obtain⟨l1,l2,e3,_⟩:=this;rw[e3];simp
      exact absurd rfl (nd.2.2 q.1 hm q.1 (by simp))
    rw[Td rfl,hn];simp[List.lookup]
   ·rw[Tc (λe=>z (Qo e)),DO];have:[q].lookup x=none:=by
     have:(x==q.1)=false:=beq_eq_false_iff_ne.mpr z;simp[List.lookup,this]
    rw[this];cases l.lookup x<;>rfl
 exact cM _ kept rfl nd
def Good.nd{row}(g:Good row kept):(kept.map (·.1)).Nodup:=by
 have:=g.pw;refine Ep (l:=kept.map (·.1)) ?_;rw[Ra];exact this
abbrev NHe:Za:=["row", "kept", "some"]
section
variable {row:Za}{kept:List (aj×aj)}{S:Za}
def Good.lk(g:Good row kept):kept.lookup x=some b↔(x,b)∈kept:=by
 have nd:=g.nd;clear g
 induction kept with
 | nil=>simp
 | cons q r ih=>
  rw[O8,P7] at nd;rw[Pr];by_cases e:x=q.1
  ·subst e;rw[beq_self_eq_true];simp only[Ot];refine⟨λh=>.inl (by rw[<-Ov h]),λh=>?_⟩;rcases h with h | h
   ·rw[<-h]
   ·exact absurd (O0.mpr ⟨_,h,rfl⟩) nd.1
  ·have:(x==q.1)=false:=beq_eq_false_iff_ne.mpr e;rw[this];show r.lookup x=some b↔_;rw[Ot];exact(ih nd.2).trans ⟨.inr,λh=>h.elim (λh=>absurd (congrArg Prod.fst h) e) id⟩
def F0:x∈Dl row kept S↔x∈row/\(kept.lookup x).getD (bk S x) = "off" := by
 unfold Dl;rw[Oi,Ar,decide_eq_true_eq]
def Xfi(g:Good row kept){q}(h:q∈kept):bk (Dl row kept S) q.1=q.2:=by
 have hl:=g.lk.mpr (show (q.1,q.2)∈kept from h);obtain⟨h1,h2⟩:=g.row q h;have hm:q.1∈Dl row kept S↔q.2 = "off" := by
  rw[F0,hl];exact⟨λz=>z.2,λz=>⟨h1,z⟩⟩
 unfold bk;rcases h2 with e | e
 ·rw[Td (hm.mpr e),e]
 ·rw[Tc (λz=>by have:=hm.mp z;rw[e] at this;exact absurd this (by decide)),e]
def Xn4(g:Good row kept):keeps kept (Dl row kept S)=true:=Fz.mpr λq hq=>Xfi g hq
def N4(hx:x∈row)(h:kept.lookup x=none):x∈Dl row kept S↔x∈S:=by
 rw[F0,h];exact⟨λz=>Ja.mp z.2,λz=>⟨hx,Ja.mpr z⟩⟩
def Xn5(g:Good row kept)(hS:An row S=true):An row (Dl row kept S)=true:=by
 obtain⟨Us,ne,hp,e⟩:=id g;obtain⟨T0,vR⟩:=Qd _ ne;obtain⟨_,s2,s3,s4⟩:=Dw.mp hS;have c1:∀x∈Dl row kept S,(∀T∈Us,x∈T)\/(x∈S/\∃T∈Us,x∈T):=λx hx=>by
  have hr:=(F0.mp hx).1;cases hl:kept.lookup x with
  | some b=>
   have hb:=(F0.mp hx).2;rw[hl] at hb;have hb:b = "off" := hb;have hk:=g.lk.mp hl;rw[e,hb] at hk;exact .inl λT hT=>Ja.mp (((Ec ne).mp hk).2 T hT)
  | none=>
   have DP:=(N4 hr hl).mp hx;refine .inr ⟨DP,Classical.byContradiction λn=>?_⟩;have:(x,("home" : aj))∈kept:=by
    rw[e];refine(Ec ne).mpr ⟨hr,λT hT=>?_⟩;unfold bk;rw[Tc λz=>n ⟨T,hT,z⟩]
   rw[g.lk.mpr this] at hl;cases hl
 have c2:∀x∈row,(∀T∈Us,x∈T)->x∈Dl row kept S:=λx hr h=>by
  have:(x,("off" : aj))∈kept:=by
   rw[e];exact(Ec ne).mpr ⟨hr,λT hT=>Ja.mpr (h T hT)⟩
  rw[F0,g.lk.mpr this];exact⟨hr,rfl⟩
 have c3:∀x∈row,∀T∈Us,x∈S->x∈T->x∈Dl row kept S:=λx hr T hT h1 h2=>by
  cases hl:kept.lookup x with
  | none=>exact(N4 hr hl).mpr h1
  | some b=>
   have hk:=g.lk.mp hl;rw[e] at hk;have:=((Ec ne).mp hk).2 T hT;rw[F0,hl];exact⟨hr,by rw[<-Ja.mpr h2,this];rfl⟩
 refine Dw.mpr ⟨(D4 row).filter _,λx hx=>(F0.mp hx).1,λx hx y hy w=>?_,λx hx y hy w=>?_⟩
 ·rcases c1 x hx with h | ⟨h1,T,hT,h2⟩
  ·exact c2 y hy λT hT=>(Dw.mp (hp T hT)).2.2.1 x (h T hT) y hy w
  ·exact c3 y hy T hT (s3 x h1 y hy w) ((Dw.mp (hp T hT)).2.2.1 x h2 y hy w)
 ·rcases c1 x hx with h | ⟨h1,T,hT,h2⟩
  ·rcases c1 y hy with h' | ⟨sZ,T',jf,fE⟩
   ·exact(Dw.mp (hp T0 vR)).2.2.2 x (h T0 vR) y (h' T0 vR) w
   ·exact(Dw.mp (hp T' jf)).2.2.2 x (h T' jf) y fE w
  ·rcases c1 y hy with h' | ⟨sZ,T',jf,fE⟩
   ·exact(Dw.mp (hp T hT)).2.2.2 x h2 y (h' T hT) w
   ·exact s4 x h1 y sZ w
end
def Xn6:∀st<26,∀aJ:Bool,∀x∈Bb st aJ 14,x.length<=9:=by decide +kernel
def Isl.r9(h:Isl row):∀y∈row,okR y:=λy hy=>by
 obtain⟨n,st,aJ,hn,hs,p⟩:=h.ex;refine⟨Xn6 st hs aJ y (Kd hn ?_),λc hc=>Qj ((h.ok y hy).2 c hc) (by decide)⟩;rcases Om.mp (p.mem_iff.mp hy) with z | z<;>exact z
def G2{b:aj}(h:b = "off" \/ b = "home"):okR b/\okN b:=by
 rcases h with rfl | rfl
 ·exact⟨⟨by decide +kernel,by decide +kernel⟩,by decide +kernel⟩
 ·exact⟨⟨by decide +kernel,by decide +kernel⟩,by decide +kernel⟩
def Good.kp{row}(g:Good row kept)(hI:Isl row):KpOk kept:=by
 refine⟨Pb g.len (Pb hI.dlen (by decide)),λq hq=>?_⟩;obtain⟨h1,h2⟩:=g.row q hq;exact⟨hI.r9 _ h1,(G2 h2).1,hI.ok _ h1,(G2 h2).2⟩
def spFew:Sp:=λvs H Q _=>∃(dr sc l:ae) (ps:List ae),vs=[.ref dr,.ref l]/\DrawOk H dr sc/\H l=some (.lst (ps.map V.ref))/\l≠dr/\0<ps.length/\ps.length<=1000 /\
 ∀(c:ae) (qs:List ae) (H':Hp),H c=none->H' c=some (.lst (qs.map V.ref))->(∀q∈qs,q∈ps)->0<qs.length->qs.length<=4->DrawOk H' dr sc->But dr H H'->Q (.ref c) H'
def spKeepsL:Sp:=λvs H Q _=>∃(p k:ae) (S:Za) (qs:List ae) (kept:List (aj×aj)),vs=[.ref k,.ref p]/\H p=some (.tup (S.map V.str))/\H k=some (.lst (qs.map V.ref))/\Tups H qs (kept.map pr2)/\qs.length<=1000/\∀H',Same H H'->Q (.bl (keeps kept S)) H'
abbrev NFw:Za:=["_law_k", "_law_draw", "_law_some"]
abbrev NIsF:Za:=["_law_draw", "_law_most", "_law_few_here", "_law_many"]
def F1 (ns:Za) (Ts:List (Za)):List (aj×aj):=(ns.filter λx=>decide ((A9 Ts x).length=1)).map λx=>(x,(A9 Ts x).headD aj.empty)
def Xn7(row)(Ts):F1 (dit row) Ts=Ce row Ts:=rfl
def Xfj(ns)(x)(Ts):F1 (ns++[x]) Ts=F1 ns Ts++if (A9 Ts x).length=1 then [(x,(A9 Ts x).headD aj.empty)] else []:=by
 unfold F1;rw[O2,Oo];by_cases h:(A9 Ts x).length=1
 ·rw[Td h,Rv (by simpa using h)];rfl
 ·rw[Tc h,Rw (by simpa using h)];rfl
def Xn8(a b):eqV (.str a) (.str b)=decide (a=b):=by
 have:=En (x:=a) (y:=b);unfold eqV
 first | rfl | (simp[eqV]) | exact jX a b
theorem Xfk(y):∀l:Za,(l.map V.str).countP (λz=>eqV z (.str y))=l.countP λz=>decide (z=y)
 | []=>rfl
 | z::l=>by
  rw[O8,P3,P3,Xfk y l,Xn8]
def Xn9(ne:Ts≠[])(x):(Ts.map λS=>bk S x).countP (λz=>decide (z=bk (Ts.headD []) x))=Ts.length↔(A9 Ts x).length=1:=by
 have h1:(Ts.map λS=>bk S x).countP (λz=>decide (z=bk (Ts.headD []) x))=Ts.length ↔ ∀S∈Ts,bk S x=bk (Ts.headD []) x:=by
  rw[show Ts.length=(Ts.map λS=>bk S x).length by rw[Oc],List.countP_eq_length];constructor
  ·exact λh S hS=>Tg (h _ (O0.mpr ⟨S,hS,rfl⟩))
  ·intro h z hz;obtain⟨S,hS,rfl⟩:=O0.mp hz;exact Te (h S hS)
 rw[h1,<-K3 ne];refine⟨λz=>z.1,λz=>⟨z,?_⟩⟩;have:=(K3 ne x ((A9 Ts x).headD aj.empty)).mp ⟨z,rfl⟩;cases Ts with
 | nil=>exact absurd rfl ne
 | cons S r=>exact(this S Oj).symm
def Xoa  (ne:Ts≠[]) (h:(A9 Ts x).length=1):(A9 Ts x).headD aj.empty=bk (Ts.headD []) x:=by
 have:=(K3 ne x ((A9 Ts x).headD aj.empty)).mp ⟨h,rfl⟩;cases Ts with
 | nil=>exact absurd rfl ne
 | cons S r=>exact(this S Oj).symm
def N5:Sp:=λvs H Q _=>∃(r c:ae) (row:Za) (ps:List ae) (Ts:List (Za)),vs=[.ref r,.ref c]/\H r=some (.lst (row.map V.str))/\Row2 row/\H c=some (.lst (ps.map V.ref))/\Tups H ps Ts/\ps.length<=200/\Ts≠[] /\
 ∀(D:ae) (qs:List ae) (H':Hp),H D=none->H' D=some (.lst (qs.map V.ref))->Tups H' qs ((Ce row Ts).map pr2)->Same H H'->Q (.ref D) H'
end SH
namespace SH
open PySem L2
def Xob{ns:Za}{i:Nat}(h:(ns.map V.str)[i]? = some v):∃x,v = .str x/\ns[i]? = some x:=by
 rw[Ou] at h;cases e:ns[i]? with
 | none=>rw[e] at h;cases h
 | some x=>
  rw[e] at h;exact⟨x,(Ov h).symm,rfl⟩
end SH
namespace SH
open L2
def ltP (a b:Za):Prop:=a.length<b.length\/(a.length=b.length/\ltL a b=true)
def Xfl(a):¬ltP a a:=λh=>by
 rcases h with h | ⟨_,h⟩
 ·lia
 ·rw[Io] at h;cases h
def Xoc(h:ltP a b)(g:ltP b c):ltP a c:=by
 rcases h with h | ⟨h1,h2⟩
 ·rcases g with g | ⟨g1,g2⟩
  ·exact .inl (by lia)
  ·exact .inl (by lia)
 ·rcases g with g | ⟨g1,g2⟩
  ·exact .inl (by lia)
  ·exact .inr ⟨by lia,Ko _ _ _ h2 g2⟩
structure IsPL (row:List aj) (Ts:List (List aj)):Prop where
 pw:Ts.Pairwise ltP
 mem:∀T,T∈Ts↔An row T=true
def IsPL.uniq  (h:IsPL row A) (g:IsPL row B):A=B:=K1 Xfl (λ_ _ _=>Xoc) h.pw g.pw λT=>(h.mem T).trans (g.mem T).symm
def IsPL.nd  (h:IsPL row A):A.Nodup:=h.pw.imp λ{a b} (q:ltP a b)=>λ(e:a=b)=>Xfl b (e ▸ q)
def IsPL.len  (h:IsPL row A) (h2:∀y∈row,row.count y=2) (h3:B6 row) (hl:(dit row).length<=14):A.length<=64:=by
 have nd:=h.nd;have q:(A.filter λS=>decide (S≠[])).length<64:=Ng (L:=A.filter λS=>decide (S≠[])) h2 h3 hl (nd.filter _) λS hS=>by
  obtain⟨s1,s2⟩:=Oi.mp hS;exact⟨Tg s2,(h.mem S).mp s1⟩
 have e:(A.filter λS=>decide (S≠[])).length+1 ≥ A.length:=by
  have:=List.length_eq_countP_add_countP (p:=λS:List aj=>decide (S≠[])) (l:=A);rw[Ri,Ri] at this;have c:(A.filter λS=>decide ¬decide (S≠[])=true).length<=1:=by
   have DQ:(A.filter λS=>decide ¬decide (S≠[])=true).Nodup:=nd.filter _;refine Pb (Il (b:=[[]]) DQ λx hx=>?_) (Og 1);have:=(Oi.mp hx).2;simp at this;simp[this]
  lia
 lia
def spPlotsO:Sp:=λvs H Q _=>∃(r:ae) (row:Za),vs=[.ref r]/\H r=some (.lst (row.map V.str))/\Row2 row/\B6 row/\(dit row).length<=14 /\
 ∀(l:ae) (ps:List ae) (Ts:List (Za)) (H':Hp),H l=none->H' l=some (.lst (ps.map V.ref))->Tups H' ps Ts->IsPL row Ts->Same H H'->Q (.ref l) H'
structure Lay (row:Za) (n:Nat) (Us:List (Za)):Prop where
 pw:Us.Pairwise λa b=>ltL a b=true
 mem:∀T,T∈Us↔An row T=true/\T.length=n
def Xod    (h2:∀y∈row,row.count y=2) (L:Lay row n Us) (c:Cov row Us Us.length Ts) (ok:∀T∈Ts,An row T=true/\T.length=n+1) (p:eu.Perm Ts) (pw:eu.Pairwise λa b=>ltL a b=true):Lay row (n+1) eu:=by
 refine⟨pw,λT=>⟨λh=>ok T (p.mem_iff.mp h),λ⟨h,hl⟩=>p.mem_iff.mpr ?_⟩⟩;have ne:T≠[]:=λe=>by rw[e] at hl;cases hl
 obtain⟨x,hx,hs⟩:=Xm4 h2 h ne;obtain⟨p1,p2,_⟩:=Dw.mp h;have aI:=Xm5 p1 hx;have hm:(T.filter λy=>decide (y≠x))∈Us:=(L.mem _).mpr ⟨hs,by lia⟩;obtain⟨i,hi,e⟩:=Pi.mp hm;have e':Us.getD i []=T.filter λy=>decide (y≠x):=by rw[<-e];simp[List.getD,hi]
 have:=c i hi x (p2 x hx);rw[e',Xez p1 hx] at this;exact this (λz=>by have:=(Oi.mp z).2;simp at this) h
structure Upto (row:Za) (n:Nat) (Ts:List (Za)):Prop where
 pw:Ts.Pairwise ltP
 mem:∀T,T∈Ts↔An row T=true/\T.length<=n
def Upto.next   (U:Upto row n Ts) (L:Lay row (n+1) Us):Upto row (n+1) (Ts++Us):=by
 refine⟨O7.mpr ⟨U.pw,?_,λa ha b hb=>?_⟩,λT=>?_⟩
 ·refine L.pw.imp_of_mem λ{a b} ha hb h=>.inr ⟨?_,h⟩;rw[((L.mem a).mp ha).2,((L.mem b).mp hb).2]
 ·have h1:=((U.mem a).mp ha).2;have h2:=((L.mem b).mp hb).2;exact .inl (by lia)
 ·rw[Om,U.mem,L.mem];constructor
  ·rintro (⟨h,l⟩ | ⟨h,l⟩)
   ·exact⟨h,by lia⟩
   ·exact⟨h,by lia⟩
  ·rintro ⟨h,l⟩;by_cases q:T.length<=n
   ·exact .inl ⟨h,q⟩
   ·exact .inr ⟨h,by lia⟩
def Upto.all  (U:Upto row (dit row).length Ts):IsPL row Ts:=⟨U.pw,λT=>(U.mem T).trans ⟨λh=>h.1,λh=>⟨h,Nj h⟩⟩⟩
def Xoe(row):Upto row 0 [[]]:=⟨by simp,λT=>by
 rw[Oe];exact⟨λe=>by rw[e];exact⟨Gq row,Og _⟩,λ⟨_,h⟩=>Pd.mp (by lia)⟩⟩
def Xof(row):Lay row 0 [[]]:=⟨by simp,λT=>by
 rw[Oe];exact⟨λe=>by rw[e];exact⟨Gq row,rfl⟩,λ⟨_,h⟩=>Pd.mp h⟩⟩
def spHeldL:Sp:=λvs H Q _=>∃(l kp:ae) (ps:List ae) (Ts:List (Za)) (qs:List ae) (kept:List (aj×aj)),vs=[.ref l,.ref kp]/\H l=some (.lst (ps.map V.ref))/\Tups H ps Ts/\ps.length<=1000/\H kp=some (.lst (qs.map V.ref))/\Tups H qs (kept.map pr2)/\qs.length<=1000 /\
 ∀(D:ae) (us:List ae) (H':Hp),H D=none->H' D=some (.lst (us.map V.ref))->Tups H' us (Ts.filter (keeps kept))->us.length<=ps.length->Same H H'->Q (.ref D) H'
def Xfm:Sp:=λvs H Q _=>∃(r l kp:ae) (row:Za) (ps:List ae) (Ts:List (Za)) (qs:List ae) (kept:List (aj×aj)),vs=[.ref r,.ref l,.ref kp]/\H r=some (.lst (row.map V.str))/\Row2 row/\H l=some (.lst (ps.map V.ref))/\Tups H ps Ts/\ps.length<=64/\(∀S,S∈Ts↔An row S=true) /\
 H kp=some (.lst (qs.map V.ref))/\Tups H qs (kept.map pr2)/\KpOk kept/\∀(b:Bool) (H':Hp),(b=true↔Good row kept)->Same H H'->Q (.bl b) H'
def spOddK:Sp:=λvs H Q _=>∃(dr sc r kp:ae) (row:Za) (qs:List ae) (kept:List (aj×aj)),vs=[.ref dr,.ref r,.ref kp]/\DrawOk H dr sc/\H r=some (.lst (row.map V.str))/\r≠dr/\Isl row/\H kp=some (.lst (qs.map V.ref))/\kp≠dr/\Tups H qs (kept.map pr2)/\Good row kept /\
 ∀(k':ae) (qs':List ae) (kept':List (aj×aj)) (H':Hp),k'≠dr->H' k'=some (.lst (qs'.map V.ref))->Tups H' qs' (kept'.map pr2)->KpOk kept'->DrawOk H' dr sc->But dr H H'->Q (.ref k') H'
end SH
namespace L2
open PySem
def Xog     (p1 p2) (h1:∀Q':Bool->Hp->Prop,(∀H',Same H H'->Q' p1 H')->t Z H Q') (h2:∀(H1:Hp) (Q':Bool->Hp->Prop),Same H H1->(∀H',Same H1 H'->Q' p2 H')->u Z H1 Q')
  (ha:(p1||p2)=true->∀H',Same H H'->a D Z H') (hb:(p1||p2)=false->∀H',Same H H'->b D Z H'):Jl (tOr t u) a b D Z H:=by
 refine h1 _ λH' s'=>?_;cases p1 with
 | true=>
  rw[Td rfl];show if true=true then _ else _
  rw[Td rfl];exact ha rfl H' s'
 | false=>
  rw[Tc (by decide)];refine h2 H' _ s' λH2 s2=>?_;show if p2=true then _ else _
  cases p2 with
  | true=>rw[Td rfl];exact ha rfl H2 (s'.trans s2)
  | false=>rw[Tc (by decide)];exact hb rfl H2 (s'.trans s2)
end L2
namespace SH
open L2
def stranger9:∀st<26,∀aJ:Bool,∀y∈Bb st aJ 14,(Txt.slice y none (some 7)++aj.ofString "q").length<=9:=by decide +kernel
def Isl.stranger9(h:Isl row):okR (Ih row):=by
 refine⟨?_,λc hc=>Qj (h.stranger.1.2 c hc) (by decide)⟩;cases row with
 | nil=>decide +kernel
 | cons y r=>
  obtain⟨n,st,aJ,hn,hs,p⟩:=h.ex;exact SH.stranger9 st hs aJ y (Kd hn (by rcases Om.mp (p.mem_iff.mp Oj) with q | q<;>exact q))
def Xfn:okR "bank" /\ okN "bank" := ⟨⟨by decide +kernel,by decide +kernel⟩,by decide +kernel⟩
def KpOk.mid  (h:KpOk kept) (hl:kept.length<=14) (i j) (ij:i<=j) (hq:okR q.1/\okR q.2/\okN q.1/\okN q.2):KpOk (kept.take i++q::kept.drop j):=by
 refine⟨?_,λz hz=>?_⟩
 ·rw[Op,Pe,Os,Pj]
  lia
 ·rcases Om.mp hz with e | e
  ·exact h.ok z (Pm e)
  ·rcases Ot.mp e with e | e
   ·rw[e];exact hq
   ·exact h.ok z (Pn e)
def KpOk.cut(h:KpOk kept)(hl:kept.length<=14)(i j)(ij:i<=j):KpOk (kept.take i++kept.drop j):=by
 refine⟨?_,λz hz=>?_⟩
 ·rw[Op,Os,Pj]
  lia
 ·rcases Om.mp hz with e | e
  ·exact h.ok z (Pm e)
  ·exact h.ok z (Pn e)
def KpOk.rev(h:KpOk kept):KpOk kept.reverse:=⟨by rw[Rb];exact h.len,λz hz=>h.ok z (List.mem_reverse.mp hz)⟩
def Xfo   (h:Tups H ps Ts) (n):Tups H (ps.take n) (Ts.take n):=by
 refine⟨by rw[Os,Os,h.1],λi hi=>?_⟩;rw[Os] at hi;have:=h.2 i (by lia);rw[List.getD,List.getD,Rt (by lia),Rt (by lia)];exact this
def Xfp   (h:Tups H ps Ts) (n):Tups H (ps.drop n) (Ts.drop n):=by
 refine⟨by rw[Pj,Pj,h.1],λi hi=>?_⟩;rw[Pj] at hi;have:=h.2 (n+i) (by lia);rw[List.getD,List.getD,Q3,Q3];exact this
def Xoh   (h:Tups H ps Ts):Tups H ps.reverse Ts.reverse:=by
 refine⟨by rw[Rb,Rb,h.1],λi hi=>?_⟩;rw[Rb] at hi;have hl:=h.1;have:=h.2 (ps.length - 1 - i) (by lia);rw[List.getD,List.getD,List.getElem?_reverse hi,List.getElem?_reverse (by lia),<-hl];exact this
def Tups.mid   {kept:List (aj×aj)}  (h:Tups H qs (kept.map pr2)) (hp:H p=some (.tup [.str q.1,.str q.2])) (i j):Tups H (qs.take i++p::qs.drop j) ((kept.take i++q::kept.drop j).map pr2):=by
 rw[Oo,O8,Sc,Sd];exact Tups.app (Xfo h i) (Tups.cons hp (Xfp h j))
abbrev NOk:Za:=["_law_draw", "_law_row_here", "_law_kept_here", "_law_way", "_law_at", "_law_name", "_law_side"]
def crsAt (row:Za) (x:aj) (ys:Za):List (aj×aj):=(ys.filter λy=>decide (lieR row x y = "cross")).map λy=>(x,y)
def Xqu:Sp:=λvs H Q _=>∃(l:ae) (ps:List ae) (Ts:List (Za)),vs=[.ref l]/\H l=some (.lst (ps.map V.ref))/\Tups H ps Ts/\(∀S∈Ts,S.length<=1000)/\ps.length<=1000/\∀H',Same H H'->Q (.bl true) H'
def Xoi(h:Fc a b=true):ltP a b:=by
 unfold Fc Cv at h;by_cases e:a.length=b.length
 ·rw[Td e] at h;exact .inr ⟨e,h⟩
 ·rw[Tc e] at h;exact .inl (Tg h)
def OkT (a:Za):Prop:=(∀y∈a,okN y)/\a.length<=24
def Xqv (C T:ae) (pos:ce):Sp:=λvs H Q E=>∃(r p q:ae) (row a b:Za),vs=[.ref r,.ref p,.ref q]/\H r=some (.lst (row.map V.str))/\Row2 row/\B6 row/\(dit row).length<=14/\H p=some (.tup (a.map V.str))/\H q=some (.tup (b.map V.str)) /\
 OkT a/\OkT b/\Az T pos qIn H /\
 (An row a=true->An row b=true->∀(D:ae) (ps:List ae) (Ts:List (Za)) (H':Hp),H D=none->H' D=some (.lst (ps.map V.ref))->Tups H' ps Ts->(∀S,S∈Ts↔An row S=true/\btw a b S=true)->(Ts.Pairwise λx y=>Fc x y=true)->ps.length<=64->Az T pos qIn H'->But T H H'->Q (.ref D) H') /\
 ((An row a=false\/An row b=false)->∀H',Same H H'->E (.ref C) none H')
def Xqw:Sp:=λvs H Q _=>∃(l p q:ae) (ps:List ae) (Ts:List (Za)) (a b:Za),vs=[.ref l,.ref p,.ref q]/\H l=some (.lst (ps.map V.ref))/\Tups H ps Ts/\ps.length<=1000/\(∀S∈Ts,S.length<=24)/\H p=some (.tup (a.map V.str))/\H q=some (.tup (b.map V.str))/\a.length<=24/\b.length<=24 /\
 ∀(D:ae) (qs:List ae) (H':Hp),H D=none->H' D=some (.lst (qs.map V.ref))->Tups H' qs (Ts.filter (btw a b))->Same H H'->Q (.ref D) H'
def Xqx (T:ae) (pos:ce):Sp:=λvs H Q _=>∃(r p q:ae) (row a b:Za) (v:V),vs=[.ref r,.ref p,.ref q,v]/\H r=some (.lst (row.map V.str))/\Row2 row/\B6 row/\(dit row).length<=14/\H p=some (.tup (a.map V.str))/\H q=some (.tup (b.map V.str)) /\
 OkT a/\OkT b/\Az T pos qIn H/\((v = .non/\(An row a=false\/An row b=false)) \/ ∃(u:ae) (c:Za),v = .ref u/\H u=some (.tup (c.map V.str))/\OkT c/\¬(An row a=true/\An row b=true/\An row c=true))/\∀H',Same H H'->Q (.bl true) H'
def spIslTo:Sp:=λvs H Q _=>∃(dr sc:ae) (m:Nat),vs=[.ref dr,.int m]/\m<=14/\DrawOk H dr sc /\
 ∀(l:ae) (row:Za) (n st:Nat) (aJ:Bool) (H':Hp),H l=none->n<=14->st<26->H' l=some (.lst (row.map V.str))->row.Perm (Bb st aJ n++Bb st aJ n)->B6 row->DrawOk H' dr sc->But dr H H'->Q (.ref l) H'
end SH
namespace L2
section
variable {X:Cx}
def Xoj(hu:X.A.units+4<bj):OpR X (aF .NotEq) (λx y H Q=>∃d d',DAt H d x/\DAt H d' y/\d.canLay0=true/\d'.canLay0=true/\min d.depth d'.depth<=4/\Q (.bl (!ah.eqv d d')) H):=by
 intro pins s Z H x y v u Q I rx ry h;obtain⟨d,d',h1,h2,c1,c2,hd,q⟩:=h;obtain⟨as,ra⟩:=C6 I d x v h1 rx;obtain⟨bs,rb⟩:=C6 I d' y u h2 ry;exact SeqAt.compareNe_reads ra rb c1 c2 (by lia) ⟨.bl _,H,I,rfl,q⟩
def Xok(hu:X.A.units+4<bj):OpR X (aF .Eq) (λx y H Q=>∃d d',DAt H d x/\DAt H d' y/\d.canLay0=true/\d'.canLay0=true/\min d.depth d'.depth<=4/\Q (.bl (ah.eqv d d')) H):=by
 intro pins s Z H x y v u Q I rx ry h;obtain⟨d,d',h1,h2,c1,c2,hd,q⟩:=h;obtain⟨as,ra⟩:=C6 I d x v h1 rx;obtain⟨bs,rb⟩:=C6 I d' y u h2 ry;exact SeqAt.compareEq_reads ra rb c1 c2 (by lia) ⟨.bl _,H,I,rfl,q⟩
end
def Xol{K}{a}{xs}{g:TG}{tb:TS}{D:Ends}  (Pv:Nat->St->Hp->Prop)(h0:Pv 0 Z H)(hl:∀i Z H,i<=xs.length->Pv i Z H->SqL K H a xs)
  (hs:∀i x tp Z H,xs[i]? = some x->Pv i Z H->H tp=none->g (.ref tp) Z (upd H tp (.tup [.int i,x])) fun Z2 H2=>tb {D with nx:=Pv (i+1),ct:=Pv (i+1),bk:=D.nx} Z2 H2) (hd:∀Z H,Pv xs.length Z H->D.nx Z H):
  ∃W:Nat->Nat->St->Hp->Prop,(∃m,W 0 m Z H)/\∀i m Z H,W i m Z H ->
   ((Ite K a).stop i H/\D.nx Z H)\/((Ite K a).go i H/\∃N:St->Hp->Prop,(∀Z' H',N Z' H'->∃m',m'<m/\W (i+1) m' Z' H')/\∀x H',(Ite K a).yld i H x H'->g x Z H' fun Z2 H2=>tb {D with nx:=N,ct:=N,bk:=D.nx} Z2 H2):=by
 refine⟨λi m Z H=>m=xs.length - i/\i<=xs.length/\Pv i Z H,⟨xs.length,by simp,Pg _,h0⟩,?_⟩;rintro i m Z H ⟨rfl,hi,p⟩;have q:=hl i Z H hi p;by_cases aZ:i<xs.length
 ·refine .inr ⟨⟨xs,xs[i],q,by simp[aZ]⟩,Pv (i+1),fun Z' H' p'=>⟨xs.length - (i+1),by lia,rfl,aZ,p'⟩,?_⟩;rintro x H' ⟨tp,rfl,ht,hy⟩;obtain⟨y,h8,rfl⟩:=hy xs q;exact hs i y tp Z _ h8 p ht
 ·have e:i=xs.length:=by lia
  subst e;exact .inl ⟨⟨xs,q,Og _⟩,hd Z H p⟩
def Xfq{gs:List ae}  (h:(gs.map V.ref)[i]? = some v):v = .ref (gs.getD i 0)/\i<gs.length:=by
 rw[Ou] at h;cases e:gs[i]? with
 | none=>rw[e] at h;cases h
 | some x=>
  rw[e] at h;exact⟨by rw[<-Ov h];simp[List.getD,e],(Ox.mp e).1⟩
def atR{gs:List ae}{i}(h:i<gs.length):(gs.map V.ref)[i]? = some (.ref (gs.getD i 0)):=by
 rw[Ou,Od h];simp[List.getD,h]
end L2
namespace SH
open L2
abbrev Kp:=List (aj×aj)
def Jc (b:Kp) (q:aj×aj):Bool := !decide ((b.lookup q.1).getD q.2=q.2)
def parts (a b:Kp):Za:=(a.filter (Jc b)).map (·.1)
def Xom  (h:parts a b=[]) (hq:q∈a):(b.lookup q.1).getD q.2=q.2:=by
 have:=P6.mp (List.map_eq_nil_iff.mp h) q hq;unfold Jc at this;simpa using this
def Xon   (g:Good row b) (h:parts a b≠[]) (ha:keeps a S=true) (hb:keeps b S=true):False:=by
 obtain⟨x,hx⟩:=Qd _ h;obtain⟨q,hq,rfl⟩:=O0.mp hx;obtain⟨h1,h2⟩:=Oi.mp hq;have k1:=Fz.mp ha q h1;unfold Jc at h2;cases hl:b.lookup q.1 with
 | none=>rw[hl] at h2;simp at h2
 | some c=>
  have k2:=Fz.mp hb _ (g.lk.mp hl);rw[hl] at h2;have e:c=q.2:=k2.symm.trans k1;simp[e] at h2
def Xoo   (ga:Good row a) (gb:Good row b) (h:parts a b=[]) (k:keeps a S=true):keeps a (Dl row b S)=true:=by
 refine Fz.mpr λq hq=>?_;have k1:=Fz.mp k q hq;have hp:=Xom h hq;cases hl:b.lookup q.1 with
 | none=>
  rw[<-k1];exact Xns.mpr (N4 (ga.row q hq).1 hl)
 | some c=>
  rw[hl] at hp;have:c=q.2:=hp;rw[<-this];exact Xfi (q:=(q.1,c)) gb (gb.lk.mp hl)
theorem N6:∀(ks dn:List Kp) (S:Za),An row S=true->(∀d∈dn,Good row d/\keeps d S=true/\∀k∈ks,parts d k=[])->(∀k∈ks,Good row k)->ks.Pairwise (λa b=>parts a b=[])->∃S',An row S'=true/\(∀d∈dn,keeps d S'=true)/\∀k∈ks,keeps k S'=true
 | [],dn,S,hS,hd,_,_=>⟨S,hS,λd h=>(hd d h).2.1,λk h=>by simp at h⟩
 | k::ks,dn,S,hS,hd,hg,pw=>by
  obtain⟨p1,p2⟩:=Qn.mp pw;have gk:=hg k Oj;obtain⟨S',h1,h2,h3⟩:=N6 ks (k::dn) (Dl row k S) (Xn5 gk hS) (λd h=>by
   rcases Ot.mp h with rfl | h
   ·exact⟨gk,Xn4 gk,p1⟩
   ·obtain⟨g,kd,pd⟩:=hd d h;exact⟨g,Xoo g gk (pd k Oj) kd,λk' eV=>pd k' (Ol _ eV)⟩) (λk' h=>hg k' (Ol _ h)) p2
  exact⟨S',h1,λd h=>h2 d (Ol _ h),λk' h=>(Ot.mp h).elim (λe=>e ▸ h2 k Oj) (h3 k')⟩
def Bn (ks:List Kp) (i j:Nat):Prop:=∀a b,a<b->b<ks.length->(a<i\/(a=i/\b<j))->parts (ks.getD a []) (ks.getD b [])=[]
structure Fnd (ks:List Kp) (i j:Nat) (x:aj):Prop where
 lt:i<j
 le:j<ks.length
 no:Bn ks i j
 at':∃r,parts (ks.getD i []) (ks.getD j [])=x::r
def Fnd.uniq   (h:Fnd ks i j x) (g:Fnd ks i' j' x'):i=i'/\j=j'/\x=x':=by
 have cM:∀{i j i' j':Nat} {x x':aj},Fnd ks i j x->Fnd ks i' j' x'->¬(i<i'\/(i=i'/\j<j')):=λh g z=>by
  obtain⟨r,e⟩:=h.at';rw[g.no _ _ h.lt h.le z] at e;cases e
 have k1:=cM h g;have k2:=cM g h;have e1:i=i':=by lia
 have e2:j=j':=by lia
 subst e1 e2;obtain⟨r,e⟩:=h.at';obtain⟨r',e'⟩:=g.at';exact⟨rfl,rfl,(Se (e.symm.trans e')).1⟩
def Fnd.some{i j}{x}(h:Fnd ks i j x):¬Bn ks ks.length 0:=λn=>by
 obtain⟨r,e⟩:=h.at';rw[n _ _ h.lt h.le (.inl (Qj h.lt h.le))] at e;cases e
def Bn.zero(ks):Bn ks 0 0:=λa b _ _ h=>by lia
def Bn.step  (h:Bn ks i j) (e:parts (ks.getD i []) (ks.getD j [])=[]):Bn ks i (j+1):=λa b h1 h2 h3=>by
 by_cases z:a=i/\b=j
 ·obtain⟨rfl,rfl⟩:=z;exact e
 ·exact h a b h1 h2 (by lia)
def Bn.first  (h:Bn ks i 0):Bn ks i (i+1):=λa b h1 h2 h3=>h a b h1 h2 (by lia)
def Bn.next  (h:Bn ks i ks.length):Bn ks (i+1) 0:=λa b h1 h2 h3=>h a b h1 h2 (by lia)
def Cw{ks:List Kp}{i}(h:i<ks.length):ks.getD i []∈ks:=by
 have:ks.getD i []=ks[i]:=by simp[List.getD,h]
 rw[this];exact O5 h
def Bn.all  (h:Bn ks ks.length 0) (hg:∀k∈ks,Good row k):∃S,An row S=true/\∀k∈ks,keeps k S=true:=by
 obtain⟨S,h1,_,h3⟩:=N6 ks [] [] (Gq row) (λd h=>by simp at h) hg (by
  rw[Qi];intro i j hi hj lt;have:=h i j lt hj (.inl hi);simpa [List.getD,hi,hj] using this)
 exact⟨S,h1,h3⟩
def Xfr  {Ts:List (Za)} (hP:∀S,S∈Ts↔An row S=true) (ga:Good row a) (gb:Good row b):(Ts.filter (keeps a)).filter (λS=>decide (S∈Ts.filter (keeps b)))=[]↔parts a b≠[]:=by
 constructor
 ·intro h e;obtain⟨S,h1,_,h3⟩:=N6 [a,b] [] [] (Gq row) (λd h=>by simp at h) (λk h=>by
   rcases Ot.mp h with rfl | h
   ·exact ga
   ·rw[Oe.mp h];exact gb) (by simpa using e)
  have:=P6.mp h S (Oi.mpr ⟨(hP S).mpr h1,h3 a (by simp)⟩);exact this (Te (Oi.mpr ⟨(hP S).mpr h1,h3 b (by simp)⟩))
 ·intro h;rw[P6];intro S hS hb;exact Xon gb h (Oi.mp hS).2 (Oi.mp (Tg hb)).2
structure Grds (H:Hp) (gs:List ae) (ks:List Kp):Prop where
 len:gs.length=ks.length
 at':∀i,i<gs.length->∃qs:List ae,H (gs.getD i 0)=some (.lst (qs.map V.ref))/\Tups H qs ((ks.getD i []).map pr2)
def Grds.keep   (h:Grds H gs ks) (k:∀{b:ae} {o:HO},H b=some o->(∀z,o ≠ .tbl z)->H' b=some o):Grds H' gs ks:=
 ⟨h.len,λi hi=>by
  obtain⟨qs,h1,h2⟩:=h.at' i hi;exact⟨qs,k h1 (λz=>by simp),h2.1,λj hj=>k (h2.2 j hj) λz=>by simp⟩⟩
def Grds.same   (h:Grds H gs ks) (s:Same H H'):Grds H' gs ks:=h.keep λe _=>s _ _ e
def Bs (ks:List Kp) (S:Za):Bool:=ks.all λk=>keeps k S
def spBtwn:Sp:=λvs H Q _=>∃(k o:ae) (qs us:List ae) (a b:Kp),vs=[.ref k,.ref o]/\H k=some (.lst (qs.map V.ref))/\Tups H qs (a.map pr2)/\H o=some (.lst (us.map V.ref))/\Tups H us (b.map pr2)/\KpOk a/\KpOk b/\(b.map (·.1)).Nodup /\
 ∀(D:ae) (H':Hp),H D=none->H' D=some (.lst ((parts a b).map V.str))->Same H H'->Q (.ref D) H'
structure GrdsAt (H:Hp) (T:ae) (pos:ce) (r g:ae) (row:Za) (gs:List ae) (ks:List Kp):Prop where
 hr:H r=some (.lst (row.map V.str))
 r2:Row2 row
 n3:B6 row
 d:(dit row).length<=14
 tab:Az T pos qIn H
 hg:H g=some (.lst (gs.map V.ref))
 gr:Grds H gs ks
 len:ks.length<=20
 ok:∀k∈ks,KpOk k
def GrdsAt.keep       (h:GrdsAt H T pos r g row gs ks) (t:Az T pos qIn H') (k:∀{b:ae} {o:HO},H b=some o->(∀z,o ≠ .tbl z)->H' b=some o):GrdsAt H' T pos r g row gs ks:=
 ⟨k h.hr (λz=>by simp),h.r2,h.n3,h.d,t,k h.hg (λz=>by simp),h.gr.keep k,h.len,h.ok⟩
def GrdsAt.but       (h:GrdsAt H T pos r g row gs ks) (t:Az T pos qIn H') (b:But T H H'):GrdsAt H' T pos r g row gs ks:=
 h.keep t λe n=>b _ _ e (Az.ne h.tab e n)
def GrdsAt.same       (h:GrdsAt H T pos r g row gs ks) (s:Same H H'):GrdsAt H' T pos r g row gs ks:=
 h.keep (SH.Az.same h.tab s) λe _=>s _ _ e
def GrdsAt.held        (h:GrdsAt H T pos r g row gs ks) (hi:i<gs.length):HeldAt H T pos r (gs.getD i 0) row (ks.getD i []):=
 ⟨h.hr,h.r2,h.n3,h.d,h.tab,h.gr.at' i hi,h.ok _ (Cw (by rw[<-h.gr.len];exact hi))⟩
def spMeet (B N T:ae) (pos:ce):Sp:=λvs H Q E=>∃(r g:ae) (row:Za) (gs:List ae) (ks:List Kp),vs=[.ref r,.ref g]/\GrdsAt H T pos r g row gs ks /\
 (ks=[]->∀H',Az T pos qIn H'->But T H H'->E (.ref N) none H') /\
 ((∃k∈ks,¬Good row k)->∀H',Az T pos qIn H'->But T H H'->E (.ref B) none H') /\
 (ks≠[]->(∀k∈ks,Good row k)->(∀(i j:Nat) (x:aj) (t:ae) (H':Hp),Fnd ks i j x->H' t=some (.tup [.str "parted",.int i,.int j,.str x])->Az T pos qIn H'->But T H H'->Q (.ref t) H') /\
  (Bn ks ks.length 0->∀(t p:ae) (S:Za) (Ts r0:List (Za)) (H':Hp),IsPL row Ts->Ts.filter (Bs ks)=S::r0->H' p=some (.tup (S.map V.str))->H' t=some (.tup [.str "plot",.ref p])->Az T pos qIn H'->But T H H'->Q (.ref t) H'))
def Xop  : Bs ks S=true ↔ ∀k∈ks,keeps k S=true:=O6
def Xfs  {Ts:List (Za)} (hP:∀S,S∈Ts↔An row S=true) (h:Bn ks ks.length 0) (hg:∀k∈ks,Good row k):∃S r,Ts.filter (Bs ks)=S::r:=by
 obtain⟨S,h1,h2⟩:=h.all hg;have hm:S∈Ts.filter (Bs ks):=Oi.mpr ⟨(hP S).mpr h1,Xop.mpr h2⟩;cases e:Ts.filter (Bs ks) with
 | nil=>rw[e] at hm;cases hm
 | cons a r=>exact⟨a,r,rfl⟩
def Xft:Sp:=λvs H Q _=>∃(l y:ae) (row:Za) (ps:List ae) (Ts:List (Za)) (gs:List ae) (ks:List Kp),vs=[.ref l,.ref y]/\H l=some (.lst (ps.map V.ref))/\Tups H ps Ts/\IsPL row Ts/\ps.length<=64/\Row2 row/\H y=some (.lst (gs.map V.ref))/\Grds H gs ks/\ks.length<=20/\(∀k∈ks,KpOk k)/\(∀k∈ks,Good row k) /\
 (∀(i j:Nat) (x:aj) (t:ae) (H':Hp),Fnd ks i j x->H' t=some (.tup [.str "parted",.int i,.int j,.str x])->Same H H'->Q (.ref t) H') /\
 (Bn ks ks.length 0->∀(t p:ae) (S:Za) (r0:List (Za)) (H':Hp),Ts.filter (Bs ks)=S::r0->H' p=some (.tup (S.map V.str))->H' t=some (.tup [.str "plot",.ref p])->Same H H'->Q (.ref t) H')
def spSaid36 (T:ae) (pos:ce):Sp:=λvs H Q _=>∃(r g:ae) (row:Za) (gs:List ae) (ks:List Kp) (b:Bool),vs=[.ref r,.ref g]/\GrdsAt H T pos r g row gs ks/\((b=true/\∃k∈ks,¬Good row k)\/(b=false/\ks=[])) /\
 ∀H',Q (.str (if b=true then "ground" else "nobody")) H'
def Xfu{K}        {kept:Kp}(z1)(jl:Bk cap Z=[none,none,z1])(hk:H1 kp=some (.lst (qs.map V.ref)))(hq:Tups H1 qs (kept.map pr2))(hl:qs.length<=1000)(f)
  (kO:∀(x b:aj) H2 Q,(x,b)∈kept->Same H1 H2->Q (f (x,b)) H2->tt [some (.str x),some (.str b),z1] H2 Q)
  (DR:∀(x:aj) (v2:Option V) H2 Q,Q (.str x) H2->te [some (.str x),v2,z1] H2 Q)
  (hd:∀D H2,H1 D=none->Same H1 H2->H2 D=some (.lst (((kept.filter f).map (·.1)).map V.str))->F D H2):D1 cap (Jm K 2 (G7 (Ax 0) (G7 (Ax 1) Ld))) tt te (Itl K kp) Z H1 F:=by
 have dI:kept.length=qs.length:=by
  have:=hq.1;rw[Oc] at this;exact this.symm
 refine D2 (n:=qs.length) (λj=>.ref (qs.getD j 0)) (λD i Z2 H2=>(∃u v, Z2=[u,v,z1])/\Same H1 H2/\H2 D=some (.lst ((((kept.take i).filter f).map (·.1)).map V.str))) ?_ ?_ ?_ ?_ ?_
 ·intro D hD;exact⟨⟨_,_,jl⟩,(Same.refl H1).step hD,Ab⟩
 ·rintro D i Z2 H2 hD hi ⟨_,s2,_⟩;have:=B4 (K:=K) (SqL.of (s2 _ _ hk)) (by rw[Oc];exact hi);rw[Bo V.ref 0 qs hi] at this;exact this
 ·rintro D Z2 H2 hD ⟨_,s2,_⟩;have:=B5 (K:=K) (SqL.of (s2 _ _ hk))
  rwa [Oc] at this
 ·rintro D i Z2 H2 hD hi ⟨⟨u,v,rfl⟩,s2,hb⟩;have cb:i<kept.length:=by rw[dI];exact hi
  have ht:=s2 _ _ (hq.2 i hi);have eq:(kept.map pr2).getD i []=pr2 kept[i]:=by simp[List.getD,cb]
  rw[eq] at ht;have df:kept.take (i+1)=kept.take i++[kept[i]]:=Ow cb;have hm:kept[i]∈kept:=O5 cb;generalize kept[i]=q at ht df hm;refine⟨_,_,rfl,SqT.of ht,rfl,_,_,rfl,_,_,rfl,rfl,?_⟩;refine kO q.1 q.2 H2 _ hm s2 ?_;refine A2 (λhf=>?_) (λhf=>?_)
  ·refine DR q.1 _ H2 _ ⟨_,hb,?_,wskip hi ⟨⟨_,_,rfl⟩,λb o e=>by rw[Ad (Am e hD)];exact s2 _ _ e,?_⟩⟩
   ·rw[Oc,Oc,Tb];exact Ru (Pk ..) (by rw[Os];lia)
   ·rw[Ab,df,O2,Oo,Oo,Rv (p:=f) (a:=q) hf];rfl
  ·refine wskip hi ⟨⟨_,_,rfl⟩,s2,?_⟩;rw[hb,df,O2,Rw (p:=f) (a:=q) (by rw[show f q=false from hf];decide)];simp
 ·rintro D Z2 H2 hD ⟨_,s2,h2⟩;rw[<-dI,Pl] at h2;exact hd D H2 hD s2 h2
def Xfv   (hq:Tups H qs (kept.map pr2)):qs.length=(kvK kept).length/\∀i,i<qs.length->H (qs.getD i 0)=some (.tup [kV ((kvK kept).getD i dft0).1,((kvK kept).getD i dft0).2]):=by
 have dI:qs.length=kept.length:=by
  have:=hq.1
  rwa [Oc] at this
 refine⟨by unfold kvK;rw[Oc];exact dI,λi hi=>?_⟩;have cb:i<kept.length:=by lia
 have e:=hq.2 i hi;have e1:(kept.map pr2).getD i []=pr2 kept[i]:=by simp[List.getD,cb]
 have e2:(kvK kept).getD i dft0=((Sum.inr kept[i].1:Key),V.str kept[i].2):=by unfold kvK;simp[List.getD,cb]
 rw[e1] at e;rw[e2];exact e
def Xfw(nd:(b.map (·.1)).Nodup)(x y):((Ay (Bp (kvK b)) (Sum.inr x:Key)).getD (.str y)) = .str ((b.lookup x).getD y):=by
 rw[Xn3 b nd x];cases b.lookup x<;>rfl
abbrev NDb:Za:=["kept", "other", "side"]
abbrev NDb1:Za:=["name", "here", "side"]
abbrev NMe:Za:=["row", "grounds", "kept", "at", "to", "names", "common"]
abbrev NMe1:Za:=["plot", "grounds"]
abbrev NMe2:Za:=["kept", "plot"]
end SH
namespace SH
open PySem L2
def Bods (H:Hp) (bs:List ae) (ks:List Kp) (Ts:List (Za)):Prop:=∀i,i<bs.length->∃us:List ae,H (bs.getD i 0)=some (.lst (us.map V.ref))/\Tups H us (Ts.filter (keeps (ks.getD i [])))/\us.length<=64
def Bods.same    (h:Bods H bs ks Ts) (s:Same H H'):Bods H' bs ks Ts:=λi hi=>by
 obtain⟨us,a,b,c⟩:=h i hi;exact⟨us,s _ _ a,b.same s,c⟩
end SH
namespace SH
open L2
abbrev Itm:=ae×List (Za)
def Els (H:Hp) (dr:ae) (it:List Itm):Prop:=∀p∈it,p.1≠dr/\∃qs:List ae,H p.1=some (.lst (qs.map V.ref))/\Tups H qs p.2
def Els.but   (h:Els H dr it) (nt:∀q ys,H q=some (.tup ys)->q≠dr) (b:But dr H H'):Els H' dr it:=λp hp=>by
 obtain⟨n,qs,h1,h2⟩:=h p hp;exact⟨n,qs,b _ _ h1 n,h2.1,λi hi=>b _ _ (h2.2 i hi) (nt _ _ (h2.2 i hi))⟩
def Els.keep   (h:Els H dr it) (k:∀{b:ae} {o:HO},H b=some o->(∀z,o ≠ .tbl z)->H' b=some o):Els H' dr it:=λp hp=>by
 obtain⟨n,qs,h1,h2⟩:=h p hp;exact⟨n,qs,k h1 (λz=>by simp),h2.1,λi hi=>k (h2.2 i hi) λz=>by simp⟩
def Els.same   (h:Els H dr it) (s:Same H H'):Els H' dr it:=h.keep λe _=>s _ _ e
def Els.put    (h:Els H dr it) (hD:H D=some (.lst xs)) (n:∀p∈it,p.1≠D):Els (upd H D (.lst ys)) dr it:=λp hp=>by
 obtain⟨n1,qs,h1,h2⟩:=h p hp;refine⟨n1,qs,by rw[Ad (n p hp)];exact h1,h2.1,λi hi=>?_⟩;rw[Ad λz=>by have:=h2.2 i hi;rw[z,hD] at this;cases this];exact h2.2 i hi
def Els.grds    (h:Els H dr it) (hl:it.length=ks.length) (e:∀i,i<it.length->(it.getD i (0,[])).2=(ks.getD i []).map pr2):Grds H (it.map (·.1)) ks:=
 ⟨by rw[Oc];exact hl,λi hi=>by
  rw[Oc] at hi;have e1:it.getD i (0,[])=it[i]:=by simp[List.getD,hi]
  have e2:(it.map (·.1)).getD i 0=it[i].1:=by simp[List.getD,hi]
  obtain⟨_,qs,h1,h2⟩:=h it[i] (O5 hi);rw[e2];refine⟨qs,h1,?_⟩;rw[<-e i hi,e1];exact h2⟩
def Els.at{H}{dr}(h:Els H dr it){i}(hi:i<it.length):(it.getD i (0,[])).1≠dr/\∃qs:List ae,H (it.getD i (0,[])).1=some (.lst (qs.map V.ref))/\Tups H qs (it.getD i (0,[])).2:=by
 have e1:it.getD i (0,[])=it[i]:=by simp[List.getD,hi]
 rw[e1];exact h _ (O5 hi)
def Jd{it:List Itm}(hi:i<it.length):(it.map (·.1)).getD i 0=(it.getD i (0,[])).1:=by simp[List.getD,hi]
def K5      {dr} {cs:L2.St} (n) (hn:n<=1000) (vs:Nat->V) (R:Hp->Prop) (ok:Nat->List (Za)->Prop)
  (jl:Bk cap Z=none::cs) (h0:∀D,H1 D=none->R (upd H1 D (.lst []))) (rp:∀D xs ys H,H1 D=none->H D=some (.lst xs)->R H->R (upd H D (.lst ys))) (rd:∀H,R H->(∃o,H dr=some o)/\∀q ys,H q=some (.tup ys)->q≠dr) (i5:∃o,H1 dr=some o)
  (fk:∀i H2,i<n->But dr H1 H2->J.go i H2/\∀x H3,J.yld i H2 x H3->H3=H2/\x=vs i) (bi:∀H2,But dr H1 H2->J.stop n H2)
  (step:∀i H2 Q,i<n->But dr H1 H2->R H2->(∀(a:ae) (qs:List ae) (U:List (Za)) (H3:Hp),H2 a=none->H3 a=some (.lst (qs.map V.ref))->Tups H3 qs U->ok i U->R H3->But dr H2 H3->Q (.ref a) H3)->te (some (vs i)::cs) H2 Q)
  (hd:∀D (it:List Itm) H2,H1 D=none->H2 D=some (.lst ((it.map (·.1)).map V.ref))->it.length=n->(∀i,i<n->ok i (it.getD i (0,[])).2)->Els H2 dr it->R H2->But dr H1 H2->F D H2):D1 cap (Ax 0) Dd te J Z H1 F:=by
 refine D2 (n:=n) vs (λD i Z2 H2=>(∃v, Z2=v::cs)/\R H2/\But dr H1 H2/\∃it:List Itm,H2 D=some (.lst ((it.map (·.1)).map V.ref))/\it.length=i/\(∀j,j<i->ok j (it.getD j (0,[])).2)/\Els H2 dr it/\∀p∈it,p.1≠D) ?_ ?_ ?_ ?_ ?_
 ·intro D hD;exact⟨⟨_,jl⟩,h0 D hD,λb o e _=>by rw[Ad (Am e hD)];exact e,[],Ab,rfl,λj hj=>absurd hj (P8 _),λp hp=>(by cases hp),λp hp=>(by cases hp)⟩
 ·rintro D i Z2 H2 hD hi ⟨_,_,b2,_⟩;exact fk i H2 hi b2
 ·rintro D Z2 H2 hD ⟨_,_,b2,_⟩;exact bi H2 b2
 ·rintro D i Z2 H2 hD hi ⟨⟨v,rfl⟩,r2,b2,it,h2,hl,ho,hE,hn⟩;dsimp only[Ax,Dd];rw[Td rfl];refine step i H2 _ hi b2 r2 λa qs U H3 na ha hU oU r3 b3=>?_;have b3:But dr H2 H3:=b3;obtain⟨⟨o1,e1⟩,DS⟩:=rd H2 r2;have DT:a≠dr:=λz=>by rw[z,e1] at na;cases na
  have y9:a≠D:=λz=>by rw[z,h2] at na;cases na
  have DU:D≠dr:=λz=>by obtain⟨o,e⟩:=i5;rw[<-z,hD] at e;cases e
  have h3:=b3 _ _ h2 DU;refine wput hi h3 (by rw[Oc,Oc,Tb];lia) ⟨⟨_,rfl⟩,rp D _ _ H3 hD h3 r3,λb o e n=>?_,it++[(a,U)],?_,by rw[Op,hl];rfl,λj hj=>?_,λp hp=>?_,λp hp=>?_⟩
  ·rw[Ad (Am e hD)];exact b3 _ _ (b2 _ _ e n) n
  ·rw[Ab,Oo,Oo];rfl
  ·by_cases z:j=i
   ·rw[show (it++[(a,U)]).getD j (0,[])=(a,U) by rw[z,<-hl];simp[List.getD]];rw[z];exact oU
   ·rw[show (it++[(a,U)]).getD j (0,[])=it.getD j (0,[]) by simp[List.getD,P4 (show j<it.length by lia)]];exact ho j (by lia)
  ·rcases Om.mp hp with z | z
   ·exact(Els.put (hE.but DS b3) h3 hn) p z
   ·rw[Oe.mp z];refine⟨DT,qs,by rw[Ad y9];exact ha,hU.1,λj hj=>?_⟩;rw[Ad λz=>by have:=hU.2 j hj;rw[z,h3] at this;cases this];exact hU.2 j hj
  ·rcases Om.mp hp with z | z
   ·exact hn p z
   ·rw[Oe.mp z];exact y9
 ·rintro D Z2 H2 hD ⟨_,r2,b2,it,h2,hl,ho,hE,_⟩;exact hd D it H2 hD h2 hl ho hE r2 b2
structure Ev (T:ae) (pos:ce) (dr sc r l:ae) (row:Za) (ps:List ae) (Ts:List (Za)) (H:Hp):Prop where
 hr:H r=some (.lst (row.map V.str))
 hl:H l=some (.lst (ps.map V.ref))
 ht:Tups H ps Ts
 tab:Az T pos qIn H
 d:DrawOk H dr sc
section
variable {T:ae}{pos:ce}{dr sc r l:ae}{row:Za}{ps:List ae}{Ts:List (Za)}{H H':Hp}
def Ev.same(e:Ev T pos dr sc r l row ps Ts H)(s:Same H H'):Ev T pos dr sc r l row ps Ts H':=⟨s _ _ e.hr,s _ _ e.hl,e.ht.same s,SH.Az.same e.tab s,e.d.same s⟩
def Ev.but(e:Ev T pos dr sc r l row ps Ts H)(n1:r≠dr)(n2:l≠dr)(d:DrawOk H' dr sc)(b:But dr H H'):Ev T pos dr sc r l row ps Ts H':=by
 obtain⟨xs,h⟩:=e.d.at;exact⟨b _ _ e.hr n1,b _ _ e.hl n2,⟨e.ht.1,λi hi=>b _ _ (e.ht.2 i hi) (e.d.ntup _ _ (e.ht.2 i hi))⟩,SH.Az.but e.tab h b,d⟩
def Ev.rd(e:Ev T pos dr sc r l row ps Ts H):(∃o,H dr=some o)/\∀q ys,H q=some (.tup ys)->q≠dr:=by
 obtain⟨xs,h⟩:=e.d.at;exact⟨⟨_,h⟩,e.d.ntup⟩
def Ev.put   (e:Ev T pos dr sc r l row ps Ts H) (e1:Ev T pos dr sc r l row ps Ts H1) (hD:H1 D=none) (h:H D=some (.lst xs)):Ev T pos dr sc r l row ps Ts (upd H D (.lst ys)):=by
 obtain⟨n1,n2⟩:=e1.d.ne hD;refine⟨by rw[Ad (Am e1.hr hD)];exact e.hr,by rw[Ad (Am e1.hl hD)];exact e.hl,⟨e.ht.1,λi hi=>?_⟩,?_,e.d.upd n1 n2⟩
 ·rw[Ad λz=>by have:=e.ht.2 i hi;rw[z,h] at this;cases this];exact e.ht.2 i hi
 ·rcases e.tab with q | ⟨c,q,w⟩
  ·exact .inl (by rw[Ad (λz=>by rw[z,h] at q;cases q)];exact q)
  ·exact .inr ⟨c,by rw[Ad (λz=>by rw[z,h] at q;cases q)];exact q,by rw[Ad (λz=>by rw[z,h] at w;cases w)];exact w⟩
end
end SH
namespace K36
open L2 SH
def top (i:Nat):aK:=PySem.Challenge.pw_shoretold_k36_whole_grounds_that_meet.main.body.getD i (.Pass ⟨0,0,0,0⟩)
abbrev sAsk:aK:=top 6
abbrev sDitches:aK:=top 7
abbrev sEnds:aK:=top 8
abbrev sSpans:aK:=top 9
abbrev sLieOf:aK:=top 10
abbrev sCross:aK:=top 11
abbrev sTold:aK:=top 13
abbrev s_in_order:aK:=top 14
abbrev s_plots:aK:=top 15
abbrev s_bank_of:aK:=top 16
abbrev s_lies_on:aK:=top 18
abbrev s_shared:aK:=top 19
abbrev s_held:aK:=top 20
abbrev s_ditches_between:aK:=top 21
abbrev s_meet:aK:=top 22
abbrev s__law_keeps:aK:=top 24
abbrev s__law_held:aK:=top 25
abbrev sBegin:aK:=top 26
abbrev sPick:aK:=top 27
abbrev sPut:aK:=top 28
abbrev sWhere:aK:=top 29
abbrev sWord:aK:=top 30
abbrev sBarred:aK:=top 31
abbrev sRow:aK:=top 32
abbrev sNames:aK:=top 33
abbrev sIsland:aK:=top 34
abbrev s__law_island_to:aK:=top 35
abbrev s__law_bars:aK:=top 36
abbrev s__law_fits:aK:=top 37
abbrev s__law_plots:aK:=top 38
abbrev s__law_one:aK:=top 39
abbrev s__law_few:aK:=top 40
abbrev s__law_kept:aK:=top 41
abbrev s__law_stranger:aK:=top 42
abbrev s__law_odd_kept:aK:=top 43
abbrev s__law_good_kept:aK:=top 44
abbrev s__law_int:aK:=top 45
abbrev s__law_tuple:aK:=top 46
abbrev s__law_said:aK:=top 47
abbrev s__law_due:aK:=top 48
abbrev s_law:aK:=top 49
abbrev NWo:Za:=["_law_where_here", "_law_one_here", "_law_other", "_law_low", "_law_high", "_law_inner"]
abbrev NBc:Za:=["_law_one_here", "_law_name", "_law_where_here"]
abbrev NFl1:Za:=["_law_one_here", "_law_name"]
abbrev NFi:Za:=["_law_bars_here", "_law_plot", "_law_one_here", "_law_other", "_law_word_here"]
abbrev NBr:Za:=["_law_row_here", "_law_where_here", "_law_told", "_law_one_here", "_law_other", "_law_word_here"]
section
variable {P:ao}{w:av}{K:KL}{mg:aj->Option aa}{base:am}
def Xoq:FnScope ["row", "name"] ["row", "name"] (defScope sAsk):=by walk_at "s"
def Xor  (F:Fun K "ask_ditch" "ask_ditch" sAsk f fd) (hC:mg "NoDitch" = some (.ref C)) (hc:LB K C bmV "ValueError.__new__" = true):
  FnOk P w K mg base (CX1 P w) 1 f fd ["row", "name"] (Xde C):=by
 refine F.ok1 Xoq (by walk_at "l") ?_
 ·walk_at "i"
  obtain⟨r,row,x,rfl,hR,⟨lJ,oM⟩,kq,ke⟩:=h;refine⟨_,Ag (Ba (Av Xa5 (pv 1) (pv 0) (by rfl))
   (Ag (Ma (C:=C) (E:=E) hc rfl leaves1 (by rfl) hC (Aa (Xbx (Me (by decide +kernel) (Xju (pv 1) (Me (by decide +kernel) Xbv)))) Ac))) Bc),?_⟩
  refine⟨_,rfl,_,rfl,r,_,rfl,.inl (SqL.of hR),rfl,El row,_,rfl,?_⟩;rw[E1];by_cases hx:x∈row
  ·refine Xh7 hx ?_;exact kq hx H (Same.refl H)
  ·rw[Tf hx];refine Br ?_;refine⟨_,rfl,x,rfl,by lia,(λc h=>Qj (oM c h) (by decide)),λz=>?_⟩;exact⟨by show 1<=sizeLine;decide,ke hx H (Same.refl H)⟩
def Xos:FnScope ["row"] ["row"] (defScope sDitches):=by walk_at "s"
def Xot  (F:Fun K "ditches" "ditches" sDitches f fd) (T:Bl mg):FnOk P w K mg base CX0 1 f fd ["row"] spDitches:=by
 refine F.ok Xos (by walk_at "l") ?_
 ·walk_at "i"
  obtain⟨r,row,rfl,hR,hl,k⟩:=h;refine⟨_,Ag (Ao (A0 (J3 rfl) (by rfl) T.sorted (by rfl) (Aa (Cq (Mj rfl) (by rfl) T.set (by rfl) (Aa (pv 0) Ac)) Ac))),?_⟩;refine⟨_,rfl,r,row,rfl,.inl (SqL.of hR),by unfold aT;lia,λa na=>?_⟩;have kQ:=Ge row;refine⟨a,ddup row,rfl,Ab,by lia,λl ls nl hp hs=>?_⟩;have s1:Same H (upd H a (Cj P w a (ddup row))):=(Same.refl H).step na;refine k l _ (s1.free nl) ?_ (s1.step nl);rw[Ab,Hw hp hs];rfl
def Xfx:FnScope NEn ["row", "name"] (defScope sEnds):=by walk_at "s"
def Xou  (F:Fun K "ends" "ends" sEnds f fd) (T:Bl mg) (FA:Fn P w K mg base (CX1 P w) 1 "ask_ditch" ["row", "name"] (Xde C)):
  FnOk P w K mg base (CX1 P w) 2 f fd ["row", "name"] (Xdf C):=by
 refine F.ok1 Xfx (by walk_at "l") ?_
 ·walk_at "i"
  obtain⟨r,row,x,rfl,hR,hx,hl,kq,ke⟩:=h;refine⟨_,Ae (F7 (Ai FA hr rfl pass1 (Aa (pv 0) (Aa (pv 1) Ac))))
   (Ae (Dg (i:=2) (N:=NEc) (cap:=[none,none,some 1]) (CompScope.of (defScope sEnds) NEn rfl rfl rfl (by decide +kernel)) rfl Xfx.nd rfl rfl
    (Xca (by rfl) T.enum (Aa (pv 0) Ac))
    (λ_ _ _=>Ft K 2 rfl rfl (Bz (pg_name (i:=0) (show NEc.Nodup by decide +kernel) rfl (.inl rfl) (.inr rfl)) (Bz (pg_name (i:=1) (show NEc.Nodup by decide +kernel) rfl (.inl rfl) (.inr rfl)) D0)))
    (λ_ _ _=>C4 (Av Bh (pv 1) (pv 2) (Au _))) (λ_ _ _=>pv 0))
   (Ag (Ao (Bi (Aa (Aq A5 (pv 2) Af (λ_ _=>rfl)) (Aa (Aq A5 (pv 2) Af (λ_ _=>rfl)) Ac)))))),?_⟩
  refine⟨_,rfl,_,rfl,r,row,x,rfl,hR,hx,λeE H1 s1=>?_,ke⟩;obtain⟨a,b,fb,kq⟩:=kq eE;refine⟨_,rfl,r,rfl,⟨_,SqL.of (s1 _ _ hR)⟩,?_⟩;refine Xj4 (K:=K) (p:=0) (q:=1) (by decide) (SqL.of (s1 _ _ hR)) (by rw[Oc,Tb];lia) (λi=>decide (row.getD i aj.empty=x)) (λi=>.int i) ?_ ?_ ?_
  ·intro i v H2 Q' hv s2 k;obtain⟨y,rfl,hy⟩:∃y,v=V.str y/\row.getD i aj.empty=y:=by
    rw[Ou] at hv;cases q:row[i]? with
    | none=>rw[q] at hv;cases hv
    | some y=>rw[q] at hv;exact⟨y,(Ov hv).symm,by simp[List.getD,q]⟩
   refine⟨_,rfl,_,rfl,rfl,_,rfl,?_⟩;have:=k H2 (Same.refl _);rw[hy] at this;have e:decide (V.str y=V.str x)=decide (y=x):=by
    by_cases z:y=x
    ·rw[z];simp
    ·rw[Tf z,Tf (λq=>z (by injection q))]
   rw[e];exact this
  ·intro i v H2 Q' hv hk s2 k;exact⟨_,rfl,k H2 (Same.refl _)⟩
  ·intro D H2 nD s2 hD;have er:H2 D=some (.lst [.int a,.int b]):=by
    rw[hD,Oc];have:=congrArg (List.map V.int) ((M7 row x).trans fb);rw[Ph] at this;rw[show ((List.range row.length).filter λi=>decide (row.getD i aj.empty=x)).map (λi:Nat=>V.int (i:Int))=_ from this];rfl
   refine⟨_,rfl,_,_,_,_,rfl,rfl,SqL.of er,rfl,_,rfl,_,_,_,_,rfl,rfl,SqL.of er,rfl,by show 2<=sizeLine;decide,λp np=>?_⟩;have s3:=s1.trans s2;exact kq p _ (s3.free np) Ab (s3.step np)
def Xov:FnScope ["row"] ["row"] (defScope sSpans):=by walk_at "s"
def Xow  (F:Fun K "spans" "spans" sSpans f fd) (FD:Fn P w K mg base CX0 1 "ditches" ["row"] spDitches) (FE:Fn P w K mg base (CX1 P w) 2 "ends" ["row", "name"] (Xdf C)):
  FnOk P w K mg base CX0 3 f fd ["row"] spSpans:=by
 refine F.ok Xov (by walk_at "l") ?_
 ·walk_at "i"
  obtain⟨r,row,rfl,hR,R2,k⟩:=h;have bR:Room 1 _:=hr.mono (by decide);refine⟨_,Ag (Ao (Mu (N:=NSp) (cap:=[none,some 0]) (CompScope.of (defScope sSpans) ["row"] rfl rfl rfl (by decide +kernel)) rfl
   (pi_list (Ai FD bR (by rfl) Aj (Aa (pv 0) Ac))) (λ_ _ _=>pg_name (i:=0) (show NSp.Nodup by decide +kernel) rfl (.inl rfl) (.inr rfl)) (λ_ _ _=>Ca)
   (λ_ _ _=>pv 0) (λ_ _ _=>Ai (by exact FE) (by exact hr) (by rfl) Xck (Aa (pv 1) (Aa (pv 0) Ac))))),?_⟩
  have hl:=R2.len;refine⟨_,rfl,r,row,rfl,hR,hl,λdi H1 JK vS s1=>?_⟩;refine⟨di,rfl,⟨_,SqL.of vS⟩,λD nD=>?_⟩;have hn:∀i,i<(dit row).length->((dit row).map V.str).getD i .non = .str ((dit row).getD i aj.empty):=λi hi=>Bo V.str aj.empty _ hi;have DV:=s1 _ _ hR;have kQ:=Fr row;refine⟨wN (dit row).length λi Z2 H2=>(∃v, Z2=[v,some (.ref r)])/\Same H1 H2/\∃kvs,H2 D=some (.dK kvs)/\Spn H2 kvs row ((dit row).take i),⟨(dit row).length,by simp,Pg _,⟨none,rfl⟩,(Same.refl H1).step nD,[],Ab,⟨rfl,λx hx=>by simp at hx⟩⟩,?_⟩;rintro i m Z1 H2 ⟨rfl,hi,⟨v,rfl⟩,s2,kvs,hD,sp⟩;by_cases aZ:i<(dit row).length
  ·have nJ:i<((dit row).map V.str).length:=by rw[Oc];exact aZ
   obtain⟨g1,g2⟩:=B4 (K:=K) (SqL.of (s2 _ _ vS)) nJ;refine .inr ⟨g1,λx H3 y=>?_⟩;obtain⟨e1,e2⟩:=g2 x H3 y;subst e1 e2;rw[hn i aZ];generalize hx:(dit row).getD i aj.empty=x;have tM:x∈dit row:=by rw[<-hx];exact Ds aZ
   have lg:=Ar.mp tM;have df:(dit row).take (i+1)=(dit row).take i++[x]:=by
    rw[Ow aZ,<-hx];simp[List.getD,aZ]
   have fF:x∉(dit row).take i:=by
    have nd:=Gf row;have h2:((dit row).take (i+1)).Nodup:=nd.sublist (Px ..);rw[df] at h2;exact λz=>(Qa.mp h2).2.2 x z x (by simp) rfl
   refine⟨_,rfl,_,rfl,_,rfl,r,row,x,rfl,s2 _ _ DV,R2.ok x lg,by lia,λ_=>⟨_,_,Fv (R2.two x lg),λl H4 nl vT s4=>?_⟩,λz=>absurd lg z⟩;have eP:=s4 _ _ hD;have kl:kvs.length<=60:=by
    have:=sp.len;rw[Os] at this
    lia
   refine⟨kvs,Sum.inr x,rfl,eP,by rw[Tb];lia,?_⟩;refine wskip aZ ⟨⟨_,rfl⟩,λb u e=>?_,_,Ab,?_⟩
   ·rw[Ad (Am e nD)];exact s4 _ _ (s2 b u e)
   ·rw[df];refine sp.snoc fF ?_ λb xs e=>?_
    ·rw[Ad (λz=>by rw[z,eP] at vT;cases vT)];exact vT
    ·have e4:=s4 _ _ e;rw[Ad (λz=>by rw[z,eP] at e4;cases e4)];exact e4
  ·have ei:i=(dit row).length:=by lia
   subst ei;refine .inl ⟨by have:=B5 (K:=K) (SqL.of (s2 _ _ vS));rwa [Oc] at this,?_⟩;rw[Pl] at sp;exact k D kvs H2 (s1.free nD) hD sp (s1.trans s2)
def N7:FnScope NLo ["here", "there"] (defScope sLieOf):=by walk_at "s"
def Xox  (F:Fun K "lie_of" "lie_of" sLieOf f fd):FnOk P w K mg base CX0 2 f fd ["here", "there"] spLieOf:=by
 refine F.ok N7 (by walk_at "l") ?_
 ·walk_at "i"
  obtain⟨p,q,a,b,c,e,rfl,hp,hq,l4,k⟩:=h;refine⟨_,Ae (Ba (Av (J9 (hu3 hr)) (pv 0) (pv 1) (Au _)) (Ag (Ao Aw)) Bc)
   (Ae (Ap (i:=2) N7.nd rfl (.inl rfl) (Xar Dc Dc (Aq (De K (by rfl)) (pv 1) Af (λ_ _=>rfl)) (Aq (De K (by rfl)) (pv 0) Af (λ_ _=>rfl)) (Aq (De K (by rfl)) (pv 1) Af (λ_ _=>rfl))))
   (Ae (Ap (i:=3) N7.nd rfl (.inl rfl) (Xar Dc Dc (Aq (De K (by rfl)) (pv 1) Af (λ_ _=>rfl)) (Aq (De K (by rfl)) (pv 0) Af (λ_ _=>rfl)) (Aq (De K (by rfl)) (pv 1) Af (λ_ _=>rfl))))
   (Ae (Ba (Av Jp (pv 2) (pv 3) (Au _)) (Ag (Ao Aw)) Bc)
   (Ae (Ba (Dz (pv 2)) (Ag (Ao Aw)) Bc)
   (Ag (Ao (Fh (Xgy Dc Dc (Aq (De K (by rfl)) (pv 0) Af (λ_ _=>rfl)) (Aq (De K (by rfl)) (pv 1) Af (λ_ _=>rfl)) (Aq (De K (by rfl)) (pv 0) Af (λ_ _=>rfl))) Aw Aw))))))),?_⟩
  have d2:∀{r:ae} {x y:Int},H r=some (.tup [.int x,.int y])->DAt H (.tuple [.int x,.int y]) (.ref r):=λ{r x y} h=>Ia h (Xkb [x,y]);refine⟨_,rfl,_,rfl,.tuple [.int a,.int b],.tuple [.int c,.int e],d2 hp,d2 hq,rfl,rfl,(by show min (max 0 (max 0 0)+1) (max 0 (max 0 0)+1)<=3;decide),_,rfl,?_⟩;have ee:ah.eqv (.tuple [.int a,.int b]) (.tuple [.int c,.int e])=decide (a=c/\b=e):=by
   rw[Qf,Kb _ _ rfl rfl];simp
  rw[ee];have kk:=k H (Same.refl H);refine A2 (λh1=>?_) (λh1=>?_)
  ·unfold lieT at kk;rw[Td (Tg h1)] at kk;exact kk
  ·have h1:=Th h1;dsimp only[Jj,Jk,Lg,Ax];refine M8 (x:=c) (y:=a) (z:=e) (λQ' h=>⟨_,rfl,q,_,_,_,rfl,rfl,SqT.of hq,rfl,h⟩) (λQ' h=>⟨_,rfl,p,_,_,_,rfl,rfl,SqT.of hp,rfl,h⟩) (λQ' h=>⟨_,rfl,q,_,_,_,rfl,rfl,SqT.of hq,rfl,h⟩) ?_;refine M8 (x:=c) (y:=b) (z:=e) (λQ' h=>⟨_,rfl,q,_,_,_,rfl,rfl,SqT.of hq,rfl,h⟩) (λQ' h=>⟨_,rfl,p,_,_,_,rfl,rfl,SqT.of hp,rfl,h⟩) (λQ' h=>⟨_,rfl,q,_,_,_,rfl,rfl,SqT.of hq,rfl,h⟩) ?_;refine⟨_,rfl,_,rfl,rfl,_,rfl,?_⟩;rw[Li];refine A2 (λh2=>?_) (λh2=>?_)
   ·rw[Xkz h1 (by simpa using h2)] at kk;exact kk
   ·refine⟨_,rfl,_,rfl,?_⟩;refine A2 (λh3=>?_) (λh3=>?_)
    ·rw[Xk0 h1 (by simpa using h2) h3] at kk;exact kk
    ·rw[Xk1 l4 h1 (by simpa using h2) h3] at kk;dsimp only[Jj,Xae,tIf,Lj];refine M8 (x:=a) (y:=c) (z:=b) (λQ' h=>⟨_,rfl,p,_,_,_,rfl,rfl,SqT.of hp,rfl,h⟩) (λQ' h=>⟨_,rfl,q,_,_,_,rfl,rfl,SqT.of hq,rfl,h⟩) (λQ' h=>⟨_,rfl,p,_,_,_,rfl,rfl,SqT.of hp,rfl,h⟩) ⟨_,rfl,?_⟩;refine A2 (λh4=>?_) (λh4=>?_)
     ·rw[Td h4] at kk;exact kk
     ·rw[Tc (by rw[h4];exact Oz)] at kk;exact kk
def Xfy:FnScope NCr ["row"] (defScope sCross):=by walk_at "s"
def Xoy  (F:Fun K "crossings" "crossings" sCross f fd) (FS:Fn P w K mg base CX0 3 "spans" ["row"] spSpans) (FO:Fn P w K mg base CX0 2 "lie_of" ["here", "there"] spLieOf):
  FnOk P w K mg base CX0 4 f fd ["row"] Xdj:=by
 refine F.ok Xfy (by walk_at "l") ?_
 ·walk_at "i"
  obtain⟨r,row,rfl,hR,R2,k⟩:=h;have hu:=Dp hr;have eX:Room 2 _:=hr.mono (by decide);refine⟨_,Ae (Ap (i:=1) Xfy.nd rfl (.inr rfl) (Ai FS hr (by rfl) Aj (Aa (pv 0) Ac)))
   (Ag (Ao (Xka (N:=NCc) (cap:=[none,none,some 1]) (CompScope.of (defScope sCross) NCr rfl rfl rfl (by decide +kernel)) rfl
    (Gj (pv 1)) (λ_ _ _=>pg_name (i:=0) (show NCc.Nodup by decide +kernel) rfl (.inl rfl) (.inr rfl)) (λ_ _ _=>Ca)
    (λ_ _ _=>Gj (pv 2)) (λ_ _ _=>pg_name (i:=1) (show NCc.Nodup by decide +kernel) rfl (.inl rfl) (.inr rfl))
    (λ_ _ _=>C4 (Ex (Av Xaq (pv 0) (pv 1) (Au _)) (Ew (Av Bh (Ai (by exact FO) (by exact eX) (by rfl) Aj (Aa (Cr hu (pv 2) (pv 0) (λ_ _=>rfl)) (Aa (Cr hu (pv 2) (pv 1) (λ_ _=>rfl)) Ac))) Aw (Au _)))).pt)
    (λ_ _ _=>Bi (Aa (pv 0) (Aa (pv 1) Ac)))))),?_⟩
  have hl:=R2.len;have kQ:=Fr row;refine⟨_,rfl,r,row,rfl,hR,R2,λd kvs H1 nd hd sp s1=>?_⟩;refine⟨_,rfl,d,kvs,rfl,.inl ⟨hd,λo D nD=>?_⟩⟩;generalize jB:upd H1 d (.frz o (.dK kvs))=H2 at nD;have s2:Same H H2:=λb u e=>by rw[<-jB,Ad (Am e nd)];exact s1 b u e
  have cU:H2 d=some (.frz o (.dK kvs)):=by rw[<-jB];exact Ab
  have lh:Spn H2 kvs row (dit row):=⟨sp.keys,λx hx=>let ⟨l,h1,h2⟩:=sp.val x hx; ⟨l,h1,by rw[<-jB,Ad (λz=>by rw[z,hd] at h2;cases h2)];exact h2⟩⟩;have kl:=lh.len;have go:∀i H3,i<(dit row).length->Same H2 H3->(Itd d o kvs).go i H3/\∀x H4,(Itd d o kvs).yld i H3 x H4->H4=H3/\x = .str ((dit row).getD i aj.empty):=λi H3 hi s3=>by
   have:=Hn (kvs:=kvs) (s3 _ _ cU) (by lia:i<kvs.length);rw[lh.at i hi] at this;exact this
  have lO:∀H3,Same H2 H3->(Itd d o kvs).stop (dit row).length H3:=λH3 s3=>by
   have:=Ho (kvs:=kvs) (s3 _ _ cU)
   rwa [kl] at this
  let ns:=dit row
  let ok:Nat->Nat->Bool:=λi j=>decide (ltS (ns.getD i aj.empty) (ns.getD j aj.empty))&&decide (lieR row (ns.getD i aj.empty) (ns.getD j aj.empty) = "cross")
  let part:Nat->List ah:=λi=>((List.range ns.length).filter (ok i)).map λj=>prD (ns.getD i aj.empty,ns.getD j aj.empty)
  have cz:∀i,(part i).length<=60:=λi=>by
   show (List.map _ _).length<=60;rw[Oc];refine Pb (Pk ..) ?_;rw[Py];show (dit row).length<=60
   lia
  have eh:∀i,((List.range i).flatMap part).length<=60 * i:=λi=>by
   induction i with
   | zero=>simp
   | succ i ih=>
    rw[P0,Si,Op];have:=cz i;simp only[Sv,List.flatMap_nil,Ps]
    lia
  refine Xkd (H0:=H2) (xs0:=[]) (n:=ns.length) (λi=>.str (ns.getD i aj.empty)) (λi=>(List.range i).flatMap part) nD ((Same.refl H2).step nD) Ab Dh (fun Z1=>∃v0 v1, Z1=[v0,v1,some (.ref d)]) ⟨none,none,rfl⟩ go lO ?_ ?_
  ·rintro i Z1 xs H3 Q' hi ⟨v0,v1,rfl⟩ s3 hD en kk;have y':=Ds hi;refine⟨_,rfl,d,kvs,rfl,.inr ⟨o,s3 _ _ cU,?_⟩⟩;refine Xc0 (H0:=H2) (n:=ns.length) (λj=>.str (ns.getD j aj.empty)) (ok i) (λj=>prD (ns.getD i aj.empty,ns.getD j aj.empty)) ((List.range i).flatMap part) nD s3 hD en ?_ go lO ?_ ?_ ?_
   ·have:=eh i;have h2:i<60:=by have:i<(dit row).length:=hi;lia
    have h3:ns.length<=60:=by show (dit row).length<=60;lia
    rw[Tb]
    lia
   ·intro j H4 Q2 hj s4 k2;have pb:=Ds hj;refine⟨_,rfl,_,rfl,_,_,rfl,rfl,_,rfl,?_⟩;refine A2 (λq1=>?_) (λq1=>?_)
    ·obtain⟨l1,g1,t1⟩:=(lh.mono s4).get (.inr ⟨o,s4 _ _ cU⟩) y';obtain⟨l2,g2,t2⟩:=(lh.mono s4).get (.inr ⟨o,s4 _ _ cU⟩) pb;refine⟨_,rfl,_,rfl,d,_,rfl,g1,_,rfl,_,rfl,d,_,rfl,g2,l1,l2,_,_,_,_,rfl,t1,t2,lie4 (R2.two _ (Ar.mp y')) (R2.two _ (Ar.mp pb)),λH5 s5=>?_⟩;refine⟨rfl,_,rfl,?_⟩;rw[En];have:=k2 H5 s5;have e1:ok i j=decide (lieR row (ns.getD i aj.empty) (ns.getD j aj.empty) = "cross"):=by
      show (decide _&&decide _)=_;have nK:decide (ltS (ns.getD i aj.empty) (ns.getD j aj.empty))=true:=q1;rw[nK,Qp]
     rw[e1] at this;exact this
    ·have:=k2 H4 (Same.refl _);have e1:ok i j=false:=by
      show (decide _&&decide _)=_;have nK:decide (ltS (ns.getD i aj.empty) (ns.getD j aj.empty))=false:=q1;rw[nK,Qe]
     rw[e1] at this;exact this
   ·intro j mV H4 Q2 hj hk s4 eP k2;refine⟨_,rfl,_,rfl,by show 2<=sizeLine;decide,λp np=>?_⟩;exact k2 _ _ ((Same.refl H4).step np) (Xcz eP np (Mw [ns.getD i aj.empty,ns.getD j aj.empty]))
   ·intro Z' H4 mV e s4 eP kP;refine kk Z' H4 mV ?_ s4 eP ?_
    ·have l1 : Z'.length=3:=by
      have:=congrArg List.length (e none);simpa using this
     match Z',l1,e with
     | [w0,w1,w2],_,e=>
      have:=e none;simp at this;exact⟨w0,w1,by rw[this.2]⟩
    ·rw[P0,Si,Sv,List.flatMap_nil,Ps];exact kP
  ·intro Z' H3 xs s3 hD en;refine k D xs H3 (s2.free nD) hD ?_ (s2.trans s3);have e:(List.range ns.length).flatMap part=(crs row).map prD:=by
    have e1:crs row=(List.range ns.length).flatMap λi=>((List.range ns.length).filter (ok i)).map λj=>(ns.getD i aj.empty,ns.getD j aj.empty):=by
     have em:dit row=(List.range ns.length).map λi=>ns.getD i aj.empty:=by
      have:=C5 aj.empty (λ_=>true) (dit row);rw[Po.mpr (λ_ _=>rfl),Po.mpr (λ_ _=>rfl)] at this;exact this.symm
     show (dit row).flatMap _=_
     conv=>lhs;rw[em]
     rw[List.flatMap_map];congr 1;funext i;have:=C5 aj.empty (λy=>decide (ltS (ns.getD i aj.empty) y)&&decide (lieR row (ns.getD i aj.empty) y = "cross")) (dit row);rw[<-em,<-this,Ph];rfl
    rw[e1,List.map_flatMap];congr 1;funext i;rw[Ph];rfl
   rw[<-e];exact en
def Xoz:FnScope ["names"] ["names"] (defScope sTold):=by walk_at "s"
def Xo0  (F:Fun K "told" "told" sTold f fd) (T:Bl mg):FnOk P w K mg base CX0 1 f fd ["names"] (spTold K):=by
 refine F.ok Xoz (by walk_at "l") ?_
 ·walk_at "i"
  obtain⟨p,ss,rfl,hR,hl,k⟩:=h;refine⟨_,Ag (Ao (Cq Xa6 (by rfl) T.tuple (by rfl) (Aa (A0 (J3 rfl) (by rfl) T.sorted (by rfl) (Aa (Cq (Mj rfl) (by rfl) T.set (by rfl) (Aa (pv 0) Ac)) Ac)) Ac))),?_⟩;refine⟨_,rfl,p,ss,rfl,hR,by unfold aT;lia,λa na=>?_⟩;have kQ:=Ge ss;refine⟨a,ddup ss,rfl,Ab,by lia,λl ls nl hp hs=>?_⟩;have s1:Same H (upd H a (Cj P w a (ddup ss))):=(Same.refl H).step na;refine⟨l,_,rfl,.inl ⟨SqL.of Ab,λt nt=>?_⟩⟩;have s2:=s1.step (o:=.lst (ls.map V.str)) nl;refine k t _ (s2.free nt) ?_ (s2.step nt);rw[Ab,Hw hp hs];rfl
def Xo1:FnScope ["some"] ["some"] (defScope s_in_order):=by walk_at "s"
def Xo2  (F:FunT K "in_order" s_in_order f fd T) (B:Bl mg) (mX:BmOk mg base):FnOk P w K mg base CX0 4 f fd ["some"] (spInOrder T (lamPos s_in_order)):=by
 refine F.ok Xo1 (λvs H Q E h=>?_) (λc0 hhd A outer s H vs Q E hr h=>?_)
 ·obtain⟨l,ps,Ts,rfl,_⟩:=h;rfl
 ·obtain⟨l,ps,Ts,rfl,hl,hT,nd,cN,tab,k⟩:=h;refine⟨_,Ag (Ao (Xm0 (show (A.deeper (aH "in_order" (defScope s_in_order) s.heap.objs.size f (.ref c0))).units+1+1<bj by have:=hr.un;lia) (by rfl) B.sorted (by rfl) (Aa (pv 0) Ac) (Xg8 (Xko (T:=T) (c0:=c0) (q:=qIn) mX rfl rfl rfl hhd rfl) Xg7))),?_⟩;refine⟨_,rfl,⟨tab,λf' c pm iL H' nf hf hc lm kp=>?_⟩⟩;have yB:∀b o,H b=some o->(∀z,o ≠ .tbl z)->b≠T:=λb o e n z=>by
   rcases tab with q | ⟨_,q,_⟩<;>(rw[z,q] at e;cases e;exact n _ rfl)
  have jf:Tups H' ps Ts:=⟨hT.1,λi hi=>kp _ _ (hT.2 i hi) (yB _ _ (hT.2 i hi) λz=>by simp)⟩;refine⟨l,f',ps,Ts,rfl,rfl,kp _ _ hl (yB _ _ hl λz=>by simp),jf,nd,cN,?_,λD p H2 nD g so sm hD=>?_⟩
  ·refine Xm1 (k:=0) (x := "plot") hf hc ⟨rfl,rfl,rfl,by decide +kernel,rfl,by decide +kernel,by decide +kernel⟩ hr (λu=>rfl) λA1 vU s1 H1 i hi sm bR=>?_;refine⟨_,Bi (Aa (A0 B9 (by rfl) B.len aR (Aa (pv 0) Ac)) (Aa (pv 0) Ac)),λQ1 kk=>?_⟩;have hp:=sm _ _ (jf.2 i hi);refine⟨_,rfl,ps.getD i 0,_,rfl,.inr (SqT.of hp),_,rfl,by show 2<=sizeLine;decide,λt nt=>?_⟩;refine kk t _ ?_ (Same.upd0 nt);rw[Ab,Oc]
  ·obtain⟨DW,gp⟩:=Xm8 (Ts:=Ts) (by rw[<-hT.1];exact g) (by rw[<-hT.1];exact so);refine k D _ _ H2 ?_ hD ((Xm9 jf g).same sm) DW gp (SH.Az.same lm sm) λb o e n=>sm _ _ (kp b o e n);cases e:H D with
   | none=>rfl
   | some o=>
    by_cases z:D=T
    ·rcases lm with q | ⟨_,q,_⟩<;>(rw[<-z,nD] at q;cases q)
    ·rw[kp D o e z] at nD;cases nD
def Je:FnScope NPp ["row"] (defScope s_plots):=by walk_at "s"
def Xo3  (F:Fun K "plots" "plots" s_plots f fd) (FS:Fn P w K mg base CX0 3 "spans" ["row"] spSpans) (FO:Fn P w K mg base CX0 2 "lie_of" ["here", "there"] spLieOf) (FT:Fn P w K mg base CX0 1 "told" ["names"] (spTold K)) (FC:Fn P w K mg base CX0 4 "crossings" ["row"] Xdj)
  (FI:Fn P w K mg base CX0 4 "in_order" ["some"] (spInOrder T (lamPos s_in_order))):FnOk P w K mg base CX0 5 f fd ["row"] (spPlotsA T (lamPos s_in_order)):=by
 refine F.ok Je (by walk_at "l") ?_
 ·walk_at "i"
  obtain⟨r,row,rfl,hR,R2,h3,tN,tab,k⟩:=h;have hu:=Dp hr;have bR:Room 1 _:=hr.mono (by decide);have eX:Room 2 _:=hr.mono (by decide);have nN:Room 3 _:=hr.mono (by decide);refine⟨_,Ae (Ap (i:=1) Je.nd rfl (.inr rfl) (Ai FS nN (by rfl) Aj (Aa (pv 0) Ac)))
   (Ae (Ap (i:=2) Je.nd rfl (.inr rfl) (Mu (N:=NPo) (cap:=[none,some 1]) (CompScope.of (defScope s_plots) NPp rfl rfl rfl (by decide +kernel)) rfl
    (Gj (pv 1)) (λ_ _ _=>pg_name (i:=0) (show NPo.Nodup by decide +kernel) rfl (.inr rfl) (.inl rfl)) (λ_ _ _=>Ca) (λ_ _ _=>pv 0)
    (λs0 H0 ex=>Df (N:=NPi) (cap:=[none,some 0,some 1]) (CompScope.of _ NPo rfl rfl rfl (by kernel_rfl)) rfl
     (Gj (pv 1)) (λ_ _ _=>pg_name (i:=0) (show NPi.Nodup by decide +kernel) rfl (.inl rfl) (.inr rfl))
     (λ_ _ _=>C4 (Av (Mo K (by rfl)) (Ai (by exact FO) (by exact eX) (by rfl) Aj (Aa (Cr hu (pv 2) (pv 1) (λ_ _=>rfl)) (Aa (Cr hu (pv 2) (pv 0) (λ_ _=>rfl)) Ac))) (Bi (Aa Aw (Aa Aw Ac))) (by rfl)))
     (λ_ _ _=>pv 0))))
   (Ae (Xe5 (i:=3) (N:=NPs) (cap:=[none,some 2]) (CompScope.of (defScope s_plots) NPp rfl rfl rfl (by decide +kernel)) rfl Je.nd rfl rfl
    (Gj (pv 2)) (λ_ _ _=>pg_name (i:=0) (show NPs.Nodup by decide +kernel) rfl (.inl rfl) (.inr rfl)) (λ_ _ _=>Ca)
    (λ_ _ _=>Ai (by exact FT) (by exact bR) (by rfl) Aj (Aa (Cr hu (pv 1) (pv 0) (λ_ _=>rfl)) Ac)))
   (Ae (Xe5 (i:=4) (N:=NPd) (cap:=[none,none,some 2]) (CompScope.of (defScope s_plots) NPp rfl rfl rfl (by decide +kernel)) rfl Je.nd rfl rfl
    (pi_list (Ai FC hr (by rfl) Aj (Aa (pv 0) Ac))) (λ_ _ _=>Ft K 2 rfl rfl (Bz (pg_name (i:=0) (show NPd.Nodup by decide +kernel) rfl (.inl rfl) (.inr rfl)) (Bz (pg_name (i:=1) (show NPd.Nodup by decide +kernel) rfl (.inl rfl) (.inr rfl)) D0))) (λ_ _ _=>Ca)
    (λ_ _ _=>Ai (by exact FT) (by exact bR) (by rfl) Aj (Aa (Ak Bj (Cr hu (pv 2) (pv 0) (λ_ _=>rfl)) (Cr hu (pv 2) (pv 1) (λ_ _=>rfl))) Ac)))
   (Ag (Ao (Ai FI hr (by rfl) Aj (Aa (Ak Bj (Ak Bj (Bg (Aa (Bi Ac) Ac)) (pv 3)) (pv 4)) Ac))))))),?_⟩
  have hl:=R2.len;have kQ:=Fr row;refine⟨_,rfl,r,row,rfl,hR,R2,λd kvs H1 nd hd sp s1=>?_⟩;refine⟨_,rfl,d,kvs,rfl,.inl ⟨hd,λo D nD=>?_⟩⟩;generalize jB:upd H1 d (.frz o (.dK kvs))=H2 at nD;have s2:Same H H2:=λb u e=>by rw[<-jB,Ad (Am e nd)];exact s1 b u e
  have cU:H2 d=some (.frz o (.dK kvs)):=by rw[<-jB];exact Ab
  have lh:Spn H2 kvs row (dit row):=⟨sp.keys,λx hx=>let ⟨l,h1,h2⟩:=sp.val x hx; ⟨l,h1,by rw[<-jB,Ad (λz=>by rw[z,hd] at h2;cases h2)];exact h2⟩⟩;have kl:=lh.len;have go:∀i H3,i<(dit row).length->Same H2 H3->(Itd d o kvs).go i H3/\∀x H4,(Itd d o kvs).yld i H3 x H4->H4=H3/\x = .str ((dit row).getD i aj.empty):=λi H3 hi s3=>by
   have:=Hn (kvs:=kvs) (s3 _ _ cU) (by lia:i<kvs.length);rw[lh.at i hi] at this;exact this
  have lO:∀H3,Same H2 H3->(Itd d o kvs).stop (dit row).length H3:=λH3 s3=>by
   have:=Ho (kvs:=kvs) (s3 _ _ cU)
   rwa [kl] at this
  refine⟨wN (dit row).length λi Z2 H3=>(∃v, Z2=[v,some (.ref d)])/\Same H2 H3/\∃dJ,H3 D=some (.dK dJ)/\Offs H3 dJ row ((dit row).take i),⟨(dit row).length,by simp,Pg _,⟨none,rfl⟩,(Same.refl H2).step nD,[],Ab,⟨rfl,λx hx=>by simp at hx⟩⟩,?_⟩;rintro i m Z1 H3 ⟨rfl,hi,⟨v,rfl⟩,s3,dJ,hD,jC⟩;by_cases aZ:i<(dit row).length
  ·obtain⟨g1,g2⟩:=go i H3 aZ s3;refine .inr ⟨g1,λx H4 y=>?_⟩;obtain⟨e1,e2⟩:=g2 x H4 y;subst e1 e2;generalize hx:(dit row).getD i aj.empty=x;have tM:x∈dit row:=by rw[<-hx];exact Ds aZ
   have lg:=Ar.mp tM;have df:(dit row).take (i+1)=(dit row).take i++[x]:=by
    rw[Ow aZ,<-hx];simp[List.getD,aZ]
   have fF:x∉(dit row).take i:=by
    have nd:=Gf row;have h2:((dit row).take (i+1)).Nodup:=nd.sublist (Px ..);rw[df] at h2;exact λz=>(Qa.mp h2).2.2 x z x (by simp) rfl
   refine⟨_,rfl,_,rfl,d,kvs,rfl,.inr ⟨o,s3 _ _ cU,?_⟩⟩;refine Fs (n:=(dit row).length) (by rw[Tb];lia) (λj=>.str ((dit row).getD j aj.empty)) (λj=>upB row x ((dit row).getD j aj.empty)) (λj=>.str ((dit row).getD j aj.empty)) ?_ ?_ ?_ ?_ ?_
   ·exact λj H5 hj s5=>go j H5 hj (s3.trans s5)
   ·exact λH5 s5=>lO H5 (s3.trans s5)
   ·intro j H5 Q' hj s5 kk;have tO:=s3.trans s5;have pb:=Ds hj;obtain⟨l1,vV,t1⟩:=(lh.mono tO).get (.inr ⟨o,tO _ _ cU⟩) tM;obtain⟨l2,vW,t2⟩:=(lh.mono tO).get (.inr ⟨o,tO _ _ cU⟩) pb;refine⟨_,rfl,_,rfl,d,_,rfl,vV,_,rfl,_,rfl,d,_,rfl,vW,l1,l2,_,_,_,_,rfl,t1,t2,lie4 (R2.two x lg) (R2.two _ (Ar.mp pb)),λH6 s6=>?_⟩;refine⟨by show 2<=sizeLine;decide,λt nt=>?_⟩;refine⟨t,[aj.ofString "same",aj.ofString "within"].map V.str,rfl,.inr (SqT.of Ab),rfl,El _,_,rfl,?_⟩;rw[Tc (by decide),E1];have e:=Xni (row:=row) (x:=x) (y:=(dit row).getD j aj.empty) (R2.two x lg) (R2.two _ (Ar.mp pb));unfold lieR at e;rw[e];exact kk _ (s6.step nt)
   ·intro j H5 Q' hj hk s5 kk;exact⟨_,rfl,kk H5 (Same.refl _)⟩
   ·intro l H5 nl s5 i6;have nP:H5 l=some (.lst (((dit row).filter (upB row x)).map V.str)):=by
     rw[i6,<-C5 aj.empty (upB row x) (dit row),Ph];rfl
    have tP:=s5 _ _ hD;have rC:dJ.length<=60:=by
     have:=jC.len;rw[Os] at this
     lia
    refine⟨dJ,Sum.inr x,rfl,tP,by rw[Tb];lia,?_⟩;refine wskip aZ ⟨⟨_,rfl⟩,λb u e=>?_,_,Ab,?_⟩
    ·rw[Ad (Am e nD)];exact s5 _ _ (s3 b u e)
    ·rw[df];refine jC.snoc fF ?_ λb xs e=>?_
     ·rw[Ad (λz=>by rw[z,tP] at nP;cases nP)];exact nP
     ·have e4:=s5 _ _ e;rw[Ad (λz=>by rw[z,tP] at e4;cases e4)];exact e4
  ·have ei:i=(dit row).length:=by lia
   subst ei;refine .inl ⟨lO H3 s3,?_⟩;rw[Pl] at jC;have nQ:=s2.trans s3;refine⟨_,rfl,D,dJ,rfl,.inl ⟨hD,λo2 L nL=>?_⟩⟩;generalize nR:upd H3 D (.frz o2 (.dK dJ))=H4 at nL;have rD:H D=none:=s2.free nD;have s4:Same H H4:=λb u e=>by rw[<-nR,Ad (Am e rD)];exact nQ b u e
   have eP:H4 D=some (.frz o2 (.dK dJ)):=by rw[<-nR];exact Ab
   have ln:Offs H4 dJ row (dit row):=⟨jC.keys,λx hx=>let ⟨l,h1,h2⟩:=jC.val x hx; ⟨l,h1,by rw[<-nR,Ad (λz=>by rw[z,hD] at h2;cases h2)];exact h2⟩⟩;have rC:=ln.len;have fl:∀x,((dit row).filter (upB row x)).length<=14:=λx=>Pb (Pk ..) (by lia);refine Xc0 (H0:=H4) (xs0:=[]) (n:=(dit row).length) (λj=>.str ((dit row).getD j aj.empty)) (λ_=>true) (λj=>tupD ((dit row).filter (upB row ((dit row).getD j aj.empty)))) [] nL ((Same.refl H4).step nL) Ab Dh (by rw[Tb,Qu];lia) ?_ ?_ ?_ ?_ ?_
   ·intro j H5 hj s5;have:=Hn (kvs:=dJ) (s5 _ _ eP) (by lia:j<dJ.length);rw[ln.at j hj] at this;exact this
   ·intro H5 s5;have:=Ho (kvs:=dJ) (s5 _ _ eP)
    rwa [rC] at this
   ·exact λj H5 Q' hj s5 kk=>kk H5 (Same.refl _)
   ·intro j xs H5 Q' hj _ s5 vX kk;obtain⟨l,gg,i6⟩:=(ln.mono s5).get (.inr ⟨o2,s5 _ _ eP⟩) (Ds hj);refine⟨_,rfl,_,rfl,D,_,rfl,gg,l,_,rfl,.inl (SqL.of i6),by have:=fl ((dit row).getD j aj.empty);lia,λt H6 nt ht s6=>?_⟩;rw[Kg ((D4 row).filter _)] at ht;refine kk _ H6 s6 (E7 ?_);have DX:=s6 _ _ vX;unfold hid;rw[Tc (λz=>by rw[z,DX] at ht;cases ht)];exact ht
   ·intro Z' H5 xs e s5 vX en;have e1:([]:List ah)++((List.range (dit row).length).filter λ_=>true).map (λj=>tupD ((dit row).filter (upB row ((dit row).getD j aj.empty))))=((dit row).map λa=>(dit row).filter (upB row a)).map tupD:=by
     have:=C5 aj.empty (λ_=>true) (dit row);rw[Po.mpr (λ_ _=>rfl),Po.mpr (λ_ _=>rfl)] at this;have q:=congrArg (List.map λa=>tupD ((dit row).filter (upB row a))) this;rw[Ph] at q;rw[Q7,Po.mpr (λ_ _=>rfl),Ph];exact q
    rw[e1] at en;obtain⟨lY,rfl,pc⟩:=Nw en;have pc:Tups H5 lY _:=pc.same (Gk L H5);have yC:=s4.trans s5;refine⟨_,rfl,r,row,rfl,yC _ _ hR,R2,λcl vY H6 JL iw rE s6=>?_⟩;refine⟨cl,rfl,⟨_,SqL.of iw⟩,λM nM=>?_⟩;have tQ:vY.length=(crs row).length:=by
     have:=Gg rE;simpa using this
    have yD:=(ln.mono s5).mono s6;have pe:=s6 _ _ (s5 _ _ eP);have JM:=Xd0 R2.two h3 (by lia);refine⟨wN (crs row).length λi Z2 H7=>(∃u v, Z2=[u,v,some (.ref D)])/\Same H6 H7/\∃qs:List ae,H7 M=some (.lst (qs.map V.ref))/\Tups H7 qs (((crs row).take i).map λq=>(dit row).filter λy=>upB row q.1 y||upB row q.2 y),⟨(crs row).length,by simp,Pg _,⟨none,none,rfl⟩,(Same.refl H6).step nM,[],Ab,Tups.nil _⟩,?_⟩;rintro i m Z1 H7 ⟨rfl,hi,⟨u,v,rfl⟩,s7,qs,hM,pf⟩;by_cases aZ:i<(crs row).length
    ·obtain⟨g1,g2⟩:=B4 (K:=K) (SqL.of (s7 _ _ iw)) (by lia:i<vY.length);refine .inr ⟨g1,λx H8 y=>?_⟩;obtain⟨e1,e2⟩:=g2 x H8 y;subst e1 e2;obtain⟨v1,hv,nU⟩:=Mv (i:=i) (d:=prD ((crs row)[i])) rE (by rw[Ou,Od aZ];rfl);have hq:=O5 aZ;generalize DY:(crs row)[i]=q at nU hq;obtain⟨rF,DZ,_,_⟩:=Iy hq;have ev:vY.getD i .non=v1:=by simp[List.getD,hv]
     rw[ev];unfold prD DAt at nU;obtain⟨pp,ys,rfl,EB,EC⟩:=nU;obtain rfl:=Ii (ss:=[q.1,q.2]) EC;have vZ:=Gk cl H6 _ _ EB;have df:(crs row).take (i+1)=(crs row).take i++[q]:=by
      rw[Ow aZ,DY]
     obtain⟨l1,vV,jb⟩:=(yD.mono s7).get (.inr ⟨o2,s7 _ _ pe⟩) (Ar.mpr rF);obtain⟨l2,vW,iZ⟩:=(yD.mono s7).get (.inr ⟨o2,s7 _ _ pe⟩) (Ar.mpr DZ);have f1:=fl q.1;have f2:=fl q.2;refine⟨pp,_,rfl,SqT.of (s7 _ _ vZ),rfl,_,_,rfl,_,_,rfl,rfl,?_⟩;refine⟨_,rfl,_,rfl,D,_,rfl,vV,_,rfl,_,rfl,D,_,rfl,vW,l1,l2,_,_,rfl,rfl,jb,iZ,by rw[Oc,Oc,Tb];lia,λc nc=>?_⟩;refine⟨c,(dit row).filter (upB row q.1)++(dit row).filter (upB row q.2),rfl,.inl (by rw[Oo];exact SqL.of Ab),by rw[Op];lia,λt H9 nt ht s9=>?_⟩;have wa:Same H8 H9:=((Same.refl H8).step nc).trans s9;have yE:=wa _ _ hM;have et:told ((dit row).filter (upB row q.1)++(dit row).filter (upB row q.2))=(dit row).filter λy=>upB row q.1 y||upB row q.2 y:=by
      refine Xm7 (M9 _) ((D4 row).filter _) λz=>?_;rw[Xk4,Om,Oi,Oi,Oi,Rm,<-and_or_left]
     rw[et] at ht;have nV:qs.length<=49:=by
      have:=pf.1;rw[Oc,Os] at this
      lia
     refine⟨_,yE,by rw[Oc,Tb];lia,?_⟩;have lZ:∀b w,H9 b=some (.tup w)->upd H9 M (.lst (qs.map V.ref++[.ref t])) b=some (.tup w):=λb w e=>by
      rw[Ad (λz=>by rw[z,yE] at e;cases e)];exact e
     refine wskip aZ ⟨⟨_,_,rfl⟩,λb w e=>?_,qs++[t],by rw[Ab,Oo];rfl,?_⟩
     ·rw[Ad (Am e nM)];exact wa _ _ (s7 b w e)
     ·rw[df,Oo];refine Tups.app ⟨pf.1,λj hj=>lZ _ _ (wa _ _ (pf.2 j hj))⟩ (Tups.cons (lZ _ _ ht) (Tups.nil _))
    ·have ei:i=(crs row).length:=by lia
     subst ei;refine .inl ⟨by have:=B5 (K:=K) (SqL.of (s7 _ _ iw));rwa [tQ] at this,?_⟩;rw[Pl] at pf;have wb:=s6.trans s7;have ED:=wb _ _ vX;have EE:=pc.same wb;have tR:=yC.trans wb;refine⟨Pg _,λe0 EF=>⟨by show 1<=sizeLine;decide,λz nz=>?_⟩⟩;generalize yF:upd H7 e0 (.tup [])=Ha at nz;have sa:Same H7 Ha:=by rw[<-yF];exact(Same.refl H7).step EF
     have EG:Ha e0=some (.tup (([]:Za).map V.str)):=by rw[<-yF];exact Ab
     generalize yG:upd Ha z (.lst [.ref e0])=Hb;have sb:Same Ha Hb:=by rw[<-yG];exact(Same.refl Ha).step nz
     have hz:Hb z=some (.lst [.ref e0]):=by rw[<-yG];exact Ab
     have l1:lY.length=(dit row).length:=by have:=pc.1;simpa using this
     have l2:qs.length=(crs row).length:=by have:=pf.1;simpa using this
     have yH:=sa.trans sb;refine⟨_,rfl,z,L,_,_,rfl,rfl,hz,yH _ _ ED,by rw[Oc,Pq,Tb];lia,λc1 n1=>?_⟩;generalize yI:upd Hb c1 (.lst ([.ref e0]++lY.map V.ref))=Hc;have sc:Same Hb Hc:=by rw[<-yI];exact(Same.refl Hb).step n1
     have nW:Hc c1=some (.lst ([.ref e0]++lY.map V.ref)):=by rw[<-yI];exact Ab
     have yJ:=yH.trans sc;refine⟨_,rfl,c1,M,_,_,rfl,rfl,nW,yJ _ _ hM,by rw[Op,Oc,Oc,Pq,Tb];lia,λc2 n2=>?_⟩;generalize yK:upd Hc c2 (.lst (([.ref e0]++lY.map V.ref)++qs.map V.ref))=Hd;have sd:Same Hc Hd:=by rw[<-yK];exact(Same.refl Hc).step n2
     have eK:Hd c2=some (.lst ((e0::(lY++qs)).map V.ref)):=by
      rw[<-yK,Ab,O8,Oo];rfl
     have wc:=yJ.trans sd;have we:=tR.trans wc;have tK:Tups Hd (e0::(lY++qs)) ([]::cands row):=Tups.cons ((sb.trans (sc.trans sd)) _ _ EG) (Tups.app (EE.same wc) (pf.same wc));refine⟨c2,e0::(lY++qs),[]::cands row,rfl,eK,tK,Xnh R2.two,by rw[Pe,Op];lia,SH.Az.same tab we,λD' ni eu H' EH er jf pm so lm bt=>?_⟩;refine k D' ni eu H' (we.free EH) er jf (λS=>(pm.mem_iff).trans (Xnf R2.two h3 S)) so ?_ lm λb w e n=>bt _ _ (we _ _ e) n;rw[jf.1,pm.length_eq,<-tK.1,Pe,Op]
     lia
def Xo4:FnScope ["plot", "name"] ["plot", "name"] (defScope s_bank_of):=by walk_at "s"
def Xo5  (F:Fun K "bank_of" "bank_of" s_bank_of f fd):FnOk P w K mg base CX0 1 f fd ["plot", "name"] spBankOf:=by
 refine F.ok Xo4 (by walk_at "l") ?_
 ·walk_at "i"
  obtain⟨p,ss,x,rfl,hP,k⟩:=h;refine⟨_,Ag (Ao (Fh (Av Ju (pv 1) (pv 0) (by rfl)) Aw Aw)),?_⟩;refine⟨_,rfl,_,rfl,p,_,rfl,.inr (SqT.of hP),rfl,El ss,_,rfl,?_⟩;rw[Tc (by decide),E1];have:=k H (Same.refl H);by_cases z:x∈ss
  ·rw[Td z] at this;rw[Te z];exact Br this
  ·rw[Tc z] at this;rw[Tf z];exact Bq this
def Xo6:FnScope ["plot", "kept"] ["plot", "kept"] (defScope s_lies_on):=by walk_at "s"
def Xo7  (F:Fun K "lies_on" "lies_on" s_lies_on f fd) (B:Bl mg) (FB:Fn P w K mg base CX0 1 "bank_of" ["plot", "name"] spBankOf):FnOk P w K mg base CX0 2 f fd ["plot", "kept"] spLiesOn:=by
 refine F.ok Xo6 (by walk_at "l") ?_
 ·walk_at "i"
  obtain⟨p,kp,S,qs,kept,rfl,hp,hk,hT,hl,k⟩:=h;have bR:Room 1 _:=hr.mono (by decide);refine⟨_,Ag (Ao (A0 (Hj rfl) (by rfl) B.all (by rfl) (Aa (Df (N:=NLo1) (cap:=[none,none,some 0]) (CompScope.of (defScope s_lies_on) ["plot", "kept"] rfl rfl rfl (by decide +kernel)) rfl
   (pi_list (pv 1)) (λ_ _ _=>Ft K 2 rfl rfl (Bz (pg_name (i:=0) (show NLo1.Nodup by decide +kernel) rfl (.inl rfl) (.inr rfl)) (Bz (pg_name (i:=1) (show NLo1.Nodup by decide +kernel) rfl (.inl rfl) (.inr rfl)) D0))) (λ_ _ _=>Ca)
   (λ_ _ _=>Cz Bh (Ai (by exact FB) (by exact bR) (by rfl) Aj (Aa (pv 2) (Aa (pv 0) Ac))) (pv 1) (Au _))) Ac))),?_⟩
  refine⟨_,rfl,kp,rfl,⟨_,SqL.of hk⟩,?_⟩;have dI:kept.length=qs.length:=by
   have:=hT.1;rw[Oc] at this;exact this.symm
  refine D2 (n:=qs.length) (λj=>.ref (qs.getD j 0)) (λD i Z2 H2=>(∃u v, Z2=[u,v,some (.ref p)])/\Same H H2/\H2 D=some (.lst (((kept.take i).map λq=>decide (bk S q.1=q.2)).map V.bl))) ?_ ?_ ?_ ?_ ?_
  ·intro D hD;exact⟨⟨_,_,rfl⟩,(Same.refl H).step hD,Ab⟩
  ·rintro D i Z2 H2 hD hi ⟨_,s2,_⟩;have:=B4 (K:=K) (SqL.of (s2 _ _ hk)) (by rw[Oc];exact hi);rw[Bo V.ref 0 qs hi] at this;exact this
  ·rintro D Z2 H2 hD ⟨_,s2,_⟩;have:=B5 (K:=K) (SqL.of (s2 _ _ hk))
   rwa [Oc] at this
  ·rintro D i Z2 H2 hD hi ⟨⟨u,v,rfl⟩,s2,hb⟩;have cb:i<kept.length:=by rw[dI];exact hi
   have ht:=s2 _ _ (hT.2 i hi);have eq:(kept.map pr2).getD i []=pr2 kept[i]:=by simp[List.getD,cb]
   rw[eq] at ht;have df:kept.take (i+1)=kept.take i++[kept[i]]:=Ow cb;generalize kept[i]=q at ht df;refine⟨_,_,rfl,SqT.of ht,rfl,_,_,rfl,_,_,rfl,rfl,?_⟩;dsimp only[Dd];rw[Td rfl];refine⟨_,rfl,_,rfl,p,S,q.1,rfl,s2 _ _ hp,λH3 s3=>⟨_,rfl,rfl,?_⟩⟩;rw[En];refine⟨_,s3 _ _ hb,by rw[Oc,Oc,Os,Tb];lia,wskip hi ⟨⟨_,_,rfl⟩,λb o e=>?_,?_⟩⟩
   ·rw[Ad (Am e hD)];exact s3 _ _ (s2 _ _ e)
   ·rw[Ab,df,Oo,Oo];rfl
  ·rintro D Z2 H2 hD ⟨_,s2,hb⟩;rw[<-dI,Pl] at hb;refine⟨D,_,rfl,hb,?_⟩;have e:(kept.map λq=>decide (bk S q.1=q.2)).all id=keeps kept S:=by
    unfold keeps;rw[List.all_map];rfl
   rw[e];exact k H2 s2
def Xfz:FnScope NSh ["row", "some"] (defScope s_shared):=by walk_at "s"
def Xo8  (F:Fun K "shared" "shared" s_shared f fd) (B:Bl mg) (FD:Fn P w K mg base CX0 1 "ditches" ["row"] spDitches) (FB:Fn P w K mg base CX0 1 "bank_of" ["plot", "name"] spBankOf):
  FnOk P w K mg base CX0 2 f fd ["row", "some"] spShared:=by
 refine F.ok Xfz (by walk_at "l") ?_
 ·walk_at "i"
  obtain⟨r,c,row,ps,Ts,rfl,hR,R2,hc,hT,cz,k⟩:=h;have hu:=Dp hr;have bR:Room 1 _:=hr.mono (by decide);refine⟨_,Ae (Ap (i:=2) Xfz.nd rfl (.inr rfl) (Mu (N:=NSh1) (cap:=[none,some 1]) (CompScope.of (defScope s_shared) NSh rfl rfl rfl (by decide +kernel)) rfl
    (pi_list (Ai FD bR (by rfl) Aj (Aa (pv 0) Ac))) (λ_ _ _=>pg_name (i:=0) (show NSh1.Nodup by decide +kernel) rfl (.inr rfl) (.inl rfl)) (λ_ _ _=>Ca) (λ_ _ _=>pv 0)
    (λs0 H0 ex=>A0 (Xnq P w (by rfl) (by rfl) rfl) (by rfl) B.sorted (by rfl) (Aa (Xnr (P:=P) (w:=w) (N:=NSh2) (cap:=[none,some 0]) (CompScope.of _ NSh1 rfl rfl rfl (by kernel_rfl)) rfl
     (Nx K (by rfl) (pv 1)) (λ_ _ _=>pg_name (i:=0) (show NSh2.Nodup by decide +kernel) rfl (.inl rfl) (.inr rfl)) (λ_ _ _=>Ca)
     (λ_ _ _=>Ai (by exact FB) (by exact bR) (by rfl) Aj (Aa (pv 0) (Aa (pv 1) Ac)))) Ac))))
   (Ag (Ao (Df (N:=NSh3) (cap:=[none,some 2]) (CompScope.of (defScope s_shared) NSh rfl rfl rfl (by decide +kernel)) rfl
    (Gj (pv 2)) (λ_ _ _=>pg_name (i:=0) (show NSh3.Nodup by decide +kernel) rfl (.inl rfl) (.inr rfl))
    (λ_ _ _=>C4 (Av Bh (A0 (Xj3 K (by rfl)) (by rfl) B.len aR (Aa (Cr hu (pv 1) (pv 0) (λ_ _=>rfl)) Ac)) Af (Au _)))
    (λ_ _ _=>Bi (Aa (pv 0) (Aa (Aq (Xcj K (by rfl)) (Cr hu (pv 1) (pv 0) (λ_ _=>rfl)) Af (λ_ _=>rfl)) Ac)))))),?_⟩
  have hl:=R2.len;have kQ:=Fr row;refine⟨_,rfl,r,row,rfl,hR,by lia,λnl H1 yL lq s1=>?_⟩;refine⟨nl,rfl,⟨_,SqL.of lq⟩,λD nD=>?_⟩;have go:∀i H3,i<(dit row).length->Same H1 H3->(Itl K nl).go i H3/\∀x H4,(Itl K nl).yld i H3 x H4->H4=H3/\x = .str ((dit row).getD i aj.empty):=λi H3 hi s3=>by
   have:=B4 (K:=K) (SqL.of (s3 _ _ lq)) (by rw[Oc];exact hi);rw[Bo V.str aj.empty (dit row) hi] at this;exact this
  have qH:=hT.same s1;have nW:=s1 _ _ hc;refine⟨wN (dit row).length λi Z2 H3=>(∃v, Z2=[v,some (.ref c)])/\Same H1 H3/\∃dJ,H3 D=some (.dK dJ)/\Lsts H3 dJ (A9 Ts) ((dit row).take i),⟨(dit row).length,by simp,Pg _,⟨none,rfl⟩,(Same.refl H1).step nD,[],Ab,⟨rfl,λx hx=>by simp at hx⟩⟩,?_⟩;rintro i m Z1 H3 ⟨rfl,hi,⟨v,rfl⟩,s3,dJ,hD,jC⟩;by_cases aZ:i<(dit row).length
  ·obtain⟨g1,g2⟩:=go i H3 aZ s3;refine .inr ⟨g1,λx H4 y=>?_⟩;obtain⟨e1,e2⟩:=g2 x H4 y;subst e1 e2;generalize hx:(dit row).getD i aj.empty=x;have df:(dit row).take (i+1)=(dit row).take i++[x]:=by
    rw[Ow aZ,<-hx];simp[List.getD,aZ]
   have fF:x∉(dit row).take i:=by
    have nd:=Gf row;have h2:((dit row).take (i+1)).Nodup:=nd.sublist (Px ..);rw[df] at h2;exact λz=>(Qa.mp h2).2.2 x z x (by simp) rfl
   have wf:=s3 _ _ nW;have EI:=qH.same s3;refine⟨_,rfl,_,rfl,c,rfl,⟨_,SqL.of wf⟩,?_⟩;refine Xno (P:=P) (w:=w) (n:=ps.length) (by unfold aT;lia) (λj=>.ref (ps.getD j 0)) (λj=>bk (Ts.getD j []) x) ?_ ?_ ?_ ?_
   ·intro j H5 hj s5;have:=B4 (K:=K) (SqL.of (s5 _ _ wf)) (by rw[Oc];exact hj);rw[Bo V.ref 0 ps hj] at this;exact this
   ·intro H5 s5;have:=B5 (K:=K) (SqL.of (s5 _ _ wf))
    rwa [Oc] at this
   ·intro j H5 Q' hj s5 kk;exact⟨_,rfl,_,rfl,_,Ts.getD j [],x,rfl,s5 _ _ (EI.2 j hj),λH6 s6=>kk H6 s6⟩
   ·intro a H5 na s5 ha;have eL:(List.range ps.length).map (λj=>bk (Ts.getD j []) x)=Ts.map λS=>bk S x:=by
     rw[hT.1];have:=C5 [] (λ_=>true) Ts;rw[Po.mpr (λ_ _=>rfl),Po.mpr (λ_ _=>rfl)] at this;have q:=congrArg (List.map λS=>bk S x) this;rw[Ph] at q;exact q
    rw[eL] at ha;have dl:(ddup (Ts.map λS=>bk S x)).length<=2:=by
     have nd:=Hr (Ts.map λS=>bk S x);refine Pb (Il (b:=([("off" : aj),("home" : aj)]:Za)) nd λz hz=>?_) (Og 2);obtain⟨S,_,e⟩:=O0.mp ((Hq _ z).mp hz);rw[<-e];unfold bk;by_cases h:x∈S
     ·rw[Td h];simp
     ·rw[Tc h];simp
    refine⟨a,_,rfl,ha,by lia,λl ls EJ hp hs=>?_⟩;have tP:=s5 _ _ hD;have rC:dJ.length<=60:=by
     have:=jC.len;rw[Os] at this
     lia
    have ph:upd H5 l (.lst (ls.map V.str)) l=some (.lst ((A9 Ts x).map V.str)):=by
     rw[Ab,Hw hp hs];rfl
    have s6:Same H5 (upd H5 l (.lst (ls.map V.str))):=(Same.refl H5).step EJ;generalize upd H5 l (.lst (ls.map V.str))=H6 at ph s6;have nX:=s5.trans s6;have pe:=nX _ _ hD;refine⟨dJ,Sum.inr x,rfl,pe,by rw[Tb];lia,?_⟩;refine wskip aZ ⟨⟨_,rfl⟩,λb u e=>?_,_,Ab,?_⟩
    ·rw[Ad (Am e nD)];exact nX _ _ (s3 b u e)
    ·rw[df];refine jC.snoc fF ?_ λb xs e=>?_
     ·rw[Ad (λz=>by rw[z,pe] at ph;cases ph)];exact ph
     ·have e4:=nX _ _ e;rw[Ad (λz=>by rw[z,pe] at e4;cases e4)];exact e4
  ·have ei:i=(dit row).length:=by lia
   subst ei;refine .inl ⟨by have:=B5 (K:=K) (SqL.of (s3 _ _ lq));rwa [Oc] at this,?_⟩;rw[Pl] at jC;have nQ:=s1.trans s3;have rD:H D=none:=s1.free nD;refine⟨_,rfl,D,dJ,rfl,.inl ⟨hD,λo2=>?_⟩⟩;generalize nR:upd H3 D (.frz o2 (.dK dJ))=H4;have s4:Same H H4:=λb u e=>by rw[<-nR,Ad (Am e rD)];exact nQ b u e
   have eP:H4 D=some (.frz o2 (.dK dJ)):=by rw[<-nR];exact Ab
   have ln:Lsts H4 dJ (A9 Ts) (dit row):=⟨jC.keys,λx hx=>let ⟨l,h1,h2⟩:=jC.val x hx; ⟨l,h1,by rw[<-nR,Ad (λz=>by rw[z,hD] at h2;cases h2)];exact h2⟩⟩;have rC:=ln.len;refine Xnp (n:=(dit row).length) (by rw[Tb];lia) (λj=>.str ((dit row).getD j aj.empty)) (λj=>decide ((A9 Ts ((dit row).getD j aj.empty)).length=1)) (λj=>pr2 ((dit row).getD j aj.empty,(A9 Ts ((dit row).getD j aj.empty)).headD aj.empty)) ?_ ?_ ?_ ?_ ?_
   ·intro j H5 hj s5;have:=Hn (kvs:=dJ) (s5 _ _ eP) (by lia:j<dJ.length);rw[ln.at j hj] at this;exact this
   ·intro H5 s5;have:=Ho (kvs:=dJ) (s5 _ _ eP)
    rwa [rC] at this
   ·intro j H5 Q' hj s5 kk;obtain⟨l,gg,i6⟩:=(ln.mono s5).get (.inr ⟨o2,s5 _ _ eP⟩) (Ds hj);refine⟨_,rfl,_,rfl,D,_,rfl,gg,l,_,rfl,.inl (SqL.of i6),rfl,_,rfl,?_⟩;rw[Oc];have e:decide (V.int ((A9 Ts ((dit row).getD j aj.empty)).length:Int)=V.int 1)=decide ((A9 Ts ((dit row).getD j aj.empty)).length=1):=
     decide_eq_decide.mpr ⟨λh=>by injection h with h;lia,λh=>by rw[h];rfl⟩
    rw[e];exact kk H5 (Same.refl _)
   ·intro j H5 Q' hj hk s5 kk;obtain⟨l,gg,i6⟩:=(ln.mono s5).get (.inr ⟨o2,s5 _ _ eP⟩) (Ds hj);generalize (dit row).getD j aj.empty=x at gg i6 hk kk;obtain⟨b,hb⟩:=R0.mp (Tg hk);rw[hb] at i6 kk;refine⟨_,rfl,_,rfl,_,rfl,D,_,rfl,gg,l,_,_,_,rfl,rfl,SqL.of i6,rfl,by show 2<=sizeLine;decide,λt nt=>?_⟩;exact kk t _ Ab ((Same.refl H5).step nt)
   ·intro L qs H5 nL s5 hL hq;refine k L qs H5 (s4.free nL) hL ?_ (s4.trans s5);have e:((List.range (dit row).length).filter λj=>decide ((A9 Ts ((dit row).getD j aj.empty)).length=1)).map (λj=>pr2 ((dit row).getD j aj.empty,(A9 Ts ((dit row).getD j aj.empty)).headD aj.empty))=(Ce row Ts).map pr2:=by
     have q:=congrArg (List.map λx=>pr2 (x,(A9 Ts x).headD aj.empty)) (C5 aj.empty (λx=>decide ((A9 Ts x).length=1)) (dit row));rw[Ph] at q;unfold Ce;rw[Ph];exact q
    rw[e] at hq;exact hq
def Xf0:FnScope NHe ["row", "kept"] (defScope s_held):=by walk_at "s"
def Xo9  (F:Fun K "held" "held" s_held f fd) (hB:mg "BadGround" = some (.ref B0)) (hb:LB K B0 bmV "ValueError.__new__" = true) (FP:Fn P w K mg base CX0 5 "plots" ["row"] (spPlotsA T (lamPos s_in_order)))
  (FL:Fn P w K mg base CX0 2 "lies_on" ["plot", "kept"] spLiesOn) (FS:Fn P w K mg base CX0 2 "shared" ["row", "some"] spShared):FnOk P w K mg base (CX1 P w) 6 f fd ["row", "kept"] (Xfh B0 T (lamPos s_in_order)):=by
 refine F.ok1 Xf0 (by walk_at "l") ?_
 ·walk_at "i"
  obtain⟨r,kp,row,kept,rfl,⟨hR,R2,h3,hd,tab,⟨qs,hk,hq⟩,ko⟩,k1,k2⟩:=h;have eX:Room 2 _:=hr.mono (by decide);refine⟨_,Ae (Dg (i:=2) (N:=["plot", "kept"]) (cap:=[none,some 1]) (CompScope.of (defScope s_held) NHe rfl rfl rfl (by decide +kernel)) rfl Xf0.nd rfl rfl (pi_list (Ai FP hr (by rfl) Aj (Aa (pv 0) Ac)))
    (λ_ _ _=>pg_name (i:=0) (show (["plot", "kept"]:Za).Nodup by decide +kernel) rfl (.inl rfl) (.inr rfl)) (λ_ _ _=>C4 (Dz (Ai (by exact FL) (by exact eX) (by rfl) Aj (Aa (pv 0) (Aa (pv 1) Ac))))) (λ_ _ _=>pv 0))
   (Ae (Ba (F6 (Jg (Ll (pv 2) (λ_=>rfl))) (G6 (Av (Ka (hu3 hr)) (Ai FS eX (by rfl) Aj (Aa (pv 0) (Aa (pv 2) Ac))) (pv 1) (Au _)))).pt
    (Ag (Ma (C:=B0) (E:=E) hb rfl leaves1 (by rfl) hB (Aa (Xbx (Me (by decide +kernel) (Xny hr (pv 1) Xbv))) Ac))) Bc)
   (Ag (Ao (pv 2)))),?_⟩
  refine⟨_,rfl,r,row,rfl,hR,R2,h3,hd,tab,λL ps Ts H1 nL hL hT bS pw hle jD bt=>?_⟩;have keep:∀{b:ae} {o:HO},H b=some o->(∀z,o ≠ .tbl z)->H1 b=some o:=λe n=>bt _ _ e (Az.ne tab e n);have lV:=keep hk λz=>by simp
  have rF:Tups H1 qs (kept.map pr2):=⟨hq.1,λi hi=>keep (hq.2 i hi) λz=>by simp⟩;have nV:qs.length<=16:=by
   have:=hq.1;rw[Oc] at this;have:=ko.len
   lia
  refine⟨L,rfl,⟨_,SqL.of hL⟩,?_⟩;refine Fs (n:=ps.length) (by rw[Tb];lia) (λi=>.ref (ps.getD i 0)) (λi=>keeps kept (Ts.getD i [])) (λi=>.ref (ps.getD i 0)) ?_ ?_ ?_ ?_ ?_
  ·intro i H4 hi s4;have:=B4 (K:=K) (SqL.of (s4 _ _ hL)) (by rw[Oc];exact hi);rw[Bo V.ref 0 ps hi] at this;exact this
  ·intro H4 s4;have:=B5 (K:=K) (SqL.of (s4 _ _ hL))
   rwa [Oc] at this
  ·intro i H4 Q' hi s4 kk;exact⟨_,rfl,_,rfl,ps.getD i 0,kp,Ts.getD i [],qs,kept,rfl,s4 _ _ (hT.2 i hi),s4 _ _ lV,rF.same s4,by lia,λH5 s5=>⟨_,rfl,kk H5 s5⟩⟩
  ·intro i H4 Q' hi _ s4 kk;exact⟨_,rfl,kk H4 (Same.refl _)⟩
  ·intro D H4 nD s4 hD;have eT:(((List.range ps.length).filter λi=>keeps kept (Ts.getD i [])).map λi=>Ts.getD i [])=Ts.filter (keeps kept):=by
    rw[hT.1];exact C5 [] (keeps kept) Ts
   have tx:Tups H4 (((List.range ps.length).filter λi=>keeps kept (Ts.getD i [])).map λi=>ps.getD i 0) (Ts.filter (keeps kept)):=by
    rw[<-eT];exact Jb (hT.same s4) λi hi=>Pu.mp (Oi.mp hi).1
   have er:H4 D=some (.lst ((((List.range ps.length).filter λi=>keeps kept (Ts.getD i [])).map λi=>ps.getD i 0).map V.ref)):=by rw[hD,Ph];rfl
   have wg:(((List.range ps.length).filter λi=>keeps kept (Ts.getD i [])).map λi=>ps.getD i 0).length<=ps.length:=by
    rw[Oc];exact Pb (Pk ..) (by rw[Py];lia)
   generalize (((List.range ps.length).filter λi=>keeps kept (Ts.getD i [])).map λi=>ps.getD i 0)=us at er tx wg;have mem:∀S,S∈Ts.filter (keeps kept)↔An row S=true/\keeps kept S=true:=λS=>by rw[Oi,bS]
   have gi:=Xe7 mem;have EK:Xfg row kept (Ts.filter (keeps kept)):=⟨mem,pw.filter _⟩;have rD:H D=none:=by
    cases e:H D with
    | none=>rfl
    | some o=>
     by_cases z:D=T
     ·rcases jD with q | ⟨_,q,_⟩<;>(rw[<-z,nD] at q;cases q)
     ·rw[bt _ _ e z] at nD;cases nD
   have rG:=SH.Az.same jD s4;have b4:But T H H4:=λb o e n=>s4 _ _ (bt _ _ e n);have tS:∀H5,Same H4 H5->¬Good row kept->Xbw (Xbu (Xfa (Eu 1) Xbt)) [some (.ref r),some (.ref kp),some (.ref D)] H5 (λx H1=>[x].length<=sizeLine/\E (.ref B0) none H1):=λH5 s5 ng=>by
    refine⟨_,rfl,kp,qs,kept.map pr2,rfl,s5 _ _ (s4 _ _ lV),(rF.same s4).same s5,nV,λS hS=>?_,λz=>⟨by show 1<=sizeLine;decide,k2 ng H5 (SH.Az.same rG s5) λb o e n=>s5 _ _ (b4 _ _ e n)⟩⟩;obtain⟨q,hq,rfl⟩:=O0.mp hS;obtain⟨o1,o2,_,_⟩:=ko.ok q hq;refine⟨by show 2<=3;decide,λz hz=>?_⟩;rcases Ot.mp hz with e | e
    ·rw[e];exact o1
    ·rw[Oe.mp e];exact o2
   dsimp only[Ax];refine⟨_,rfl,_,.inl ⟨_,SqL.of er,rfl⟩,?_⟩;by_cases e:Ts.filter (keeps kept)=[]
   ·have ep:us=[]:=Pd.mp (by rw[tx.1,e];rfl);subst ep;exact Br (tS H4 (Same.refl _) λg=>(gi.mp g).1 e)
   ·have np:(us.map V.ref).isEmpty=false:=by
     cases us with
     | nil=>exact absurd (Pd.mp tx.1.symm) e
     | cons _ _=>rfl
    rw[np];refine Bq ?_;have wj:=s4 _ _ (keep hR λz=>by simp);refine⟨_,rfl,_,rfl,r,D,row,us,_,rfl,wj,R2,er,tx,by lia,λG gs H5 nG hG wk s5=>?_⟩;have rH:=Xe8 e R2.ok;refine⟨_,rfl,.list ((Ce row (Ts.filter (keeps kept))).map pr2 |>.map tupD),.list ((kept.map pr2).map tupD),Da hG wk,Da (s5 _ _ (s4 _ _ lV)) ((rF.same s4).same s5),Bu _ (C9 rH),Bu _ (C9 ko.okL),G1 _ _,_,rfl,?_⟩;rw[G0 rH ko.okL];by_cases e2:Ce row (Ts.filter (keeps kept))=kept
    ·rw[Te (by rw[e2])];refine Bq ?_;exact⟨_,rfl,k1 (gi.mpr ⟨e,e2⟩) D us _ H5 rD (s5 _ _ er) (tx.same s5) EK (by lia) (SH.Az.same rG s5) λb o e n=>s5 _ _ (b4 _ _ e n)⟩
    ·rw[Tf (λz=>e2 (Xe9 z))];exact Br (tS H5 s5 λg=>e2 (gi.mp g).2)
def Xf1:FnScope NDb ["kept", "other"] (defScope s_ditches_between):=by walk_at "s"
def Xpa  (F:Fun K "ditches_between" "ditches_between" s_ditches_between f fd) (B:Bl mg):FnOk P w K mg base CX0 1 f fd ["kept", "other"] spBtwn:=by
 refine F.ok Xf1 (by walk_at "l") ?_
 ·walk_at "i"
  obtain⟨kp,o,qs,us,a,b,rfl,hk,hq,ho,tE,oa,ob,nb,k⟩:=h;have hu:=Dp hr;refine⟨_,Ae (Ap (i:=2) Xf1.nd rfl (.inr rfl) (Cq (Xff rfl) (by rfl) B.dict (by rfl) (Aa (pv 1) Ac)))
   (Ag (Ao (Df (N:=NDb1) (cap:=[none,none,some 2]) (CompScope.of (defScope s_ditches_between) NDb rfl rfl rfl (by decide +kernel)) rfl
    (pi_list (pv 0)) (λ_ _ _=>Ft K 2 rfl rfl (Bz (pg_name (i:=0) (show NDb1.Nodup by decide +kernel) rfl (.inl rfl) (.inr rfl)) (Bz (pg_name (i:=1) (show NDb1.Nodup by decide +kernel) rfl (.inl rfl) (.inr rfl)) D0)))
    (λ_ _ _=>C4 (Av Jp (Lz (by exact hu) (pv 2) (pv 0) (pv 1) ⟨rfl,rfl,rfl,rfl⟩) (pv 1) (Au _))) (λ_ _ _=>pv 0)))),?_⟩
  obtain⟨l1,l2⟩:=Xfv tE;have kb:=ob.len;have ka:=oa.len;have nV:qs.length=a.length:=by
   have:=hq.1
   rwa [Oc] at this
  refine⟨_,rfl,o,us,kvK b,rfl,ho,l1,by unfold kvK;rw[Oc];lia,l2,λd nd=>?_⟩;have s3:Same H (upd H d (.dK (Bp (kvK b)))):=(Same.refl H).step nd;have tT:upd H d (.dK (Bp (kvK b))) d=some (.dK (Bp (kvK b))):=Ab;dsimp only[Ax];generalize upd H d (.dK (Bp (kvK b)))=H3 at s3 tT;refine⟨_,rfl,kp,rfl,⟨_,SqL.of (s3 _ _ hk)⟩,?_⟩;refine Xfu (some (.ref d)) rfl (s3 _ _ hk) (hq.same s3) (by lia) (Jc b) ?_ ?_ ?_
  ·intro x y H4 Q' _ s4 q;have yM:=s4 _ _ tT;refine⟨_,rfl,d,rfl,.inl ⟨_,.inl yM⟩,_,rfl,_,rfl,Ay (Bp (kvK b)) (Sum.inr x:Key),.inl ⟨_,_,.inl yM,rfl,rfl⟩,?_⟩;dsimp only;rw[Xfw nb];refine⟨_,rfl,rfl,_,rfl,?_⟩;rw[En];exact q
  ·intro x v2 H4 Q' q;exact⟨_,rfl,q⟩
  ·intro D H4 nD s4 hD;exact k D H4 (s3.free nD) hD (s3.trans s4)
def F2:FnScope NMe ["row", "grounds"] (defScope s_meet):=by walk_at "s"
def Xpb  (F:Fun K "meet" "meet" s_meet f fd) (B:Bl mg) (hN:mg "NoBody" = some (.ref N)) (hn:LB K N bmV "ValueError.__new__" = true) (FH:Fn P w K mg base (CX1 P w) 6 "held" ["row", "kept"] (Xfh B0 T (lamPos s_in_order)))
  (FD:Fn P w K mg base CX0 1 "ditches_between" ["kept", "other"] spBtwn) (FP:Fn P w K mg base CX0 5 "plots" ["row"] (spPlotsA T (lamPos s_in_order))) (FL:Fn P w K mg base CX0 2 "lies_on" ["plot", "kept"] spLiesOn):
  FnOk P w K mg base (CX1 P w) 7 f fd ["row", "grounds"] (spMeet B0 N T (lamPos s_in_order)):=by
 refine F.ok1 F2 (by walk_at "l") ?_
 ·walk_at "i"
  obtain⟨r,g,row,gs,ks,rfl,hA,k0,k1,k2⟩:=h;have bR:Room 1 _:=hr.mono (by decide);have eX:Room 2 _:=hr.mono (by decide);have wn:Room 5 _:=hr.mono (by decide);refine⟨_,Ae (Ba (Jg (Ll (pv 1) (λ_=>rfl))) (Ag (Ma (C:=N) (E:=E) hn rfl leaves1 (by rfl) hN (Aa Aw Ac))) Bc)
   (Ae (Cg aN.leaving rfl (pi_list (pv 1)) (pg_name (i:=2) F2.nd rfl (.inl rfl)) (Ag (F7 (Ai FH hr (by rfl) pass1 (Aa (pv 0) (Aa (pv 2) Ac))))))
   (Ae (Cg aN.leaving rfl (Xca (by rfl) B.enum (Aa (pv 1) Ac)) (Ft K 2 rfl rfl (Bz (pg_name (i:=3) F2.nd rfl (.inl rfl)) (Bz (pg_name (i:=2) F2.nd rfl (.inl rfl)) D0)))
    (Ag (Cg aN.leaving rfl (Xah (by rfl) B.range (Aa (Ak Bw (pv 3) Af) (Aa (A0 B9 (by rfl) B.len aR (Aa (pv 1) Ac)) Ac))) (pg_name (i:=4) F2.nd rfl (.inl rfl))
     (Ae (Ap (i:=5) F2.nd rfl (.inl rfl) (Ai FD bR (by rfl) Aj (Aa (pv 2) (Aa (Aq A5 (pv 1) (pv 4) (λ_ _=>rfl)) Ac))))
     (Ag (Ba (Ll (pv 5) (λ_=>rfl)) (Ag (Ao (Bi (Aa Aw (Aa (pv 3) (Aa (pv 4) (Aa (Aq A5 (pv 5) Af (λ_ _=>rfl)) Ac))))))) Bc))))))
   (Ae (Dg (i:=6) (N:=NMe1) (cap:=[none,some 1]) (CompScope.of (defScope s_meet) NMe rfl rfl rfl (by decide +kernel)) rfl F2.nd rfl rfl (pi_list (Ai FP wn (by rfl) Aj (Aa (pv 0) Ac)))
    (λ_ _ _=>pg_name (i:=0) (show NMe1.Nodup by decide +kernel) rfl (.inr rfl) (.inl rfl))
    (λs0 H0 ex=>C4 (Dz (A0 (Hj rfl) (by rfl) B.all (by rfl) (Aa (Df (N:=NMe2) (cap:=[none,some 0]) (CompScope.of _ NMe1 rfl rfl rfl (by kernel_rfl)) rfl
     (Nx K (by rfl) (pv 1)) (λ_ _ _=>pg_name (i:=0) (show NMe2.Nodup by decide +kernel) rfl (.inl rfl) (.inr rfl)) (λ_ _ _=>Ca)
     (λ_ _ _=>Ai (by exact FL) (by exact eX) (by rfl) Aj (Aa (pv 1) (Aa (pv 0) Ac)))) Ac)))) (λ_ _ _=>pv 0))
   (Ag (Ao (Bi (Aa Aw (Aa (Aq A5 (pv 6) Af (λ_ _=>rfl)) Ac)))))))),?_⟩
  have aI:=hA.gr.len;have EL:=hA.len;refine⟨_,rfl,_,.inl ⟨_,SqL.of hA.hg,rfl⟩,?_⟩;by_cases e:ks=[]
  ·have ep:gs=[]:=Pd.mp (by rw[aI,e];rfl);subst ep;exact Br ⟨by show 1<=sizeLine;decide,k0 e H hA.tab λ_ _ e _=>e⟩
  have np:(gs.map V.ref).isEmpty=false:=by
   cases gs with
   | nil=>exact absurd (Pd.mp aI.symm) e
   | cons _ _=>rfl
  rw[np];refine Bq ?_;refine⟨_,rfl,g,rfl,⟨_,SqL.of hA.hg⟩,?_⟩;refine Ef (K:=K) (a:=g) (xs:=gs.map V.ref) (λi Z H'=>(∃v2, Z=[some (.ref r),some (.ref g),v2,none,none,none,none])/\Az T (lamPos s_in_order) qIn H'/\But T H H'/\∀j,j<i->Good row (ks.getD j [])) ?_ ?_ ?_ ?_
  ·exact⟨⟨_,rfl⟩,hA.tab,λ_ _ e _=>e,λj hj=>absurd hj (P8 _)⟩
  ·rintro i Z H' _ ⟨_,t',b',_⟩;exact SqL.of (hA.but t' b').hg
  ·rintro i x Z H' hx ⟨⟨v2,rfl⟩,t',b',hg⟩;obtain⟨rfl,hi⟩:=Xfq hx;have EM:=hA.but t' b';have EN:i<ks.length:=by rw[<-aI];exact hi
   dsimp only[Ax];refine⟨_,rfl,_,rfl,r,gs.getD i 0,row,ks.getD i [],rfl,EM.held hi,λgd D ps Ts H1 _ _ _ _ _ t1 b1=>?_,λng H1 t1 b1=>k1 ⟨_,Cw EN,ng⟩ H1 t1 λb o e n=>b1 _ _ (b' _ _ e n) n⟩;have b1:But T H' H1:=b1;refine⟨⟨_,rfl⟩,t1,λb o e n=>b1 _ _ (b' _ _ e n) n,λj hj=>?_⟩;by_cases z:j=i
   ·rw[z];exact gd
   ·exact hg j (by lia)
  rintro Z H' ⟨⟨v2,rfl⟩,t',b',hg⟩;rw[Oc] at hg;have me:∀k∈ks,Good row k:=λk hk=>by
   obtain⟨j,hj,ej⟩:=Pi.mp hk;have:=hg j (by rw[aI];exact hj)
   rwa [show ks.getD j []=k by rw[<-ej];simp[List.getD,hj]] at this
  obtain⟨kf,kn⟩:=k2 e me;have rJ:=hA.but t' b';refine⟨_,rfl,g,rfl,⟨_,SqL.of rJ.hg⟩,?_⟩;refine Xol (K:=K) (a:=g) (xs:=gs.map V.ref) (λi Z H2=>(∃v2 v3 v4 v5, Z=[some (.ref r),some (.ref g),v2,v3,v4,v5,none])/\Same H' H2/\Bn ks i 0) ?_ ?_ ?_ ?_
  ·exact⟨⟨_,_,_,_,rfl⟩,Same.refl _,Bn.zero ks⟩
  ·rintro i Z H2 _ ⟨_,s2,_⟩;exact SqL.of (s2 _ _ rJ.hg)
  ·rintro i x tp Z H2 hx ⟨⟨v2,v3,v4,v5,rfl⟩,s2,n2⟩ EO;obtain⟨rfl,hi⟩:=Xfq hx;have s3:Same H2 (upd H2 tp (.tup [.int i,.ref (gs.getD i 0)])):=(Same.refl H2).step EO;have ht:upd H2 tp (.tup [.int i,.ref (gs.getD i 0)]) tp=some (.tup [.int i,.ref (gs.getD i 0)]):=Ab;generalize upd H2 tp (.tup [.int i,.ref (gs.getD i 0)])=H3 at s3 ht;have nQ:=s2.trans s3;refine⟨tp,_,rfl,SqT.of ht,rfl,_,_,rfl,_,_,rfl,rfl,?_⟩;dsimp only[Ax];refine⟨_,rfl,_,_,rfl,rfl,_,rfl,g,_,rfl,.inl (SqL.of (nQ _ _ rJ.hg)),(i:Int)+1,((gs.map V.ref).length:Int),rfl,?_,?_⟩
   ·rw[Oc];lia
   have hn:((((gs.map V.ref).length:Nat):Int) - ((i:Int)+1)).toNat=gs.length - (i+1):=by rw[Oc];lia
   rw[hn];refine Fl (lo:=(i:Int)+1) (n:=gs.length - (i+1)) (λm Z H4=>(∃v4 v5, Z=[some (.ref r),some (.ref g),some (.ref (gs.getD i 0)),some (.int i),v4,v5,none])/\Same H3 H4/\Bn ks i (i+1+m)) ?_ ?_ ?_
   ·exact⟨⟨_,_,rfl⟩,Same.refl _,n2.first⟩
   ·rintro m Z H4 hm ⟨⟨v4,v5,rfl⟩,s4,n4⟩;have j6:=nQ.trans s4;have mf:=rJ.same j6;have ej:(i:Int)+1+(m:Int)=((i+1+m:Nat):Int):=by lia
    rw[ej];have hj:i+1+m<gs.length:=by lia
    generalize EQ:i+1+m=j at n4 hj;obtain⟨q1,a1,a2⟩:=mf.gr.at' i hi;obtain⟨q2,b1,b2⟩:=mf.gr.at' j hj;have gi:=me _ (Cw (i:=i) (by lia));have gj:=me _ (Cw (i:=j) (by lia));dsimp only[Ax];refine⟨_,rfl,_,rfl,_,rfl,g,_,_,_,rfl,rfl,SqL.of mf.hg,Cf (atR hj),gs.getD i 0,gs.getD j 0,q1,q2,ks.getD i [],ks.getD j [],rfl,a1,a2,b1,b2,hA.ok _ (Cw (i:=i) (by lia)),hA.ok _ (Cw (i:=j) (by lia)),gj.nd,λD H5 nD hD s5=>?_⟩;dsimp only[Ax];refine⟨_,rfl,_,.inl ⟨_,SqL.of hD,rfl⟩,?_⟩;cases ep:parts (ks.getD i []) (ks.getD j []) with
    | nil=>
     refine Bq ?_;exact⟨⟨_,_,rfl⟩,s4.trans s5,by rw[show i+1+(m+1)=j+1 by lia];exact n4.step ep⟩
    | cons x r0=>
     rw[ep] at hD;refine Br ?_;refine⟨_,rfl,_,rfl,_,rfl,D,_,_,_,rfl,rfl,SqL.of hD,(show atI ((x::r0).map V.str) ((0:Nat):Int)=some (.str x) from Cf rfl),by show 4<=sizeLine;decide,λt nt=>?_⟩;have pi:=(j6.trans s5).step (o:=.tup [.str "parted",.int i,.int j,.str x]) nt;exact kf i j x t _ ⟨by lia,by lia,n4,r0,ep⟩ Ab (SH.Az.same t' pi) λb o e n=>pi _ _ (b' _ _ e n)
   ·rintro Z H4 ⟨⟨v4,v5,rfl⟩,s4,n4⟩;refine⟨⟨_,_,_,_,rfl⟩,nQ.trans s4,Bn.next ?_⟩;rw[<-aI]
    rwa [show i+1+(gs.length - (i+1))=gs.length by lia] at n4
  rintro Z H2 ⟨⟨v2,v3,v4,v5,rfl⟩,s2,n2⟩;rw[Oc,aI] at n2;have wo:=rJ.same s2;have R2:=hA.r2;refine⟨_,rfl,r,row,rfl,wo.hr,R2,hA.n3,hA.d,wo.tab,λL ps Ts H3 nL hL hT bS pw hle rK bt=>?_⟩;have ER:=wo.but rK bt;have rL:But T H H3:=λb o e n=>bt _ _ (s2 _ _ (b' _ _ e n)) n;have i7:IsPL row Ts:=⟨pw.imp λh=>Xoi h,bS⟩;refine⟨L,rfl,⟨_,SqL.of hL⟩,?_⟩;refine Fs (n:=ps.length) (by rw[Tb];lia) (λi=>.ref (ps.getD i 0)) (λi=>Bs ks (Ts.getD i [])) (λi=>.ref (ps.getD i 0)) ?_ ?_ ?_ ?_ ?_
  ·intro i H4 hi s4;have:=B4 (K:=K) (SqL.of (s4 _ _ hL)) (by rw[Oc];exact hi);rw[Bo V.ref 0 ps hi] at this;exact this
  ·intro H4 s4;have:=B5 (K:=K) (SqL.of (s4 _ _ hL))
   rwa [Oc] at this
  ·intro i H4 Q' hi s4 kk;have mf:=ER.same s4;refine⟨_,rfl,g,rfl,⟨_,SqL.of mf.hg⟩,?_⟩;refine J4 (n:=gs.length) (by rw[Tb];lia) (λj=>.ref (gs.getD j 0)) (λj=>.bl (keeps (ks.getD j []) (Ts.getD i []))) ?_ ?_ ?_ ?_
   ·intro j H5 hj s5;have:=B4 (K:=K) (SqL.of (s5 _ _ mf.hg)) (show j<(gs.map V.ref).length by rw[Oc];exact hj)
    rwa [Bo V.ref 0 gs hj] at this
   ·intro H5 s5;have:=B5 (K:=K) (SqL.of (s5 _ _ mf.hg))
    rwa [Oc] at this
   ·intro j H5 Q2 hj s5 wq;have ES:=mf.same s5;obtain⟨q1,a1,a2⟩:=ES.gr.at' j hj;have hq:=a2.1;have ol:=(hA.ok _ (Cw (i:=j) (by lia))).len;rw[Oc] at hq;exact⟨_,rfl,_,rfl,ps.getD i 0,gs.getD j 0,Ts.getD i [],q1,ks.getD j [],rfl,(s4.trans s5) _ _ (hT.2 i hi),a1,a2,by lia,wq⟩
   ·intro O H5 nO s5 hO;have wt:H5 O=some (.lst (((List.range gs.length).map λj=>keeps (ks.getD j []) (Ts.getD i [])).map V.bl)):=by rw[hO,Ph];rfl
    refine⟨O,_,rfl,wt,?_⟩;rw[aI,Xdp [] (λk=>keeps k (Ts.getD i [])) ks];exact⟨_,rfl,kk H5 s5⟩
  ·intro i H4 Q' hi _ s4 kk;exact⟨_,rfl,kk H4 (Same.refl _)⟩
  ·intro D H4 nD s4 hD;have eT:(((List.range ps.length).filter λi=>Bs ks (Ts.getD i [])).map λi=>Ts.getD i [])=Ts.filter (Bs ks):=by
    rw[hT.1];exact C5 [] (Bs ks) Ts
   have tx:Tups H4 (((List.range ps.length).filter λi=>Bs ks (Ts.getD i [])).map λi=>ps.getD i 0) (Ts.filter (Bs ks)):=by
    rw[<-eT];exact Jb (hT.same s4) λi hi=>Pu.mp (Oi.mp hi).1
   have er:H4 D=some (.lst ((((List.range ps.length).filter λi=>Bs ks (Ts.getD i [])).map λi=>ps.getD i 0).map V.ref)):=by rw[hD,Ph];rfl
   generalize (((List.range ps.length).filter λi=>Bs ks (Ts.getD i [])).map λi=>ps.getD i 0)=us at er tx;obtain⟨S,r0,eS⟩:=Xfs bS n2 me;rw[eS] at tx;have rM:0<us.length:=by rw[tx.1];simp
   have hp:=tx.2 0 rM;dsimp only[Ax];refine⟨_,rfl,D,_,_,_,rfl,rfl,SqL.of er,(show atI (us.map V.ref) ((0:Nat):Int)=some (.ref (us.getD 0 0)) from Cf (atR rM)),by show 2<=sizeLine;decide,λt nt=>?_⟩;have yN:=s4.step (o:=.tup [.str "plot",.ref (us.getD 0 0)]) nt;exact kn n2 t (us.getD 0 0) S Ts r0 _ i7 eS (ku hp nt) Ab (SH.Az.same rK yN) λb o e n=>yN _ _ (rL _ _ e n)
abbrev NKp:Za:=["_law_name", "_law_side", "_law_plot"]
def Xpc:FnScope ["_law_kept_here", "_law_plot"] ["_law_kept_here", "_law_plot"] (defScope s__law_keeps):=by walk_at "s"
def Xpd  (F:Fun K "_law_keeps" "_law_keeps" s__law_keeps f fd) (B:Bl mg):FnOk P w K mg base CX0 1 f fd ["_law_kept_here", "_law_plot"] spKeepsL:=by
 refine F.ok Xpc (by walk_at "l") ?_
 ·walk_at "i"
  obtain⟨p,kp,S,qs,kept,rfl,hp,hk,hT,hl,k⟩:=h;refine⟨_,Ag (Ao (A0 (Hj rfl) (by rfl) B.all (by rfl) (Aa (Df (N:=NKp) (cap:=[none,none,some 1]) (CompScope.of (defScope s__law_keeps) ["_law_kept_here", "_law_plot"] rfl rfl rfl (by decide +kernel)) rfl
   (pi_list (pv 0)) (λ_ _ _=>Ft K 2 rfl rfl (Bz (pg_name (i:=0) (show NKp.Nodup by decide +kernel) rfl (.inl rfl) (.inr rfl)) (Bz (pg_name (i:=1) (show NKp.Nodup by decide +kernel) rfl (.inl rfl) (.inr rfl)) D0))) (λ_ _ _=>Ca)
   (λ_ _ _=>Cz Bh (Aq (De K (by rfl)) (Bi (Aa Aw (Aa Aw Ac))) (Cq Jr (by rfl) B.int (by rfl) (Aa (Cz (Mo K (by rfl)) (pv 0) (pv 2) (by rfl)) Ac)) (λ_ _=>rfl)) (pv 1) (Au _))) Ac))),?_⟩
  refine⟨_,rfl,kp,rfl,⟨_,SqL.of hk⟩,?_⟩;have dI:kept.length=qs.length:=by
   have:=hT.1;rw[Oc] at this;exact this.symm
  refine D2 (n:=qs.length) (λj=>.ref (qs.getD j 0)) (λD i Z2 H2=>(∃u v, Z2=[u,v,some (.ref p)])/\Same H H2/\H2 D=some (.lst (((kept.take i).map λq=>decide (bk S q.1=q.2)).map V.bl))) ?_ ?_ ?_ ?_ ?_
  ·intro D hD;exact⟨⟨_,_,rfl⟩,(Same.refl H).step hD,Ab⟩
  ·rintro D i Z2 H2 hD hi ⟨_,s2,_⟩;have:=B4 (K:=K) (SqL.of (s2 _ _ hk)) (by rw[Oc];exact hi);rw[Bo V.ref 0 qs hi] at this;exact this
  ·rintro D Z2 H2 hD ⟨_,s2,_⟩;have:=B5 (K:=K) (SqL.of (s2 _ _ hk))
   rwa [Oc] at this
  ·rintro D i Z2 H2 hD hi ⟨⟨u,v,rfl⟩,s2,hb⟩;have cb:i<kept.length:=by rw[dI];exact hi
   have ht:=s2 _ _ (hT.2 i hi);have eq:(kept.map pr2).getD i []=pr2 kept[i]:=by simp[List.getD,cb]
   rw[eq] at ht;have df:kept.take (i+1)=kept.take i++[kept[i]]:=Ow cb;generalize kept[i]=q at ht df;refine⟨_,_,rfl,SqT.of ht,rfl,_,_,rfl,_,_,rfl,rfl,?_⟩;dsimp only[Dd];rw[Td rfl];refine⟨by show 2<=sizeLine;decide,λt nt=>?_⟩;have s3:Same H2 (upd H2 t (.tup [.str "home",.str "off"])):=(Same.refl H2).step nt;have lX:upd H2 t (.tup [.str "home",.str "off"]) t=some (.tup [.str "home",.str "off"]):=Ab;dsimp only;generalize upd H2 t (.tup [.str "home",.str "off"])=H3 at s3 lX;refine⟨_,rfl,_,rfl,p,_,rfl,.inr (SqT.of ((s2.trans s3) _ _ hp)),rfl,El S,.inr ⟨_,rfl,?_⟩⟩;have ei:(if false=true then !inV (.str q.1) (S.map V.str) else inV (.str q.1) (S.map V.str))=decide (q.1∈S):=by rw[Tc (by decide),E1]
   rw[ei];have gK:atI [V.str "home",V.str "off"] (if decide (q.1∈S)=true then (1:Int) else 0)=some (.str (bk S q.1)):=by
    unfold bk;by_cases z:q.1∈S
    ·rw[Te z,Td rfl,Td z];rfl
    ·rw[Tf z,Tc (by decide),Tc z];rfl
   refine⟨t,_,_,_,rfl,rfl,SqT.of lX,gK,_,rfl,rfl,?_⟩;rw[En];refine⟨_,s3 _ _ hb,by rw[Oc,Oc,Os,Tb];lia,wskip hi ⟨⟨_,_,rfl⟩,λb o e=>?_,?_⟩⟩
   ·rw[Ad (Am e hD)];exact s3 _ _ (s2 _ _ e)
   ·rw[Ab,df,Oo,Oo];rfl
  ·rintro D Z2 H2 hD ⟨_,s2,hb⟩;rw[<-dI,Pl] at hb;refine⟨D,_,rfl,hb,?_⟩;have e:(kept.map λq=>decide (bk S q.1=q.2)).all id=keeps kept S:=by
    unfold keeps;rw[List.all_map];rfl
   rw[e];exact k H2 s2
def Xpe:FnScope ["_law_some", "_law_kept_here"] ["_law_some", "_law_kept_here"] (defScope s__law_held):=by walk_at "s"
def Xpf  (F:Fun K "_law_held" "_law_held" s__law_held f fd) (FK:Fn P w K mg base CX0 1 "_law_keeps" ["_law_kept_here", "_law_plot"] spKeepsL):FnOk P w K mg base CX0 2 f fd ["_law_some", "_law_kept_here"] spHeldL:=by
 refine F.ok Xpe (by walk_at "l") ?_
 ·walk_at "i"
  obtain⟨l,kp,ps,Ts,qs,kept,rfl,hl,hT,tU,hk,hq,nV,k⟩:=h;have bR:Room 1 _:=hr.mono (by decide);refine⟨_,Ag (Ao (Df (N:=["_law_plot", "_law_kept_here"]) (cap:=[none,some 1]) (CompScope.of (defScope s__law_held) ["_law_some", "_law_kept_here"] rfl rfl rfl (by decide +kernel)) rfl
   (pi_list (pv 0)) (λ_ _ _=>pg_name (i:=0) (show (["_law_plot", "_law_kept_here"]:Za).Nodup by decide +kernel) rfl (.inl rfl) (.inr rfl)) (λ_ _ _=>C4 (Dz (Ai (by exact FK) (by exact bR) (by rfl) Aj (Aa (pv 1) (Aa (pv 0) Ac))))) (λ_ _ _=>pv 0))),?_⟩
  refine⟨_,rfl,l,rfl,⟨_,SqL.of hl⟩,?_⟩;refine Fs (n:=ps.length) (by rw[Tb];lia) (λi=>.ref (ps.getD i 0)) (λi=>keeps kept (Ts.getD i [])) (λi=>.ref (ps.getD i 0)) ?_ ?_ ?_ ?_ ?_
  ·intro i H4 hi s4;have:=B4 (K:=K) (SqL.of (s4 _ _ hl)) (by rw[Oc];exact hi);rw[Bo V.ref 0 ps hi] at this;exact this
  ·intro H4 s4;have:=B5 (K:=K) (SqL.of (s4 _ _ hl))
   rwa [Oc] at this
  ·intro i H4 Q' hi s4 kk;exact⟨_,rfl,_,rfl,ps.getD i 0,kp,Ts.getD i [],qs,kept,rfl,s4 _ _ (hT.2 i hi),s4 _ _ hk,hq.same s4,nV,λH5 s5=>⟨_,rfl,kk H5 s5⟩⟩
  ·intro i H4 Q' hi _ s4 kk;exact⟨_,rfl,kk H4 (Same.refl _)⟩
  ·intro D H4 nD s4 hD;have eT:(((List.range ps.length).filter λi=>keeps kept (Ts.getD i [])).map λi=>Ts.getD i [])=Ts.filter (keeps kept):=by
    rw[hT.1];exact C5 [] (keeps kept) Ts
   have tx:Tups H4 (((List.range ps.length).filter λi=>keeps kept (Ts.getD i [])).map λi=>ps.getD i 0) (Ts.filter (keeps kept)):=by
    rw[<-eT];exact Jb (hT.same s4) λi hi=>Pu.mp (Oi.mp hi).1
   refine k D _ H4 nD (by rw[hD,Ph];rfl) tx ?_ s4;rw[Oc];exact Pb (Pk ..) (by rw[Py];lia)
def Xpg:FnScope ["_law_script"] ["_law_script"] (defScope sBegin):=by walk_at "s"
def Xph  (F:Fun K "_law_begin" "_law_begin" sBegin f fd) (T:Bl mg):FnOk P w K mg base CX0 1 f fd ["_law_script"] (Xc6 K):=by
 refine F.ok Xpg (by walk_at "l") ?_
 ·walk_at "i"
  obtain⟨a,ns,rfl,hS,hl,k⟩:=h;refine⟨_,Ag (Ao (Bg (Aa (Cq Ls rfl T.list boot_list (Aa (Bx B3 (pv 0) B2 (Bt Af)) Ac)) (Aa Af (Aa Af (Aa Af (Aa Af Ac))))))),?_⟩;refine⟨_,rfl,_,rfl,a,_,rfl,hS,λp hp=>?_⟩;have cut:C2 (ns.map V.int) none (some 63)=ns.map V.int:=by
   unfold C2;rw[HT.sIx_none,R5,show (some (63:Int))=some ((63:Nat):Int) from rfl,HT.sIx_nat];exact P5 (by rw[Oc];lia)
  rw[cut];refine⟨p,_,rfl,.inl (SqL.of Ab),λq hq=>?_⟩;refine⟨by show 5<=sizeLine;decide,λdr i5=>?_⟩;have yO:p≠q:=Am (o:=.lst (ns.map V.int)) Ab hq;have nY:q≠dr:=Am (o:=.lst (ns.map V.int)) Ab i5;have yP:H q=none:=by rw[Ad yO.symm] at hq;exact hq
  have ET:p≠dr:=Am (H:=upd (upd H p (.lst (ns.map V.int))) q (.lst (ns.map V.int))) (o:=.lst (ns.map V.int)) (by rw[Ad yO,Ab]) i5;have yQ:H dr=none:=by rw[Ad nY.symm,Ad ET.symm] at i5;exact i5
  refine k dr q _ yQ yP ⟨⟨ns,0,0,1,0,Ab,by rw[Ad nY,Ab],Pg _,hl,by decide,by decide⟩⟩ ((((Same.refl H).upd hp).upd yP).upd yQ)
def N8:FnScope NP ["_law_draw", "_law_many"] (defScope sPick):=by walk_at "s"
def Xpi  (F:Fun K "_law_pick" "_law_pick" sPick f fd) (T:Bl mg):FnOk P w K mg base CX0 1 f fd ["_law_draw", "_law_many"] Xc7:=by
 refine F.ok N8 (by walk_at "l") ?_
 ·walk_at "i"
  obtain⟨dr,sc,n,rfl,rN,JN,⟨ns,p,c,m,k,hd,hs,hp,hl,wu,qP⟩,kk⟩:=h;have rO:dr≠sc:=by
   intro e;subst e;rw[hd] at hs;cases ns with
   | nil=>cases hs
   | cons a r=>cases hs
  refine Xjz (fun Z' H'=>∃x y p c m, Z'=[some (.ref dr),some (.int n),x,y]/\H' dr=some (.lst [.ref sc,.int (p:Nat),.int c,.int m,.int k])/\p<=ns.length/\0<=m/\m<1000000007/\∀b o,H b=some o->b≠dr->H' b=some o) ?_ ?_
  ·-- wv rest
   refine⟨_,Ae (Ba (Av Xap (Aq A5 (pv 0) Af (λ_ _=>rfl)) (pv 1) (Au _))
     (Ae (Ap (i:=3) N8.nd rfl (.inl rfl) (Ak F8 (Aq A5 (pv 0) Af (λ_ _=>rfl)) (pv 1)))
     (Ae (Ee (Ak Xak (Aq A5 (pv 0) Af (λ_ _=>rfl)) (pv 1)) (Fi (pv 0) Af Fm))
     (Ag (Ao (pv 3))))) Bc)
    (Ae (Ee (Ak Bw (Aq A5 (pv 0) Af (λ_ _=>rfl)) Af) (Fi (pv 0) Af Fm))
    (Ae (Ee (Ak F8 (Ak Bw (Ak Bw (Ak Xal (Aq A5 (pv 0) Af (λ_ _=>rfl)) Af) (Ak Xaj Af (Aq A5 (pv 0) Af (λ_ _=>rfl)))) Af) Af) (Fi (pv 0) Af Fm))
    (Ag (Ao (Ak F8 (Ak Xak (Aq A5 (pv 0) Af (λ_ _=>rfl)) Af) (pv 1)))))),?_⟩
   rintro Z' H' ⟨x,y,p,c,m,rfl,im,ix,rP,rQ,kp⟩;refine⟨_,rfl,dr,_,_,_,rfl,rfl,SqL.of im,rfl,_,rfl,_,_,rfl,rfl,_,rfl,?_⟩;refine A2 (λhc=>?_) (λhc=>?_)
   ·-- JO
    refine⟨_,rfl,dr,_,_,_,rfl,rfl,SqL.of im,rfl,_,rfl,_,_,rfl,rfl,rN,?_⟩;refine⟨_,rfl,dr,_,_,_,rfl,rfl,SqL.of im,rfl,_,rfl,_,_,rfl,rfl,⟨rN,by lia⟩,?_⟩;refine⟨_,rfl,dr,_,_,2,rfl,rfl,im,rfl,?_⟩;refine⟨_,rfl,?_⟩;refine kk _ _ (Sk _ (by lia)) (Rx _ rN) ⟨⟨ns,p,c / n,m,k,Ab,?_,ix,hl,rP,rQ⟩⟩ λb o e hb=>by rw[Ad hb];exact kp b o e hb
    rw[Ad rO.symm];exact kp _ _ hs rO.symm
   ·refine⟨_,rfl,dr,_,_,_,rfl,rfl,SqL.of im,rfl,_,_,rfl,rfl,?_⟩;refine⟨_,rfl,dr,_,_,4,rfl,rfl,im,rfl,?_⟩;refine⟨_,rfl,dr,_,_,_,rfl,rfl,SqL.of Ab,rfl,_,_,rfl,rfl,cpow3 rP rQ,?_⟩;refine⟨_,rfl,dr,_,_,_,rfl,rfl,SqL.of Ab,rfl,_,_,rfl,rfl,.inl ⟨by decide,by decide⟩,_,_,rfl,rfl,_,_,rfl,rfl,_,_,rfl,rfl,(by show (0:Int)<1000000007;decide),?_⟩;refine⟨_,rfl,dr,_,_,3,rfl,rfl,Ab,rfl,?_⟩;refine⟨_,rfl,dr,_,_,_,rfl,rfl,SqL.of Ab,rfl,_,_,rfl,rfl,⟨by decide,by decide⟩,_,rfl,_,_,rfl,rfl,rN,?_⟩;refine kk _ _ (Sk _ (by lia)) (Rx _ rN) ⟨⟨ns,p,c,_,k+1,Ab,?_,ix,hl,Sk _ (by decide),Rx _ (by decide)⟩⟩ λb o e hb=>by rw[Ad hb,Ad hb];exact kp b o e hb
    rw[Ad rO.symm,Ad rO.symm];exact kp _ _ hs rO.symm
  ·intro nx fF;refine⟨_,Ba (Ex (Av Dc (Aq A5 (pv 0) Af (λ_ _=>rfl)) (pv 1) (Au _)) (Ew (Av Dc (Aq A5 (pv 0) Af (λ_ _=>rfl)) (A0 B9 (by rfl) T.len aR (Aa (Aq A5 (pv 0) Af (λ_ _=>rfl)) Ac)) (Au _)))).pt
     (Ae (Ap (i:=2) N8.nd rfl (.inl rfl) (Aq A5 (Aq A5 (pv 0) Af (λ_ _=>rfl)) (Aq A5 (pv 0) Af (λ_ _=>rfl)) (λ_ _=>rfl)))
     (Ae (Ee (Ak Bw (Aq A5 (pv 0) Af (λ_ _=>rfl)) Af) (Fi (pv 0) Af Fm))
     (Ae (Ee Af (Fi (pv 0) Af Fm))
     (Ag (Ba (Av Xap (pv 2) (Ak Xal Af Af) (Au _))
      (Ag (Ee (pv 2) (Fi (pv 0) Af Fm)))
      (Ag (Ee (Ak F8 (Ak Bw (Aq A5 (pv 0) Af (λ_ _=>rfl)) (pv 2)) Af) (Fi (pv 0) Af Fm)))))))) Bc,?_⟩
   refine⟨_,rfl,dr,_,_,_,rfl,rfl,SqL.of hd,rfl,_,rfl,_,_,rfl,rfl,_,rfl,?_⟩;have skip:nx [some (.ref dr),some (.int n),none,none] H:=fF _ _ ⟨none,none,p,c,m,rfl,hd,hp,wu,qP,λb o e _=>e⟩;refine A2 (λ_=>?_) (λ_=>Bq skip);refine⟨_,rfl,dr,_,_,_,rfl,rfl,SqL.of hd,rfl,_,rfl,dr,_,_,_,rfl,rfl,SqL.of hd,rfl,sc,_,rfl,.inl (SqL.of hs),_,_,rfl,rfl,_,rfl,?_⟩;refine A2 (λaZ=>?_) (λ_=>skip);have nJ:(p:Int)<((ns.map V.int).length:Nat):=Tg aZ;rw[Oc] at nJ;have cz:p<ns.length:=by lia
   have gK:(ns.map V.int)[p]? = some (.int (ns[p]'cz)):=by rw[Ou,Od cz];rfl
   refine⟨_,rfl,dr,_,_,_,rfl,rfl,SqL.of hd,rfl,_,rfl,dr,_,_,_,rfl,rfl,SqL.of hd,rfl,sc,_,_,_,rfl,rfl,SqL.of hs,Cf gK,?_⟩;refine⟨_,rfl,dr,_,_,_,rfl,rfl,SqL.of hd,rfl,_,_,rfl,rfl,?_⟩;refine⟨_,rfl,dr,_,_,1,rfl,rfl,hd,rfl,?_⟩;refine⟨_,rfl,dr,_,_,2,rfl,rfl,Ab,rfl,?_⟩;refine⟨_,rfl,_,_,rfl,rfl,⟨by decide,by decide,by decide⟩,_,_,rfl,rfl,_,rfl,?_⟩;refine A2 (λ_=>?_) (λ_=>?_)
   ·refine⟨_,rfl,_,rfl,dr,_,_,2,rfl,rfl,Ab,rfl,?_⟩;refine fF _ _ ⟨_,none,p+1,_,m,rfl,Ab,cz,wu,qP,λb o e hb=>by rw[Ad hb,Ad hb,Ad hb];exact e⟩
   ·refine⟨_,rfl,dr,_,_,_,rfl,rfl,SqL.of Ab,rfl,_,rfl,_,_,rfl,rfl,_,_,rfl,rfl,(by show (0:Int)<1000000007;decide),?_⟩;refine⟨_,rfl,dr,_,_,3,rfl,rfl,Ab,rfl,?_⟩;refine fF _ _ ⟨_,none,p+1,_,_,rfl,Ab,cz,Sk _ (by decide),Rx _ (by decide),λb o e hb=>by rw[Ad hb,Ad hb,Ad hb];exact e⟩
def Xf2:FnScope NPut ["_law_row_here", "_law_name", "_law_at", "_law_to"] (defScope sPut):=by walk_at "s"
def Xpj  (F:Fun K "_law_put" "_law_put" sPut f fd):FnOk P w K mg base CX0 1 f fd ["_law_row_here", "_law_name", "_law_at", "_law_to"] Xc9:=by
 refine F.ok Xf2 (by walk_at "l") ?_
 ·walk_at "i"
  obtain⟨r,row,x,a,b,rfl,hR,hl,fb,hb,k⟩:=h;refine⟨_,Ae (Ap (i:=4) Xf2.nd rfl (.inl rfl) (Ak Bj (Ak Bj (Bx B3 (pv 0) B2 (Bt (pv 2))) (Bg (Aa (pv 1) Ac))) (Bx B3 (pv 0) (Bt (pv 2)) (Bt (pv 3)))))
   (Ag (Ao (Ak Bj (Ak Bj (pv 4) (Bg (Aa (pv 1) Ac))) (Bx B3 (pv 0) (Bt (pv 3)) B2)))),?_⟩
  have dh:∀n,n<=100000->n<=sizeLine:=λn h=>by rw[Tb];lia
  refine⟨_,rfl,_,rfl,_,rfl,r,_,rfl,SqL.of hR,λp1 n1=>?_⟩;rw[Ek _ _ _ (by lia)];refine⟨_,rfl,by show 1<=sizeLine;decide,λp2 n2=>?_⟩;refine⟨p1,p2,_,_,rfl,rfl,ku Ab n2,Ab,dh _ (by simp;lia),λp3 n3=>?_⟩;refine⟨_,rfl,_,rfl,_,rfl,_,rfl,_,rfl,r,_,rfl,SqL.of (ku (ku (ku hR n1) n2) n3),λp4 n4=>?_⟩;rw[Xj0 _ _ _ _ fb hb];refine⟨p3,p4,_,_,rfl,rfl,ku Ab n4,Ab,dh _ (by simp;lia),λp5 n5=>?_⟩;refine⟨_,rfl,_,rfl,by show 1<=sizeLine;decide,λp6 n6=>?_⟩;refine⟨p5,p6,_,_,rfl,rfl,ku Ab n6,Ab,dh _ (by simp;lia),λp7 n7=>?_⟩;refine⟨_,rfl,_,rfl,_,rfl,r,_,rfl,SqL.of (ku (ku (ku (ku (ku (ku (ku hR n1) n2) n3) n4) n5) n6) n7),λp8 n8=>?_⟩;rw[D6 _ _ _ hb];refine⟨p7,p8,_,_,rfl,rfl,ku Ab n8,Ab,dh _ (by simp;lia),λp9 n9=>?_⟩;have s8:=((((((((Same.refl H).go n1 n2).go n2 n3).go n3 n4).go n4 n5).go n5 n6).go n6 n7).go n7 n8).go n8 n9;refine k p9 _ (s8.free n9) (Ab.trans ?_) (s8.step n9);unfold E5;simp
def N9:FnScope NWh ["_law_row_here"] (defScope sWhere):=by walk_at "s"
def Xpk  (F:Fun K "_law_where" "_law_where" sWhere f fd) (T:Bl mg):FnOk P w K mg base CX0 1 f fd ["_law_row_here"] M4:=by
 refine F.ok N9 (by walk_at "l") ?_
 ·walk_at "i"
  obtain⟨r,row,rfl,hR,hl,k⟩:=h;have hu:=Dp hr;refine⟨_,Ae (Ap (i:=1) N9.nd rfl (.inl rfl) Xhx)
   (Ae (Cg aN.never rfl (Fj rfl T.range (Aa (A0 B9 (by rfl) T.len aR (Aa (pv 0) Ac)) Ac)) (pg_name (i:=2) N9.nd rfl (.inl rfl))
    (Ag (Xhv hu (pv 1) (Aq A5 (pv 0) (pv 2) (λ_ _=>rfl))
     (Ak Bj (Lz hu (pv 1) (Aq A5 (pv 0) (pv 2) (λ_ _=>rfl)) (Bg Ac) ⟨rfl,rfl,rfl,rfl⟩) (Bg (Aa (pv 2) Ac))) rfl)))
   (Ag (Ao (pv 1)))),?_⟩
  intro d nd;have s0:Same H (upd H d (.dK [])):=(Same.refl H).step nd;refine⟨_,rfl,r,_,rfl,.inl (SqL.of (s0 _ _ hR)),((row.map V.str).length:Int),rfl,by lia,by rw[Oc];lia,?_⟩;have hn:((row.map V.str).length:Int).toNat=row.length:=by rw[Oc];simp
  rw[hn];refine Fl (lo:=0) (n:=row.length) (λi Z H2=>∃kvs v, Z=[some (.ref r),some (.ref d),v]/\Same H H2/\H2 d=some (.dK kvs)/\Wh H2 kvs (row.take i)) ?_ ?_ ?_
  ·exact⟨[],none,rfl,s0,Ab,⟨λk hk=>by simp at hk,λx hx=>by simp at hx,λ_ _=>rfl,by simp,by simp⟩⟩
  ·rintro i Z H2 hi ⟨kvs,v,rfl,s2,hd,wh⟩;have gK:(row.map V.str)[i]? = some (.str (row[i]'hi)):=by rw[Ou,Od hi];rfl
   have lr:atI (row.map V.str) (0+(i:Int))=some (.str (row[i]'hi)):=by rw[S6];exact Cf gK
   have tk:row.take (i+1)=row.take i++[row[i]'hi]:=by rw[Ow hi]
   have kl:=wh.len;rw[Os] at kl;have ll:(plc (row.take i) (row[i]'hi)).length<=1000:=by
    rw[M0];have:=List.count_le_length (a:=row[i]'hi) (l:=row.take i);rw[Os] at this
    lia
   have dh:∀n,n<=100000->n<=sizeLine:=λn h=>by rw[Tb];lia
   refine⟨_,rfl,d,rfl,.inl ⟨kvs,.inl hd⟩,_,rfl,_,rfl,r,_,_,_,rfl,rfl,SqL.of (s2 _ _ hR),lr,by show 0<=sizeLine;decide,λp1 n1=>?_⟩;refine⟨_,DGet.k (k:=Sum.inr (row[i]'hi)) (ku hd n1),?_⟩;obtain⟨q,xs,e1,hq,lT⟩:∃q xs,(Ay kvs (Sum.inr (row[i]'hi):Key)).getD (V.ref p1)=V.ref q/\upd H2 p1 (.lst []) q=some (.lst (xs.map V.int))/\plc (row.take i) (row[i]'hi)=xs:=by
    by_cases hx:row[i]'hi∈row.take i
    ·obtain⟨l,e1,e2⟩:=wh.val _ hx;exact⟨l,_,by rw[e1];rfl,ku e2 n1,rfl⟩
    ·refine⟨p1,[],by rw[wh.none _ hx];rfl,Ab,?_⟩;have:(plc (row.take i) (row[i]'hi)).length=0:=by rw[M0];exact Rh.mpr hx
     exact Pd.mp this
   have JP:xs.length<=1000:=by rw[<-lT];exact ll
   rw[e1];refine⟨_,rfl,by show 1<=sizeLine;decide,λp2 n2=>?_⟩;refine⟨q,p2,_,_,rfl,rfl,ku hq n2,Ab,dh _ (by simp;lia),λp3 n3=>?_⟩;refine⟨_,rfl,_,rfl,_,rfl,r,_,_,_,rfl,rfl,SqL.of (ku (ku (ku (s2 _ _ hR) n1) n2) n3),lr,?_⟩;have cU:=ku (u:=.lst [V.int (0+(i:Int))]) (ku (u:=.lst []) hd n1) n2;have tT:=ku (u:=.lst (xs.map V.int++[V.int (0+(i:Int))])) cU n3;refine⟨d,_,rfl,DPut.k (k:=Sum.inr (row[i]'hi)) tT (by rw[Tb];lia),_,_,rfl,?_,Ab,?_⟩
   ·have s3:=((s2.go n1 n2).go n2 n3).step (o:=.lst (xs.map V.int++[V.int (0+(i:Int))])) n3;exact s3.upd nd
   ·rw[tk];refine wh.snoc _ p3 ?_ λb ys e=>?_
    ·have ne:p3≠d:=(Am cU n3).symm;rw[Ad ne,Ab,M3,Td rfl,lT,Oo,Os,Qv (Rs hi)];simp
    ·have ne:b≠d:=λz=>by rw[z,hd] at e;cases e
     rw[Ad ne];exact ku (ku (ku e n1) n2) n3
  ·rintro Z H2 ⟨kvs,v,rfl,s2,hd,wh⟩;rw[Pl] at wh;exact⟨_,rfl,k d kvs H2 nd hd wh s2⟩
def K6:FnScope NWo ["_law_where_here", "_law_one_here", "_law_other"] (defScope sWord):=by walk_at "s"
def Xpl  (F:Fun K "_law_word" "_law_word" sWord f fd) (T:Bl mg):FnOk P w K mg base CX0 1 f fd ["_law_where_here", "_law_one_here", "_law_other"] spWord:=by
 refine F.ok K6 (by walk_at "l") ?_
 ·walk_at "i"
  obtain⟨d,l1,l2,kvs,x,y,a,b,c,e,rfl,hd,v1,v2,h1,h2,k⟩:=h;have hu:=Dp hr;refine⟨_,Ae (Ee (Cr hu (pv 0) (pv 1) (λ_ _=>rfl)) (Xim rfl (Bz (pg_name (i:=3) K6.nd rfl (.inr rfl)) (Bz (pg_name (i:=4) K6.nd rfl (.inr rfl)) D0))))
   (Ae (Dg (i:=5) (N:=["_law_at", "_law_high", "_law_low"]) (cap:=[none,some 4,some 3]) (CompScope.of (defScope sWord) NWo rfl rfl rfl (by decide +kernel)) rfl K6.nd rfl rfl
     (pi_list (Cr hu (pv 0) (pv 2) (λ_ _=>rfl))) (λ_ _ _=>pg_name (i:=0) (show (["_law_at", "_law_high", "_law_low"]:Za).Nodup by decide +kernel) rfl (.inl rfl) (.inr rfl))
     (λ_ _ _=>C4 (Ex (Av Dc (pv 2) (pv 0) (Au _)) (Ew (Av Dc (pv 0) (pv 1) (Au _)))).pt) (λ_ _ _=>pv 0))
   (Ae (Ba (F6 (Av Bh (pv 1) (pv 2) (Au _)) (G6 (Av Xgx (A0 B9 (by rfl) T.len aR (Aa (pv 5) Ac)) Af (Au _)))).pt
    (Ag (Ao (Aq Eg (Bi (Aa Aw (Aa Aw (Aa Aw Ac)))) (A0 B9 (by rfl) T.len aR (Aa (pv 5) Ac)) (λ_ _=>rfl)))) Bc)
   (Ag (Ao (Fh (Ex (Av Dc (Aq A5 (Cr hu (pv 0) (pv 2) (λ_ _=>rfl)) Af (λ_ _=>rfl)) (pv 3) (Au _)) (Ew (Av Dc (pv 4) (Aq A5 (Cr hu (pv 0) (pv 2) (λ_ _=>rfl)) Af (λ_ _=>rfl)) (Au _)))).pt Aw Aw))))),?_⟩
  refine⟨_,rfl,_,rfl,d,_,rfl,DGet.rd hd v1,l1,_,rfl,SqL.of h1,rfl,?_⟩;refine⟨_,_,rfl,_,_,rfl,rfl,?_⟩;refine⟨_,rfl,_,rfl,d,_,rfl,DGet.rd hd v2,l2,rfl,⟨_,SqL.of h2⟩,?_⟩;refine D2 (n:=2) (λi=>([V.int c,V.int e]:List V).getD i .non) (λD i Z2 H2=>∃v, Z2=[v,some (.int b),some (.int a)]/\Same H H2/\H2 D=some (.lst ((inn a b (([c,e]:List Int).take i)).map V.int))) ?_ ?_ ?_ ?_ ?_
  ·intro D hD;exact⟨none,rfl,(Same.refl H).step hD,Ab⟩
  ·rintro D i Z2 H2 hD hi ⟨v,rfl,s2,hl⟩;exact B4 (SqL.of (s2 _ _ h2)) hi
  ·rintro D Z2 H2 hD ⟨v,rfl,s2,hl⟩;exact B5 (SqL.of (s2 _ _ h2))
  ·rintro D i Z2 H2 hD hi ⟨v,rfl,s2,hl⟩;obtain⟨t,pc,mU⟩:∃t,([V.int c,V.int e]:List V).getD i .non = .int t/\([c,e]:List Int).take (i+1)=([c,e]:List Int).take i++[t]:=by
    match i,hi with
    | 0,_=>exact⟨c,rfl,rfl⟩
    | 1,_=>exact⟨e,rfl,rfl⟩
   rw[pc];have dt:(inn a b (([c,e]:List Int).take i)).length<=2:=Pb (M5 ..) (by rw[Os];simp;lia);refine⟨_,rfl,_,rfl,_,_,rfl,rfl,_,rfl,?_⟩;refine A2 (λq1=>?_) (λq1=>Bq (wskip hi ⟨_,rfl,s2,?_⟩))
   ·refine⟨_,rfl,_,rfl,_,_,rfl,rfl,_,rfl,?_⟩;refine A2 (λq2=>?_) (λq2=>wskip hi ⟨_,rfl,s2,?_⟩)
    ·refine⟨_,rfl,wput hi hl (by rw[Oc,Tb];lia) ⟨_,rfl,?_,?_⟩⟩
     ·intro b' o e';rw[Ad (Am e' hD)];exact s2 b' o e'
     ·rw[Ab,mU];unfold inn;rw[O2,Oo,Pp,Td (by rw[q1,q2];rfl)];rfl
    ·rw[hl,mU];unfold inn;rw[O2,Pp,Tc (by rw[q1,q2];decide)];simp
   ·rw[hl,mU];unfold inn;rw[O2,Pp,Tc (by rw[q1];simp)];simp
  ·rintro D Z2 H2 hD ⟨v,rfl,s2,hl⟩;have oP:H2 D=some (.lst ((inn a b [c,e]).map V.int)):=hl;have dt:(inn a b [c,e]).length<=2:=M5 ..;have mh:∀p,H2 p=none->atI ([V.str "same",V.str "cross",V.str "around"]:List V) (((inn a b [c,e]).map V.int).length:Int)=some (.str (words3.getD (inn a b [c,e]).length "apart")):=λp _=>by
    rw[Oc];generalize (inn a b [c,e]).length=n at dt
    match n,dt with
    | 0,_=>rfl
    | 1,_=>rfl
    | 2,_=>rfl
   have rR:(decide (x=y)||decide (0<(inn a b [c,e]).length))=true->∀p,H2 p=none->∀H',Same H H'->Q (.str (words3.getD (inn a b [c,e]).length "apart")) H':=λhc p _ H' s'=>by
    have:=k H' s';unfold D7 at this;rw[Td hc] at this;exact this
   refine⟨_,rfl,_,rfl,rfl,_,rfl,?_⟩;refine A2 (λq1=>?_) (λq1=>?_)
   ·refine Br ⟨by show 3<=sizeLine;decide,λp hp=>?_⟩;refine⟨_,rfl,D,_,rfl,.inl (SqL.of (ku oP hp)),p,_,_,_,rfl,rfl,SqT.of Ab,mh p hp,?_⟩;refine rR ?_ p hp _ (s2.step hp);have nK:decide (x=y)=true:=by
     have:=Tg q1;injection this with this
     exact Te this
    rw[nK];rfl
   ·refine⟨_,rfl,D,_,rfl,.inl (SqL.of oP),_,_,rfl,rfl,_,rfl,?_⟩;have nK:decide (x=y)=false:=by
     have:=Th q1;exact Tf λz=>this (by rw[z])
    refine A2 (λq2=>?_) (λq2=>?_)
    ·have ww:0<(inn a b [c,e]).length:=by
      have:=Tg q2;rw[Oc] at this
      lia
     refine⟨by show 3<=sizeLine;decide,λp hp=>?_⟩;refine⟨_,rfl,D,_,rfl,.inl (SqL.of (ku oP hp)),p,_,_,_,rfl,rfl,SqT.of Ab,mh p hp,?_⟩;exact rR (by rw[Te ww,S5]) p hp _ (s2.step hp)
    ·have ww:¬ 0<(inn a b [c,e]).length:=by
      have:=Th q2;rw[Oc] at this
      lia
     have fu:∀z:aj,(if c<a/\b<e then ("within" : aj) else "apart")=z->Q (.str z) H2:=λz hz=>by
      have:=k H2 s2;unfold D7 at this;rw[Tc (by rw[nK,Tf ww];decide),hz] at this;exact this
     refine⟨_,rfl,_,rfl,d,_,rfl,DGet.rd (Rd.same hd s2) v2,l2,_,_,_,rfl,rfl,SqL.of (s2 _ _ h2),rfl,_,rfl,_,_,rfl,rfl,_,rfl,?_⟩;refine A2 (λq3=>?_) (λq3=>?_)
     ·refine⟨_,rfl,_,rfl,_,rfl,d,_,rfl,DGet.rd (Rd.same hd s2) v2,l2,_,_,_,rfl,rfl,SqL.of (s2 _ _ h2),rfl,_,_,rfl,rfl,_,rfl,?_⟩;refine A2 (λq4=>?_) (λq4=>?_)
      ·exact fu _ (Td ⟨Tg q3,Tg q4⟩)
      ·exact fu _ (Tc λz=>Th q4 z.2)
     ·exact Bq (fu _ (Tc λz=>Th q3 z.1))
def Jf:FnScope NBa ["_law_row_here", "_law_name"] (defScope sBarred):=by walk_at "s"
def Xpm  (F:Fun K "_law_barred" "_law_barred" sBarred f fd) (T:Bl mg) (FW:Fn P w K mg base CX0 1 "_law_where" ["_law_row_here"] M4)
  (FO:Fn P w K mg base CX0 1 "_law_word" ["_law_where_here", "_law_one_here", "_law_other"] spWord):FnOk P w K mg base CX0 2 f fd ["_law_row_here", "_law_name"] spBarredN:=by
 refine F.ok Jf (by walk_at "l") ?_
 ·walk_at "i"
  obtain⟨r,row,x,rfl,hR,hl,h2,hx,k⟩:=h;have hu:=Dp hr;refine⟨_,Ae (Ap (i:=2) Jf.nd rfl (.inr rfl) (Ai FW hr rfl Aj (Aa (pv 0) Ac)))
   (Ae (Dg (i:=3) (N:=NBc) (cap:=[none,some 1,some 2]) (CompScope.of (defScope sBarred) NBa rfl rfl rfl (by decide +kernel)) rfl Jf.nd rfl rfl
     (Xis (pv 2)) (λ_ _ _=>pg_name (i:=0) (show NBc.Nodup by decide +kernel) rfl (.inl rfl) (.inr rfl))
     (λ_ _ _=>C4 (Av Bh (Ai FO hr rfl Aj (Aa (pv 2) (Aa (pv 1) (Aa (pv 0) Ac)))) Aw (Au _))) (λ_ _ _=>pv 0))
   (Ae (Cg aN.never rfl (Fj rfl T.range (Aa (A0 B9 (by rfl) T.len aR (Aa (pv 3) Ac)) Ac)) (pg_name (i:=4) Jf.nd rfl (.inl rfl))
    (Ag (Cg aN.never rfl (pi_list (Bx B3 (pv 3) (Bt (Ak Bw (pv 4) Af)) B2)) (pg_name (i:=5) Jf.nd rfl (.inl rfl))
     (Ag (Ba (Av Bh (Ai FO hr rfl Aj (Aa (pv 2) (Aa (Aq A5 (pv 3) (pv 4) (λ_ _=>rfl)) (Aa (pv 5) Ac)))) Aw (Au _)) (Ag (Ao Ff)) Bc)))))
   (Ag (Ao Ff)))),?_⟩
  refine⟨_,rfl,r,row,rfl,hR,hl,λd kvs H1 nd hd wh s1=>?_⟩;refine⟨_,rfl,d,kvs,rfl,hd,λo=>?_⟩;generalize jB:upd H1 d (.frz o (.dK kvs))=H2;have s2:Same H H2:=λb u e=>by rw[<-jB,Ad (Am e nd)];exact s1 b u e
  have cU:H2 d=some (.frz o (.dK kvs)):=by rw[<-jB];exact Ab
  have tV:Wh H2 kvs row:=⟨wh.keys,λy hy=>let ⟨l,e1,e2⟩:=wh.val y hy; ⟨l,e1,by rw[<-jB,Ad (λz=>by rw[z,hd] at e2;cases e2)];exact e2⟩,wh.none,wh.nd,wh.len⟩;have dI:=wh.len;refine D2 (n:=kvs.length) (λi=>(kvs.map λp=>kV p.1).getD i .non) (λD i Z2 H3=>∃(v:Option V) (ms:Za), Z2=[v,some (.str x),some (.ref d)]/\Same H2 H3/\H3 D=some (.lst (ms.map V.str))/\(∀m∈ms,m∈row)/\ms.length<=i/\∀(j:Nat) (y:aj),j<i->(kvs.map λp=>kV p.1).getD j .non = .str y->A3 row x y->y∈ms) ?_ ?_ ?_ ?_ ?_
  ·intro D hD;exact⟨none,[],rfl,(Same.refl H2).step hD,Ab,by simp,Og _,λj y h=>absurd h (P8 _)⟩
  ·rintro D i Z2 H3 hD hi ⟨v,ms,rfl,s3,hm,eE,wx,bS⟩;exact Hn (s3 _ _ cU) hi
  ·rintro D Z2 H3 hD ⟨v,ms,rfl,s3,hm,eE,wx,bS⟩;exact Ho (s3 _ _ cU)
  ·rintro D i Z2 H3 hD hi ⟨v,ms,rfl,s3,hm,eE,wx,bS⟩;obtain⟨y,h8,j7⟩:∃y,(kvs.map λp=>kV p.1).getD i .non = .str y/\y∈row:=by
    obtain⟨y,e1,e2⟩:=wh.keys (kvs[i]'hi).1 (O0.mpr ⟨kvs[i]'hi,O5 hi,rfl⟩);refine⟨y,?_,e2⟩;simp only[List.getD,Ou,Od hi,Qt,Option.getD_some];rw[e1];rfl
   rw[h8];obtain⟨l1,e1,g1⟩:=tV.pl hx (h2 x hx);obtain⟨l2,e2,g2⟩:=tV.pl j7 (h2 y j7);refine⟨_,rfl,_,rfl,_,rfl,d,l1,l2,kvs,x,y,_,_,_,_,rfl,.inr ⟨o,s3 _ _ cU⟩,e1,e2,s3 _ _ g1,s3 _ _ g2,λH4 s4=>?_⟩;have yR:=s3.trans s4;refine⟨rfl,_,rfl,?_⟩;rw[<-Gn (h2 x hx) (h2 y j7)];refine A2 (λhc=>?_) (λhc=>wskip hi ⟨_,ms,rfl,yR,s4 _ _ hm,eE,by lia,λj z hj hz kz=>?_⟩);rotate_left
   ·by_cases ej:j=i
    ·subst ej;rw[h8] at hz;injection hz with hz
     subst hz;exact absurd (by rw[show lieR row x y = "cross" from kz]) (Xdx hc)
    ·exact bS j z (by lia) hz kz
   refine⟨_,rfl,wput hi (s4 _ _ hm) (by rw[Oc,Tb];lia) ⟨_,ms++[y],rfl,?_,by rw[Ab,Oo];rfl,?_,by rw[Op,Pq];lia,λj z hj hz kz=>?_⟩⟩
   ·intro b u e;rw[Ad (Am e hD)];exact yR b u e
   ·intro m hm;rcases Om.mp hm with z | z
    ·exact eE m z
    ·rw[Oe.mp z];exact j7
   ·by_cases ej:j=i
    ·subst ej;rw[h8] at hz;injection hz with hz
     subst hz;simp
    ·exact Pw _ (bS j z (by lia) hz kz)
  ·rintro D Z2 H3 hD ⟨v,ms,rfl,s3,hm,eE,wx,bS⟩;refine⟨_,rfl,D,_,rfl,.inl (SqL.of hm),((ms.map V.str).length:Int),rfl,by lia,by rw[Oc];lia,?_⟩;have hn:((ms.map V.str).length:Int).toNat=ms.length:=by rw[Oc];simp
   rw[hn];refine Fl (lo:=0) (n:=ms.length) (λi Z H4=>∃v1 v2, Z=[some (.ref r),some (.str x),some (.ref d),some (.ref D),v1,v2]/\Same H3 H4/\∀(p q:Nat) (y z:aj),p<i->p<q->ms[p]? = some y->ms[q]? = some z->¬A3 row y z) ?_ ?_ ?_
   ·exact⟨none,none,rfl,Same.refl _,λp q y z h=>absurd h (P8 _)⟩
   ·rintro i Z H4 hi ⟨v1,v2,rfl,s4,ho⟩;refine⟨_,rfl,_,rfl,_,_,rfl,rfl,_,rfl,D,_,rfl,SqL.of (s4 _ _ hm),λp np=>?_⟩;have e0:(0:Int)+(i:Int)+1=((i+1:Nat):Int):=by lia
    rw[e0,D6 _ _ _ (by lia)];have s5:Same H3 (upd H4 p (.lst ((ms.drop (i+1)).map V.str))):=s4.step np;refine⟨p,rfl,⟨_,SqL.of Ab⟩,?_⟩;refine Ef (K:=K) (a:=p) (xs:=(ms.drop (i+1)).map V.str) (λj Z H5=>∃v2, Z=[some (.ref r),some (.str x),some (.ref d),some (.ref D),some (.int (0+(i:Int))),v2]/\Same (upd H4 p (.lst ((ms.drop (i+1)).map V.str))) H5/\∀(q:Nat) (z:aj),q<j->ms[i+1+q]? = some z->¬A3 row (ms[i]'hi) z) ?_ ?_ ?_ ?_
    ·exact⟨_,rfl,Same.refl _,λq z h=>absurd h (P8 _)⟩
    ·rintro j Z H5 _ ⟨v2,rfl,s6,eZ⟩;exact SqL.of (s6 _ _ Ab)
    ·rintro j y Z H5 hj ⟨v2,rfl,s6,eZ⟩;obtain⟨z,rfl,hz,EU⟩:∃z,y=V.str z/\z∈ms/\ms[i+1+j]? = some z:=by
      rw[Ou] at hj;cases q:(ms.drop (i+1))[j]? with
      | none=>rw[q] at hj;cases hj
      | some z=>
       rw[q] at hj;exact⟨z,(Ov hj).symm,Pn (Q5 q),by rw[<-q,Q3]⟩
     have nX:=s5.trans s6;have gK:(ms.map V.str)[i]? = some (.str (ms[i]'hi)):=by rw[Ou,Od hi];rfl
     have lr:atI (ms.map V.str) (0+(i:Int))=some (.str (ms[i]'hi)):=by rw[S6];exact Cf gK
     obtain⟨l1,e1,g1⟩:=tV.pl (eE _ (O5 hi)) (h2 _ (eE _ (O5 hi)));obtain⟨l2,e2,g2⟩:=tV.pl (eE _ hz) (h2 _ (eE _ hz));have wz:=s3.trans nX;refine⟨_,rfl,_,rfl,_,rfl,D,_,_,_,rfl,rfl,SqL.of (nX _ _ hm),lr,_,rfl,d,l1,l2,kvs,_,z,_,_,_,_,rfl,.inr ⟨o,wz _ _ cU⟩,e1,e2,wz _ _ g1,wz _ _ g2,λH6 s7=>?_⟩;refine⟨rfl,_,rfl,?_⟩;rw[<-Gn (h2 _ (eE _ (O5 hi))) (h2 _ (eE _ hz))];refine A2 (λ_=>?_) (λhc=>?_)
     ·exact k true H6 (λe=>by cases e) ((s2.trans s3).trans (nX.trans s7))
     ·refine⟨_,rfl,s6.trans s7,λq u hq hu=>?_⟩;by_cases eq:q=j
      ·subst eq;rw[EU] at hu;have hu:=Ov hu;subst hu;exact λkz=>absurd (by rw[show lieR row (ms[i]'hi) z = "cross" from kz]) (Xdx hc)
      ·exact eZ q u (by lia) hu
    ·rintro Z H5 ⟨v2,rfl,s6,eZ⟩;refine⟨_,_,rfl,s5.trans s6,λp q y z hp vf hy hz=>?_⟩;by_cases ep:p=i
     ·subst ep;rw[Od hi] at hy;rw[<-Ov hy];refine eZ (q - (p+1)) z ?_ (by rw[show p+1+(q - (p+1))=q by lia];exact hz);have:=(Ox.mp hz).1;rw[Oc,Pj]
      lia
     ·exact ho p q y z (by lia) vf hy hz
   ·rintro Z H4 ⟨v1,v2,rfl,s4,ho⟩;refine k false H4 (λ_ y hy z hz k1 k2 k3=>?_) ((s2.trans s3).trans s4);have mem:∀u∈row,A3 row x u->u∈ms:=λu hu ku=>by
     obtain⟨l,e,_⟩:=wh.val u hu;obtain⟨j,hj,ej⟩:=Pi.mp (Hh e);rw[Oc] at hj;refine bS j u hj ?_ ku;rw[Qz] at ej;simp only[List.getD,Ou,Od hj,Qt,Option.getD_some];rw[ej];rfl
    obtain⟨p,hp,ep⟩:=Pi.mp (mem y hy k1);obtain⟨q,hq,eq⟩:=Pi.mp (mem z hz k2);have kg:ms[p]? = some y:=by rw[Od hp,ep]
    have tW:ms[q]? = some z:=by rw[Od hq,eq]
    rcases Nat.lt_trichotomy p q with h | h | h
    ·exact ho p q y z hp h kg tW k3
    ·subst h;rw[kg] at tW;have e:=Ov tW;subst e;exact E9 (h2 y hy) k3
    ·exact ho q p z y hq h tW kg (D8 (h2 y hy) (h2 z hz) k3)
def Et:FnScope NRo ["_law_draw", "_law_names_here"] (defScope sRow):=by walk_at "s"
def Xpn  (F:Fun K "_law_row" "_law_row" sRow f fd) (T:Bl mg) (FP:FnPick P w K mg base) (w4:Fn P w K mg base CX0 1 "_law_put" ["_law_row_here", "_law_name", "_law_at", "_law_to"] Xc9)
  (FB:Fn P w K mg base CX0 2 "_law_barred" ["_law_row_here", "_law_name"] spBarredN):FnOk P w K mg base CX0 3 f fd ["_law_draw", "_law_names_here"] spRowN:=by
 refine F.ok Et (by walk_at "l") ?_
 ·walk_at "i"
  obtain⟨dr,sc,nl,ns,rfl,dk,hN,w5,tX,lq,k⟩:=h;have bR:Room 1 _:=hr.mono (by decide);have dh:∀m,m<=100000->m<=sizeLine:=λm h=>by rw[Tb];lia
  refine⟨_,Ae (Ba (Av Bh (Ai FP bR rfl Aj (Aa (pv 0) (Aa Af Ac))) Af (Au _))
    (Ae (Ap (i:=2) Et.nd rfl (.inl rfl) (Ai FP bR rfl Aj (Aa (pv 0) (Aa (Ak Bw (A0 B9 (by rfl) T.len aR (Aa (pv 1) Ac)) Af) Ac))))
    (Ag (Ao (Ak Bj (Ak Bj (pv 1) (Mb (Bx B3 (pv 1) B2 (Bt (pv 2))))) (Mb (Bx B3 (pv 1) (Bt (pv 2)) B2)))))) Bc)
   (Ae (Ap (i:=3) Et.nd rfl (.inl rfl) (Bg Ac))
   (Ae (Cg aN.never rfl (pi_list (pv 1)) (pg_name (i:=4) Et.nd rfl (.inl rfl))
    (Ae (Ap (i:=5) Et.nd rfl (.inl rfl) (Ai FP bR rfl Aj (Aa (pv 0) (Aa (Ak Bw (A0 B9 (by rfl) T.len aR (Aa (pv 3) Ac)) Af) Ac))))
    (Ae (Ap (i:=6) Et.nd rfl (.inl rfl) (Ak Bw (pv 5) (Ai FP bR rfl Aj (Aa (pv 0) (Aa (Ak Xgv (Ak Bw (A0 B9 (by rfl) T.len aR (Aa (pv 3) Ac)) Af) (pv 5)) Ac)))))
    (Ae (Ap (i:=7) Et.nd rfl (.inl rfl) (Ai w4 bR rfl Aj (Aa (pv 3) (Aa (pv 4) (Aa (pv 5) (Aa (pv 6) Ac))))))
    (Ae (Ba (Dz (Ai FB hr rfl Aj (Aa (pv 7) (Aa (pv 4) Ac))))
     (Ag (Ap (i:=7) Et.nd rfl (.inl rfl) (Ak Bj (Ak Bj (Bx B3 (pv 3) B2 (Bt (pv 5))) (Bg (Aa (pv 4) (Aa (pv 4) Ac)))) (Bx B3 (pv 3) (Bt (pv 5)) B2)))) Bc)
    (Ag (Ap (i:=3) Et.nd rfl (.inl rfl) (pv 7))))))))
   (Ag (Ao (pv 3))))),?_⟩
  refine⟨_,rfl,dr,sc,4,rfl,by decide,by decide,dk,λr1 H1 _ _ d1 b1=>?_⟩;refine⟨rfl,_,rfl,?_⟩;have b1:But dr H H1:=b1;have w6:=b1 _ _ hN w5;refine A2 (λ_=>?_) (λ_=>?_)
  ·-- wv EV
   refine⟨_,rfl,_,rfl,nl,_,rfl,.inl (SqL.of w6),_,_,rfl,rfl,dr,sc,_,rfl,by lia,by rw[Oc];lia,d1,λc H2 c0 c1 d2 b2=>?_⟩;obtain⟨c,rfl⟩:=Pf c0;rw[Oc] at c1;have hc:c<=ns.length:=by lia
   have lu:=But.trans b1 b2;have w9:=b2 _ _ w6 w5;obtain⟨xs,i5⟩:=d2.at;refine⟨_,rfl,_,rfl,_,rfl,_,rfl,nl,_,rfl,SqL.of w9,λp1 n1=>?_⟩;rw[Ek _ _ _ hc];refine⟨p1,_,rfl,SqL.of Ab,λp2 n2=>?_⟩;refine⟨nl,p2,_,_,rfl,rfl,ku (ku w9 n1) n2,Ab,dh _ (by simp;lia),λp3 n3=>?_⟩;refine⟨_,rfl,_,rfl,_,rfl,nl,_,rfl,SqL.of (ku (ku (ku w9 n1) n2) n3),λp4 n4=>?_⟩;rw[D6 _ _ _ hc];refine⟨p4,_,rfl,SqL.of Ab,λp5 n5=>?_⟩;refine⟨p3,p5,_,_,rfl,rfl,ku (ku Ab n4) n5,Ab,dh _ (by simp;lia),λp6 n6=>?_⟩;have s5:=(((((Same.refl H2).go n1 n2).go n2 n3).go n3 n4).go n4 n5).go n5 n6;have f6:=s5.free n6;have jy:(ns++(ns.take c).reverse++(ns.drop c).reverse).Perm (ns++ns):=by
    rw[Pa];refine P1 ns ?_;refine((List.reverse_perm _).append (List.reverse_perm _)).trans ?_;rw[O9]
   refine k p6 (ns++(ns.take c).reverse++(ns.drop c).reverse) _ (lu.free i5 f6) (Ab.trans (by simp)) jy (noThree_grid tX c λz hz=>Gm tX jy z ?_) (d2.same (s5.step n6)) (lu.same (s5.step n6));exact jy.mem_iff.mpr (Pw _ hz)
  ·-- JQ one by one
   refine⟨by show 0<=sizeLine;decide,λp np=>?_⟩;obtain⟨EW,rS⟩:=d1.at;have s0:Same H1 (upd H1 p (.lst [])):=(Same.refl H1).step np;refine⟨_,rfl,nl,rfl,⟨_,SqL.of (s0 _ _ w6)⟩,?_⟩;refine Ef (K:=K) (a:=nl) (xs:=ns.map V.str) (λi Z H2=>∃(v2 v4 v5 v6 v7:Option V) (q:ae) (row:Za), Z=[some (.ref dr),some (.ref nl),v2,some (.ref q),v4,v5,v6,v7]/\H2 q=some (.lst (row.map V.str))/\H q=none/\q≠dr/\row.Perm (ns.take i++ns.take i)/\B6 row/\DrawOk H2 dr sc/\But dr H H2) ?_ ?_ ?_ ?_
   ·exact⟨_,_,_,_,_,p,[],rfl,Ab,b1.free rS np,(Am rS np).symm,by simp,Xlf,d1.same s0,b1.same s0⟩
   ·rintro i Z H2 _ ⟨v2,v4,v5,v6,v7,q,row,rfl,hq,nq,nY,hp,gJ,d2,b2⟩;exact SqL.of (b2 _ _ hN w5)
   ·rintro i y Z H2 hi ⟨v2,v4,v5,v6,v7,q,row,rfl,hq,nq,nY,hp,gJ,d2,b2⟩;have dt:i<ns.length:=by
     have:=(Ox.mp hi).1
     rwa [Oc] at this
    obtain⟨x,rfl,hx⟩:∃x,y=V.str x/\ns[i]? = some x:=by
     rw[Ou] at hi;cases z:ns[i]? with
     | none=>rw[z] at hi;cases hi
     | some x=>rw[z] at hi;exact⟨x,(Ov hi).symm,rfl⟩
    have tk:ns.take (i+1)=ns.take i++[x]:=by
     rw[Ow dt];rw[Od dt] at hx;rw[Ov hx]
    have qZ:row.length<=28:=by
     have:=hp.length_eq;rw[Op,Os] at this
     lia
    have wA:(ns.take i++[x]).Nodup:=by rw[<-tk];exact tX.sublist (Px ..)
    refine⟨_,rfl,_,rfl,q,_,rfl,.inl (SqL.of hq),_,_,rfl,rfl,dr,sc,_,rfl,by lia,by rw[Oc];lia,d2,λa H3 a0 a1 d3 b3=>?_⟩;obtain⟨a,rfl⟩:=Pf a0;rw[Oc] at a1;have tY:=b3 _ _ hq nY;refine⟨_,rfl,_,rfl,_,rfl,q,_,rfl,.inl (SqL.of tY),_,_,rfl,rfl,_,rfl,_,_,rfl,rfl,dr,sc,_,rfl,by rw[Oc];lia,by rw[Oc];lia,d3,λc H4 c0 c1 d4 b4=>?_⟩;obtain⟨c,rfl⟩:=Pf c0;rw[Oc] at c1;refine⟨_,_,rfl,rfl,?_⟩;have EX:(a:Int)+(c:Int)=((a+c:Nat):Int):=by lia
    dsimp only;rw[EX];have EY:a+c<=row.length:=by lia
    have wB:=b4 _ _ tY nY;have yS:=But.trans b2 (But.trans b3 b4);obtain⟨yT,iR⟩:=d4.at;refine⟨_,rfl,_,rfl,_,rfl,_,rfl,q,row,x,a,a+c,rfl,wB,by lia,by lia,EY,λl H5 yU i6 s5=>?_⟩;have d5:=d4.same s5;have FG:=yS.same s5;have rT:=yS.free iR yU;have eI:l≠dr:=(Am iR yU).symm;have gt:(E5 row x a (a+c)).Perm ((ns.take i++[x])++(ns.take i++[x])):=Xdd hp (Xc8 row x a (a+c) (by lia));have qA:(E5 row x a (a+c)).length<=1000:=by
     have:=gt.length_eq;rw[Op,Op,Os,Pq] at this
     lia
    refine⟨_,rfl,_,rfl,l,_,x,rfl,i6,qA,Gm wA gt,gt.mem_iff.mpr (by simp),λbb H6 rV s6=>?_⟩;have d6:=d5.same s6;have wC:=FG.same s6;refine⟨bb,rfl,?_⟩;have rW:∀y∈row,row.count y=2:=Gm (tX.sublist (Px ..)) hp;refine A2 (λ_=>?_) (λFJ=>?_)
    ·have yV:=s6 _ _ (s5 _ _ wB);refine⟨_,rfl,_,rfl,_,rfl,q,_,rfl,SqL.of yV,λp1 n1=>?_⟩;rw[Ek _ _ _ (by lia)];refine⟨_,rfl,_,rfl,by show 2<=sizeLine;decide,λp2 n2=>?_⟩;refine⟨p1,p2,_,_,rfl,rfl,ku Ab n2,Ab,dh _ (by simp;lia),λp3 n3=>?_⟩;refine⟨_,rfl,_,rfl,_,rfl,q,_,rfl,SqL.of (ku (ku (ku yV n1) n2) n3),λp4 n4=>?_⟩;rw[D6 _ _ _ (by lia)];refine⟨p3,p4,_,_,rfl,rfl,ku Ab n4,Ab,dh _ (by simp;lia),λp5 n5=>?_⟩;have wD:=((((Same.refl H6).go n1 n2).go n2 n3).go n3 n4).go n4 n5;have f5:=wD.free n5;obtain⟨FM,hX⟩:=d6.at;have pN:(row.take a++[x,x]++row.drop a).Perm (x::x::row):=by
      have e:row.take a++[x,x]++row.drop a=row.take a++x::x::row.drop a:=by simp
      rw[e];refine Rf.trans (List.Perm.cons x (Rf.trans (List.Perm.cons x ?_)));rw[O9]
     have pM:=Xdd hp pN;have nZ:=Gm wA pM;refine⟨_,rfl,_,_,_,_,_,p5,row.take a++[x,x]++row.drop a,rfl,Ab.trans (by simp),wC.free hX f5,(Am hX f5).symm,by rw[tk];exact pM,?_,d6.same (wD.step n5),wC.same (wD.step n5)⟩;refine Xdv (x:=x) gJ rW nZ (λy hy=>?_) (λp hp=>Xli hp) (λy hy z hz ky=>absurd ky (Xlh (nZ x (by simp)) (nZ y hy)));have:=pN.mem_iff.mp hy;simp only[Ot] at this;rcases this with h | h | h
     ·exact .inl h
     ·exact .inl h
     ·exact .inr h
    ·refine⟨_,rfl,_,_,_,_,_,l,_,rfl,s6 _ _ i6,rT,eI,by rw[tk];exact gt,?_,d6,wC⟩;refine Xdv (x:=x) gJ rW (Gm wA gt) (λy hy=>?_) (λp hp=>Xlg (by lia) hp) (rV FJ);have:=(Xc8 row x a (a+c) (by lia)).mem_iff.mp hy;simp only[Ot] at this;rcases this with h | h | h
     ·exact .inl h
     ·exact .inl h
     ·exact .inr h
   ·rintro Z H2 ⟨v2,v4,v5,v6,v7,q,row,rfl,hq,nq,nY,hp,gJ,d2,b2⟩;rw[Oc,Pl] at hp;exact⟨_,rfl,k q row H2 nq hq hp gJ d2 b2⟩
def Fe:FnScope NNa ["_law_draw", "_law_many"] (defScope sNames):=by walk_at "s"
def Xpo  (F:Fun K "_law_names" "_law_names" sNames f fd) (T:Bl mg) (FP:FnPick P w K mg base):FnOk P w K mg base CX0 2 f fd ["_law_draw", "_law_many"] Xdc:=by
 refine F.ok Fe (by walk_at "l") ?_
 ·walk_at "i"
  obtain⟨dr,sc,n,rfl,hn,dk,k⟩:=h;refine⟨_,Ae (Ap (i:=2) Fe.nd rfl (.inl rfl) Aw)
   (Ae (Ap (i:=3) Fe.nd rfl (.inl rfl) (Ai FP hr rfl Aj (Aa (pv 0) (Aa Af Ac))))
   (Ae (Ap (i:=4) Fe.nd rfl (.inl rfl) (Cz Bh (Ai FP hr rfl Aj (Aa (pv 0) (Aa Af Ac))) Af (Au _)))
   (Ae (Ap (i:=5) Fe.nd rfl (.inl rfl) (Bg Ac))
   (Ae (Cg aN.never rfl (Fj rfl T.range (Aa (pv 1) Ac)) (pg_name (i:=6) Fe.nd rfl (.inl rfl))
    (Ae (Ap (i:=7) Fe.nd rfl (.inl rfl) (Aq Xhg (pv 2) (Ak F8 (Ak Bw (pv 3) (pv 6)) Af) (λ_ _=>rfl)))
    (Ae (Ap (i:=8) Fe.nd rfl (.inl rfl) (Ak Xip Aw (Ak F8 (Ak Bw (pv 3) (Ak Xaj (pv 6) (pv 6))) Af)))
    (Ag (F7 (Jv PySem.F.plainAttrs_list PySem.F.slot_list_append PySem.F.type_list_append Jw (pv 5)
     (Aa (Fh (Dz (pv 4)) (Ak Jq (Ak Jq (pv 8) (pv 7)) Aw) (Ak Jq (pv 7) (pv 8))) Ac)))))))
   (Ag (Ao (pv 5))))))),?_⟩
  refine⟨_,rfl,dr,sc,26,rfl,by decide,by decide,dk,λr1 H1 yW JR d1 b1=>?_⟩;refine⟨_,rfl,dr,sc,2,rfl,by decide,by decide,d1,λr2 H2 yX JS d2 b2=>?_⟩;refine⟨rfl,?_⟩;refine⟨by show 0<=sizeLine;decide,λl nl=>?_⟩;obtain⟨st,rfl⟩:=Pf yW;have bi:st<26:=by lia
  generalize aZ:decide (V.int r2=V.int 1)=aJ;have lu:But dr H H2:=But.trans b1 b2;obtain⟨xs,i5⟩:=d2.at;have rT:H l=none:=lu.free i5 nl;obtain⟨eI,tZ⟩:=d2.ne nl;refine⟨_,rfl,(n:Int),rfl,by lia,by lia,?_⟩;rw[Q6];refine Fl (lo:=0) (n:=n) (λi Z H3=>∃v1 v2 v3, Z=[some (.ref dr),some (.int n),some (.str Fu),some (.int st),some (.bl aJ),some (.ref l),v1,v2,v3]/\H3 l=some (.lst ((Bb st aJ i).map V.str))/\DrawOk H3 dr sc/\But dr H H3) ?_ ?_ ?_
  ·exact⟨none,none,none,rfl,Ab,d2.upd eI tZ,lu.upd rT⟩
  ·rintro i Z H3 hi ⟨v1,v2,v3,rfl,og,d3,b3⟩;have FQ:((st:Int)+(0+(i:Int))) % 26=(((st+i) % 26:Nat):Int):=by lia
   have FV:(st+i) % 26<26:=Nat.mod_lt _ (by decide);have FX:((0:Int)+(i:Int)) * (0+(i:Int))=((i * i:Nat):Int):=by rw[S6];exact(Int.natCast_mul i i).symm
   have h7:(st+i * i) % 7<7:=Nat.mod_lt _ (by decide);have e7:((st:Int)+((i * i:Nat):Int)) % 7=(((st+i * i) % 7:Nat):Int):=by
    generalize i * i=j
    lia
   refine⟨_,rfl,_,rfl,_,rfl,_,_,rfl,rfl,_,_,rfl,rfl,(by show (0:Int)<26;decide),_,_,_,rfl,rfl,(by show 26<=sizeLine;decide),by rw[FQ];exact Xkr FV,?_⟩;refine⟨_,rfl,_,rfl,_,rfl,_,_,rfl,rfl,.inl ⟨by lia,by lia⟩,_,_,rfl,rfl,_,_,rfl,rfl,(by show (0:Int)<7;decide),?_⟩;have wE:((st:Int)+((0:Int)+(i:Int)) * (0+(i:Int))) % 7=(((st+i * i) % 7:Nat):Int):=by rw[FX,e7]
   refine⟨_,_,rfl,rfl,by rw[wE];lia,by rw[wE];lia,by show 1<=1000;decide,?_⟩;rw[wE,Q6];have qZ:(repS "m" ((st+i * i) % 7)).length<=6:=by
    rw[Mc];have:(aj.ofString "m").length=1:=rfl;rw[this]
    lia
   have uM:(signOf ((st+i) % 26)).length=1:=rfl;have lq:(Bb st aJ i).length=i:=by unfold Bb;simp
   have rX:Bb st aJ (i+1)=Bb st aJ i++[Ie st aJ i]:=by unfold Bb;rw[P0,Oo];rfl
   have dh:∀m,m<=100000->m<=sizeLine:=λm h=>by rw[Tb];lia
   have fin:∀z:aj,Ie st aJ i=z->Lu (.ref l) [.str z] H3 λ_ H4=>∃v1 v2 v3,[some (V.ref dr),some (.int n),some (.str Fu),some (.int st),some (.bl aJ),some (.ref l),some (.int (0+(i:Int))),some (.str (signOf ((st+i) % 26))),some (.str (repS "m" ((st+i * i) % 7)))]=[some (.ref dr),some (.int n),some (.str Fu),some (.int st),some (.bl aJ),some (.ref l),v1,v2,v3]/\H4 l=some (.lst ((Bb st aJ (i+1)).map V.str))/\DrawOk H4 dr sc/\But dr H H4:=λz hz=>by
    refine⟨l,_,_,rfl,rfl,og,by rw[Oc,lq,Tb];lia,_,_,_,rfl,?_,d3.upd eI tZ,b3.upd rT⟩;rw[Ab,rX,Oo,<-hz];rfl
   refine⟨_,rfl,.inl ⟨rfl,_,SqL.of og⟩,_,rfl,aJ,rfl,?_⟩;refine A2 (λhL=>?_) (λhL=>?_)
   ·refine⟨_,rfl,_,rfl,_,_,rfl,rfl,dh _ (by show (repS "m" ((st+i * i) % 7)).length+1<=100000;lia),_,_,rfl,rfl,dh _ ?_,fin _ (by unfold Ie;rw[Td hL];rfl)⟩;rw[Ei];show (repS "m" ((st+i * i) % 7)).length+1+1<=100000
    lia
   ·exact⟨_,rfl,_,rfl,_,_,rfl,rfl,dh _ (by show 1+(repS "m" ((st+i * i) % 7)).length<=100000;lia),fin _ (by unfold Ie;rw[Tc (by rw[hL];decide)];rfl)⟩
  ·rintro Z H3 ⟨v1,v2,v3,rfl,og,d3,b3⟩;exact⟨_,rfl,k l st aJ H3 rT bi og tZ d3 b3⟩
def Oa:FnScope NIsF ["_law_draw", "_law_most"] (defScope sIsland):=by walk_at "s"
def Xpp  (F:Fun K "_law_island" "_law_island" sIsland f fd) (T:Bl mg) (FP:FnPick P w K mg base) (FN:Fn P w K mg base CX0 2 "_law_names" ["_law_draw", "_law_many"] Xdc)
  (FR:Fn P w K mg base CX0 3 "_law_row" ["_law_draw", "_law_names_here"] spRowN):FnOk P w K mg base CX0 4 f fd ["_law_draw", "_law_most"] spIslandN:=by
 refine F.ok Oa (by walk_at "l") ?_
 ·walk_at "i"
  obtain⟨dr,sc,m,rfl,hm,dk,k⟩:=h;have bR:Room 1 _:=hr.mono (by decide);have eX:Room 2 _:=hr.mono (by decide);refine⟨_,Ae (Ap (i:=2) Oa.nd rfl (.inl rfl) (Ak Bw Af (Ai FP bR rfl Aj (Aa (pv 0) (Aa Af Ac)))))
   (Ae (Ap (i:=3) Oa.nd rfl (.inl rfl) (Aq Eg (Bi (Aa (Ai FP bR rfl Aj (Aa (pv 0) (Aa Af Ac))) (Aa (pv 2) (Aa (Ai FP bR rfl Aj (Aa (pv 0) (Aa (Ak Bw (pv 1) Af) Ac))) Ac))))
    (Ai FP bR rfl Aj (Aa (pv 0) (Aa Af Ac))) (λ_ _=>rfl)))
   (Ag (Ao (Ai FR hr rfl Aj (Aa (pv 0) (Aa (Ai FN eX rfl Aj (Aa (pv 0) (Aa (A0 (Xg1 rfl) (by rfl) T.min boot_min (Aa (pv 3) (Aa (pv 1) Ac))) Ac))) Ac)))))),?_⟩
  refine⟨_,rfl,dr,sc,5,rfl,by decide,by decide,dk,λr1 H1 yW _ d1 b1=>⟨_,_,rfl,rfl,?_⟩⟩;refine⟨_,rfl,dr,sc,5,rfl,by decide,by decide,d1,λr2 H2 yX _ d2 b2=>?_⟩;refine⟨_,rfl,_,rfl,_,rfl,_,_,rfl,rfl,dr,sc,_,rfl,by lia,by lia,d2,λr3 H3 FY _ d3 b3=>?_⟩;have b1:But dr H H1:=b1;have rY:But dr H H3:=But.trans b1 (But.trans b2 b3);refine⟨by show 3<=sizeLine;decide,λp np=>?_⟩;obtain⟨rZ,ne2⟩:=d3.ne np;obtain⟨JT,wF⟩:=d3.at;have FZ:=rY.free wF np;refine⟨_,rfl,dr,sc,3,rfl,by decide,by decide,d3.upd rZ ne2,λr4 H4 Go JU d4 b4=>?_⟩;have b4:But dr (L2.upd H3 p (.tup [.int r2,.int (2+r1),.int r3])) H4:=b4;have G':=b4 p _ Ab rZ;have GA:But dr H H4:=But.trans (rY.upd FZ) b4;obtain⟨mm,wG,ua⟩:∃mm:Int,0<=mm/\atI ([.int r2,.int (2+r1),.int r3]:List V) r4=some (.int mm):=by
   obtain⟨i,rfl⟩:=Pf Go;have hi:i<3:=by lia
   match i,hi with
   | 0,_=>exact⟨r2,yX,rfl⟩
   | 1,_=>exact⟨2+r1,by lia,rfl⟩
   | 2,_=>exact⟨r3,FY,rfl⟩
  refine⟨p,_,_,_,rfl,rfl,SqT.of G',ua,?_⟩;obtain⟨n,hn,GB⟩:∃n:Nat,(if (m:Int)<mm then (m:Int) else mm)=(n:Int)/\n<=m:=by
   obtain⟨j,rfl⟩:=Pf wG;by_cases hj:(m:Int)<(j:Int)
   ·exact⟨m,Td hj,Og _⟩
   ·exact⟨j,Tc hj,by lia⟩
  refine⟨_,rfl,_,rfl,_,rfl,_,rfl,_,_,rfl,?_⟩;rw[hn];refine⟨dr,sc,n,rfl,by lia,d4,λl st aJ H5 nl bi i6 tZ d5 b5=>?_⟩;obtain⟨yT,iR⟩:=d4.at;have eI:l≠dr:=(Am iR nl).symm;have yY:=But.trans GA b5;refine⟨dr,sc,l,_,rfl,d5,i6,eI,M6 bi (by lia),by unfold Bb;simp;lia,λl2 row H6 wH ph hp gJ d6 b6=>?_⟩;obtain⟨JV,wI⟩:=d5.at;exact k l2 row n st aJ H6 (yY.free wI wH) GB bi ph hp gJ d6 (But.trans yY b6)
def Xpq:FnScope ["_law_draw", "_law_most"] ["_law_draw", "_law_most"] (defScope s__law_island_to):=by walk_at "s"
def Xpr  (F:Fun K "_law_island_to" "_law_island_to" s__law_island_to f fd) (T:Bl mg) (FP:FnPick P w K mg base) (FI:Fn P w K mg base CX0 4 "_law_island" ["_law_draw", "_law_most"] spIslandN):FnOk P w K mg base CX0 5 f fd ["_law_draw", "_law_most"] spIslTo:=by
 refine F.ok Xpq (by walk_at "l") ?_
 ·walk_at "i"
  obtain⟨dr,sc,m,rfl,hm,d,k⟩:=h;have bR:Room 1 _:=hr.mono (by decide);refine⟨_,Ag (Ao (Ai FI hr (by rfl) Aj (Aa (pv 0) (Aa (Aq Eg (Bi (Aa (pv 1) (Aa Af Ac)))
   (Cq Jr (by rfl) T.int (by rfl) (Aa (Cz Bh (Ai FP bR (by rfl) Aj (Aa (pv 0) (Aa Af Ac))) Af (Au _)) Ac)) (λ_ _=>rfl)) Ac)))),?_⟩
  refine⟨_,rfl,_,rfl,by show 2<=sizeLine;decide,λt nt=>?_⟩;obtain⟨n1,n2⟩:=d.ne nt;refine⟨_,rfl,dr,sc,8,rfl,by decide,by decide,d.upd n1 n2,λg H4 _ _ d4 b4=>?_⟩;have b4:But dr (L2.upd H t (.tup [.int m,.int 14])) H4:=b4;have gY:=b4 t _ Ab n1;have lv:But dr H H4:=But.trans ((But.refl dr H).upd nt) b4;have fin:∀mm:Nat,mm<=14->spIslandN [.ref dr,.int mm] H4 Q E0:=λmm ua=>⟨dr,sc,mm,rfl,ua,d4,λl row n st aJ H' nl hn bi hl hp h3 d' b'=>by
   obtain⟨xs,hd⟩:=d4.at;exact k l row n st aJ H' (lv.free hd nl) (Pb hn ua) bi hl hp h3 d' (lv.trans b')⟩
  refine⟨rfl,.inr ⟨_,rfl,?_⟩⟩;cases decide (V.int g=V.int 1) with
  | true=>exact⟨t,_,_,_,rfl,rfl,SqT.of gY,rfl,fin 14 (by decide)⟩
  | false=>exact⟨t,_,_,_,rfl,rfl,SqT.of gY,rfl,fin m hm⟩
def G3:FnScope NBr ["_law_row_here"] (defScope s__law_bars):=by walk_at "s"
def Xps  (F:Fun K "_law_bars" "_law_bars" s__law_bars f fd) (T:Bl mg) (FW:Fn P w K mg base CX0 1 "_law_where" ["_law_row_here"] M4)
  (FO:Fn P w K mg base CX0 1 "_law_word" ["_law_where_here", "_law_one_here", "_law_other"] spWord):FnOk P w K mg base CX0 2 f fd ["_law_row_here"] spBars:=by
 refine F.ok G3 (by walk_at "l") ?_
 ·walk_at "i"
  obtain⟨r,row,rfl,hR,R2,k⟩:=h;refine⟨_,Ae (Ap (i:=1) G3.nd rfl (.inl rfl) (Ai FW hr (by rfl) Aj (Aa (pv 0) Ac)))
   (Ae (Ap (i:=2) G3.nd rfl (.inl rfl) (Bg Ac))
   (Ae (Cg aN.never rfl (pi_list (A0 (Xcc rfl) (by rfl) T.sorted (by rfl) (Aa (pv 1) Ac))) (pg_name (i:=3) G3.nd rfl (.inl rfl))
    (Ag (Cg aN.never rfl (pi_list (A0 (Xcc rfl) (by rfl) T.sorted (by rfl) (Aa (pv 1) Ac))) (pg_name (i:=4) G3.nd rfl (.inl rfl))
     (Ae (Ap (i:=5) G3.nd rfl (.inl rfl) (Ai FO hr (by rfl) Aj (Aa (pv 1) (Aa (pv 3) (Aa (pv 4) Ac)))))
     (Ag (Ba (F6 (Av Bh (pv 5) Aw (Au _)) (G6 (Ex (Av Bh (pv 5) Aw (Au _)) (Ew (Av Xaq (pv 3) (pv 4) (Au _)))).pt)).pt
      (Ag (F7 (Jv PySem.F.plainAttrs_list PySem.F.slot_list_append PySem.F.type_list_append Jw (pv 2) (Aa (Bi (Aa (pv 3) (Aa (pv 4) (Aa (pv 5) Ac)))) Ac)))) Bc))))))
   (Ag (Ao (pv 2))))),?_⟩
  have qZ:=R2.len;have kQ:=Fr row;refine⟨_,rfl,r,row,rfl,hR,by lia,λd kvs H1 nd hd wh s1=>?_⟩;obtain⟨ss,gf,yZ,za⟩:=wh.names;have uM:ss.length<=60:=by
   have h1:=congrArg List.length gf;rw[Oc,Oc] at h1;have:=wh.len
   lia
  refine⟨by show 0<=sizeLine;decide,λu nu=>?_⟩;refine⟨_,rfl,d,kvs,ss,rfl,.inl (ku hd nu),gf,by lia,λsn ls wJ wK GC=>?_⟩;rw[Xch wK GC yZ za];have GD:∀{xs:List V},upd (upd H1 u (.lst [])) sn (.lst xs) u=some (.lst []):=λ{xs}=>ku Ab wJ;have s2:Same H1 (upd (upd H1 u (.lst [])) sn (.lst ((dit row).map V.str))):=((Same.refl H1).step nu).step wJ;have oh:upd (upd H1 u (.lst [])) sn (.lst ((dit row).map V.str)) sn=some (.lst ((dit row).map V.str)):=Ab;have GE:sn≠u:=(Am (H:=upd H1 u (.lst [])) Ab wJ).symm;have lW:upd (upd H1 u (.lst [])) sn (.lst ((dit row).map V.str)) u=some (.lst []):=GD;generalize upd (upd H1 u (.lst [])) sn (.lst ((dit row).map V.str))=H2 at s2 oh lW;have GF:∀(i j:Nat),i<=60->∀x,((Di row i++C8 row x ((dit row).take j)).map trD).length<=5000:=λi j hi x=>by
   rw[Oc,Op];have h1:=Xlc row i;have h2:=Xds row x ((dit row).take j);rw[Os] at h2;have h3:i * (dit row).length<=60 * 60:=Nat.mul_le_mul hi (by lia)
   lia
  have dW:∀b o,H1 b=some o->hid u H2 b=some o:=λb o e=>E2 (s2 _ _ e) (Am e nu);refine⟨sn,rfl,⟨_,SqL.of oh⟩,?_⟩;refine Ef (K:=K) (a:=sn) (xs:=(dit row).map V.str) (λi Z H9=>∃v3 v4 v5, Z=[some (.ref r),some (.ref d),some (.ref u),v3,v4,v5]/\Same (hid u H2) H9/\∃xs,H9 u=some (.lst xs)/\DAll (hid u H9) ((Di row i).map trD) xs) ?_ ?_ ?_ ?_
  ·exact⟨none,none,none,rfl,Gk u H2,[],lW,Dh⟩
  ·rintro i Z H9 _ ⟨v3,v4,v5,rfl,s9,_⟩;exact SqL.of (s9 _ _ (E2 oh GE))
  ·rintro i y Z H9 hi ⟨v3,v4,v5,rfl,s9,xs,ub,en⟩;have dt:i<(dit row).length:=by
    have:=(Ox.mp hi).1
    rwa [Oc] at this
   obtain⟨x,rfl,hx⟩:∃x,y=V.str x/\(dit row).getD i aj.empty=x:=by
    rw[Ou,Od dt] at hi;exact⟨_,(Ov hi).symm,by simp[List.getD,dt]⟩
   have lg:x∈row:=Ar.mp (by rw[<-hx];exact Ds dt);refine⟨_,rfl,d,kvs,ss,rfl,.inl (s9 _ _ (dW _ _ hd)),gf,by lia,λom JW se m9 oG=>?_⟩;rw[Xch m9 oG yZ za];have jt:Same H9 (upd H9 om (.lst ((dit row).map V.str))):=(Same.refl H9).step se;have jE:upd H9 om (.lst ((dit row).map V.str)) om=some (.lst ((dit row).map V.str)):=Ab;have wL:om≠u:=(Am ub se).symm;generalize upd H9 om (.lst ((dit row).map V.str))=uc at jt jE;have sf:=DAll.same (Ib (D:=u) jt) _ _ en;have wM:=jt _ _ ub;have zb:=s9.trans jt;refine⟨om,rfl,⟨_,SqL.of jE⟩,?_⟩;refine Ef (K:=K) (a:=om) (xs:=(dit row).map V.str) (λj Z on=>∃v4 v5, Z=[some (.ref r),some (.ref d),some (.ref u),some (.str x),v4,v5]/\Same (hid u uc) on/\∃xs,on u=some (.lst xs)/\DAll (hid u on) ((Di row i++C8 row x ((dit row).take j)).map trD) xs) ?_ ?_ ?_ ?_
   ·exact⟨v4,v5,rfl,Gk u uc,xs,wM,by simpa [C8] using sf⟩
   ·rintro j Z on _ ⟨v4,v5,rfl,pj,_⟩;exact SqL.of (pj _ _ (E2 jE wL))
   ·rintro j z Z on hj ⟨v4,v5,rfl,pj,xs,oo,i8⟩;have oq:j<(dit row).length:=by
     have:=(Ox.mp hj).1
     rwa [Oc] at this
    obtain⟨y,rfl,hy⟩:∃x,z=V.str x/\(dit row).getD j aj.empty=x:=by
     rw[Ou,Od oq] at hj;exact⟨_,(Ov hj).symm,by simp[List.getD,oq]⟩
    have mY:y∈row:=Ar.mp (by rw[<-hy];exact Ds oq);have c1:=R2.two x lg;have c2:=R2.two y mY;have bb:∀b o,H1 b=some o->on b=some o:=λb o e=>pj _ _ (E2 (zb _ _ (dW b o e)) (Am e nu));obtain⟨l1,e1,g1⟩:=wh.two' lg c1;obtain⟨l2,e2,g2⟩:=wh.two' mY c2;refine⟨_,rfl,_,rfl,_,rfl,d,l1,l2,kvs,x,y,_,_,_,_,rfl,.inl (bb _ _ hd),e1,e2,bb _ _ g1,bb _ _ g2,λsh iM=>?_⟩;rw[<-Gn c1 c2];have lw:=iM _ _ oo;have jF:=DAll.same (Ib (D:=u) iM) _ _ i8;have lu:=pj.trans iM;have gH:=Xlb row x oq;rw[hy] at gH;have stay:Cu row x y=false->∃v4 v5,[some (V.ref r),some (.ref d),some (.ref u),some (.str x),some (.str y),some (.str (lieR row x y))]=[some (.ref r),some (.ref d),some (.ref u),some (.str x),v4,v5]/\Same (hid u uc) sh/\∃xs,sh u=some (.lst xs)/\DAll (hid u sh) ((Di row i++C8 row x ((dit row).take (j+1))).map trD) xs:=λhk=>by
     refine⟨_,_,rfl,lu,xs,lw,?_⟩;rw[gH,hk,Tc Oz,Ps];exact jF
    have app:Cu row x y=true->Xad (tBM K "list" Lu (Eu 2) (F9 (Xau (F9 (Eu 3) (F9 (Eu 4) (F9 (Eu 5) Js)))) Js)) {nx:=fun Z H=>∃v4 v5, Z=[some (.ref r),some (.ref d),some (.ref u),some (.str x),v4,v5]/\Same (hid u uc) H/\∃xs,H u=some (.lst xs)/\DAll (hid u H) ((Di row i++C8 row x ((dit row).take (j+1))).map trD) xs,rt:=Q} [some (V.ref r),some (.ref d),some (.ref u),some (.str x),some (.str y),some (.str (lieR row x y))] sh:=λhk=>by
     refine⟨_,rfl,.inl ⟨rfl,_,SqL.of lw⟩,_,rfl,_,rfl,_,rfl,by show 3<=sizeLine;decide,λp np=>?_⟩;have tQ:xs.length<=5000:=by
      rw[Gg jF];exact GF i j (by lia) x
     refine⟨u,_,_,rfl,rfl,ku lw np,by rw[Tb];lia,?_⟩;refine⟨_,_,rfl,?_,xs++[.ref p],Ab,?_⟩
     ·intro b o e;have nb:b≠u:=λz=>by rw[z] at e;unfold hid at e;rw[Td rfl] at e;cases e
      rw[Ad nb,Ad (Am (lu _ _ e) np)];exact lu _ _ e
     ·rw[Xcy,gH,hk,Td rfl,<-Pa,Oo];refine J8 (DAll.same (Ib (D:=u) ((Same.refl sh).step np)) _ _ jF) ?_;exact Xcz lw np (Mw [x,y,lieR row x y])
    refine⟨_,rfl,rfl,_,rfl,?_⟩;rw[En];refine A2 (λq1=>?_) (λq1=>?_)
    ·exact Br (app (by unfold Cu;rw[q1];rfl))
    ·refine⟨_,rfl,rfl,_,rfl,?_⟩;rw[En];refine A2 (λq2=>?_) (λq2=>?_)
     ·refine⟨_,rfl,_,rfl,_,_,rfl,rfl,_,rfl,?_⟩;refine A2 (λq3=>?_) (λq3=>?_)
      ·refine app ?_;unfold Cu;have wO:decide (ltS x y)=true:=q3;rw[q2,wO,Bool.and_self,S5]
      ·refine stay ?_;unfold Cu;have wO:decide (ltS x y)=false:=q3;rw[q1,wO,Bool.and_false,Sy]
     ·refine Bq (stay ?_);unfold Cu;rw[q1,q2,Qe,Sy]
   ·rintro Z on ⟨v4,v5,rfl,pj,xs,oo,i8⟩;rw[Oc,Pl] at i8;refine⟨_,_,_,rfl,λb o e=>?_,xs,oo,?_⟩
    ·have nb:b≠u:=λz=>by rw[z] at e;unfold hid at e;rw[Td rfl] at e;cases e
     exact pj _ _ (E2 (zb _ _ e) nb)
    ·rw[Xla row dt,hx];exact i8
  ·rintro Z H9 ⟨v3,v4,v5,rfl,s9,xs,ub,en⟩;rw[Oc,Xk9] at en;refine⟨_,rfl,k u xs H9 (s1.free nu) ub (DAll.same (Gk u H9) _ _ en) (λb o e=>s9 _ _ (dW _ _ (s1 _ _ e)))⟩
def K7:FnScope NFi ["_law_bars_here", "_law_plot"] (defScope s__law_fits):=by walk_at "s"
def Xpt  (F:Fun K "_law_fits" "_law_fits" s__law_fits f fd):FnOk P w K mg base CX0 1 f fd ["_law_bars_here", "_law_plot"] Xdr:=by
 refine F.ok K7 (by walk_at "l") ?_
 ·walk_at "i"
  obtain⟨b,p,xs,bs,ss,rfl,hB,en,hP,k⟩:=h;refine⟨_,Ae (Cg aN.never rfl (pi_list (pv 0)) (Lf (n:=3) rfl (Bz (pg_name (i:=2) K7.nd rfl (.inl rfl)) (Bz (pg_name (i:=3) K7.nd rfl (.inl rfl)) (Bz (pg_name (i:=4) K7.nd rfl (.inl rfl)) D0))))
    (Ag (Ba (Ex (Av Ju (pv 2) (pv 1) (by rfl)) (Ew (Av Jp (Cz Ju (pv 3) (pv 1) (by rfl)) (Cz Bh (pv 4) Aw (Au _)) (Au _)))).pt (Ag (Ao Ff)) Bc)))
   (Ag (Ao Ff)),?_⟩
  refine⟨_,rfl,b,rfl,⟨_,SqL.of hB⟩,?_⟩;have tQ:xs.length=bs.length:=by rw[Gg en,Oc]
  refine Ef (K:=K) (a:=b) (xs:=xs) (λi Z H2=>∃v2 v3 v4, Z=[some (.ref b),some (.ref p),v2,v3,v4]/\Same H H2/\C7 (bs.take i) ss=true) ?_ ?_ ?_ ?_
  ·exact⟨none,none,none,rfl,Same.refl H,rfl⟩
  ·rintro i Z H2 _ ⟨v2,v3,v4,rfl,s2,_⟩;exact SqL.of (s2 _ _ hB)
  ·rintro i y Z H2 hi ⟨v2,v3,v4,rfl,s2,hf⟩;have dt:i<xs.length:=(Ox.mp hi).1;have zc:i<bs.length:=by lia
   obtain⟨v,hv,dv⟩:=Mv en (show (bs.map trD)[i]? = some (trD bs[i]) by rw[Ou,Od zc];rfl);rw[hi] at hv;cases hv;obtain⟨q,rfl,hq⟩:=Xk8 dv;have df:bs.take (i+1)=bs.take i++[bs[i]]:=Ow zc;generalize bs[i]=t at *;have pq:C7 (bs.take (i+1)) ss = !(decide (t.1∈ss) && !decide (decide (t.2.1∈ss)=decide (t.2.2 = "within"))):=by
    rw[df];unfold C7 at hf ⊢;rw[List.all_append,hf,Qp];simp
   have tS:(decide (t.1∈ss) && !decide (decide (t.2.1∈ss)=decide (t.2.2 = "within")))=true->C7 bs ss=false:=λhb=>by
    rw[Q8];intro z;have hz:C7 (bs.take (i+1)) ss=true:=by
     unfold C7 at z ⊢;rw[O6] at z ⊢;exact λx hx=>z x (Pm hx)
    rw[pq,hb] at hz;cases hz
   refine⟨q,_,rfl,SqT.of (s2 _ _ hq),rfl,_,_,rfl,_,_,rfl,_,_,rfl,rfl,?_⟩;refine⟨_,rfl,_,rfl,p,_,rfl,.inr (SqT.of (s2 _ _ hP)),rfl,El ss,_,rfl,?_⟩;rw[Tc (by decide),E1];refine A2 (λq1=>?_) (λq1=>?_)
   ·refine⟨_,rfl,_,rfl,p,_,rfl,.inr (SqT.of (s2 _ _ hP)),rfl,El ss,_,rfl,rfl,rfl,_,rfl,?_⟩;rw[Tc (by decide),E1,En];have eb:(!decide (V.bl (decide (t.2.1∈ss))=V.bl (decide (t.2.2 = "within")))) = !decide (decide (t.2.1∈ss)=decide (t.2.2 = "within")):=by
     congr 1;rw[Qf,decide_eq_true_eq,decide_eq_true_eq];exact⟨λz=>by injection z,λz=>by rw[z]⟩
    rw[eb];refine A2 (λq2=>?_) (λq2=>?_)
    ·have:=k H2 s2;rw[tS (by rw[q1,q2];rfl)] at this;exact this
    ·exact⟨_,_,_,rfl,s2,by rw[pq,q1,q2];rfl⟩
   ·exact Bq ⟨_,_,_,rfl,s2,by rw[pq,q1];rfl⟩
  ·rintro Z H2 ⟨v2,v3,v4,rfl,s2,hf⟩;rw[tQ,Pl] at hf;have:=k H2 s2;rw[hf] at this;exact this
def Db:FnScope NPl ["_law_row_here"] (defScope s__law_plots):=by walk_at "s"
def Xpu  (F:Fun K "_law_plots" "_law_plots" s__law_plots f fd) (T:Bl mg) (wP:Fn P w K mg base CX0 1 "_law_fits" ["_law_bars_here", "_law_plot"] Xdr)
  (wQ:Fn P w K mg base CX0 2 "_law_bars" ["_law_row_here"] spBars):FnOk P w K mg base CX0 3 f fd ["_law_row_here"] spPlotsO:=by
 refine F.ok Db (by walk_at "l") ?_
 ·walk_at "i"
  obtain⟨r,row,rfl,hR,R2,h3,tN,k⟩:=h;have hu4:_+4<bj:=Ru (Nat.add_le_add_left (by decide:4<=64) _) hr.units;have bR:Room 1 _:=hr.mono (by decide);have eX:Room 2 _:=hr.mono (by decide);refine⟨_,Ae (Ap (i:=1) Db.nd rfl (.inl rfl) (Ai wQ eX (by rfl) Aj (Aa (pv 0) Ac)))
   (Ae (Ap (i:=2) Db.nd rfl (.inl rfl) (Xdq (i:=0) rfl (by rfl) T.sorted (by rfl) T.set (pv 0)))
   (Ae (Ap (i:=3) Db.nd rfl (.inl rfl) (Bg (Aa (Bi Ac) Ac)))
   (Ae (Ap (i:=4) Db.nd rfl (.inl rfl) (Bg (Aa (Bi Ac) Ac)))
   (Ae (Cg aN.never rfl (Fj rfl T.range (Aa (A0 B9 (by rfl) T.len aR (Aa (pv 2) Ac)) Ac)) (pg_name (i:=5) Db.nd rfl (.inl rfl))
    (Ae (Ap (i:=6) Db.nd rfl (.inl rfl) (Bg Ac))
    (Ae (Cg aN.never rfl (pi_list (pv 4)) (pg_name (i:=7) Db.nd rfl (.inl rfl))
     (Ag (Cg aN.never rfl (pi_list (pv 2)) (pg_name (i:=8) Db.nd rfl (.inl rfl))
      (Ae (Ap (i:=9) Db.nd rfl (.inl rfl) (Cq Xa6 (by rfl) T.tuple (by rfl) (Aa (A0 Xlp (by rfl) T.sorted (by rfl) (Aa (Ak Xkg (pv 7) (Bi (Aa (pv 8) Ac))) Ac)) Ac)))
      (Ag (Ba (Ex (Av Xa5 (pv 8) (pv 7) (by rfl)) (Ew (Av (Xlq hu4) (pv 9) (pv 6) (by rfl)))).pt
       (Ag (Ap (i:=6) Db.nd rfl (.inl rfl) (Ak Bj (pv 6) (Ak Xho (Bg (Aa (pv 9) Ac)) (Cq Jr (by rfl) T.int (by rfl) (Aa (Ai wP bR (by rfl) Aj (Aa (pv 1) (Aa (pv 9) Ac))) Ac))))))
       Bc))))))
    (Ae (Ap (i:=4) Db.nd rfl (.inl rfl) (A0 Xlz (by rfl) T.sorted (by rfl) (Aa (pv 6) Ac)))
    (Ag (Ap (i:=3) Db.nd rfl (.inl rfl) (Ak Bj (pv 3) (pv 4))))))))
   (Ag (Ao (pv 3))))))),?_⟩
  have qZ:=R2.len;have kQ:=Fr row;refine⟨_,rfl,r,row,rfl,hR,R2,λb xs0 H1 nb hb bS s1=>?_⟩;refine⟨_,rfl,r,row,rfl,.inl (SqL.of (s1 _ _ hR)),R2.len,λnl H2 nn wR s2=>?_⟩;have mO:=s2 _ _ hb;have si:=DAll.same s2 _ _ bS;have iM:=s1.trans s2;refine⟨by show 0<=sizeLine;decide,λe1 rZ=>?_⟩;refine⟨by show 1<=sizeLine;decide,λud ot=>?_⟩;refine⟨by show 0<=sizeLine;decide,λe2 ne2=>?_⟩;refine⟨by show 1<=sizeLine;decide,λwS lz=>?_⟩;generalize pr:upd (upd (upd (upd H2 e1 (.tup [])) ud (.lst [.ref e1])) e2 (.tup [])) wS (.lst [.ref e2])=H3;have f1:Same H2 H3:=by
   rw[<-pr];exact((((Same.refl H2).step rZ).step ot).step ne2).step lz
  have lX:H3 ud=some (.lst ([e1].map V.ref)):=by
   rw[<-pr];exact ku (ku Ab ne2) lz
  have GG:H3 wS=some (.lst ([e2].map V.ref)):=by
   rw[<-pr];exact Ab
  have GH:Tups H3 [e1] [[]]:=Tups.cons (by rw[<-pr];exact ku (ku (ku Ab ot) ne2) lz) (Tups.nil _);have GI:Tups H3 [e2] [[]]:=Tups.cons (by rw[<-pr];exact ku Ab lz) (Tups.nil _);have GJ:H ud=none:=iM.free (((Same.refl H2).step rZ).free ot);clear pr;have zd:=f1 _ _ wR;refine⟨_,rfl,nl,_,rfl,.inl (SqL.of zd),(((dit row).map V.str).length:Int),rfl,by lia,by rw[Oc];lia,?_⟩;have wT:(((dit row).map V.str).length:Int).toNat=(dit row).length:=by rw[Oc];simp
  rw[wT];refine Fl (lo:=0) (n:=(dit row).length) (λi Z H4=>∃(v5 v6 v7 v8 v9:Option V) (tl ly:ae) (ps qs:List ae) (Vs Us:List (Za)), Z=[some (.ref r),some (.ref b),some (.ref nl),some (.ref tl),some (.ref ly),v5,v6,v7,v8,v9]/\Same H3 H4/\H tl=none/\H4 tl=some (.lst (ps.map V.ref))/\H4 ly=some (.lst (qs.map V.ref))/\ps.length<=1+63 * i/\Tups H4 ps Vs/\Upto row i Vs/\Tups H4 qs Us/\SH.Lay row i Us) ?_ ?_ ?_
  ·exact⟨_,_,_,_,_,ud,wS,[e1],[e2],[[]],[[]],rfl,Same.refl _,GJ,lX,GG,by simp,GH,Xoe row,GI,Xof row⟩
  ·rintro i Z H4 hi ⟨v5,v6,v7,v8,v9,tl,ly,ps,qs,Vs,Us,rfl,s4,ze,gY,wU,cz,wV,wW,zf,wX⟩;refine⟨by show 0<=sizeLine;decide,λf0 GK=>?_⟩;have g1:Same H4 (upd H4 f0 (.lst [])):=(Same.refl H4).step GK;have zg:Fresh row (upd H4 f0 (.lst [])) f0 [] []:=⟨Ab,rfl,.nil,λ_ h=>by cases h⟩;generalize upd H4 f0 (.lst [])=H5 at g1 zg;have wY:=s4.trans g1;have zh:=wY _ _ zd;have GL:=wY _ _ (f1 _ _ mO);have GM:=DAll.same wY _ _ (DAll.same f1 _ _ si);have wZ:=zf.same g1;refine⟨_,rfl,ly,rfl,⟨_,SqL.of (g1 _ _ wU)⟩,?_⟩;refine Ef (K:=K) (a:=ly) (xs:=qs.map V.ref) (λj Z H6=>∃(v7 v8 v9:Option V) (f:ae) (xs:List V) (Ts:List (Za)), Z=[some (.ref r),some (.ref b),some (.ref nl),some (.ref tl),some (.ref ly),some (.int (0+(i:Int))),some (.ref f),v7,v8,v9]/\Same H5 H6/\Fresh row H6 f xs Ts/\(∀T∈Ts,T.length=i+1)/\Cov row Us j Ts) ?_ ?_ ?_ ?_
   ·exact⟨_,_,_,f0,[],[],rfl,Same.refl _,zg,(λ_ h=>by cases h),λj hj=>absurd hj (P8 _)⟩
   ·rintro j Z H6 _ ⟨v7,v8,v9,f,xs,Ts,rfl,s6,hf,fQ,iS⟩;exact SqL.of (s6 _ _ (g1 _ _ wU))
   ·rintro j y Z H6 hj ⟨v7,v8,v9,f,xs,Ts,rfl,s6,hf,fQ,iS⟩;obtain⟨q,rfl,oq,GN⟩:∃q,y=V.ref q/\j<qs.length/\qs.getD j 0=q:=by
     rw[Ou] at hj;cases z:qs[j]? with
     | none=>rw[z] at hj;cases hj
     | some q=>rw[z] at hj;exact⟨q,(Ov hj).symm,(Ox.mp z).1,by simp[List.getD,z]⟩
    have ue:=wZ.2 j oq;rw[GN] at ue;have zi:j<Us.length:=by rw[<-wZ.1];exact oq
    have GO:Us.getD j []∈Us:=by
     have:Us.getD j []=Us[j]:=by simp[List.getD,zi]
     rw[this];exact O5 zi
    obtain⟨uf,dt⟩:=(wX.mem _).mp GO;generalize gf:Us.getD j []=ss at ue uf dt;have GP:=Nj uf;obtain⟨GQ,GR⟩:=Es uf;refine⟨_,rfl,nl,rfl,⟨_,SqL.of (s6 _ _ zh)⟩,?_⟩;refine Ef (K:=K) (a:=nl) (xs:=(dit row).map V.str) (λm Z H7=>∃(v8 v9:Option V) (f:ae) (xs:List V) (Ts:List (Za)), Z=[some (.ref r),some (.ref b),some (.ref nl),some (.ref tl),some (.ref ly),some (.int (0+(i:Int))),some (.ref f),some (.ref q),v8,v9]/\Same H5 H7/\Fresh row H7 f xs Ts/\(∀T∈Ts,T.length=i+1)/\Cov row Us j Ts/\∀m',m'<m->(dit row).getD m' aj.empty∉ss->An row (srt (ss++[(dit row).getD m' aj.empty]))=true->srt (ss++[(dit row).getD m' aj.empty])∈Ts) ?_ ?_ ?_ ?_
    ·exact⟨_,_,f,xs,Ts,rfl,s6,hf,fQ,iS,λm' sj=>absurd sj (P8 _)⟩
    ·rintro m Z H7 _ ⟨v8,v9,f,xs,Ts,rfl,s7,hf,fQ,iS,ug⟩;exact SqL.of (s7 _ _ zh)
    ·rintro m y Z H7 hm ⟨v8,v9,f,xs,Ts,rfl,s7,hf,fQ,iS,ug⟩;obtain⟨x,rfl,hx,GS⟩:∃x,y=V.str x/\x∈row/\(dit row).getD m aj.empty=x:=by
      rw[Ou] at hm;cases z:(dit row)[m]? with
      | none=>rw[z] at hm;cases hm
      | some x=>rw[z] at hm;exact⟨x,(Ov hm).symm,Ar.mp (Q5 z),by simp[List.getD,z]⟩
     have step:∀eu:List (Za),(∀T∈Ts,T∈eu)->(x∉ss->An row (srt (ss++[x]))=true->srt (ss++[x])∈eu)->∀m',m'<m+1->(dit row).getD m' aj.empty∉ss->An row (srt (ss++[(dit row).getD m' aj.empty]))=true->srt (ss++[(dit row).getD m' aj.empty])∈eu:=λeu sub new m' sj a1 a2=>by
      by_cases e:m'=m
      ·subst e;rw[GS] at a1 a2 ⊢;exact new a1 a2
      ·exact sub _ (ug m' (by lia) a1 a2)
     refine⟨_,rfl,_,rfl,by show 1<=sizeLine;decide,λt1 zj=>?_⟩;have s8:Same H5 (upd H7 t1 (.tup [.str x])):=s7.step zj;have GT:Same H7 (upd H7 t1 (.tup [.str x])):=(Same.refl H7).step zj;refine⟨q,t1,_,_,rfl,rfl,s8 _ _ ue,Ab,by rw[Oc,Tb];show ss.length+1<=_;lia,λp1 H9 s9 wK=>?_⟩;have xa:H9 p1=some (.tup ((ss++[x]).map V.str)):=by rw[wK,Oo];rfl
     refine⟨p1,_,rfl,xa,by rw[Op];show ss.length+1<64;lia,λl2 wH=>?_⟩;refine⟨l2,_,rfl,.inl ⟨SqL.of Ab,λov GU=>?_⟩⟩;have k7:Same H7 (upd (upd H9 l2 (.lst ((srt (ss++[x])).map V.str))) ov (.tup ((srt (ss++[x])).map V.str))):=((GT.trans s9).step wH).step GU;have uh:upd (upd H9 l2 (.lst ((srt (ss++[x])).map V.str))) ov (.tup ((srt (ss++[x])).map V.str)) ov=some (.tup ((srt (ss++[x])).map V.str)):=Ab;generalize upd (upd H9 l2 (.lst ((srt (ss++[x])).map V.str))) ov (.tup ((srt (ss++[x])).map V.str))=HA at k7 uh;have ou:=s7.trans k7;have l5:=hf.same k7;have ui:∀y∈srt (ss++[x]),okN y:=λy hy=>by
      rcases Om.mp (Hx.mp hy) with z | z
      ·exact R2.ok y (GQ y z)
      ·rw[Oe.mp z];exact R2.ok x hx
     have l6:∀T∈Ts,∀y∈T,okN y:=λT hT y hy=>R2.ok y ((Es (hf.ok T hT).2).1 y hy);have GV:ah.depth (tupD (srt (ss++[x])))<=3:=by
      have:=Xk6 (srt (ss++[x])) (srt (ss++[x]))
      rwa [Nat.min_self] at this
     have JY:xs.length=Ts.length:=by rw[Gg l5.all,Oc]
     have aZ:=Ng R2.two h3 tN hf.nd hf.ok;dsimp only[Ax];refine⟨_,rfl,_,rfl,q,_,rfl,.inr (SqT.of (ou _ _ ue)),rfl,El ss,_,rfl,?_⟩;rw[Td rfl,E1];refine A2 (λhc=>?_) (λhc=>Bq ⟨_,_,f,xs,Ts,rfl,ou,l5,fQ,iS,step Ts (λ_ h=>h) λz=>absurd (by simpa using hc) z⟩);have lT:x∉ss:=by simpa using hc
     refine⟨_,rfl,_,rfl,tupD (srt (ss++[x])),Ts.map tupD,E7 uh,Gh l5.at' l5.all,Bu _ (E6 ui),Gi _ (plainAll_map tupD Ts λT hT=>E6 (l6 T hT)),GV,_,rfl,?_⟩;refine A2 (λhd=>?_) (λhd=>⟨_,_,f,xs,Ts,rfl,ou,l5,fQ,iS,step Ts (λ_ h=>h) λ_ _=>?_⟩);rotate_left
     ·have hd:((Ts.map tupD).any λe=>ah.eqv e (tupD (srt (ss++[x]))))=true:=by simpa using hd
      rw[Rc] at hd;obtain⟨e,he,hq⟩:=hd;obtain⟨T,hT,rfl⟩:=O0.mp he;have hq:ah.eqv (.tuple (T.map ah.str)) (.tuple ((srt (ss++[x])).map ah.str))=true:=hq;rw[Ki (l6 T hT) ui] at hq;rw[<-Tg hq];exact hT
     have fi:srt (ss++[x])∉Ts:=λhm=>by
      have:((Ts.map tupD).any λe=>ah.eqv e (tupD (srt (ss++[x]))))=true:=by
       rw[Rc];refine⟨_,O0.mpr ⟨_,hm,rfl⟩,?_⟩;show ah.eqv (.tuple _) (.tuple _)=true;rw[Ki ui ui];exact Te rfl
      rw[this] at hd;exact absurd hd (by decide)
     refine⟨_,rfl,_,rfl,by show 1<=sizeLine;decide,λc nc=>?_⟩;have kA:Same HA (upd HA c (.lst [.ref ov])):=(Same.refl HA).step nc;refine⟨_,rfl,_,rfl,b,ov,xs0,bars row,srt (ss++[x]),rfl,kA _ _ (ou _ _ GL),DAll.same kA _ _ (DAll.same ou _ _ GM),kA _ _ uh,λHB sB=>?_⟩;have zk:=sB _ _ (show upd HA c (.lst [.ref ov]) c=_ from Ab);refine .inr ⟨_,rfl,?_⟩;cases k8:C7 (bars row) (srt (ss++[x])) with
     | false=>
      refine⟨c,_,_,rfl,rfl,zk,by simp,by simp,by simp,λc2 xb=>?_⟩;have e0:(if True then (List.replicate ((if (false:Bool)=true then (1:Int) else 0)).toNat [V.ref ov]).flatten else ([]:List V))=[]:=by simp
      have kB:Same HA (upd HB c2 (.lst [])):=(kA.trans sB).step xb;refine⟨f,c2,xs,[],rfl,rfl,kB _ _ l5.at',Ab,by rw[Tb];simp;lia,λg ng=>?_⟩;have kC:Same HA (upd (upd HB c2 (.lst [])) g (.lst (xs++[]))):=kB.step ng;refine⟨_,_,g,xs++[],Ts,rfl,ou.trans kC,⟨Ab,?_,hf.nd,hf.ok⟩,fQ,iS,step Ts (λ_ h=>h) λ_ z=>absurd ((Xm6 R2.two z).symm.trans k8) (by decide)⟩;exact(congrArg (DAll _ _) (Ps xs)).mpr (DAll.same kC _ _ l5.all)
     | true=>
      refine⟨c,_,_,rfl,rfl,zk,by simp,by simp,by show 1 * 1<=sizeLine;decide,λc2 xb=>?_⟩;have kB:Same HA (upd HB c2 (.lst [V.ref ov])):=(kA.trans sB).step xb;refine⟨f,c2,xs,[V.ref ov],rfl,rfl,kB _ _ l5.at',Ab,by rw[Tb];simp;lia,λg ng=>?_⟩;have kC:Same HA (upd (upd HB c2 (.lst [V.ref ov])) g (.lst (xs++[V.ref ov]))):=kB.step ng;refine⟨_,_,g,xs++[V.ref ov],Ts++[srt (ss++[x])],rfl,ou.trans kC,⟨Ab,?_,?_,?_⟩,?_,λi' cb z hz a1 a2=>Pw _ (iS i' cb z hz a1 a2),step _ (λ_ h=>Pw _ h) λ_ _=>by simp⟩
      ·rw[Oo];exact J8 (DAll.same kC _ _ l5.all) (E7 (kC _ _ uh))
      ·rw[Qa];exact⟨hf.nd,by simp,λa ha b hb e=>fi (by rw[Oe.mp hb] at e;exact e ▸ ha)⟩
      ·intro T hT;rcases Om.mp hT with z | z
       ·exact hf.ok T z
       ·rw[Oe.mp z];exact⟨Xls,Xlr R2.two uf hx lT k8⟩
      ·intro T hT;rcases Om.mp hT with z | z
       ·exact fQ T z
       ·rw[Oe.mp z,(Cs _).length_eq,Op,dt];rfl
    ·rintro Z H7 ⟨v8,v9,f,xs,Ts,rfl,s7,hf,fQ,iS,ug⟩;refine⟨_,_,_,f,xs,Ts,rfl,s7,hf,fQ,λi' cb z hz a1 a2=>?_⟩;by_cases e:i'=j
     ·subst e;rw[gf] at a1 a2 ⊢;obtain⟨m',sj,e'⟩:=Pi.mp (Ar.mpr hz);have e2:(dit row).getD m' aj.empty=z:=by rw[<-e'];simp[List.getD,sj]
      have:=ug m' (by rw[Oc];exact sj);rw[e2] at this;exact this a1 a2
     ·exact iS i' (by lia) z hz a1 a2
   ·rintro Z H6 ⟨v7,v8,v9,f,xs,Ts,rfl,s6,hf,fQ,iS⟩;have aZ:=Ng R2.two h3 tN hf.nd hf.ok;obtain⟨fs,rfl,pq⟩:=Nw hf.all;have GW:=pq.1;refine⟨_,rfl,f,fs,Ts,rfl,hf.at',pq,λz=>(hf.ok _ z).1 rfl,hf.nd,by lia,λpx gM eu xc sk jy GX=>?_⟩;have g6:Same H6 (upd H6 px (.lst (gM.map V.ref))):=(Same.refl H6).step xc;have mi:=(g1.trans s6).trans g6;rw[Oc,wZ.1] at iS;have zl:=Xod R2.two wX iS (λT hT=>⟨(hf.ok T hT).2,fQ T hT⟩) jy GX;have xf:=sk.same g6;have o5:upd H6 px (.lst (gM.map V.ref)) px=some (.lst (gM.map V.ref)):=Ab;generalize upd H6 px (.lst (gM.map V.ref))=H8 at g6 mi xf o5;have GY:=sk.1;have GZ:=jy.length_eq;refine⟨_,rfl,_,rfl,tl,px,_,_,rfl,rfl,mi _ _ gY,o5,by rw[Oc,Oc,Tb];lia,λuj sq=>?_⟩;have g8:Same H8 (upd H8 uj (.lst (ps.map V.ref++gM.map V.ref))):=(Same.refl H8).step sq;have e8:upd H8 uj (.lst (ps.map V.ref++gM.map V.ref)) uj=some (.lst ((ps++gM).map V.ref)):=by rw[Ab,Oo]
    refine⟨_,_,_,_,_,uj,px,ps++gM,gM,Vs++eu,eu,rfl,(s4.trans mi).trans g8,?_,e8,g8 _ _ o5,by rw[Op];lia,(wV.same (mi.trans g8)).app (xf.same g8),wW.next zl,xf.same g8,zl⟩;exact iM.free (f1.free (s4.free (mi.free sq)))
  ·rintro Z H4 ⟨v5,v6,v7,v8,v9,tl,ly,ps,qs,Vs,Us,rfl,s4,ze,gY,wU,cz,wV,wW,zf,wX⟩;exact⟨_,rfl,k tl ps Vs H4 ze gY wV wW.all ((iM.trans f1).trans s4)⟩
def Xpv:FnScope ["_law_draw", "_law_some"] ["_law_draw", "_law_some"] (defScope s__law_one):=by walk_at "s"
def Xpw  (F:Fun K "_law_one" "_law_one" s__law_one f fd) (T:Bl mg) (FP:FnPick P w K mg base):FnOk P w K mg base CX0 2 f fd ["_law_draw", "_law_some"] spOne:=by
 refine F.ok Xpv (by walk_at "l") ?_
 ·walk_at "i"
  obtain⟨dr,sc,l,xs,rfl,d,hl,eI,h0,h1,k⟩:=h;have bR:Room 1 _:=hr.mono (by decide);refine⟨_,Ag (Ao (Aq A5 (pv 1) (Ai FP bR (by rfl) Aj (Aa (pv 0) (Aa (A0 B9 (by rfl) T.len aR (Aa (pv 1) Ac)) Ac))) (λ_ _=>rfl))),?_⟩;refine⟨_,rfl,_,rfl,_,rfl,l,_,rfl,.inl (SqL.of hl),dr,sc,_,rfl,by lia,by lia,d,λgi H4 g0 g1 d4 b4=>?_⟩;have b4:But dr H H4:=b4;obtain⟨gi,rfl⟩:=Pf g0;have jg:gi<xs.length:=by lia
  have gK:atI xs (gi:Int)=some (xs.getD gi .non):=Cf (by rw[Od jg];simp[List.getD,jg]);exact⟨l,_,_,_,rfl,rfl,SqL.of (b4 _ _ hl eI),gK,k gi H4 jg d4 b4⟩
def Xpx:FnScope ["_law_draw", "_law_some"] ["_law_draw", "_law_some"] (defScope s__law_few):=by walk_at "s"
def Xpy  (F:Fun K "_law_few" "_law_few" s__law_few f fd) (B:Bl mg) (FP:FnPick P w K mg base) (FO:Fn P w K mg base CX0 2 "_law_one" ["_law_draw", "_law_some"] spOne):FnOk P w K mg base CX0 3 f fd ["_law_draw", "_law_some"] spFew:=by
 refine F.ok Xpx (by walk_at "l") ?_
 ·walk_at "i"
  obtain⟨dr,sc,l,ps,rfl,d,hl,eI,h0,h1,k⟩:=h;have bR:Room 1 _:=hr.mono (by decide);refine⟨_,Ag (Ao (Df (N:=NFw) (cap:=[none,some 0,some 1]) (CompScope.of (defScope s__law_few) ["_law_draw", "_law_some"] rfl rfl rfl (by decide +kernel)) rfl
   (Fj (by rfl) B.range (Aa (Ak Bw Af (Ai FP bR (by rfl) Aj (Aa (pv 0) (Aa Af Ac)))) Ac)) (λ_ _ _=>pg_name (i:=0) (show NFw.Nodup by decide +kernel) rfl (.inl rfl) (.inr rfl)) (λ_ _ _=>Ca)
   (λ_ _ _=>Ai (by exact FO) (by exact hr) (by rfl) Aj (Aa (pv 1) (Aa (pv 2) Ac))))),?_⟩
  refine⟨_,rfl,dr,sc,4,rfl,by decide,by decide,d,λm H1 m0 m1 d1 b1=>?_⟩;have b1:But dr H H1:=b1;obtain⟨m,rfl⟩:=Pf m0;refine⟨1,(m:Int),rfl,rfl,_,rfl,by lia,by lia,?_⟩;have hn:((1:Int)+(m:Int)).toNat=1+m:=by lia
  rw[hn];have jb:=b1 _ _ hl eI;refine Xj2 (n:=1+m) (λi=>.int (0+(i:Int))) (λD i Z2 H2=>(∃v, Z2=[v,some (.ref dr),some (.ref l)])/\DrawOk H2 dr sc/\But dr H1 H2/\∃qs:List ae,H2 D=some (.lst (qs.map V.ref))/\qs.length=i/\∀q∈qs,q∈ps) ?_ ?_ ?_ ?_ ?_
  ·intro D hD;obtain⟨n1,n2⟩:=d1.ne hD;exact⟨⟨_,rfl⟩,d1.upd n1 n2,(But.refl dr H1).upd hD,[],Ab,rfl,λq hq=>by simp at hq⟩
  ·rintro D i Z2 H2 hD hi _;refine⟨hi,λx H3 y=>?_⟩;obtain⟨e1,e2⟩:=y;exact⟨e1,e2⟩
  ·rintro D Z2 H2 hD _;exact Og _
  ·rintro D i Z2 H2 hD hi ⟨⟨v,rfl⟩,d2,b2,qs,hq,iZ,hm⟩;obtain⟨n1,n2⟩:=d1.ne hD;have JZ:l≠D:=Am jb hD;refine⟨_,rfl,_,rfl,dr,sc,l,_,rfl,d2,b2 _ _ jb eI,eI,by rw[Oc];exact h0,by rw[Oc];exact h1,λgi H3 jg d3 b3=>?_⟩;have b3:But dr H2 H3:=b3;rw[Oc] at jg;rw[Bo V.ref 0 ps jg];have tY:=b3 _ _ hq n1;refine wput hi tY (by rw[Oc,Tb];lia) ⟨⟨_,rfl⟩,d3.upd n1 n2,λb o e n=>?_,qs++[ps.getD gi 0],by rw[Ab,Oo];rfl,by rw[Op,iZ];rfl,λq hq=>?_⟩
   ·rw[Ad (Am e hD)];exact b3 _ _ (b2 _ _ e n) n
   ·rcases Om.mp hq with z | z
    ·exact hm q z
    ·rw[Oe.mp z];have:ps.getD gi 0=ps[gi]:=by simp[List.getD,jg]
     rw[this];exact O5 jg
  ·rintro D Z2 H2 hD ⟨_,d2,b2,qs,hq,iZ,hm⟩;obtain⟨xs,i5⟩:=d1.at;exact k D qs H2 (b1.free i5 hD) hq hm (by lia) (by lia) d2 (b1.trans b2)
abbrev NKt:Za:=["_law_row_here", "_law_crowd", "_law_told", "_law_name", "_law_banks"]
abbrev NKt1:Za:=["_law_plot", "_law_name"]
def K8:FnScope NKt ["_law_row_here", "_law_crowd"] (defScope s__law_kept):=by walk_at "s"
def Xpz  (F:Fun K "_law_kept" "_law_kept" s__law_kept f fd) (B:Bl mg):FnOk P w K mg base CX0 1 f fd ["_law_row_here", "_law_crowd"] N5:=by
 refine F.ok K8 (by walk_at "l") ?_
 ·walk_at "i"
  obtain⟨r,c,row,ps,Ts,rfl,hR,R2,hc,hT,cz,ne,k⟩:=h;refine⟨_,Ae (Ap (i:=2) K8.nd rfl (.inl rfl) (Bg Ac))
   (Ae (Cg aN.never rfl (pi_list (Xdq (i:=0) rfl (by rfl) B.sorted (by rfl) B.set (pv 0))) (pg_name (i:=3) K8.nd rfl (.inr rfl))
    (Ae (Dg (i:=4) (N:=NKt1) (cap:=[none,some 3]) (CompScope.of (defScope s__law_kept) NKt rfl rfl rfl (by decide +kernel)) rfl K8.nd rfl rfl (pi_list (pv 1)) (λ_ _ _=>pg_name (i:=0) (show NKt1.Nodup by decide +kernel) rfl (.inl rfl) (.inr rfl)) (λ_ _ _=>Ca)
     (λ_ _ _=>Aq (De K (by rfl)) (Bi (Aa Aw (Aa Aw Ac))) (Cq Jr (by rfl) B.int (by rfl) (Aa (Cz (Mo K (by rfl)) (pv 1) (pv 0) (by rfl)) Ac)) (λ_ _=>rfl)))
    (Ag (Ba (Av Bh (Nc K (by rfl) PySem.F.plainAttrs_list PySem.F.slot_list_count PySem.F.type_list_count Xc2 (pv 4) (Aa (Aq A5 (pv 4) Af (λ_ _=>rfl)) Ac)) (A0 B9 (by rfl) B.len aR (Aa (pv 4) Ac)) (Au _))
     (Ag (F7 (Jv PySem.F.plainAttrs_list PySem.F.slot_list_append PySem.F.type_list_append Jw (pv 2) (Aa (Bi (Aa (pv 3) (Aa (Aq A5 (pv 4) Af (λ_ _=>rfl)) Ac))) Ac)))) Bc))))
   (Ag (Ao (pv 2)))),?_⟩
  have qZ:=R2.len;have kQ:=Fr row;refine⟨by show 0<=sizeLine;decide,λu nu=>?_⟩;have s1:Same H (upd H u (.lst [])):=(Same.refl H).step nu;have nF:upd H u (.lst []) u=some (.lst []):=Ab;dsimp only[Ax];generalize upd H u (.lst [])=H1 at s1 nF;refine⟨_,rfl,r,row,rfl,.inl (SqL.of (s1 _ _ hR)),R2.len,λnl H2 yL lq s2=>?_⟩;have lW:=s2 _ _ nF;have HE:=s1.trans s2;have HF:nl≠u:=(Am nF yL).symm;have mj:∀b o,H b=some o->hid u H2 b=some o:=λb o e=>E2 (HE _ _ e) (Am e nu);have xg:hid u H2 nl=some (.lst ((dit row).map V.str)):=E2 lq HF;refine⟨nl,rfl,⟨_,SqL.of lq⟩,?_⟩;refine Ef (K:=K) (a:=nl) (xs:=(dit row).map V.str) (λi Z H4=>(∃v3 v4, Z=[some (.ref r),some (.ref c),some (.ref u),v3,v4])/\Same (hid u H2) H4/\∃qs:List ae,H4 u=some (.lst (qs.map V.ref))/\Tups H4 qs ((F1 ((dit row).take i) Ts).map pr2)) ?_ ?_ ?_ ?_
  ·exact⟨⟨_,_,rfl⟩,Gk u H2,[],lW,Tups.nil _⟩
  ·rintro i Z H4 _ ⟨⟨v3,v4,rfl⟩,s4,_⟩;exact SqL.of (s4 _ _ xg)
  ·rintro i v Z H4 hi ⟨⟨v3,v4,rfl⟩,s4,qs,hu4,gY⟩;obtain⟨x,rfl,lJ⟩:=Xob hi;have aZ:i<(dit row).length:=(Ox.mp lJ).1;have df:(dit row).take (i+1)=(dit row).take i++[x]:=by
    rw[List.take_succ,lJ];rfl
   have bb:∀b o,H b=some o->H4 b=some o:=λb o e=>s4 _ _ (mj b o e);have xh:=bb _ _ hc;have HG:Tups H4 ps Ts:=⟨hT.1,λj hj=>bb _ _ (hT.2 j hj)⟩;refine⟨_,rfl,c,rfl,⟨_,SqL.of xh⟩,?_⟩;refine J4 (n:=ps.length) (by rw[Tb];lia) (λj=>.ref (ps.getD j 0)) (λj=>.str (bk (Ts.getD j []) x)) ?_ ?_ ?_ ?_
   ·intro j H5 hj s5;have:=B4 (K:=K) (SqL.of (s5 _ _ xh)) (by rw[Oc];exact hj);rw[Bo V.ref 0 ps hj] at this;exact this
   ·intro H5 s5;have:=B5 (K:=K) (SqL.of (s5 _ _ xh))
    rwa [Oc] at this
   ·intro j H5 Q' hj s5 kk;have ml:=s5 _ _ (HG.2 j hj);generalize Ts.getD j []=S at ml kk;refine⟨by show 2<=sizeLine;decide,λt nt=>?_⟩;have s6:Same H5 (upd H5 t (.tup [.str "home",.str "off"])):=(Same.refl H5).step nt;have p0:upd H5 t (.tup [.str "home",.str "off"]) t=some (.tup [.str "home",.str "off"]):=Ab;dsimp only;generalize upd H5 t (.tup [.str "home",.str "off"])=H6 at s6 p0;refine⟨_,rfl,_,rfl,ps.getD j 0,_,rfl,.inr (SqT.of (s6 _ _ ml)),rfl,El S,.inr ⟨_,rfl,?_⟩⟩;have ei:(if false=true then !inV (.str x) (S.map V.str) else inV (.str x) (S.map V.str))=decide (x∈S):=by rw[Tc (by decide),E1]
    rw[ei];have gK:atI [V.str "home",V.str "off"] (if decide (x∈S)=true then (1:Int) else 0)=some (.str (bk S x)):=by
     unfold bk;by_cases z:x∈S
     ·rw[Te z,Td rfl,Td z];rfl
     ·rw[Tf z,Tc (by decide),Tc z];rfl
    exact⟨t,_,_,_,rfl,rfl,SqT.of p0,gK,kk H6 s6⟩
   ·intro D H5 nD s5 hD;have eL:(List.range ps.length).map (λj=>V.str (bk (Ts.getD j []) x))=(Ts.map λS=>bk S x).map V.str:=by
     rw[hT.1];have:=C5 [] (λ_=>true) Ts;rw[Po.mpr (λ_ _=>rfl),Po.mpr (λ_ _=>rfl)] at this;have q:=congrArg (List.map λS=>V.str (bk S x)) this;rw[Ph] at q;rw[Ph];exact q
    rw[eL] at hD;have pB:0<Ts.length:=Sl.mpr ne;have sr:atI ((Ts.map λS=>bk S x).map V.str) 0=some (.str (bk (Ts.headD []) x)):=by
     cases Ts with
     | nil=>exact absurd rfl ne
     | cons S r=>exact Cf (j:=0) rfl
    have uk:=s5 _ _ hu4;have xi:=gY.same s5;dsimp only[Ax];refine⟨_,rfl,.inl ⟨rfl,_,SqL.of hD⟩,_,rfl,D,_,_,_,rfl,rfl,SqL.of hD,sr,D,_,_,rfl,rfl,hD,rfl,El _,?_⟩;refine⟨_,rfl,D,_,rfl,.inl (SqL.of hD),rfl,_,rfl,?_⟩;have eb:decide (V.int (((Ts.map λS=>bk S x).map V.str).countP (λz=>eqV z (.str (bk (Ts.headD []) x))):Nat)=V.int (((Ts.map λS=>bk S x).map V.str).length:Nat))=decide ((A9 Ts x).length=1):=by
     rw[Xfk,Oc,Oc];refine decide_eq_decide.mpr ?_;rw[<-Xn9 ne x];exact⟨λh=>by injection h with h;exact Int.ofNat.inj h,λh=>by rw[h]⟩
    rw[eb];refine A2 (λq=>?_) (λq=>?_)
    ·have h1:=Tg q;refine⟨_,rfl,.inl ⟨rfl,_,SqL.of uk⟩,_,rfl,_,rfl,D,_,_,_,rfl,rfl,SqL.of hD,sr,by show 2<=sizeLine;decide,λp np=>?_⟩;have nV:qs.length<=60:=by
      have:=gY.1;rw[Oc] at this;have h2:(F1 ((dit row).take i) Ts).length<=i:=by
       unfold F1;rw[Oc];exact Pb (Pk ..) (by rw[Os];lia)
      lia
     refine⟨u,_,_,rfl,rfl,ku uk np,by rw[Oc,Tb];lia,?_⟩;have zm:upd H5 p (.tup [.str x,.str (bk (Ts.headD []) x)]) u=some (.lst (qs.map V.ref)):=ku uk np;have zn:upd H5 p (.tup [.str x,.str (bk (Ts.headD []) x)]) p=some (.tup ((pr2 (x,bk (Ts.headD []) x)).map V.str)):=Ab;have s6:Same H5 (upd H5 p (.tup [.str x,.str (bk (Ts.headD []) x)])):=(Same.refl H5).step np;dsimp only;generalize upd H5 p (.tup [.str x,.str (bk (Ts.headD []) x)])=H6 at zm zn s6;have keep:∀b w,H6 b=some (.tup w)->upd H6 u (.lst (qs.map V.ref++[.ref p])) b=some (.tup w):=λb w e=>by
      rw[Ad (λz=>by rw[z,zm] at e;cases e)];exact e
     refine⟨⟨_,_,rfl⟩,λb o e=>?_,qs++[p],by rw[Ab,Oo];rfl,?_⟩
     ·have nb:b≠u:=λz=>by rw[z] at e;unfold hid at e;rw[Td rfl] at e;cases e
      rw[Ad nb];exact s6 _ _ (s5 _ _ (s4 _ _ e))
     ·rw[df,Xfj,Td h1,Xoa ne h1,Oo];exact Tups.app ⟨xi.1,λj hj=>keep _ _ (s6 _ _ (xi.2 j hj))⟩ (Tups.cons (keep _ _ zn) (Tups.nil _))
    ·refine⟨⟨_,_,rfl⟩,s4.trans s5,qs,uk,?_⟩;rw[df,Xfj,Tc (Th q),Ps];exact xi
  ·rintro Z H4 ⟨⟨v3,v4,rfl⟩,s4,qs,hu4,gY⟩;rw[Oc,Pl,Xn7] at gY;exact⟨_,rfl,k u qs H4 nu hu4 gY λb o e=>s4 _ _ (mj b o e)⟩
def Xp0:FnScope ["_law_row_here"] ["_law_row_here"] (defScope s__law_stranger):=by walk_at "s"
def Xp1  (F:Fun K "_law_stranger" "_law_stranger" s__law_stranger f fd):FnOk P w K mg base CX0 1 f fd ["_law_row_here"] Xdk:=by
 refine F.ok Xp0 (by walk_at "l") ?_
 ·walk_at "i"
  obtain⟨r,row,rfl,hR,hl,k⟩:=h;have hu:=Dp hr;refine⟨_,Ag (Ao (Fh (Av (Xbq (Sx hu)) (pv 0) (Bg Ac) (Au _))
   (Ak Jq (Bx Xjv (Aq A5 (pv 0) Af (λ_ _=>rfl)) B2 (Bt Af)) Aw) Aw)),?_⟩
  refine⟨_,rfl,by show 0<=sizeLine;decide,λp np=>?_⟩;have s1:Same H (upd H p (.lst [])):=(Same.refl H).step np;refine⟨r,p,_,_,rfl,rfl,SqL.of (s1 _ _ hR),SqL.of Ab,Xdg row,by simp,_,rfl,?_⟩;have e:Ch (row.map V.str) []=decide (row=[]):=Xij row [];rw[e];cases row with
  | nil=>exact k _ s1
  | cons y r'=>
   refine Br ?_;refine⟨_,rfl,r,_,_,_,rfl,rfl,SqL.of (s1 _ _ hR),(show atI ((y::r').map V.str) ((0:Nat):Int)=some (.str y) from Cf rfl),_,rfl,y,rfl,rfl,⟨_,rfl⟩,by have:=hl y Oj;lia,?_⟩;refine⟨_,_,rfl,rfl,?_,k _ s1⟩;have h1:=Txt.slice_le y none (some 7);have h2:=hl y Oj;have h3:(aj.ofString "q").length=1:=rfl;rw[Tb,h3]
   lia
def F3:FnScope NOk ["_law_draw", "_law_row_here", "_law_kept_here"] (defScope s__law_odd_kept):=by walk_at "s"
def Xp2  (F:Fun K "_law_odd_kept" "_law_odd_kept" s__law_odd_kept f fd) (B:Bl mg) (FP:FnPick P w K mg base) (FS:Fn P w K mg base CX0 1 "_law_stranger" ["_law_row_here"] Xdk)
  (FO:Fn P w K mg base CX0 2 "_law_one" ["_law_draw", "_law_some"] spOne):FnOk P w K mg base CX0 3 f fd ["_law_draw", "_law_row_here", "_law_kept_here"] spOddK:=by
 refine F.ok F3 (by walk_at "l") ?_
 ·walk_at "i"
  obtain⟨dr,sc,r,kp,row,qs,kept,rfl,d0,hR,iT,hI,hk,K',hq,g,k⟩:=h;have hu:=Sx (Dp hr);have nF:=Dp hr;have bR:Room 1 _:=hr.mono (by decide);have dh:∀m,m<=100000->m<=sizeLine:=λm h=>by rw[Tb];lia
  refine⟨_,Ae (Ap (i:=2) F3.nd rfl (.inl rfl) (Cq Ls (by rfl) B.list (by rfl) (Aa (pv 2) Ac)))
   (Ae (Ap (i:=3) F3.nd rfl (.inl rfl) (Ai FP bR (by rfl) Aj (Aa (pv 0) (Aa Af Ac))))
   (Ae (Ap (i:=4) F3.nd rfl (.inl rfl) (Ai FP bR (by rfl) Aj (Aa (pv 0) (Aa (Ak Bw (A0 B9 (by rfl) B.len aR (Aa (pv 2) Ac)) Af) Ac))))
   (Ae (Ba (F6 (Av Bh (pv 3) Af (Au _)) (G6 (Av (Xik hu) (pv 1) (Bg Ac) (Au _)))).pt
    (Ag (Ao (Ak Bj (Ak Bj (Bx B3 (pv 2) B2 (Bt (pv 4))) (Bg (Aa (Bi (Aa (Ai FS bR (by rfl) Aj (Aa (pv 1) Ac)) (Aa Aw Ac))) Ac))) (Bx B3 (pv 2) (Bt (pv 4)) B2)))) Bc)
   (Ae (Ba (Av Bh (pv 3) Af (Au _))
    (Ag (Ao (Ak Bj (Ak Bj (Bx B3 (pv 2) B2 (Bt (pv 4))) (Bg (Aa (Bi (Aa (Ai FO hr (by rfl) Aj (Aa (pv 0) (Aa (pv 1) Ac))) (Aa (Aq Eg (Bi (Aa Aw (Aa Aw Ac))) (Ai FP bR (by rfl) Aj (Aa (pv 0) (Aa Af Ac))) (λ_ _=>rfl)) Ac))) Ac))) (Bx B3 (pv 2) (Bt (pv 4)) B2)))) Bc)
   (Ae (Ba (Av (J9 (hu3 hr)) (pv 2) (Bg Ac) (Au _)) (Ag (Ao (pv 2))) Bc)
   (Ae (Ap (i:=4) F3.nd rfl (.inl rfl) (Ai FP bR (by rfl) Aj (Aa (pv 0) (Aa (A0 B9 (by rfl) B.len aR (Aa (pv 2) Ac)) Ac))))
   (Ae (Ee (Aq A5 (pv 2) (pv 4) (λ_ _=>rfl)) (Lf (n:=2) rfl (Bz (pg_name (i:=5) F3.nd rfl (.inl rfl)) (Bz (pg_name (i:=6) F3.nd rfl (.inl rfl)) D0))))
   (Ae (Ba (Av Bh (pv 3) Af (Au _)) (Ag (Ao (Ak Bj (Bx B3 (pv 2) B2 (Bt (pv 4))) (Bx B3 (pv 2) (Bt (Ak Bw (pv 4) Af)) B2)))) Bc)
   (Ae (Ba (Av Bh (pv 3) Af (Au _))
    (Ag (Ao (Ak Bj (Ak Bj (Bx B3 (pv 2) B2 (Bt (pv 4))) (Bg (Aa (Bi (Aa (pv 5) (Aa (Cr nF (Xh0 (Xbe Aw Aw (Xbe Aw Aw Xhy)) rfl rfl (by simp) (by decide)) (pv 6) (λ_ _=>rfl)) Ac))) Ac))) (Bx B3 (pv 2) (Bt (Ak Bw (pv 4) Af)) B2)))) Bc)
   (Ae (Ba (Av Bh (pv 3) Af (Au _))
    (Ag (Ao (Ak Bj (Ak Bj (Bx B3 (pv 2) B2 (Bt (pv 4))) (Bg (Aa (Bi (Aa (pv 5) (Aa Aw Ac))) Ac))) (Bx B3 (pv 2) (Bt (Ak Bw (pv 4) Af)) B2)))) Bc)
   (Ag (Ao (Mb (pv 2)))))))))))))),?_⟩
  have ko:=g.kp hI;have dI:qs.length=kept.length:=by
   have:=hq.1
   rwa [Oc] at this
  have kl:kept.length<=14:=Pb g.len hI.dlen;refine⟨_,rfl,kp,_,rfl,.inl (SqL.of hk),λfc zo=>?_⟩;have s1:Same H (upd H fc (.lst (qs.map V.ref))):=(Same.refl H).step zo;have lV:upd H fc (.lst (qs.map V.ref)) fc=some (.lst (qs.map V.ref)):=Ab;have pD:fc≠dr:=(d0.ne zo).1;dsimp only[Ax];generalize upd H fc (.lst (qs.map V.ref))=H1 at s1 lV;have d1:=d0.same s1;have HH:But dr H H1:=λb o e _=>s1 _ _ e;refine⟨_,rfl,dr,sc,6,rfl,by decide,by decide,d1,λwy H2 w0 w1 d2 b2=>?_⟩;have b2:But dr H1 H2:=b2;dsimp only[Ax];refine⟨_,rfl,_,rfl,fc,_,rfl,.inl (SqL.of (b2 _ _ lV pD)),_,_,rfl,rfl,dr,sc,_,rfl,by lia,by rw[Oc];lia,d2,λcT H3 a0 a1 d3 b3=>?_⟩;have b3:But dr H2 H3:=b3;obtain⟨cT,rfl⟩:=Pf a0;rw[Oc] at a1;have gK:cT<=qs.length:=by lia
  have rY:=b2.trans b3;have rL:=HH.trans rY;have fin:∀{H4:Hp} {k':ae} {qs':List ae} {kept':List (aj×aj)},But dr H H4->DrawOk H4 dr sc->k'≠dr->H4 k'=some (.lst (qs'.map V.ref))->Tups H4 qs' (kept'.map pr2)->KpOk kept'->Q (.ref k') H4:=λb d n h t o=>k _ _ _ _ n h t o d b;have tq:∀{H4:Hp},But dr H H4->Tups H4 qs (kept.map pr2):=λb=>⟨hq.1,λi hi=>b _ _ (hq.2 i hi) (d0.ntup _ _ (hq.2 i hi))⟩;have zp:=rY _ _ lV pD;dsimp only[Ax];refine Xog (decide ((wy:Int)=0)) (decide (row=[])) (λQ' hQ=>?_) (λH4 Q' s4 hQ=>?_) (λ_ H4 s4=>?_) (λeW H4 s4=>?_)
  ·refine⟨_,rfl,rfl,_,rfl,?_⟩;have e:decide (V.int wy=V.int 0)=decide (wy=0):=decide_eq_decide.mpr ⟨λh=>by injection h,λh=>by rw[h]⟩;rw[e];exact hQ H3 (Same.refl _)
  ·refine⟨_,rfl,by show 0<=sizeLine;decide,λe ne=>?_⟩;refine⟨r,e,_,[],rfl,rfl,SqL.of (ku (s4 _ _ (rL _ _ hR iT)) ne),SqL.of Ab,λv hv=>?_,λv hv=>absurd hv (by simp),_,rfl,?_⟩
   ·obtain⟨x,_,rfl⟩:=O0.mp hv;rfl
   ·have ee:id (Ch (row.map V.str) [])=decide (row=[]):=by cases row<;>rfl
    rw[ee];exact hQ _ ((Same.refl H4).step ne)
  ·-- a stranger
   have lv:=rL.same s4;have d4:=d3.same s4;have pF:=s4 _ _ zp;refine⟨_,rfl,_,rfl,_,rfl,fc,_,rfl,SqL.of pF,λp1 n1=>?_⟩;rw[Ek _ _ _ gK];have s5:Same H4 (upd H4 p1 (.lst ((qs.take cT).map V.ref))):=(Same.refl H4).step n1;have ml:upd H4 p1 (.lst ((qs.take cT).map V.ref)) p1=some (.lst ((qs.take cT).map V.ref)):=Ab;dsimp only;generalize upd H4 p1 (.lst ((qs.take cT).map V.ref))=H5 at s5 ml;refine⟨_,rfl,r,row,rfl,s5 _ _ (lv _ _ hR iT),λy hy=>(hI.ok y hy).1,λH6 s6=>⟨by show 2<=sizeLine;decide,λt nt=>⟨by show 1<=sizeLine;decide,λp2 n2=>?_⟩⟩⟩;refine⟨p1,p2,_,[.ref t],rfl,rfl,ku (ku (s6 _ _ ml) nt) n2,Ab,dh _ (by simp;lia),λp3 n3=>?_⟩;refine⟨_,rfl,_,rfl,_,rfl,fc,_,rfl,SqL.of (ku (ku (ku (s6 _ _ (s5 _ _ pF)) nt) n2) n3),λp4 n4=>?_⟩;rw[D6 _ _ _ gK];refine⟨p3,p4,_,_,rfl,rfl,ku Ab n4,Ab,dh _ (by simp;lia),λp5 n5=>?_⟩;have s7:=((((((Same.refl H6).go nt n2).go n2 n3).go n3 n4).go n4 n5)).step (o:=.lst ((qs.take cT).map V.ref++[.ref t]++(qs.drop cT).map V.ref)) n5;have l7:=lv.same (s5.trans (s6.trans s7));refine fin (qs':=qs.take cT++t::qs.drop cT) (kept':=kept.take cT++(Ih row,("home" : aj))::kept.drop cT) l7 (d4.same (s5.trans (s6.trans s7))) ?_ (by rw[Ab];simp) (SH.Tups.mid (tq l7) (ku (ku (ku (ku Ab n2) n3) n4) n5) cT cT) (ko.mid kl _ _ (Og _) ⟨hI.stranger9,(G2 (.inr rfl)).1,hI.stranger.1,(G2 (.inr rfl)).2⟩);obtain⟨xs,i5⟩:=(d4.same (s5.trans s6)).at;exact λz=>by rw[z] at n5;rw[ku (ku (ku (ku i5 nt) n2) n3) n4] at n5;cases n5
  ·have lv:=rL.same s4;have d4:=d3.same s4;have pF:=s4 _ _ zp;have wj:=lv _ _ hR iT;clear s4;refine⟨_,rfl,rfl,_,rfl,?_⟩;refine A2 (λ_=>?_) (λ_=>?_)
   ·-- a name of wv row
    have nr:row≠[]:=λz=>by rw[z] at eW;simp at eW
    have rl:0<row.length:=Sl.mpr nr;have KA:=hI.len;obtain⟨yT,iR⟩:=d4.at;refine⟨_,rfl,_,rfl,_,rfl,fc,_,rfl,SqL.of pF,λp1 n1=>?_⟩;rw[Ek _ _ _ gK];have s5:Same H4 (upd H4 p1 (.lst ((qs.take cT).map V.ref))):=(Same.refl H4).step n1;have ml:upd H4 p1 (.lst ((qs.take cT).map V.ref)) p1=some (.lst ((qs.take cT).map V.ref)):=Ab;have zq:p1≠dr:=λz=>by rw[z,iR] at n1;cases n1
    dsimp only;generalize upd H4 p1 (.lst ((qs.take cT).map V.ref))=H5 at s5 ml;have d5:=d4.same s5;have pG:=lv.same s5;refine⟨_,rfl,_,rfl,dr,sc,r,_,rfl,d5,s5 _ _ wj,iT,by rw[Oc];exact rl,by rw[Oc];lia,λgi H6 jg d6 b6=>?_⟩;have b6:But dr H5 H6:=b6;rw[Oc] at jg;rw[Bo V.str aj.empty row jg];have hx:row.getD gi aj.empty∈row:=Ds jg;generalize row.getD gi aj.empty=x at hx;refine⟨by show 2<=sizeLine;decide,λu nu=>?_⟩;have s7:Same H6 (upd H6 u (.tup [.str "home",.str "off"])):=(Same.refl H6).step nu;have xj:upd H6 u (.tup [.str "home",.str "off"]) u=some (.tup [.str "home",.str "off"]):=Ab;dsimp only;generalize upd H6 u (.tup [.str "home",.str "off"])=H7 at s7 xj;have d7:=d6.same s7;refine⟨_,rfl,dr,sc,2,rfl,by decide,by decide,d7,λbb H8 c0 c1 d8 b8=>?_⟩;have b8:But dr H7 H8:=b8;obtain⟨bb,rfl⟩:=Pf c0;have rV:∃y:aj,atI [V.str "home",V.str "off"] (bb:Int)=some (.str y)/\(y = "off" \/ y = "home"):=by
     have:bb<2:=by lia
     match bb,this with
     | 0,_=>exact⟨"home",rfl,.inr rfl⟩
     | 1,_=>exact⟨"off",rfl,.inl rfl⟩
    obtain⟨y,hy,xk⟩:=rV;have HI:H8 p1=some (.lst ((qs.take cT).map V.ref)):=b8 _ _ (s7 _ _ (b6 _ _ ml zq)) zq;have HJ:H8 fc=some (.lst (qs.map V.ref)):=b8 _ _ (s7 _ _ (b6 _ _ (s5 _ _ pF) pD)) pD;have o6:=((pG.trans b6).same s7).trans b8;obtain⟨KB,xl⟩:=d8.at;refine⟨u,_,_,_,rfl,rfl,SqT.of (b8 _ _ xj (d7.ntup _ _ xj)),hy,by show 2<=sizeLine;decide,λt nt=>⟨by show 1<=sizeLine;decide,λp2 n2=>?_⟩⟩;refine⟨p1,p2,_,[.ref t],rfl,rfl,ku (ku HI nt) n2,Ab,dh _ (by simp;lia),λp3 n3=>?_⟩;refine⟨_,rfl,_,rfl,_,rfl,fc,_,rfl,SqL.of (ku (ku (ku HJ nt) n2) n3),λp4 n4=>?_⟩;rw[D6 _ _ _ gK];refine⟨p3,p4,_,_,rfl,rfl,ku Ab n4,Ab,dh _ (by simp;lia),λp5 n5=>?_⟩;have s9:=(((((Same.refl H8).go nt n2).go n2 n3).go n3 n4).go n4 n5).step (o:=.lst ((qs.take cT).map V.ref++[.ref t]++(qs.drop cT).map V.ref)) n5;have zr:=o6.same s9;have oy:=G2 xk;exact fin (qs':=qs.take cT++t::qs.drop cT) (kept':=kept.take cT++(x,y)::kept.drop cT) zr (d8.same s9) (λz=>by rw[z] at n5;rw[ku (ku (ku (ku xl nt) n2) n3) n4] at n5;cases n5) (by rw[Ab];simp) (SH.Tups.mid (tq zr) (ku (ku (ku (ku Ab n2) n3) n4) n5) cT cT) (ko.mid kl _ _ (Og _) ⟨hI.r9 x hx,oy.1,hI.ok x hx,oy.2⟩)
   ·refine⟨_,rfl,by show 0<=sizeLine;decide,λe ne=>?_⟩;have s5:Same H4 (upd H4 e (.lst [])):=(Same.refl H4).step ne;have xm:upd H4 e (.lst []) e=some (.lst []):=Ab;dsimp only;generalize upd H4 e (.lst [])=H5 at s5 xm;have pG:=lv.same s5;have d5:=d4.same s5;have ul:=s5 _ _ pF;refine⟨.list ((kept.map pr2).map tupD),.list (([]:List (Za)).map tupD),Da ul (tq pG),Gh xm Dh,Bu _ (C9 ko.okL),rfl,G1 _ [],_,rfl,?_⟩;rw[G0 ko.okL (λS hS=>absurd hS (by simp))];refine A2 (λ_=>?_) (λq0=>?_)
    ·exact⟨_,rfl,fin pG d5 pD ul (tq pG) ko⟩
    have kn:0<kept.length:=by
     have:=Th q0;cases kept with
     | nil=>exact absurd rfl this
     | cons _ _=>exact Nat.succ_pos _
    clear s5 xm;refine⟨_,rfl,_,rfl,fc,_,rfl,.inl (SqL.of ul),dr,sc,_,rfl,by rw[Oc];lia,by rw[Oc];lia,d5,λi H6 i0 i1 d6 b6=>?_⟩;have b6:But dr H5 H6:=b6;obtain⟨i,rfl⟩:=Pf i0;rw[Oc] at i1;have hi:i<kept.length:=by lia
    have xn:i<qs.length:=by lia
    have su:=pG.trans b6;have jd:=b6 _ _ ul pD;have p0:=(tq su).2 i xn;have e1:(kept.map pr2).getD i []=pr2 kept[i]:=by simp[List.getD,hi]
    rw[e1] at p0;have hm:=O5 hi;generalize kept[i]=q at p0 hm;obtain⟨o1,o2,o3,o4⟩:=ko.ok q hm;have hs:=(g.row q hm).2;have xo:atI (qs.map V.ref) (i:Int)=some (.ref (qs.getD i 0)):=Cf (by rw[Ou,Od xn];simp[List.getD,xn]);have ii:(i:Int)+1=((i+1:Nat):Int):=by simp
    have nW:i<=qs.length:=by lia
    have eK:i+1<=qs.length:=by lia
    obtain⟨FM,hX⟩:=d6.at;dsimp only[Ax];refine⟨_,rfl,_,rfl,fc,_,_,_,rfl,rfl,SqL.of jd,xo,_,_,rfl,SqT.of p0,rfl,_,_,rfl,_,_,rfl,rfl,?_⟩;refine⟨_,rfl,rfl,_,rfl,?_⟩;refine A2 (λ_=>?_) (λ_=>?_)
    ·-- one less
     refine⟨_,rfl,_,rfl,_,rfl,fc,_,rfl,SqL.of jd,λp1 n1=>?_⟩;rw[Ek _ _ _ nW];refine⟨_,rfl,_,rfl,_,_,rfl,rfl,_,rfl,fc,_,rfl,SqL.of (ku jd n1),λp2 n2=>?_⟩;rw[ii,D6 _ _ _ eK];refine⟨p1,p2,_,_,rfl,rfl,ku Ab n2,Ab,dh _ (by simp;lia),λp3 n3=>?_⟩;have s7:=(((Same.refl H6).go n1 n2).go n2 n3).step (o:=.lst ((qs.take i).map V.ref++(qs.drop (i+1)).map V.ref)) n3;have l7:=su.same s7;refine fin (qs':=qs.take i++qs.drop (i+1)) (kept':=kept.take i++kept.drop (i+1)) l7 (d6.same s7) (λz=>by rw[z] at n3;rw[ku (ku hX n1) n2] at n3;cases n3) (by rw[Ab];simp) ?_ (ko.cut kl _ _ (Qb _));have ek:(kept.take i++kept.drop (i+1)).map pr2=(kept.map pr2).take i++(kept.map pr2).drop (i+1):=by rw[Oo,Sc,Sd]
     rw[ek];exact Tups.app (Xfo (tq l7) i) (Xfp (tq l7) (i+1))
    refine⟨_,rfl,rfl,_,rfl,?_⟩;refine A2 (λ_=>?_) (λ_=>?_)
    ·-- wv jz xp
     have fQ:∃y:aj,Ay (mergeK [] [((Sum.inr "home" : Key),V.str "off"),(Sum.inr "off",V.str "home")]) (Sum.inr q.2:Key)=some (.str y)/\(y = "off" \/ y = "home"):=by
      rcases hs with e | e
      ·rw[e];exact⟨"home",rfl,.inr rfl⟩
      ·rw[e];exact⟨"off",rfl,.inl rfl⟩
     obtain⟨y,hy,xk⟩:=fQ;refine⟨_,rfl,_,rfl,_,rfl,fc,_,rfl,SqL.of jd,λp1 n1=>?_⟩;rw[Ek _ _ _ nW];refine⟨_,rfl,λdd zt=>⟨Ab,[((Sum.inr "home" : Key),V.str "off"),(Sum.inr "off",V.str "home")],rfl,by show 2<=15;decide,?_⟩⟩;have s7:Same (upd H6 p1 (.lst ((qs.take i).map V.ref))) (upd (upd (upd H6 p1 (.lst ((qs.take i).map V.ref))) dd (.dK [])) dd (.dK (mergeK [] [((Sum.inr "home" : Key),V.str "off"),(Sum.inr "off",V.str "home")]))):=λb o e=>by
      rw[Ad (Am e zt),Ad (Am e zt)];exact e
     have sw:upd (upd (upd H6 p1 (.lst ((qs.take i).map V.ref))) dd (.dK [])) dd (.dK (mergeK [] [((Sum.inr "home" : Key),V.str "off"),(Sum.inr "off",V.str "home")])) dd=some (.dK (mergeK [] [((Sum.inr "home" : Key),V.str "off"),(Sum.inr "off",V.str "home")])):=Ab;have o7:=s7 p1 _ Ab;have um:=((Same.refl H6).step (o:=.lst ((qs.take i).map V.ref)) n1).trans s7;dsimp only;generalize upd (upd (upd H6 p1 (.lst ((qs.take i).map V.ref))) dd (.dK [])) dd (.dK (mergeK [] [((Sum.inr "home" : Key),V.str "off"),(Sum.inr "off",V.str "home")]))=H7 at sw o7 um;refine⟨_,rfl,dd,_,rfl,.inl ⟨_,_,.inl sw,rfl,hy.symm⟩,by show 2<=sizeLine;decide,λt nt=>⟨by show 1<=sizeLine;decide,λp2 n2=>?_⟩⟩;have xq:=um _ _ hX;refine⟨p1,p2,_,[.ref t],rfl,rfl,ku (ku o7 nt) n2,Ab,dh _ (by simp;lia),λp3 n3=>?_⟩;refine⟨_,rfl,_,rfl,_,_,rfl,rfl,_,rfl,fc,_,rfl,SqL.of (ku (ku (ku (um _ _ jd) nt) n2) n3),λp4 n4=>?_⟩;rw[ii,D6 _ _ _ eK];refine⟨p3,p4,_,_,rfl,rfl,ku Ab n4,Ab,dh _ (by simp;lia),λp5 n5=>?_⟩;have s8:=(((((Same.refl H7).go nt n2).go n2 n3).go n3 n4).go n4 n5).step (o:=.lst ((qs.take i).map V.ref++[.ref t]++(qs.drop (i+1)).map V.ref)) n5;have zu:=um.trans s8;have o6:=su.same zu;have oy:=G2 xk;exact fin (qs':=qs.take i++t::qs.drop (i+1)) (kept':=kept.take i++(q.1,y)::kept.drop (i+1)) o6 (d6.same zu) (λz=>by rw[z] at n5;rw[ku (ku (ku (ku xq nt) n2) n3) n4] at n5;cases n5) (by rw[Ab];simp) (SH.Tups.mid (tq o6) (ku (ku (ku (ku Ab n2) n3) n4) n5) i (i+1)) (ko.mid kl _ _ (Qb _) ⟨o1,oy.1,o3,oy.2⟩)
    refine⟨_,rfl,rfl,_,rfl,?_⟩;refine A2 (λ_=>?_) (λ_=>?_)
    ·-- no xp
     refine⟨_,rfl,_,rfl,_,rfl,fc,_,rfl,SqL.of jd,λp1 n1=>?_⟩;rw[Ek _ _ _ nW];refine⟨_,rfl,by show 2<=sizeLine;decide,λt nt=>⟨by show 1<=sizeLine;decide,λp2 n2=>?_⟩⟩;refine⟨p1,p2,_,[.ref t],rfl,rfl,ku (ku Ab nt) n2,Ab,dh _ (by simp;lia),λp3 n3=>?_⟩;refine⟨_,rfl,_,rfl,_,_,rfl,rfl,_,rfl,fc,_,rfl,SqL.of (ku (ku (ku (ku jd n1) nt) n2) n3),λp4 n4=>?_⟩;rw[ii,D6 _ _ _ eK];refine⟨p3,p4,_,_,rfl,rfl,ku Ab n4,Ab,dh _ (by simp;lia),λp5 n5=>?_⟩;have s7:=(((((Same.refl H6).go n1 nt).go nt n2).go n2 n3).go n3 n4).go n4 n5;have s8:=s7.step (o:=.lst ((qs.take i).map V.ref++[.ref t]++(qs.drop (i+1)).map V.ref)) n5;have o6:=su.same s8;exact fin (qs':=qs.take i++t::qs.drop (i+1)) (kept':=kept.take i++(q.1,("bank" : aj))::kept.drop (i+1)) o6 (d6.same s8) (λz=>by rw[z] at n5;rw[ku (ku (ku (ku (ku hX n1) nt) n2) n3) n4] at n5;cases n5) (by rw[Ab];simp) (SH.Tups.mid (tq o6) (ku (ku (ku (ku Ab n2) n3) n4) n5) i (i+1)) (ko.mid kl _ _ (Qb _) ⟨o1,Xfn.1,o3,Xfn.2⟩)
    ·refine⟨_,rfl,fc,_,rfl,SqL.of jd,λp1 n1=>?_⟩;have s7:=(Same.refl H6).step (o:=.lst (qs.map V.ref).reverse) n1;have l7:=su.same s7;refine fin (qs':=qs.reverse) (kept':=kept.reverse) l7 (d6.same s7) (λz=>by rw[z,hX] at n1;cases n1) (by rw[Ab,List.map_reverse]) ?_ ko.rev;have ek:kept.reverse.map pr2=(kept.map pr2).reverse:=List.map_reverse;rw[ek];exact Xoh (tq l7)
def Xf3:FnScope ["_law_row_here", "_law_some", "_law_kept_here", "_law_of"] ["_law_row_here", "_law_some", "_law_kept_here"] (defScope s__law_good_kept):=by walk_at "s"
def Xp3  (F:Fun K "_law_good_kept" "_law_good_kept" s__law_good_kept f fd) (FH:Fn P w K mg base CX0 2 "_law_held" ["_law_some", "_law_kept_here"] spHeldL) (FK:Fn P w K mg base CX0 1 "_law_kept" ["_law_row_here", "_law_crowd"] N5):
  FnOk P w K mg base CX0 3 f fd ["_law_row_here", "_law_some", "_law_kept_here"] Xfm:=by
 refine F.ok Xf3 (by walk_at "l") ?_
 ·walk_at "i"
  obtain⟨r,l,kp,row,ps,Ts,qs,kept,rfl,hR,R2,hl,hT,tU,i7,hk,hq,ko,k⟩:=h;have bR:Room 1 _:=hr.mono (by decide);have eX:Room 2 _:=hr.mono (by decide);refine⟨_,Ae (Ap (i:=3) Xf3.nd rfl (.inl rfl) (Ai FH eX (by rfl) Aj (Aa (pv 1) (Aa (pv 2) Ac))))
   (Ag (Ao (Ji (Cz (Ka (hu3 hr)) (pv 3) (Bg Ac) (Au _)) (Jh (Cz (J9 (hu3 hr)) (Ai FK bR (by rfl) Aj (Aa (pv 0) (Aa (pv 3) Ac))) (pv 2) (Au _)))))),?_⟩
  have nV:qs.length<=16:=by
   have:=hq.1;rw[Oc] at this;have:=ko.len
   lia
  have mem:∀S,S∈Ts.filter (keeps kept)↔An row S=true/\keeps kept S=true:=λS=>by rw[Oi,i7]
  have gi:=Xe7 mem;have l6:∀S∈Ts.filter (keeps kept),∀y∈S,okN y:=λS hS y hy=>R2.ok y ((Es ((mem S).mp hS).1).1 y hy);refine⟨_,rfl,_,rfl,l,kp,ps,Ts,qs,kept,rfl,hl,hT,by lia,hk,hq,by lia,λD us H1 nD hD tx hle s1=>?_⟩;dsimp only[Ax];refine⟨_,rfl,by show 0<=sizeLine;decide,λe ne=>?_⟩;have s2:Same H1 (upd H1 e (.lst [])):=(Same.refl H1).step ne;have zv:upd H1 e (.lst []) e=some (.lst []):=Ab;dsimp only;generalize upd H1 e (.lst [])=H2 at s2 zv;refine⟨.list ((Ts.filter (keeps kept)).map tupD),.list (([]:List (Za)).map tupD),Da (s2 _ _ hD) (tx.same s2),Gh zv Dh,Bu _ (C9 l6),rfl,G1 _ [],_,rfl,?_⟩;rw[G0 l6 (λS hS=>absurd hS (by simp))];have iM:=s1.trans s2;by_cases n:Ts.filter (keeps kept)=[]
  ·rw[Te n];exact Bq (k false H2 ⟨λz=>absurd z (by decide),λg=>absurd n (gi.mp g).1⟩ iM)
  ·rw[Tf n];refine Br ?_;refine⟨_,rfl,_,rfl,r,D,row,us,_,rfl,iM _ _ hR,R2,s2 _ _ hD,tx.same s2,by lia,n,λG gs H3 nG hG wk s3=>?_⟩;have rH:=Xe8 n R2.ok;have iK:=iM.trans s3;refine⟨_,rfl,_,_,Da hG wk,Da (iK _ _ hk) (hq.same iK),Bu _ (C9 rH),Bu _ (C9 ko.okL),G1 _ _,?_⟩;rw[G0 rH ko.okL];refine k _ H3 ?_ iK;rw[decide_eq_true_eq,gi];exact⟨λz=>⟨n,Xe9 z⟩,λz=>by rw[z.2]⟩
def Xp4:FnScope ["_law_thing"] ["_law_thing"] (defScope s__law_int):=by walk_at "s"
def Xp5  (F:Fun K "_law_int" "_law_int" s__law_int f fd) (T:Bl mg):FnOk P w K mg base CX0 1 f fd ["_law_thing"] spInt:=by
 refine F.ok Xp4 (by walk_at "l") ?_
 ·walk_at "i"
  obtain⟨i,rfl,k⟩:=h;refine⟨_,Ag (Ao (Ji (A0 Hm (by rfl) T.isi be (Aa (pv 0) (Aa (F5 (v:=.ty "int") (by rfl) T.int (by rfl) rfl) Ac)))
   (Jh (Xgm (A0 Hm (by rfl) T.isi be (Aa (pv 0) (Aa (F5 (v:=.ty "bool") (by rfl) T.bool (by rfl) rfl) Ac))))))),?_⟩
  refine⟨_,rfl,_,_,_,_,true,rfl,.int i,rfl,Ig K "int",true,rfl,Br ?_⟩;exact⟨_,rfl,_,_,_,_,false,rfl,.int i,rfl,Xkt K,false,rfl,k⟩
def Xp6:FnScope ["_law_found"] ["_law_found"] (defScope s__law_tuple):=by walk_at "s"
def Xp7  (F:Fun K "_law_tuple" "_law_tuple" s__law_tuple f fd) (T:Bl mg):FnOk P w K mg base CX0 1 f fd ["_law_found"] Xdl:=by
 refine F.ok Xp6 (by walk_at "l") ?_
 ·walk_at "i"
  obtain⟨v,ss,rfl,hv,hl,k⟩:=h;obtain⟨a,xs,rfl,hR,hs⟩:=Mx hv;rw[Ii hs] at hR;refine⟨_,Ag (Ao (Ji (A0 Hm (by rfl) T.isi be (Aa (pv 0) (Aa (F5 (v:=.ty "tuple") (by rfl) T.tuple (by rfl) rfl) Ac)))
   (Jh (A0 (Hj rfl) (by rfl) T.all (by rfl) (Aa (Df (N:=["_law_one_here"]) (cap:=[none]) (CompScope.of (defScope s__law_tuple) ["_law_found"] rfl rfl rfl (by decide +kernel)) rfl
    (Xgq (pv 0)) (λ_ _ _=>pg_name (i:=0) (show (["_law_one_here"]:Za).Nodup by decide +kernel) rfl (.inl rfl) (.inr rfl)) (λ_ _ _=>Ca)
    (λ_ _ _=>A0 (Xj1 K rfl) (by rfl) T.isi be (Aa (pv 0) (Aa (F5 (v:=.ty "str") (by rfl) T.str boot_str rfl) Ac)))) Ac))))),?_⟩
  refine⟨_,rfl,_,_,_,_,true,rfl,.tup hR,rfl,Ig K "tuple",true,rfl,Br ?_⟩;refine⟨_,rfl,a,rfl,⟨_,SqT.of hR⟩,?_⟩;refine J4 (n:=ss.length) (by rw[Tb];lia) (λi=>(ss.map V.str).getD i .non) (λ_=>.bl true) ?_ ?_ ?_ ?_
  ·intro i H2 hi s2;exact Xi1 (SqT.of (s2 _ _ hR)) (by rw[Oc];exact hi)
  ·intro H2 s2;have:=Xi2 (K:=K) (SqT.of (s2 _ _ hR))
   rwa [Oc] at this
  ·intro i H2 Q' hi s2 kk;rw[Bo V.str aj.empty ss hi];exact⟨_,rfl,_,_,_,_,true,rfl,.str _,rfl,Ig K "str",kk H2 (Same.refl _)⟩
  ·intro D H2 nD s2 hD;refine⟨D,List.replicate ss.length true,rfl,?_,?_⟩
   ·rw[hD,List.map_const',Py,List.map_replicate]
   ·have e:(List.replicate ss.length true).all id=true:=by
     rw[O6];intro b hb;rw[(List.mem_replicate.mp hb).2];rfl
    rw[e];exact k H2 s2
abbrev NSd6:Za:=["_law_row_here", "_law_some", "_law_said_here", "e", "_law_kinds"]
def G4:FnScope NSd6 ["_law_row_here", "_law_some"] (defScope s__law_said):=by walk_at "s"
def Xf4(K)(C):KN K (.ref C) (.ref C)=some true:=by
 unfold KN;rw[Td (beq_self_eq_true _)]
def Xp8  (F:Fun K "_law_said" "_law_said" s__law_said f fd) (B:Bl mg) (hS:mg "ShoreError" = some (.ref S)) (hC:mg "BadGround" = some (.ref C)) (hD:mg "NoBody" = some (.ref D))
  (xr:mg "meet" = some (.ref fa)) (xt:KR K (.ref fa)=true) (xu:Binds K zw ["row", "grounds"] []) (FA:FnOk P w K mg base (CX1 P w) 7 fa zw ["row", "grounds"] (spMeet C D T (lamPos s_in_order)))
  (xC:ExcF K C) (xD:ExcF K D) (e1:LD K (.ref C) (.ref S)=some true) (e2:LD K (.ref D) (.ref S)=some true) (v1:KN K (.ref C) (.type "ValueError")=some true) (v2:KN K (.ref D) (.type "ValueError")=some true)
  (n1:KN K (.ref C) (.ref D)=some false) (n2:KN K (.ref D) (.ref C)=some false):
  FnOk P w K mg base CX0 8 f fd ["_law_row_here", "_law_some"] (spSaid36 T (lamPos s_in_order)):=by
 refine F.ok G4 (by walk_at "l") ?_
 ·walk_at "i"
  obtain⟨r,g,row,gs,ks,b0,rfl,hA,hb,k⟩:=h;refine⟨_,Ae (Ap (i:=2) G4.nd rfl (.inl rfl) Aw)
   (Ae (Xii (i:=3) (Cc:=S) rfl rfl rfl G4.nd rfl rfl (by rfl) hS
     (λpn R=>Ag (F7 (Xih FA hr (by rfl) xr xt xu .nil (Aa (pv 0) (Aa (pv 1) Ac)))))
     (λpn ex=>Ae (Ap (i:=4) G4.nd rfl (.inl rfl) (Bg (Aa (A0 (Mp K rfl) (by rfl) B.isi be (Aa (pv 3) (Aa (Xac (v:=.ref C) (by rfl) hC rfl) Ac)))
       (Aa (A0 (Mp K rfl) (by rfl) B.isi be (Aa (pv 3) (Aa (Xac (v:=.ref D) (by rfl) hD rfl) Ac))) Ac))))
      (Ae (Ap (i:=2) G4.nd rfl (.inl rfl) Aw)
      (Ag (Ba (Ex (Av Bh (Nc K (by rfl) PySem.F.plainAttrs_list PySem.F.slot_list_count PySem.F.type_list_count Xc2 (pv 4) (Aa Ff Ac)) Af (Au _))
        (Ew (Dz (A0 (Mp K rfl) (by rfl) B.isi be (Aa (pv 3) (Aa (F5 (v:=.ty "ValueError") (by rfl) B.val (by rfl) rfl) Ac)))))).pt
       (Ag (Ap (i:=2) G4.nd rfl (.inl rfl) (Aq (De K (by rfl)) (Bi (Aa Aw (Aa Aw Ac))) (Nc K (by rfl) PySem.F.plainAttrs_list PySem.F.slot_list_index PySem.F.type_list_index Xkj (pv 4) (Aa Ff Ac)) (λ_ _=>rfl)))) Bc)))))
   (Ag (Ao (pv 2)))),?_⟩
  refine⟨λC1 Z1 H1=>C1=(if b0=true then C else D) /\ Z1=[some (.ref r),some (.ref g),some (.str "told"),none,none],?_,?_⟩
  ·refine⟨_,rfl,_,rfl,r,g,row,gs,ks,rfl,hA,λe H' _ _=>?_,λe H' _ _=>?_,λne hg=>?_⟩
   ·refine⟨D,rfl,?_,rfl⟩;rcases hb with ⟨_,k,hk,_⟩ | ⟨h,_⟩
    ·rw[e] at hk;cases hk
    ·rw[h];rfl
   ·refine⟨C,rfl,?_,rfl⟩;rcases hb with ⟨h,_⟩ | ⟨_,h⟩
    ·rw[h];rfl
    ·obtain⟨k,hk,_⟩:=e;rw[h] at hk;cases hk
   ·rcases hb with ⟨_,k,hk,h⟩ | ⟨_,h⟩
    ·exact absurd (hg k hk) h
    ·exact absurd h ne
  ·rintro C1 Z1 H1 ⟨rfl,rfl⟩;have fin:∀{H2:Hp},Same H1 H2->Q (.str (if b0=true then "ground" else "nobody")) H2:=λs=>k _;clear k hA hb;cases b0 with
   | true=>
    refine⟨e1,λex hex=>?_⟩;refine⟨_,rfl,ex,C,_,_,true,rfl,Ab,xC,rfl,Xf4 K C,?_⟩;refine⟨_,rfl,ex,C,_,_,false,rfl,Ab,xC,rfl,n1,by show 2<=sizeLine;decide,λl nl=>?_⟩;have o8:upd (upd H1 ex (Fq ex C)) l (.lst [.bl true,.bl false]) ex=some (Fq ex C):=ku Ab nl;refine⟨_,rfl,.inl ⟨rfl,_,SqL.of Ab⟩,l,_,_,rfl,rfl,Ab,rfl,rfl,rfl,_,rfl,?_⟩;refine Br ?_;refine⟨_,rfl,ex,C,_,_,true,rfl,o8,xC,rfl,v1,true,rfl,Br ?_⟩;refine⟨by show 2<=sizeLine;decide,λt nt=>?_⟩;refine⟨_,rfl,.inl ⟨rfl,_,SqL.of (ku Ab nt)⟩,l,_,_,0,rfl,rfl,ku Ab nt,rfl,rfl,by show 2<=1000;decide,⟨_,rfl,rfl⟩,λm z hm _=>absurd hm (P8 m),?_⟩;refine⟨t,_,_,_,rfl,rfl,SqT.of Ab,rfl,?_⟩;exact⟨_,rfl,fin ((((Same.refl H1).step hex).step nl).step nt)⟩
   | false=>
    refine⟨e2,λex hex=>?_⟩;refine⟨_,rfl,ex,D,_,_,false,rfl,Ab,xD,rfl,n2,?_⟩;refine⟨_,rfl,ex,D,_,_,true,rfl,Ab,xD,rfl,Xf4 K D,by show 2<=sizeLine;decide,λl nl=>?_⟩;have o8:upd (upd H1 ex (Fq ex D)) l (.lst [.bl false,.bl true]) ex=some (Fq ex D):=ku Ab nl;refine⟨_,rfl,.inl ⟨rfl,_,SqL.of Ab⟩,l,_,_,rfl,rfl,Ab,rfl,rfl,rfl,_,rfl,?_⟩;refine Br ?_;refine⟨_,rfl,ex,D,_,_,true,rfl,o8,xD,rfl,v2,true,rfl,Br ?_⟩;refine⟨by show 2<=sizeLine;decide,λt nt=>?_⟩;refine⟨_,rfl,.inl ⟨rfl,_,SqL.of (ku Ab nt)⟩,l,_,_,1,rfl,rfl,ku Ab nt,rfl,rfl,by show 2<=1000;decide,⟨_,rfl,rfl⟩,λm z hm hz=>?_,?_⟩
    ·have:m=0:=by lia
     subst this;cases (Ov hz);rfl
    ·refine⟨t,_,_,_,rfl,rfl,SqT.of Ab,rfl,?_⟩;exact⟨_,rfl,fin ((((Same.refl H1).step hex).step nl).step nt)⟩
abbrev NDu:Za:=["_law_some", "_law_yards", "_law_bodies", "_law_at", "_law_to", "_law_other", "_law_split", "_law_met"]
abbrev NDu1:Za:=["_law_kept_here", "_law_some"]
abbrev NDu2:Za:=["_law_plot", "_law_bodies", "_law_to"]
abbrev NDu3:Za:=["_law_name", "_law_side", "_law_other"]
abbrev NDu4:Za:=["_law_plot", "_law_bodies"]
abbrev NDu5:Za:=["_law_one_here", "_law_plot"]
def F4:FnScope NDu ["_law_some", "_law_yards"] (defScope s__law_due):=by walk_at "s"
def Xp9  (F:Fun K "_law_due" "_law_due" s__law_due f fd) (B:Bl mg) (FH:Fn P w K mg base CX0 2 "_law_held" ["_law_some", "_law_kept_here"] spHeldL):FnOk P w K mg base CX0 3 f fd ["_law_some", "_law_yards"] Xft:=by
 refine F.ok F4 (by walk_at "l") ?_
 ·walk_at "i"
  obtain⟨l,y,row,ps,Ts,gs,ks,rfl,hl,hT,i7,cN,R2,hy,hG,KC,hok,me,kf,kn⟩:=h;have hu:=Dp hr;have sx:=hu4 hr;refine⟨_,Ae (Ap (i:=2) F4.nd rfl (.inr rfl) (Df (N:=NDu1) (cap:=[none,some 0]) (CompScope.of (defScope s__law_due) NDu rfl rfl rfl (by decide +kernel)) rfl (pi_list (pv 1))
    (λ_ _ _=>pg_name (i:=0) (show NDu1.Nodup by decide +kernel) rfl (.inl rfl) (.inr rfl)) (λ_ _ _=>Ca) (λ_ _ _=>Ai (by exact FH) (by exact hr) (by rfl) Aj (Aa (pv 1) (Aa (pv 0) Ac)))))
   (Ae (Cg aN.never rfl (Fj rfl B.range (Aa (A0 B9 (by rfl) B.len aR (Aa (pv 2) Ac)) Ac)) (pg_name (i:=3) F4.nd rfl (.inl rfl))
    (Ag (Cg aN.never rfl (Xah rfl B.range (Aa (Ak Bw (pv 3) Af) (Aa (A0 B9 (by rfl) B.len aR (Aa (pv 2) Ac)) Ac))) (pg_name (i:=4) F4.nd rfl (.inr rfl))
     (Ag (Ba (Av (J9 (hu3 hr)) (Df (N:=NDu2) (cap:=[none,some 2,some 4]) (CompScope.of (defScope s__law_due) NDu rfl rfl rfl (by decide +kernel)) rfl (pi_list (Aq A5 (pv 2) (pv 3) (λ_ _=>rfl)))
       (λ_ _ _=>pg_name (i:=0) (show NDu2.Nodup by decide +kernel) rfl (.inl rfl) (.inr rfl)) (λ_ _ _=>C4 (Av (Xcw (by exact sx)) (pv 0) (Aq (Xcj K (by rfl)) (pv 1) (pv 2) (λ_ _=>rfl)) (by rfl))) (λ_ _ _=>pv 0)) (Bg Ac) (Au _))
      (Ae (Ap (i:=5) F4.nd rfl (.inr rfl) (Cq (Xff rfl) (by rfl) B.dict (by rfl) (Aa (Aq A5 (pv 1) (pv 4) (λ_ _=>rfl)) Ac)))
      (Ae (Dg (i:=6) (N:=NDu3) (cap:=[none,none,some 5]) (CompScope.of (defScope s__law_due) NDu rfl rfl rfl (by decide +kernel)) rfl F4.nd rfl rfl (pi_list (Aq A5 (pv 1) (pv 3) (λ_ _=>rfl)))
       (λ_ _ _=>Ft K 2 rfl rfl (Bz (pg_name (i:=0) (show NDu3.Nodup by decide +kernel) rfl (.inl rfl) (.inr rfl)) (Bz (pg_name (i:=1) (show NDu3.Nodup by decide +kernel) rfl (.inl rfl) (.inr rfl)) D0)))
       (λ_ _ _=>C4 (Av Jp (Lz (by exact hu) (pv 2) (pv 0) (pv 1) ⟨rfl,rfl,rfl,rfl⟩) (pv 1) (Au _))) (λ_ _ _=>pv 0))
      (Ag (Ao (Bi (Aa Aw (Aa (pv 3) (Aa (pv 4) (Aa (Fh (Av (Xbq (Sx hu)) (pv 6) (Bg Ac) (Au _)) (Aq A5 (pv 6) Af (λ_ _=>rfl)) Aw) Ac)))))))))
      Bc)))))
   (Ae (Dg (i:=7) (N:=NDu4) (cap:=[none,some 2]) (CompScope.of (defScope s__law_due) NDu rfl rfl rfl (by decide +kernel)) rfl F4.nd rfl rfl (pi_list (pv 0))
    (λ_ _ _=>pg_name (i:=0) (show NDu4.Nodup by decide +kernel) rfl (.inr rfl) (.inl rfl))
    (λs0 H0 ex=>C4 (Dz (A0 (Hj rfl) (by rfl) B.all (by rfl) (Aa (Df (N:=NDu5) (cap:=[none,some 0]) (CompScope.of _ NDu4 rfl rfl rfl (by kernel_rfl)) rfl
     (Nx K (by rfl) (pv 1)) (λ_ _ _=>pg_name (i:=0) (show NDu5.Nodup by decide +kernel) rfl (.inl rfl) (.inr rfl)) (λ_ _ _=>Ca)
     (λ_ _ _=>Cz (Xcw (by exact sx)) (pv 1) (pv 0) (by rfl))) Ac)))) (λ_ _ _=>pv 0))
   (Ag (Ao (Bi (Aa Aw (Aa (Fh (Av (Ka (hu3 hr)) (pv 7) (Bg Ac) (Au _)) (Aq A5 (pv 7) Af (λ_ _=>rfl)) Aw) Ac))))))),?_⟩
  have aI:=hG.len;have l6:∀S∈Ts,∀z∈S,okN z:=λS hS z hz=>R2.ok z ((Es ((i7.mem S).mp hS)).1 z hz);have pH:∀k:Kp,∀S∈Ts.filter (keeps k),∀z∈S,okN z:=λk S hS=>l6 S (Oi.mp hS).1;have l8:∀S∈([]:List (Za)),∀z∈S,okN z:=λS hS=>by cases hS
  refine⟨_,rfl,y,rfl,⟨_,SqL.of hy⟩,?_⟩;refine D2 (n:=gs.length) (λj=>.ref (gs.getD j 0)) (λD i Z2 H2=>(∃v, Z2=[v,some (.ref l)])/\Same H H2/\∃bs:List ae,H2 D=some (.lst (bs.map V.ref))/\bs.length=i/\Bods H2 bs ks Ts/\∀a∈bs,a≠D) ?_ ?_ ?_ ?_ ?_
  ·intro D hD;exact⟨⟨_,rfl⟩,(Same.refl H).step hD,[],Ab,rfl,λi hi=>absurd hi (P8 _),λa h=>by cases h⟩
  ·rintro D i Z2 H2 hD hi ⟨_,s2,_⟩;have:=B4 (K:=K) (SqL.of (s2 _ _ hy)) (show i<(gs.map V.ref).length by rw[Oc];exact hi)
   rwa [Bo V.ref 0 gs hi] at this
  ·rintro D Z2 H2 hD ⟨_,s2,_⟩;have:=B5 (K:=K) (SqL.of (s2 _ _ hy))
   rwa [Oc] at this
  ·rintro D i Z2 H2 hD hi ⟨⟨v,rfl⟩,s2,bs,hb,uo,hB,hn⟩;obtain⟨qs,a1,a2⟩:=(hG.same s2).at' i hi;have ql:=a2.1;have ol:=(hok _ (Cw (i:=i) (by lia))).len;rw[Oc] at ql;dsimp only[Ax,Dd];rw[Td rfl];refine⟨_,rfl,_,rfl,l,gs.getD i 0,ps,Ts,qs,ks.getD i [],rfl,s2 _ _ hl,hT.same s2,by lia,a1,a2,by lia,λd us H3 nd hd hu3 hle s3=>?_⟩;have zx:d≠D:=λz=>by rw[z,hb] at nd;cases nd
   refine wput hi (s3 _ _ hb) (by rw[Oc,Tb];lia) ⟨⟨_,rfl⟩,λb o e=>by rw[Ad (Am e hD)];exact s3 _ _ (s2 _ _ e),bs++[d],by rw[Ab,Oo];rfl,by rw[Op,uo];rfl,?_,λa ha=>?_⟩;rotate_left
   ·rcases Om.mp ha with z | z
    ·exact hn a z
    ·rw[Oe.mp z];exact zx
   have lf:∀{a:ae} {xs:List V},a≠D->H3 a=some (.lst xs)->upd H3 D (.lst (bs.map V.ref++[.ref d])) a=some (.lst xs):=λn e=>by rw[Ad n];exact e
   have tf:∀{us:List ae} {Us:List (Za)},Tups H3 us Us->Tups (upd H3 D (.lst (bs.map V.ref++[.ref d]))) us Us:=λh=>⟨h.1,λj hj=>by
    rw[Ad λz=>by have:=h.2 j hj;rw[z,s3 _ _ hb] at this;cases this];exact h.2 j hj⟩
   intro j hj;rw[Op,Pq] at hj;by_cases z:j=i
   ·refine⟨us,?_,?_,by lia⟩
    ·rw[show (bs++[d]).getD j 0=d by rw[z,<-uo];simp[List.getD]];exact lf zx hd
    ·rw[z];exact tf hu3
   ·have jN:j<bs.length:=by lia
    obtain⟨HK,c1,c2,c3⟩:=hB j jN;have e1:(bs++[d]).getD j 0=bs.getD j 0:=by simp[List.getD,P4 jN]
    have e2:bs.getD j 0∈bs:=by
     have:bs.getD j 0=bs[j]:=by simp[List.getD,jN]
     rw[this];exact O5 jN
    refine⟨HK,?_,tf (c2.same s3),c3⟩;rw[e1];exact lf (hn _ e2) (s3 _ _ c1)
  rintro bo Z2 H1 _ ⟨_,s1,bs,hb,uo,hB,_⟩;have xv:bs.length=ks.length:=uo.trans aI;have jb:=s1 _ _ hl;have h8:=s1 _ _ hy;have HL:=hG.same s1;have qH:=hT.same s1;dsimp only[Ax];refine⟨_,rfl,bo,_,rfl,.inl (SqL.of hb),((bs.map V.ref).length:Int),rfl,by lia,by rw[Oc];lia,?_⟩;have wT:(((bs.map V.ref).length:Nat):Int).toNat=bs.length:=by rw[Oc];simp
  rw[wT];refine Fl (lo:=0) (n:=bs.length) (λi Z H2=>(∃v3 v4 v5 v6, Z=[some (.ref l),some (.ref y),some (.ref bo),v3,v4,v5,v6,none])/\Same H1 H2/\Bn ks i 0) ?_ ?_ ?_
  ·exact⟨⟨_,_,_,_,rfl⟩,Same.refl _,Bn.zero ks⟩
  ·rintro i Z H2 hi ⟨⟨v3,v4,v5,v6,rfl⟩,s2,n2⟩;rw[S6];dsimp only[Ax];refine⟨_,rfl,_,_,rfl,rfl,_,rfl,bo,_,rfl,.inl (SqL.of (s2 _ _ hb)),(i:Int)+1,((bs.map V.ref).length:Int),rfl,?_,?_⟩
   ·rw[Oc];lia
   have hn:((((bs.map V.ref).length:Nat):Int) - ((i:Int)+1)).toNat=bs.length - (i+1):=by rw[Oc];lia
   rw[hn];refine Fl (lo:=(i:Int)+1) (n:=bs.length - (i+1)) (λm Z H4=>(∃v4 v5 v6, Z=[some (.ref l),some (.ref y),some (.ref bo),some (.int i),v4,v5,v6,none])/\Same H2 H4/\Bn ks i (i+1+m)) ?_ ?_ ?_
   ·exact⟨⟨_,_,_,rfl⟩,Same.refl _,n2.first⟩
   ·rintro m Z H4 hm ⟨⟨v4,v5,v6,rfl⟩,s4,n4⟩;have j6:=s2.trans s4;have ej:(i:Int)+1+(m:Int)=((i+1+m:Nat):Int):=by lia
    rw[ej];have hj:i+1+m<bs.length:=by lia
    generalize EQ:i+1+m=j at n4 hj;have lR:=j6 _ _ hb;obtain⟨u1,a1,a2,a3⟩:=hB.same j6 i hi;obtain⟨u2,b1,b2,b3⟩:=hB.same j6 j hj;have gi:=me _ (Cw (i:=i) (by lia));have gj:=me _ (Cw (i:=j) (by lia));dsimp only[Ax];refine⟨_,rfl,_,rfl,bo,_,_,_,rfl,rfl,SqL.of lR,Cf (atR hi),_,rfl,⟨_,SqL.of a1⟩,?_⟩;refine Fs (n:=u1.length) (by rw[Tb];lia) (λz=>.ref (u1.getD z 0)) (λz=>decide ((Ts.filter (keeps (ks.getD i []))).getD z []∈Ts.filter (keeps (ks.getD j [])))) (λz=>.ref (u1.getD z 0)) ?_ ?_ ?_ ?_ ?_
    ·intro z H5 hz s5;have:=B4 (K:=K) (SqL.of (s5 _ _ a1)) (show z<(u1.map V.ref).length by rw[Oc];exact hz)
     rwa [Bo V.ref 0 u1 hz] at this
    ·intro H5 s5;have:=B5 (K:=K) (SqL.of (s5 _ _ a1))
     rwa [Oc] at this
    ·intro z H5 Q' hz s5 kk;have mz:=SH.Tups.at a2 hz;have oz:=pH _ _ mz;have zy:=s5 _ _ (a2.2 z hz);generalize (Ts.filter (keeps (ks.getD i []))).getD z []=S at mz oz zy kk;refine⟨_,rfl,_,rfl,_,rfl,bo,_,_,_,rfl,rfl,SqL.of (s5 _ _ lR),Cf (atR hj),tupD S,(Ts.filter (keeps (ks.getD j []))).map tupD,E7 zy,Da (s5 _ _ b1) (b2.same s5),Bu _ (E6 oz),Gi _ (N1 (pH _)),by show ah.depthAll (S.map ah.str)+1<=3;rw[Gp];decide,_,rfl,?_⟩;rw[isin (pH _) oz];exact kk H5 (Same.refl _)
    ·intro z H5 Q' hz _ s5 kk;exact⟨_,rfl,kk H5 (Same.refl _)⟩
    intro D H5 nD s5 hD;have eT:(((List.range u1.length).filter λz=>decide ((Ts.filter (keeps (ks.getD i []))).getD z []∈Ts.filter (keeps (ks.getD j [])))).map λz=>(Ts.filter (keeps (ks.getD i []))).getD z [])=(Ts.filter (keeps (ks.getD i []))).filter (λS=>decide (S∈Ts.filter (keeps (ks.getD j [])))):=by
     rw[a2.1];exact C5 [] (λS=>decide (S∈Ts.filter (keeps (ks.getD j [])))) _
    have tx:Tups H5 (((List.range u1.length).filter λz=>decide ((Ts.filter (keeps (ks.getD i []))).getD z []∈Ts.filter (keeps (ks.getD j [])))).map λz=>u1.getD z 0) ((Ts.filter (keeps (ks.getD i []))).filter (λS=>decide (S∈Ts.filter (keeps (ks.getD j []))))):=by
     rw[<-eT];exact Jb (a2.same s5) λi hi=>Pu.mp (Oi.mp hi).1
    have er:H5 D=some (.lst ((((List.range u1.length).filter λz=>decide ((Ts.filter (keeps (ks.getD i []))).getD z []∈Ts.filter (keeps (ks.getD j [])))).map λz=>u1.getD z 0).map V.ref)):=by rw[hD,Ph];rfl
    generalize (((List.range u1.length).filter λz=>decide ((Ts.filter (keeps (ks.getD i []))).getD z []∈Ts.filter (keeps (ks.getD j [])))).map λz=>u1.getD z 0)=us at er tx;have z4:∀S∈(Ts.filter (keeps (ks.getD i []))).filter (λS=>decide (S∈Ts.filter (keeps (ks.getD j [])))),∀z∈S,okN z:=λS hS=>pH _ S (Oi.mp hS).1;refine⟨by show 0<=sizeLine;decide,λem ne=>?_⟩;have s6:Same H5 (upd H5 em (.lst [])):=(Same.refl H5).step ne;have sA:upd H5 em (.lst []) em=some (.lst (([]:List ae).map V.ref)):=Ab;generalize upd H5 em (.lst [])=H6 at s6 sA;refine⟨_,_,Da (s6 _ _ er) (tx.same s6),Da sA (Tups.nil _),Bu _ (C9 z4),Bu _ (C9 l8),G1 _ _,_,rfl,?_⟩;rw[G0 z4 l8];have mi:=s5.trans s6;have pi:=j6.trans mi;by_cases ep:parts (ks.getD i []) (ks.getD j [])=[]
    ·rw[Tf λz=>(Xfr i7.mem gi gj).mp z ep];refine Bq ?_;exact⟨⟨_,_,_,rfl⟩,s4.trans mi,by rw[show i+1+(m+1)=j+1 by lia];exact n4.step ep⟩
    rw[Te ((Xfr i7.mem gi gj).mpr ep)];refine Br ?_;have z5:=HL.same pi;obtain⟨q1,c1,c2⟩:=z5.at' i (by lia);obtain⟨q2,d1,d2⟩:=z5.at' j (by lia);have oi:=hok _ (Cw (i:=i) (by lia));have oj:=hok _ (Cw (i:=j) (by lia));have li:=oi.len;have lj:=oj.len;have ql:=c2.1;rw[Oc] at ql;obtain⟨l1,l2⟩:=Xfv d2;refine⟨_,rfl,_,rfl,y,_,_,_,rfl,rfl,SqL.of (pi _ _ h8),Cf (atR (show j<gs.length by lia)),_,q2,kvK (ks.getD j []),rfl,d1,l1,by unfold kvK;rw[Oc];lia,l2,λd nd=>?_⟩;have s7:Same H6 (upd H6 d (.dK (Bp (kvK (ks.getD j []))))):=(Same.refl H6).step nd;have sw:upd H6 d (.dK (Bp (kvK (ks.getD j [])))) d=some (.dK (Bp (kvK (ks.getD j [])))):=Ab;dsimp only[Ax];generalize upd H6 d (.dK (Bp (kvK (ks.getD j []))))=H7 at s7 sw;have tR:=pi.trans s7;refine⟨_,rfl,_,rfl,y,_,_,_,rfl,rfl,SqL.of (tR _ _ h8),Cf (atR (show i<gs.length by lia)),_,rfl,⟨_,SqL.of (s7 _ _ c1)⟩,?_⟩;refine Xfu (some (.ref d)) rfl (s7 _ _ c1) (c2.same s7) (by lia) (Jc (ks.getD j [])) ?_ ?_ ?_
    ·intro x z H8 Q' _ s8 q;have z6:=s8 _ _ sw;refine⟨_,rfl,d,rfl,.inl ⟨_,.inl z6⟩,_,rfl,_,rfl,Ay (Bp (kvK (ks.getD j []))) (Sum.inr x:Key),.inl ⟨_,_,.inl z6,rfl,rfl⟩,?_⟩;dsimp only;rw[Xfw gj.nd];refine⟨_,rfl,rfl,_,rfl,?_⟩;rw[En];exact q
    ·intro x v2 H8 Q' q;exact⟨_,rfl,q⟩
    intro sp H8 KD s8 fD;have fD:H8 sp=some (.lst ((parts (ks.getD i []) (ks.getD j [])).map V.str)):=fD;cases xw:parts (ks.getD i []) (ks.getD j []) with
    | nil=>exact absurd xw ep
    | cons x r0=>
     rw[xw] at fD;dsimp only[Ax];refine⟨_,rfl,_,rfl,_,rfl,by show 0<=sizeLine;decide,λe2 ne2=>?_⟩;have s9:Same H8 (upd H8 e2 (.lst [])):=(Same.refl H8).step ne2;refine⟨sp,e2,_,_,rfl,rfl,SqL.of (s9 _ _ fD),SqL.of Ab,Xdg (x::r0),by simp,_,rfl,?_⟩;refine Br ?_;refine⟨_,rfl,sp,_,_,_,rfl,rfl,SqL.of (s9 _ _ fD),(show atI ((x::r0).map V.str) ((0:Nat):Int)=some (.str x) from Cf rfl),by show 4<=sizeLine;decide,λt nt=>?_⟩;exact kf i j x t _ ⟨by lia,by lia,n4,r0,xw⟩ Ab (((s1.trans tR).trans s8).trans (s9.step nt))
   ·rintro Z H4 ⟨⟨v4,v5,v6,rfl⟩,s4,n4⟩;refine⟨⟨_,_,_,_,rfl⟩,s2.trans s4,Bn.next ?_⟩;rw[<-xv]
    rwa [show i+1+(bs.length - (i+1))=bs.length by lia] at n4
  rintro Z H2 ⟨⟨v3,v4,v5,v6,rfl⟩,s2,n2⟩;rw[xv] at n2;have iZ:=s2 _ _ jb;have xx:=qH.same s2;have mO:=s2 _ _ hb;have HM:=hB.same s2;refine⟨_,rfl,l,rfl,⟨_,SqL.of iZ⟩,?_⟩;refine Fs (n:=ps.length) (by rw[Tb];lia) (λi=>.ref (ps.getD i 0)) (λi=>Bs ks (Ts.getD i [])) (λi=>.ref (ps.getD i 0)) ?_ ?_ ?_ ?_ ?_
  ·intro i H4 hi s4;have:=B4 (K:=K) (SqL.of (s4 _ _ iZ)) (by rw[Oc];exact hi);rw[Bo V.ref 0 ps hi] at this;exact this
  ·intro H4 s4;have:=B5 (K:=K) (SqL.of (s4 _ _ iZ))
   rwa [Oc] at this
  ·intro i H4 Q' hi s4 kk;have mS:=SH.Tups.at xx hi;have z7:=s4 _ _ (xx.2 i hi);have oS:=l6 _ mS;generalize Ts.getD i []=S at mS z7 oS kk;refine⟨_,rfl,bo,rfl,⟨_,SqL.of (s4 _ _ mO)⟩,?_⟩;refine J4 (n:=bs.length) (by rw[Tb];lia) (λj=>.ref (bs.getD j 0)) (λj=>.bl (keeps (ks.getD j []) S)) ?_ ?_ ?_ ?_
   ·intro j H5 hj s5;have:=B4 (K:=K) (SqL.of (s5 _ _ (s4 _ _ mO))) (show j<(bs.map V.ref).length by rw[Oc];exact hj)
    rwa [Bo V.ref 0 bs hj] at this
   ·intro H5 s5;have:=B5 (K:=K) (SqL.of (s5 _ _ (s4 _ _ mO)))
    rwa [Oc] at this
   ·intro j H5 Q2 hj s5 wq;obtain⟨u2,b1,b2,_⟩:=HM.same (s4.trans s5) j hj;refine⟨_,rfl,_,rfl,tupD S,(Ts.filter (keeps (ks.getD j []))).map tupD,E7 (s5 _ _ z7),Da b1 b2,Bu _ (E6 oS),Gi _ (N1 (pH _)),by show ah.depthAll (S.map ah.str)+1<=3;rw[Gp];decide,?_⟩;rw[isin (pH _) oS];have e:decide (S∈Ts.filter (keeps (ks.getD j [])))=keeps (ks.getD j []) S:=by
     cases hb:keeps (ks.getD j []) S with
     | true=>exact Te (Oi.mpr ⟨mS,hb⟩)
     | false=>exact Tf λz=>by rw[(Oi.mp z).2] at hb;cases hb
    rw[e];exact wq H5 (Same.refl _)
   ·intro O H5 nO s5 hO;have wt:H5 O=some (.lst (((List.range bs.length).map λj=>keeps (ks.getD j []) S).map V.bl)):=by rw[hO,Ph];rfl
    refine⟨O,_,rfl,wt,?_⟩;rw[xv,Xdp [] (λk=>keeps k S) ks];exact⟨_,rfl,kk H5 s5⟩
  ·intro i H4 Q' hi _ s4 kk;exact⟨_,rfl,kk H4 (Same.refl _)⟩
  ·intro D H4 nD s4 hD;have eT:(((List.range ps.length).filter λi=>Bs ks (Ts.getD i [])).map λi=>Ts.getD i [])=Ts.filter (Bs ks):=by
    rw[hT.1];exact C5 [] (Bs ks) Ts
   have tx:Tups H4 (((List.range ps.length).filter λi=>Bs ks (Ts.getD i [])).map λi=>ps.getD i 0) (Ts.filter (Bs ks)):=by
    rw[<-eT];exact Jb (xx.same s4) λi hi=>Pu.mp (Oi.mp hi).1
   have er:H4 D=some (.lst ((((List.range ps.length).filter λi=>Bs ks (Ts.getD i [])).map λi=>ps.getD i 0).map V.ref)):=by rw[hD,Ph];rfl
   generalize (((List.range ps.length).filter λi=>Bs ks (Ts.getD i [])).map λi=>ps.getD i 0)=us at er tx;have xy:∀S∈Ts.filter (Bs ks),∀z∈S,okN z:=λS hS=>l6 S (Oi.mp hS).1;obtain⟨S,r0,eS⟩:=Xfs i7.mem n2 me;rw[eS] at tx xy;have rM:0<us.length:=by rw[tx.1];simp
   dsimp only[Ax];refine⟨_,rfl,by show 0<=sizeLine;decide,λem ne=>?_⟩;have s6:Same H4 (upd H4 em (.lst [])):=(Same.refl H4).step ne;have sA:upd H4 em (.lst []) em=some (.lst (([]:List ae).map V.ref)):=Ab;generalize upd H4 em (.lst [])=H6 at s6 sA;refine⟨_,_,Da (s6 _ _ er) (tx.same s6),Da sA (Tups.nil _),Bu _ (C9 xy),Bu _ (C9 l8),G1 _ _,_,rfl,?_⟩;rw[G0 xy l8,Tf (by simp)];refine Br ?_;refine⟨_,rfl,D,_,_,_,rfl,rfl,SqL.of (s6 _ _ er),(show atI (us.map V.ref) ((0:Nat):Int)=some (.ref (us.getD 0 0)) from Cf (atR rM)),by show 2<=sizeLine;decide,λt nt=>?_⟩;exact kn n2 t (us.getD 0 0) S r0 _ eS (ku (s6 _ _ (tx.2 0 rM)) nt) Ab (((s1.trans s2).trans s4).trans (s6.step nt))
end
end K36
set_option maxHeartbeats 8000000
namespace K36
open L2 SH
def K9 (K:KL) (T:ae):Sp:=λvs H Q _=>∃(a:ae) (ns:List Int),vs=[.ref a]/\SqL K H a (ns.map V.int)/\ns.length<=63/\H T=some (.tbl #[])/\∀H',Q (.bl true) H'
theorem Xf5  : ∀qs,(∀q∈qs,∃t,H q=some (.tup (t.map V.str))/\An row t=true)->∃Ts,Tups H qs Ts/\∀S∈Ts,An row S=true
 | [],_=>⟨[],Tups.nil H,λS hS=>by simp at hS⟩
 | q::qs,h=>by
  obtain⟨t,h1,h2⟩:=h q Oj;obtain⟨Ts,g1,g2⟩:=Xf5 qs λq' hq=>h q' (Ol _ hq);refine⟨t::Ts,Tups.cons h1 g1,λS hS=>?_⟩;rcases Ot.mp hS with e | e
  ·rw[e];exact h2
  ·exact g2 S e
def Xqa(K)(h:X.K=K):B1 X (.type "list") (λxs H Q=>∃p ys,xs=[.ref p]/\(SqL K H p ys\/SqT K H p ys)/\∀l,H l=none->Q (.ref l) (upd H l (.lst ys))):=by
 subst h;exact Ls
def Xqb    (g:Grds H gs ks)   (ha:H a=some (.lst (qs.map V.ref))) (hq:Tups H qs (k.map pr2)) (i):Grds H (gs.take i++a::gs.drop (i+1)) (ks.take i++k::ks.drop (i+1)):=by
 have cM:∀(gs:List ae) (ks:List Kp) (i:Nat),Grds H gs ks->Grds H (gs.take i++a::gs.drop (i+1)) (ks.take i++k::ks.drop (i+1)):=by
  have cons:∀{b:ae} {c:Kp} {gs:List ae} {ks:List Kp},(∃qs:List ae,H b=some (.lst (qs.map V.ref))/\Tups H qs (c.map pr2))->Grds H gs ks->Grds H (b::gs) (c::ks):=λh g=>⟨by simp[g.len],λi hi=>by
   cases i with
   | zero=>simpa [List.getD] using h
   | succ i=>simpa [List.getD] using g.at' i (by simpa using hi)⟩
  have o9:∀{b:ae} {c:Kp} {gs:List ae} {ks:List Kp},Grds H (b::gs) (c::ks)->(∃qs:List ae,H b=some (.lst (qs.map V.ref))/\Tups H qs (c.map pr2))/\Grds H gs ks:=λg=>⟨by simpa [List.getD] using g.at' 0 (by simp),by have:=g.len;simpa using this,λi hi=>by simpa [List.getD] using g.at' (i+1) (by simpa using hi)⟩;intro gs
  induction gs with
  | nil=>
   intro ks i g;have:=g.len;cases ks with
   | nil=>simpa using cons ⟨qs,ha,hq⟩ g
   | cons _ _=>simp at this
  | cons b gs ih=>
   intro ks i g;cases ks with
   | nil=>have:=g.len;simp at this
   | cons c ks=>
    obtain⟨h1,h2⟩:=o9 g;cases i with
    | zero=>exact cons ⟨qs,ha,hq⟩ (by simpa using h2)
    | succ i=>exact cons h1 (by simpa using ih ks i h2)
 exact cM gs ks i g
def Xqc(h:okN y):A8 (.str y)=true:=by
 have a:(A8 (.str y)&&true)=true:=Xk5 (ss:=[y]) λz hz=>by rw[Oe.mp hz];exact h
 rw[Bool.and_true] at a;exact a
def okC (row:Za) (b:Nat) (_:Nat) (U:List (Za)):Prop:=U≠[]/\U.length<=b/\∀S∈U,An row S=true
def kpD (kept:Kp):ah:=.list ((kept.map pr2).map tupD)
def Ob    (h:H l=some (.lst (gs.map V.ref))) (g:Grds H gs ks):DAt H (.list (ks.map kpD)) (.ref l):=by
 refine Gh h ?_;have cM:∀(gs:List ae) (ks:List Kp),Grds H gs ks->DAll H (ks.map kpD) (gs.map V.ref):=by
  intro gs
  induction gs with
  | nil=>
   intro ks g;have:=g.len;cases ks with
   | nil=>exact Dh
   | cons k ks=>simp at this
  | cons a gs ih=>
   intro ks g;cases ks with
   | nil=>have:=g.len;simp at this
   | cons k ks=>
    obtain⟨qs,h1,h2⟩:=g.at' 0 (by simp);refine Dr (Da h1 h2) (ih ks ⟨by have:=g.len;simpa using this,λi hi=>?_⟩);have:=g.at' (i+1) (by simp;lia);simpa [List.getD] using this
 exact cM gs ks g
def Xqd(h:KpOk k):A8 (kpD k)=true:=C9 h.okL
def Xf6{ks:List Kp}(h:∀k∈ks,KpOk k):A8 (.list (ks.map kpD))=true:=plainAll_map kpD ks λk hk=>Xqd (h k hk)
def Xqe(ks:List Kp):ah.depthAll (ks.map kpD)<=3:=by
 induction ks with
 | nil=>simp[ah.depthAll]
 | cons k ks ih=>
  have h:=N0 (k.map pr2);show max (ah.depthAll ((k.map pr2).map tupD)+1) (ah.depthAll (ks.map kpD))<=3
  lia
def La(h:A8 d=true):ah.eqv d d=true:=(Kb d d h h).mpr rfl
section
variable {P:ao}{w:av}{K:KL}{mg:aj->Option aa}{base:am}
abbrev NL36:Za:=["_law_script", "_law_draw", "_law_row_here", "_law_some", "_law_crowds", "_law_plot", "_law_yards", "_law_at", "_law_odd", "_law_handed", "_law_due_here", "_law_found"]
abbrev NL36a:Za:=["_law_k", "_law_draw", "_law_some"]
abbrev NL36b:Za:=["_law_crowd", "_law_plot"]
abbrev NL36c:Za:=["_law_crowd", "_law_row_here"]
def scLaw:FnScope NL36 ["_law_script"] (defScope s_law):=by walk_at "s"
def Xqf  (F:Fun K "law" "law" s_law f fd) (B:Bl mg) (FB:Fn P w K mg base CX0 1 "_law_begin" ["_law_script"] (Xc6 K)) (FP:FnPick P w K mg base)
  (FI:Fn P w K mg base CX0 5 "_law_island_to" ["_law_draw", "_law_most"] spIslTo) (uq:Fn P w K mg base CX0 3 "_law_plots" ["_law_row_here"] spPlotsO) (sE:Fn P w K mg base CX0 2 "_law_one" ["_law_draw", "_law_some"] spOne)
  (FF:Fn P w K mg base CX0 3 "_law_few" ["_law_draw", "_law_some"] spFew) (ur:Fn P w K mg base CX0 1 "_law_kept" ["_law_row_here", "_law_crowd"] N5)
  (xz:Fn P w K mg base CX0 3 "_law_odd_kept" ["_law_draw", "_law_row_here", "_law_kept_here"] spOddK) (x3:Fn P w K mg base CX0 3 "_law_good_kept" ["_law_row_here", "_law_some", "_law_kept_here"] Xfm)
  (ut:Fn P w K mg base CX0 8 "_law_said" ["_law_row_here", "_law_some"] (spSaid36 T (lamPos s_in_order))) (x4:Fn P w K mg base CX0 3 "_law_due" ["_law_some", "_law_yards"] Xft)
  (uv:Fn P w K mg base (CX1 P w) 7 "meet" ["row", "grounds"] (spMeet B0 N T (lamPos s_in_order))) (z8:Fn P w K mg base CX0 1 "_law_int" ["_law_thing"] spInt) (HN:Fn P w K mg base CX0 1 "_law_tuple" ["_law_found"] Xdl):
  FnOk P w K mg base CX0 9 f fd ["_law_script"] (K9 K T):=by
 refine F.ok scLaw (by walk_at "l") ?_
 ·walk_at "i"
  obtain⟨a,ns,rfl,hS,aI,z9,k⟩:=h;have bR:Room 1 _:=hr.mono (by decide);have eX:Room 2 _:=hr.mono (by decide);have nN:Room 3 _:=hr.mono (by decide);have wn:Room 5 _:=hr.mono (by decide);have HP:Room 7 _:=hr.mono (by decide);have zA:Room 8 _:=hr.mono (by decide);refine⟨_,Ae (Ap (i:=1) scLaw.nd rfl (.inr rfl) (Ai FB bR (by rfl) Aj (Aa (pv 0) Ac)))
   (Ae (Ap (i:=2) scLaw.nd rfl (.inr rfl) (Ai FI wn (by rfl) Aj (Aa (pv 1) (Aa Af Ac))))
   (Ae (Ap (i:=3) scLaw.nd rfl (.inr rfl) (Ai uq nN (by rfl) Aj (Aa (pv 2) Ac)))
   (Ae (Dg (i:=4) (N:=NL36a) (cap:=[none,some 1,some 3]) (CompScope.of (defScope s_law) NL36 rfl rfl rfl (by decide +kernel)) rfl scLaw.nd rfl rfl (Fj (by rfl) B.range (Aa (Ai FP bR (by rfl) Aj (Aa (pv 1) (Aa Af Ac))) Ac)) (λ_ _ _=>pg_name (i:=0) (show NL36a.Nodup by decide +kernel) rfl (.inl rfl) (.inr rfl)) (λ_ _ _=>Ca) (λ_ _ _=>(Ai (by exact FF) (by exact nN) (by rfl) Aj (Aa (pv 1) (Aa (pv 2) Ac)))))
   (Ae (Ba (Av Bh (Ai FP bR (by rfl) Aj (Aa (pv 1) (Aa Af Ac))) Af (Au _)) (Ae (Ap (i:=5) scLaw.nd rfl (.inr rfl) (Ai sE eX (by rfl) Aj (Aa (pv 1) (Aa (pv 3) Ac))))
   (Ag (Dg (i:=4) (N:=NL36b) (cap:=[none,some 5]) (CompScope.of (defScope s_law) NL36 rfl rfl rfl (by decide +kernel)) rfl scLaw.nd rfl rfl (pi_list (pv 4)) (λ_ _ _=>pg_name (i:=0) (show NL36b.Nodup by decide +kernel) rfl (.inl rfl) (.inr rfl)) (λ_ _ _=>Ca) (λ_ _ _=>Ak Bj (pv 0) (Bg (Aa (pv 1) Ac)))))) Bc)
   (Ae (Dg (i:=6) (N:=NL36c) (cap:=[none,some 2]) (CompScope.of (defScope s_law) NL36 rfl rfl rfl (by decide +kernel)) rfl scLaw.nd rfl rfl (pi_list (pv 4)) (λ_ _ _=>pg_name (i:=0) (show NL36c.Nodup by decide +kernel) rfl (.inl rfl) (.inr rfl)) (λ_ _ _=>Ca) (λ_ _ _=>(Ai (by exact ur) (by exact bR) (by rfl) Aj (Aa (pv 1) (Aa (pv 0) Ac)))))
   (Ae (Ba (Av (Xok (hu4 hr)) (pv 6) (Bg Ac) (Au _)) (Ag (Ao (Cz Bh (Ai ut zA (by rfl) Aj (Aa (pv 2) (Aa (pv 6) Ac))) Aw (Au _)))) Bc)
   (Ae (Ba (Av Bh (Ai FP bR (by rfl) Aj (Aa (pv 1) (Aa Af Ac))) Af (Au _)) (Ae (Ap (i:=7) scLaw.nd rfl (.inl rfl) (Ai FP bR (by rfl) Aj (Aa (pv 1) (Aa (A0 B9 (by rfl) B.len aR (Aa (pv 6) Ac)) Ac))))
   (Ae (Ap (i:=8) scLaw.nd rfl (.inl rfl) (Ai xz nN (by rfl) Aj (Aa (pv 1) (Aa (pv 2) (Aa (Aq A5 (pv 6) (pv 7) (λ_ _=>rfl)) Ac)))))
   (Ag (Ba (Jg (Dz (Ai x3 nN (by rfl) Aj (Aa (pv 2) (Aa (pv 3) (Aa (pv 8) Ac)))))) (Ag (Ao (Cz Bh (Ai ut zA (by rfl) Aj (Aa (pv 2) (Aa (Ak Bj (Ak Bj (Bx B3 (pv 6) B2 (Bt (pv 7))) (Bg (Aa (pv 8) Ac))) (Bx B3 (pv 6) (Bt (Ak Bw (pv 7) Af)) B2)) Ac))) Aw (Au _)))) Bc)))) Bc)
   (Ae (Dg (i:=9) (N:=["_law_kept_here"]) (cap:=[none]) (CompScope.of (defScope s_law) NL36 rfl rfl rfl (by decide +kernel)) rfl scLaw.nd rfl rfl (pi_list (pv 6)) (λ_ _ _=>pg_name (i:=0) (show (["_law_kept_here"]:Za).Nodup by decide +kernel) rfl (.inl rfl) (.inr rfl)) (λ_ _ _=>Ca) (λ_ _ _=>Cq (Xqa K (by rfl)) (by rfl) B.list (by rfl) (Aa (pv 0) Ac)))
   (Ae (Ap (i:=10) scLaw.nd rfl (.inl rfl) (Ai x4 nN (by rfl) Aj (Aa (pv 3) (Aa (pv 6) Ac))))
   (Ae (Ap (i:=11) scLaw.nd rfl (.inl rfl) (Ai uv HP (by rfl) Xck (Aa (pv 2) (Aa (pv 9) Ac))))
   (Ae (Ba (F6 (Jg (Dz (A0 Hm (by rfl) B.isi be (Aa (pv 11) (Aa (F5 (v:=.ty "tuple") (by rfl) B.tuple (by rfl) rfl) Ac))))) (F6 (Av (Ka (hu3 hr)) (pv 11) (pv 10) (Au _)) (G6 (Av (Xoj (hu4 hr)) (pv 9) (pv 6) (Au _))))).pt (Ag (Ao Ff)) Bc)
   (Ae (Ba (Av Bh (Aq Eg (pv 11) Af (λ_ _=>rfl)) Aw (Au _)) (Ag (Ao (Ji (Ai z8 bR (by rfl) Aj (Aa (Aq Eg (pv 11) Af (λ_ _=>rfl)) Ac)) (Jh (Ai z8 bR (by rfl) Aj (Aa (Aq Eg (pv 11) Af (λ_ _=>rfl)) Ac)))))) Bc)
   (Ag (Ao (Ai HN bR (by rfl) Aj (Aa (Aq Eg (pv 11) Af (λ_ _=>rfl)) Ac)))))))))))))))),?_⟩
  have nT:∀{H':Hp} {b:ae} {o:HO},Az T (lamPos s_in_order) qIn H'->H' b=some o->(∀z,o ≠ .tbl z)->b≠T:=λtb e n z=>by
   rcases tb with q | ⟨_,q,_⟩<;>(rw[z,q] at e;cases e;exact n _ rfl)
  refine⟨_,rfl,a,ns,rfl,hS,aI,λdr sc H1 yx KE d1 s1=>?_⟩;have jD:Az T (lamPos s_in_order) qIn H1:=.inl (s1 _ _ z9);refine⟨_,rfl,dr,sc,10,rfl,by decide,d1,λr row n st aJ H2 nr hn bi hR hp gJ d2 b2=>?_⟩;have sF:Az T (lamPos s_in_order) qIn H2:=by
   obtain⟨EW,h1⟩:=d1.at;exact SH.Az.but jD h1 b2
  have hI:Isl row:=⟨n,st,aJ,by lia,bi,hp⟩;have R2:=hI.row2;have tN:=hI.dlen;have iT:r≠dr:=(d1.ne nr).1;refine⟨_,rfl,r,row,rfl,hR,R2,gJ,by lia,λl ps Ts H3 nl og uw gP s3=>?_⟩;have i7:=gP.mem;have mo:ps.length<=64:=by rw[uw.1];exact gP.len R2.two gJ (by lia)
  have eI:l≠dr:=(d2.ne nl).1;have tU:0<ps.length:=by rw[uw.1];exact List.length_pos_of_mem ((i7 []).mpr (Gq row))
  have e3:Ev T (lamPos s_in_order) dr sc r l row ps Ts H3:=⟨s3 _ _ hR,og,uw,SH.Az.same sF s3,d2.same s3⟩;clear og uw s3 sF hR b2 d2 jD d1 s1 hp z9 hS;refine⟨_,rfl,dr,sc,10,rfl,by decide,by decide,e3.d,λm H4 m0 m1 d4 b4=>?_⟩;have e4:=e3.but iT eI d4 b4;obtain⟨m,rfl⟩:=Pf m0;refine⟨(m:Int),rfl,by lia,by lia,?_⟩;rw[Q6];refine K5 (dr:=dr) (cs:=[some (.ref dr),some (.ref l)]) m (by lia) (λi=>.int (0+(i:Int))) (Ev T (lamPos s_in_order) dr sc r l row ps Ts) (okC row 4) rfl (λD hD=>e4.same ((Same.refl H4).step hD)) (λD xs ys H hD h e=>e.put e4 hD h) (λH e=>e.rd) e4.rd.1 ?_ ?_ ?_ ?_
  ·intro i H2 hi _;refine⟨hi,λx H3 y=>?_⟩;obtain⟨e1,e2⟩:=y;exact⟨e1,e2⟩
  ·exact λH2 _=>Og _
  ·intro i H5 Q' hi b5 e5 kk;refine⟨_,rfl,_,rfl,dr,sc,l,ps,rfl,e5.d,e5.hl,eI,tU,by lia,λc qs H6 nc hc qB zB wB d6 b6=>?_⟩;have e6:=e5.but iT eI d6 b6;obtain⟨Us,hU,HQ⟩:∃Us,Tups H6 qs Us/\∀S∈Us,An row S=true:=Xf5 qs λq hq=>by
    obtain⟨i,hi,e⟩:=Pi.mp (qB q hq);refine⟨Ts.getD i [],?_,(i7 _).mp (SH.Tups.at e6.ht hi)⟩;have:=e6.ht.2 i hi
    rwa [show ps.getD i 0=q by rw[<-e];simp[List.getD,hi]] at this
   refine kk c qs Us H6 nc hc hU ⟨λe=>?_,by rw[<-hU.1];lia,HQ⟩ e6 b6;have:=hU.1;rw[e] at this;rw[this] at zB;exact absurd zB (Pt _)
  intro C0 mq H5 zC zD pB x5 zE e5 _;have sG:C0≠dr:=(e4.d.ne zC).1;clear e4 b4 d4 e3 zC;dsimp only[Ax];refine Xe1 (t:=Jl _ _ _) (fun Z' H'=>∃(v5:Option V) (c:ae) (it:List Itm), Z'=[some (.ref a),some (.ref dr),some (.ref r),some (.ref l),some (.ref c),v5,none,none,none,none,none,none]/\Ev T (lamPos s_in_order) dr sc r l row ps Ts H'/\H' c=some (.lst ((it.map (·.1)).map V.ref))/\it.length=m/\(∀i,i<m->okC row 5 i (it.getD i (0,[])).2)/\Els H' dr it/\c≠dr) ?_ ?_;rotate_left
  ·intro nx fF;refine⟨_,rfl,dr,sc,3,rfl,by decide,by decide,e5.d,λq4 H6 HR HS d6 b6=>⟨rfl,_,rfl,?_⟩⟩;have b6:But dr H5 H6:=b6;have e6:=e5.but iT eI d6 b6;have zF:=b6 _ _ zD sG;have pI:=zE.but e5.rd.2 b6;refine A2 (λ_=>?_) (λ_=>fF _ _ ⟨_,C0,mq,rfl,e6,zF,pB,λi hi=>(let ⟨x,y,z⟩:=x5 i hi; ⟨x,by lia,z⟩),pI,sG⟩);refine⟨_,rfl,_,rfl,dr,sc,l,_,rfl,e6.d,e6.hl,eI,by rw[Oc];exact tU,by rw[Oc];lia,λi1 H7 nC d7 b7=>?_⟩;have b7:But dr H6 H7:=b7;rw[Oc] at nC;rw[Bo V.ref 0 ps nC];have e7:=e6.but iT eI d7 b7;have sH:=b7 _ _ zF sG;have zG:=pI.but e6.rd.2 b7;have o7:=e7.ht.2 i1 nC;have ip:=(i7 _).mp (SH.Tups.at e7.ht nC);generalize Ts.getD i1 []=S at o7 ip;generalize ps.getD i1 0=p at o7;dsimp only[Ax];refine⟨_,rfl,C0,rfl,⟨_,SqL.of sH⟩,?_⟩;refine K5 (dr:=dr) (cs:=[some (.ref p)]) m (by lia) (λi=>.ref ((mq.map (·.1)).getD i 0)) (λH=>Ev T (lamPos s_in_order) dr sc r l row ps Ts H/\H C0=some (.lst ((mq.map (·.1)).map V.ref))/\Els H dr mq/\H p=some (.tup (S.map V.str))) (okC row 5) rfl ?_ ?_ (λH e=>e.1.rd) e7.rd.1 ?_ ?_ ?_ ?_
   ·intro D hD;have sD:=(Same.refl H7).step (o:=.lst []) hD;exact⟨e7.same sD,sD _ _ sH,zG.same sD,sD _ _ o7⟩
   ·rintro D xs ys H8 hD h ⟨e8,c8,E8,p8⟩;refine⟨e8.put e7 hD h,by rw[Ad (Am sH hD)];exact c8,E8.put h λq hq=>?_,by rw[Ad (Am o7 hD)];exact p8⟩;obtain⟨_,_,h1,_⟩:=zG q hq;exact Am h1 hD
   ·intro i H8 hi b8;have dt:i<(mq.map (·.1)).length:=by rw[Oc,pB];exact hi
    have:=B4 (K:=K) (SqL.of (b8 _ _ sH sG)) (show i<((mq.map (·.1)).map V.ref).length by rw[Oc];exact dt)
    rwa [Bo V.ref 0 _ dt] at this
   ·intro H8 b8;have:=B5 (K:=K) (SqL.of (b8 _ _ sH sG))
    rwa [Oc,Oc,pB] at this
   ·intro i H8 Q' hi b8 e8 kk;obtain⟨e8,c8,E8,p8⟩:=e8;have jY:i<mq.length:=by rw[pB];exact hi
    obtain⟨_,qs,hq,hU⟩:=E8.at jY;obtain⟨o1,o2,o3⟩:=x5 i hi;have ql:=hU.1;rw[Jd jY];refine⟨_,rfl,_,rfl,by show 1<=sizeLine;decide,λp1 n1=>?_⟩;refine⟨_,p1,_,[.ref p],rfl,rfl,ku hq n1,Ab,by rw[Oc,Tb];show qs.length+1<=_;lia,λp2 n2=>?_⟩;have s8:Same H8 (upd (upd H8 p1 (.lst [.ref p])) p2 (.lst (qs.map V.ref++[.ref p]))):=((Same.refl H8).step n1).step n2;have HU:H8 p2=none:=((Same.refl H8).step n1).free n2;have h2:upd (upd H8 p1 (.lst [.ref p])) p2 (.lst (qs.map V.ref++[.ref p])) p2=some (.lst ((qs++[p]).map V.ref)):=by rw[Ab,Oo];rfl
    generalize upd (upd H8 p1 (.lst [.ref p])) p2 (.lst (qs.map V.ref++[.ref p]))=H9 at s8 h2;refine kk p2 (qs++[p]) ((mq.getD i (0,[])).2++[S]) H9 HU h2 (Tups.app (hU.same s8) (Tups.cons (s8 _ _ p8) (Tups.nil _))) ⟨by simp,?_,λU hU=>?_⟩ ⟨e8.same s8,s8 _ _ c8,E8.same s8,s8 _ _ p8⟩ (λb o e _=>s8 _ _ e)
    ·rw[Op,Pq];lia
    ·rcases Om.mp hU with z | z
     ·exact o3 U z
     ·rw[Oe.mp z];exact ip
   ·rintro D it H8 nD hD hl ho hE ⟨e8,_⟩ b8;exact fF _ _ ⟨_,D,it,rfl,e8,hD,hl,ho,hE,(e7.d.ne nD).1⟩
  rintro Z' H6 ⟨v5,c,it,rfl,e6,pJ,hl,ho,pI,x6⟩;clear zD zE e5 x5 pB;have sI:∀p∈it,∃o,H6 p.1=some o:=λp hp=>let ⟨_,qs,h,_⟩:=pI p hp; ⟨_,h⟩;refine⟨_,rfl,c,rfl,⟨_,SqL.of pJ⟩,?_⟩;refine K5 (dr:=dr) (cs:=[some (.ref r)]) m (by lia) (λi=>.ref ((it.map (·.1)).getD i 0)) (λH=>Ev T (lamPos s_in_order) dr sc r l row ps Ts H/\H c=some (.lst ((it.map (·.1)).map V.ref))/\Els H dr it) (λi U=>U=(Ce row (it.getD i (0,[])).2).map pr2) rfl ?_ ?_ (λH e=>e.1.rd) e6.rd.1 ?_ ?_ ?_ ?_
  ·intro D hD;have sD:=(Same.refl H6).step (o:=.lst []) hD;exact⟨e6.same sD,sD _ _ pJ,pI.same sD⟩
  ·rintro D xs ys H8 hD h ⟨e8,c8,E8⟩;refine⟨e8.put e6 hD h,by rw[Ad (Am pJ hD)];exact c8,E8.put h λq hq=>?_⟩;obtain⟨o,h1⟩:=sI q hq;exact Am h1 hD
  ·intro i H8 hi b8;have dt:i<(it.map (·.1)).length:=by rw[Oc,hl];exact hi
   have:=B4 (K:=K) (SqL.of (b8 _ _ pJ x6)) (show i<((it.map (·.1)).map V.ref).length by rw[Oc];exact dt)
   rwa [Bo V.ref 0 _ dt] at this
  ·intro H8 b8;have:=B5 (K:=K) (SqL.of (b8 _ _ pJ x6))
   rwa [Oc,Oc,hl] at this
  ·intro i H8 Q' hi b8 e8 kk;obtain⟨e8,c8,E8⟩:=e8;have jY:i<it.length:=by rw[hl];exact hi
   obtain⟨_,qs,hq,hU⟩:=E8.at jY;obtain⟨o1,o2,o3⟩:=ho i hi;have ql:=hU.1;rw[Jd jY];refine⟨_,rfl,_,rfl,r,_,row,qs,_,rfl,e8.hr,R2,hq,hU,by lia,o1,λD us H9 nD hD HV s9=>?_⟩;exact kk D us _ H9 nD hD HV rfl ⟨e8.same s9,s9 _ _ c8,E8.same s9⟩ (λb o e _=>s9 _ _ e)
  rintro y yt H7 ny zH zI zJ zK ⟨e7,_⟩ HW;have sJ:y≠dr:=(e6.d.ne ny).1;obtain⟨ks,dI,ux,sK⟩:∃ks:List Kp,ks.length=m/\(∀i,i<m->(yt.getD i (0,[])).2=(ks.getD i []).map pr2)/\∀k∈ks,Good row k:=by
   refine⟨it.map λp=>Ce row p.2,by rw[Oc,hl],λi hi=>?_,λk hk=>?_⟩
   ·rw[zJ i hi];have jY:i<it.length:=by rw[hl];exact hi
    simp[List.getD,jY]
   ·obtain⟨p,hp,rfl⟩:=O0.mp hk;obtain⟨j,hj,ej⟩:=Pi.mp hp;obtain⟨o1,_,o3⟩:=ho j (by lia);rw[show it.getD j (0,[])=p by rw[<-ej];simp[List.getD,hj]] at o1 o3;exact⟨p.2,o1,o3,rfl⟩
  have hok:∀k∈ks,KpOk k:=λk hk=>(sK k hk).kp hI;clear zJ ho pI pJ e6 sI HW ny x6 hl;have hG:∀{H:Hp},Els H dr yt->Grds H (yt.map (·.1)) ks:=λh=>h.grds (by rw[zI,dI]) λi hi=>ux i (by lia);have x8:∀{H:Hp} {g:ae} {gs:List ae},Ev T (lamPos s_in_order) dr sc r l row ps Ts H->H g=some (.lst (gs.map V.ref))->Grds H gs ks->GrdsAt H T (lamPos s_in_order) r g row gs ks:=λe h g=>⟨e.hr,R2,gJ,by lia,e.tab,h,g,by lia,hok⟩;dsimp only[Ax];refine⟨_,rfl,by show 0<=sizeLine;decide,λem ne=>?_⟩;have s8:Same H7 (upd H7 em (.lst [])):=(Same.refl H7).step ne;have x9:upd H7 em (.lst []) em=some (.lst []):=Ab;generalize upd H7 em (.lst [])=H8 at s8 x9;have e8:=e7.same s8;have uy:=s8 _ _ zH;have uz:=zK.same s8;refine⟨_,_,Ob uy (hG uz),Gh x9 Dh,Bu _ (Xf6 hok),rfl,by show min _ (0+1)<=4;lia,_,rfl,?_⟩;clear zH zK e7 s8 x9 ne;by_cases ek:ks=[]
  ·subst ek;refine Br ?_;refine⟨_,rfl,_,rfl,r,y,row,_,[],false,rfl,x8 e8 uy (hG uz),.inr ⟨rfl,rfl⟩,λH9=>⟨rfl,?_⟩⟩;exact k _
  have zL:ah.eqv (.list (ks.map kpD)) (.list [])=false:=by
   cases ks with
   | nil=>exact absurd rfl ek
   | cons _ _=>simp[ah.eqv,ah.eqvAll]
  rw[zL];refine Bq ?_;dsimp only[Jj];have u3:(yt.map (·.1)).length=m:=by rw[Oc,zI]
  have wu:0<m:=by rw[<-dI];exact Sl.mpr ek
  have dh:∀m,m<=100000->m<=sizeLine:=λm h=>by rw[Tb];lia
  refine Xe1 (t:=Jl _ _ _) (fun Z' H'=>∃(v7 v8:Option V), Z'=[some (.ref a),some (.ref dr),some (.ref r),some (.ref l),some (.ref c),v5,some (.ref y),v7,v8,none,none,none]/\Ev T (lamPos s_in_order) dr sc r l row ps Ts H'/\H' y=some (.lst ((yt.map (·.1)).map V.ref))/\Els H' dr yt) ?_ ?_;rotate_left
  ·intro nx fF;refine⟨_,rfl,dr,sc,8,rfl,by decide,by decide,e8.d,λq4 H9 HR HS d9 b9=>⟨rfl,_,rfl,?_⟩⟩;have b9:But dr H8 H9:=b9;have e9:=e8.but iT eI d9 b9;have jZ:=b9 _ _ uy sJ;have pL:=uz.but e8.rd.2 b9;refine A2 (λ_=>?_) (λ_=>fF _ _ ⟨_,_,rfl,e9,jZ,pL⟩);refine⟨_,rfl,_,rfl,y,_,rfl,.inl (SqL.of jZ),dr,sc,_,rfl,by rw[Oc,u3];lia,by rw[Oc,u3];lia,e9.d,λcT HA a0 a1 dA bA=>?_⟩;have bA:But dr H9 HA:=bA;rw[Oc,u3] at a1;obtain⟨j,rfl⟩:=Pf a0;have hj:j<m:=by lia
   have eA:=e9.but iT eI dA bA;have sL:=bA _ _ jZ sJ;have u4:=pL.but e9.rd.2 bA;have xA:j<yt.length:=by lia
   obtain⟨nj,qs,hq,hU⟩:=u4.at xA;rw[ux j hj] at hU;have gj:=sK _ (Cw (i:=j) (by lia));dsimp only[Ax];refine⟨_,rfl,_,rfl,_,rfl,_,rfl,y,_,_,_,rfl,rfl,SqL.of sL,Cf (atR (show j<(yt.map (·.1)).length by lia)),dr,sc,r,_,row,qs,ks.getD j [],rfl,eA.d,eA.hr,iT,hI,by rw[Jd xA];exact hq,by rw[Jd xA];exact nj,hU,gj,λk' qs' kept' HB KG eV zM zN dB bB=>?_⟩;have bB:But dr HA HB:=bB;have eB:=eA.but iT eI dB bB;have HX:=bB _ _ sL sJ;have HY:=u4.but eA.rd.2 bB;dsimp only[Ax];refine⟨_,rfl,_,rfl,_,rfl,r,l,k',row,ps,Ts,qs',kept',rfl,eB.hr,R2,eB.hl,eB.ht,mo,i7,eV,zM,zN,λb HC hb sC=>⟨_,rfl,?_⟩⟩;have eC:=eB.same sC;have xB:=sC _ _ HX;have zO:=HY.same sC;cases b with
   | true=>exact Bq (fF _ _ ⟨_,_,rfl,eC,xB,zO⟩)
   | false=>
    refine Br ?_;have ng:¬Good row kept':=λg=>absurd (hb.mpr g) (by decide);refine⟨_,rfl,_,rfl,_,rfl,_,rfl,y,_,rfl,SqL.of xB,λp1 n1=>?_⟩;rw[Ek _ _ _ (show j<=(yt.map (·.1)).length by lia)];refine⟨_,rfl,by show 1<=sizeLine;decide,λp2 n2=>?_⟩;refine⟨p1,p2,_,[.ref k'],rfl,rfl,ku Ab n2,Ab,dh _ (by simp;lia),λp3 n3=>?_⟩;refine⟨_,rfl,_,rfl,_,_,rfl,rfl,_,rfl,y,_,rfl,SqL.of (ku (ku (ku xB n1) n2) n3),λp4 n4=>?_⟩;rw[show (j:Int)+1=((j+1:Nat):Int) by simp,D6 _ _ _ (show j+1<=(yt.map (·.1)).length by lia)];refine⟨p3,p4,_,_,rfl,rfl,ku Ab n4,Ab,dh _ (by simp;lia),λp5 n5=>?_⟩;have s7:=((((((Same.refl HC).go n1 n2).go n2 n3).go n3 n4).go n4 n5)).step (o:=.lst (((yt.map (·.1)).take j).map V.ref++[.ref k']++((yt.map (·.1)).drop (j+1)).map V.ref)) n5;have h5:upd (upd (upd (upd (upd HC p1 (.lst (((yt.map (·.1)).take j).map V.ref))) p2 (.lst [.ref k'])) p3 (.lst (((yt.map (·.1)).take j).map V.ref++[.ref k']))) p4 (.lst (((yt.map (·.1)).drop (j+1)).map V.ref))) p5 (.lst (((yt.map (·.1)).take j).map V.ref++[.ref k']++((yt.map (·.1)).drop (j+1)).map V.ref)) p5=some (.lst (((yt.map (·.1)).take j++k'::(yt.map (·.1)).drop (j+1)).map V.ref)):=by rw[Ab];simp
    generalize upd (upd (upd (upd (upd HC p1 (.lst (((yt.map (·.1)).take j).map V.ref))) p2 (.lst [.ref k'])) p3 (.lst (((yt.map (·.1)).take j).map V.ref++[.ref k']))) p4 (.lst (((yt.map (·.1)).drop (j+1)).map V.ref))) p5 (.lst (((yt.map (·.1)).take j).map V.ref++[.ref k']++((yt.map (·.1)).drop (j+1)).map V.ref))=HD at s7 h5;have eD:=eC.same s7;have gm:=Xqb (hG (zO.same s7)) (s7 _ _ (sC _ _ eV)) ((zM.same sC).same s7) j;refine⟨r,p5,row,_,ks.take j++kept'::ks.drop (j+1),true,rfl,⟨eD.hr,R2,gJ,by lia,eD.tab,h5,gm,by simp;lia,λq hq=>?_⟩,.inl ⟨rfl,kept',by simp,ng⟩,λH9=>⟨rfl,?_⟩⟩
    ·rcases Om.mp hq with z | z
     ·exact hok q (Pm z)
     ·rcases Ot.mp z with z | z
      ·rw[z];exact zN
      ·exact hok q (Pn z)
    ·exact k _
  rintro Z' H9 ⟨v7,v8,rfl,e9,jZ,pL⟩;clear uy uz e8 zL;refine⟨_,rfl,y,rfl,⟨_,SqL.of jZ⟩,?_⟩;refine K5 (dr:=dr) (cs:=[]) m (by lia) (λi=>.ref ((yt.map (·.1)).getD i 0)) (λH=>Ev T (lamPos s_in_order) dr sc r l row ps Ts H/\H y=some (.lst ((yt.map (·.1)).map V.ref))/\Els H dr yt) (λi U=>U=(yt.getD i (0,[])).2) rfl ?_ ?_ (λH e=>e.1.rd) e9.rd.1 ?_ ?_ ?_ ?_
  ·intro D hD;have sD:=(Same.refl H9).step (o:=.lst []) hD;exact⟨e9.same sD,sD _ _ jZ,pL.same sD⟩
  ·rintro D xs ys HA hD h ⟨eA,yA,EA⟩;refine⟨eA.put e9 hD h,by rw[Ad (Am jZ hD)];exact yA,EA.put h λq hq=>?_⟩;obtain⟨_,_,h1,_⟩:=pL q hq;exact Am h1 hD
  ·intro i HA hi bA;have dt:i<(yt.map (·.1)).length:=by lia
   have:=B4 (K:=K) (SqL.of (bA _ _ jZ sJ)) (show i<((yt.map (·.1)).map V.ref).length by rw[Oc];exact dt)
   rwa [Bo V.ref 0 _ dt] at this
  ·intro HA bA;have:=B5 (K:=K) (SqL.of (bA _ _ jZ sJ))
   rwa [Oc,u3] at this
  ·intro i HA Q' hi bA eA kk;obtain⟨eA,yA,EA⟩:=eA;have jY:i<yt.length:=by lia
   obtain⟨_,qs,hq,hU⟩:=EA.at jY;rw[Jd jY];refine⟨_,rfl,_,_,rfl,.inl (SqL.of hq),λD nD=>?_⟩;have sD:=(Same.refl HA).step (o:=.lst (qs.map V.ref)) nD;exact kk D qs _ _ nD Ab (hU.same sD) rfl ⟨eA.same sD,sD _ _ yA,EA.same sD⟩ (λb o e _=>sD _ _ e)
  rintro hd ht HA nh tL KH zP zQ ⟨eA,sL,u4⟩ _;have gh:Grds HA (ht.map (·.1)) ks:=zQ.grds (by lia) λi hi=>by rw[zP i (by lia)];exact ux i (by lia)
  have gy:=hG u4;clear zQ zP pL jZ e9 hG ux;dsimp only[Ax];have tail:∀(HB HC:Hp) (td tf:ae) (d:ah),Same HA HB->Az T (lamPos s_in_order) qIn HC->But T HB HC->True:=λ_ _ _ _ _ _ _ _=>trivial;clear tail;have tF:∀{HC:Hp},(∀{b:ae} {o:HO},HA b=some o->(∀z,o ≠ .tbl z)->HC b=some o)->DAt HC (.list (ks.map kpD)) (.ref hd)/\DAt HC (.list (ks.map kpD)) (.ref y):=λkk=>⟨Ob (kk tL λz=>by simp) (gh.keep kk),Ob (kk sL λz=>by simp) (gy.keep kk)⟩;have pk:=Xf6 hok;have dk:min (ah.depth (.list (ks.map kpD))) (ah.depth (.list (ks.map kpD)))<=4:=by
   have:=Xqe ks;show min (ah.depthAll (ks.map kpD)+1) _<=4
   lia
  refine⟨_,rfl,_,rfl,l,y,row,ps,Ts,_,ks,rfl,eA.hl,eA.ht,gP,mo,R2,sL,gy,by lia,hok,sK,λi j x td HB fn sM sB=>?_,λnn td p S r0 HB eS zR sM sB=>?_⟩
  ·have eB:=eA.same sB;dsimp only[Ax];refine⟨_,rfl,_,rfl,r,hd,row,_,ks,rfl,x8 eB (sB _ _ tL) (gh.same sB),λz=>absurd z ek,λ⟨q,hq,z⟩=>absurd (sK q hq) z,λ_ _=>⟨λi' j' x' tf HC xE jG tC bC=>?_,λn'=>absurd n' fn.some⟩⟩;obtain⟨rfl,rfl,rfl⟩:=fn.uniq xE;have bC:But T HB HC:=bC;have kC:∀{b:ae} {o:HO},HA b=some o->(∀z,o ≠ .tbl z)->HC b=some o:=λe n=>bC _ _ (sB _ _ e) (nT eB.tab (sB _ _ e) n);have oA:=bC _ _ sM (nT eB.tab sM λz=>by simp);obtain⟨c1,c2⟩:=tF kC;have da:∀{t:ae},HC t=some (.tup [.str "parted",.int i,.int j,.str x])->DAt HC (.tuple [.str "parted",.int i,.int j,.str x]) (.ref t):=λh=>Ia h (Dr (by unfold DAt;rfl) (Dr (by unfold DAt;rfl) (Dr (by unfold DAt;rfl) (Dr (by unfold DAt;rfl) Dh))));have ox:okN x:=by
    obtain⟨r0,e⟩:=fn.at';have hx:x∈parts (ks.getD i []) (ks.getD j []):=by rw[e];exact Oj
    obtain⟨q,hq,rfl⟩:=O0.mp hx;exact((hok _ (Cw (i:=i) (Qj fn.lt fn.le))).ok q (Oi.mp hq).1).2.2.1
   have pl:A8 (.tuple [.str "parted",.int i,.int j,.str x])=true:=by
    have h1:A8 (.str "parted")=true:=by decide +kernel
    have h2:A8 (.str x)=true:=Xqc ox;show (A8 (.str "parted")&&(A8 (.int i)&&(A8 (.int j)&&(A8 (.str x)&&Ct []))))=true;rw[h1,h2];rfl
   dsimp only[Ax];refine⟨_,rfl,_,_,_,_,true,rfl,.tup jG,rfl,Ig K "tuple",_,rfl,Bq ?_⟩;refine⟨_,rfl,_,rfl,_,_,da jG,da oA,Bu _ pl,Bu _ pl,(show min (_+1) _<=3 from Pb (Nat.min_le_left _ _) (by simp[ah.depthAll,ah.depth])),_,rfl,?_⟩;rw[La pl];refine Bq ?_;refine⟨_,rfl,_,rfl,_,_,c1,c2,Bu _ pk,Bu _ pk,dk,_,rfl,?_⟩;rw[La pk];refine Bq ?_;refine⟨_,rfl,tf,_,_,_,rfl,rfl,SqT.of jG,rfl,rfl,_,rfl,Br ?_⟩;refine⟨_,rfl,tf,_,_,_,rfl,rfl,SqT.of jG,rfl,_,rfl,true,rfl,Br ?_⟩;exact⟨_,rfl,tf,_,_,_,rfl,rfl,SqT.of jG,rfl,_,rfl,k _⟩
  ·have eB:=eA.same sB;dsimp only[Ax];refine⟨_,rfl,_,rfl,r,hd,row,_,ks,rfl,x8 eB (sB _ _ tL) (gh.same sB),λz=>absurd z ek,λ⟨q,hq,z⟩=>absurd (sK q hq) z,λ_ _=>⟨λi' j' x' tf HC xE jG tC bC=>absurd nn xE.some,λ_ tf p' S' eu KI HC HZ zS ix jG tC bC=>?_⟩⟩;have eT:eu=Ts:=HZ.uniq gP;subst eT;rw[eS] at zS;obtain⟨rfl,_⟩:=Se zS;have bC:But T HB HC:=bC;have kC:∀{b:ae} {o:HO},HA b=some o->(∀z,o ≠ .tbl z)->HC b=some o:=λe n=>bC _ _ (sB _ _ e) (nT eB.tab (sB _ _ e) n);have oA:=bC _ _ sM (nT eB.tab sM λz=>by simp);have xF:=bC _ _ zR (nT eB.tab zR λz=>by simp);obtain⟨c1,c2⟩:=tF kC;have ip:=(i7 S).mp (Oi.mp (show S∈eu.filter (Bs ks) by rw[eS];exact Oj)).1;have oS:∀z∈S,okN z:=λz hz=>R2.ok z ((Es ip).1 z hz);have lS:=Nj ip;have da:∀{t q:ae},HC t=some (.tup [.str "plot",.ref q])->HC q=some (.tup (S.map V.str))->DAt HC (.tuple [.str "plot",tupD S]) (.ref t):=λh h2=>Ia h (Dr (by unfold DAt;rfl) (Dr (E7 h2) Dh));have pl:A8 (.tuple [.str "plot",tupD S])=true:=by
    have h1:A8 (.str "plot")=true:=by decide +kernel
    have h2:A8 (tupD S)=true:=E6 oS;show (A8 (.str "plot")&&(A8 (tupD S)&&Ct []))=true;rw[h1,h2];rfl
   dsimp only[Ax];refine⟨_,rfl,_,_,_,_,true,rfl,.tup jG,rfl,Ig K "tuple",_,rfl,Bq ?_⟩;refine⟨_,rfl,_,rfl,_,_,da jG ix,da oA xF,Bu _ pl,Bu _ pl,?_,_,rfl,?_⟩
   ·show min (max _ (max (ah.depthAll (S.map ah.str)+1) _)+1) _<=3;rw[Gp];exact Pb (Nat.min_le_left _ _) (by simp[ah.depthAll,ah.depth])
   rw[La pl];refine Bq ?_;refine⟨_,rfl,_,rfl,_,_,c1,c2,Bu _ pk,Bu _ pk,dk,_,rfl,?_⟩;rw[La pk];refine Bq ?_;refine⟨_,rfl,tf,_,_,_,rfl,rfl,SqT.of jG,rfl,rfl,_,rfl,Bq ?_⟩;exact⟨_,rfl,tf,_,_,_,rfl,rfl,SqT.of jG,rfl,_,S,rfl,E7 ix,by lia,λ_ _=>k _⟩
end
end K36
set_option maxHeartbeats 4000000
namespace PySem.OldK
def of_tab{T:ae}(ht:isCodeTable h₀ T)(hT:h₀.get? T=some (KY #[]))(jf:∃ps,h.get? T=some (KY ps))(k:∀b o,b≠T->h₀.get? b=some o->h.get? b=some o):AJ h₀ h:=by
 obtain⟨ps,gH⟩:=jf;refine⟨λb o e=>?_,λb o e=>?_⟩
 ·by_cases z:b=T
  ·subst z;rw[hT] at e;cases e;exact .inr (.inl ⟨ht,rfl, #[],ps,rfl,by simpa using gH⟩)
  ·exact .inl (k b o z e)
 ·by_cases z:b=T
  ·exact⟨_,z ▸ gH⟩
  ·exact⟨o,k b o z e⟩
end PySem.OldK
namespace L2
def Xqg   {K:KL}           (hT:s₁.heap.get? T=some (KY #[])) (hTK:K.lookup T=none) (hhd:KW K c0 T=true) (mX:BmOk mg s₁.heap)
  (KX:K.In s₁.heap) (oJ:s₁.heap.Ns ak mg) (hb:s₁.heap.Ns cJ mb) (rV:∀x:aj,x ≠ "__name__" -> mb x=bG x) (xG:s₁.heap.NoLimit) (hg:s₁.gens = #[])
  (ha:s₁.heap.get? a=some {cls:=.type "list",data:=.seq vs.toArray}) (hi:iE vs ns) (hl:ns.length<=sizeLine) (hr:Room k dZ)
  (F:∀base:am,K.In base->base.Ns ak mg->BmOk mg base->FnOk P w K mg base CX k fa fd [x] sp) (sN:∀(s:af) (u:aa),dQ s fd ⟨[u],[]⟩ [(x,u)])
  (fD:∀H:Hp,H T=some (.tbl #[])->SqL K H a (ns.map V.int)->sp [.ref a] H (λv _=>v = .bl true) λ_ _ _=>False)
  (xH:∀H e s',CX [] H s₁ (λ_ _ _=>False) e s'->False):
  bf (ag P w) dZ (.call (.ref fa) ⟨[.ref a],[]⟩) (λr s'=>r = .ok (.ret (.bool true))/\AJ s₁.heap s'.heap/\s'.os=s₁.os/\cC s'.gens) s₁:=by
 have rv:=Xbh hi;have jA:=hi.length;have sO:∀H:Hp,H T=some (.tbl #[])->(∀b,b≠T->H b=none \/ ∃o xs,H b=some (.frz o (.lst xs)))->SqL K H a (ns.map V.int)->HOk P w H s₁.heap->(∀b,H b≠none->b=a\/b=T)->(H a≠none->K.lookup a=none) ->
   bf (ag P w) dZ (.call (.ref fa) ⟨[.ref a],[]⟩) (λr s'=>r = .ok (.ret (.bool true))/\AJ s₁.heap s'.heap/\s'.os=s₁.os/\cC s'.gens) s₁:=by
  intro H zT hO hS hok hA hK;have fw:∀{b:ae} {o:aM},s₁.heap.get? b=some o->H b=none->(Dy s₁.heap H).get? b=some o:=λe n=>Xgg e n;have pV:∀{b:ae} {o:aM} {es:Array m7} {ep:Nat},s₁.heap.get? b=some o->o.data = .dict es ep->H b=none:=λ{b o es ep} e d=>by
   cases q:H b with
   | none=>rfl
   | some u=>
    rcases hA b (by rw[q];simp) with e' | e'
    ·subst e';rw[ha] at e;cases e;have d':uD.seq vs.toArray _=uD.dict es ep:=d;cases d'
    ·subst e';rw[hT] at e;cases e;cases d
  have u5:∀{b:ae} {m:aj->Option aa},s₁.heap.Ns b m->(Dy s₁.heap H).Ns b m:=λ{b m} ⟨o,es,ep,e,d,r⟩=>⟨o,es,ep,fw e (pV e d),d,r⟩;have zU:K.In (Dy s₁.heap H):=λb o e=>fw (KX b o e) (by
   cases q:H b with
   | none=>rfl
   | some u=>
    rcases hA b (by rw[q];simp) with e' | e'
    ·subst e';rw[hK (by rw[q];simp)] at e;cases e
    ·subst e';rw[hTK] at e;cases e)
  have xI:BmOk mg (Dy s₁.heap H):=by
   obtain⟨bm,ob,b1,b2,b3,b4,b5,b6⟩:=mX;refine⟨bm,ob,b1,b2,fw b3 ?_,b4,b5,b6⟩;cases q:H bm with
   | none=>rfl
   | some u=>
    rcases hA bm (by rw[q];simp) with e' | e'
    ·subst e';rw[ha] at b3;cases b3;exact absurd (show aa.type "list" = aa.type "module" from b4) (by decide)
    ·subst e';rw[hT] at b3;cases b3;cases b4
  have hM:Mod K mg (Dy s₁.heap H):=⟨zU,u5 oJ,⟨mb,u5 hb,rV⟩,let ⟨mc,h1,h2⟩:=xG; ⟨mc,u5 h1,h2⟩⟩;have e0:Env0 P w K mg (Dy s₁.heap H) dZ [] s₁ H:=⟨rfl,hM,λb o e=>Xgh e,Nat.le_of_eq (Xgf _ _),trivial,λb hb=>absurd (show b∈([]:List ae) from hb) (by simp),hok,.of_eq hg⟩;refine br ((F _ zU (u5 oJ) xI).run dZ [] s₁ H ⟨[.ref a],[]⟩ [.ref a] [.ref a] _ _ hr e0 (sN s₁ (.ref a)) (.cons rfl .nil) (fD H zT hS)) λr s' h=>?_;cases r with
  | error e=>exact(xH H e s' h).elim
  | ok fl=>
   cases fl with
   | next=>exact False.elim h
   | brk=>exact False.elim h
   | cont=>exact False.elim h
   | ret u=>
    obtain⟨v,H',os,bare,un,sP,r',q⟩:=h;have q':v = .bl true:=q;subst q';obtain rfl:u=aa.bool true:=r';refine⟨rfl,AJ.of_tab (T:=T) (by have C:=LJ KX hhd;exact(C.tab hT).isCodeTable) hT ?_ λb o nb e=>?_,os,bare⟩
    ·obtain⟨more,hm⟩:=un.tbls T #[] zT;exact⟨#[]++more,sP T _ hm⟩
    cases q:H b with
    | none=>exact un.keep b o e q (by intro z;exact absurd (show b∈([]:List ae) from z) (by simp)) (by simp)
    | some u=>
     rcases hO b nb with z | ⟨ob,xs,z⟩
     ·rw[q] at z;cases z
     ·have z2:=un.frzs b ob _ z;obtain⟨e1,_⟩:=hok b _ z;obtain⟨e2,_⟩:=sP b _ z2;rw[e] at e1;cases e1;exact e2
 cases hk:K.lookup a with
 | some o=>
  have e:=KX a o hk;rw[ha] at e;cases e;have xJ:a≠T:=λz=>by rw[z,hTK] at hk;cases hk
  refine sO (λb=>if b=T then some (.tbl #[]) else none) (Td rfl) (λb n=>.inl (Tc n)) (.inr ⟨_,vs.toArray,_,hk,rfl,rfl,rfl,by rw[Oh,jA];exact hl,by simpa using rv⟩) (λb u z=>?_) (λb z=>.inr (Classical.byContradiction λn=>z (Tc n))) λz=>absurd (Tc xJ) z;by_cases hb:b=T
  ·have z':=(Td hb).symm.trans z;cases z';rw[hb];exact hT
  ·have z':=(Tc hb).symm.trans z;cases z'
 | none=>
  have xJ:T≠a:=λz=>by rw[z,ha] at hT;cases hT
  refine sO (λb=>if b=T then some (.tbl #[]) else if b=a then some (.frz {cls:=.type "list",data:=.seq vs.toArray} (.lst (ns.map V.int))) else none) (Td rfl) (λb n=>?_) (.inl (.inr ⟨{cls:=.type "list",data:=.seq vs.toArray},(Tc xJ.symm).trans (Td rfl)⟩)) (λb u z=>?_) (λb z=>?_) λ_=>hk
  ·by_cases hb:b=a
   ·exact .inr ⟨_,_,(Tc n).trans (Td hb)⟩
   ·exact .inl ((Tc n).trans (Tc hb))
  ·by_cases hb:b=T
   ·have z':=(Td hb).symm.trans z;cases z';rw[hb];exact hT
   ·have z1:=(Tc hb).symm.trans z;by_cases hb:b=a
    ·have z':=(Td hb).symm.trans z1;cases z';subst hb;exact⟨ha,by rw[Oc];exact hl,vs,_,rv,ha⟩
    ·have z':=(Tc hb).symm.trans z1;cases z'
  ·by_cases hb:b=T
   ·exact .inr hb
   ·by_cases hc:b=a
    ·exact .inl hc
    ·exact absurd ((Tc hb).trans (Tc hc)) z
def Xqh{l:LW}{n k:Nat}      {K:Is->KL}{CX:av->CXT}{sp:av->Sp}{x:aj}(hn:l.most=some n)(wR:n<=sizeLine)(qd:d.params.defaults=[])(hr:Room k dZ)
  (hY:∀(w:av) (h:am),YP w h->(K w.params).In h) (xK:∀(w:av) (h:am),YP w h->h.get? T=some (KY #[])) (hTK:∀P,(K P).lookup T=none) (hhd:∀P,KW (K P) c0 T=true)
  (F:∀(w:av) (mg:aj->Option aa) (fa:ae) (h:am),(K w.params).In h->h.Ns ak mg->mg d.name=some (.ref fa) ->
   ∃fd:bK,(∀(s:af) (u:aa),dQ s fd ⟨[u],[]⟩ [(x,u)]) /\
    ∀base:am,(K w.params).In base->base.Ns ak mg->BmOk mg base->FnOk l.prog w (K w.params) mg base (CX w) k fa fd [x] (sp w))
  (fD:∀(w:av) (H:Hp) (a:ae) (ns:List Int),ns.length<=n->H T=some (.tbl #[])->SqL (K w.params) H a (ns.map V.int)->sp w [.ref a] H (λv _=>v = .bl true) λ_ _ _=>False)
  (xH:∀(w:av) (H:Hp) (s:af) (e:aa) (s':af),CX w [] H s (λ_ _ _=>False) e s'->False):
  LZ q loose XP YP l.row.toRowW d [] (λf vs=>PySem.call f vs):=by
 refine Att.attach_call hn qd λw s₀ s₁ mg mb fa o pm cd cQ a vs ns G Y ho hd gG hmg mC jn aI hg=>?_;have KX:=hY w _ Y;obtain⟨fd,hb,hF⟩:=F w mg fa _ KX G.T.g hmg;exact Xqg (xK w _ Y) (hTK _) (hhd _) G.T.bmain KX G.T.g G.T.b G.T.builtins G.T.nolimit hg mC jn (Pb aI wR) hr hF hb (λH hO hS=>fD w H a ns aI hO hS) λH e s'=>xH w H s₁ e s'
def Fn.ofT   {K:KL}       {st:aK}   (X:K.In h) (G:h.Ns ak mg) (D:DefT K x st T)
  (hb:∀(kV cQ pm:aa) (an:Option ae) (cdv ct:aa) (us:List aa),us.length=ps.length->dR (Le x x (Eh st) (C3 st) (defScope st) .none kV cQ pm an cdv ct) ⟨us,[]⟩=pure (ps.zip us))
  (ok:∀f fd,FunT K x st f fd T->FnOk P w K mg base CX k f fd ps sp):Fn P w K mg base CX k x ps sp:=by
 obtain⟨f,fd,a,hk,F,F'⟩:=D.ex;exact⟨⟨f,fd,KZ X G a,hk,F'.binds hb,ok f fd F⟩⟩
end L2
namespace HD
open PySem PySem.W PySem.Calls PyProof.Rows
abbrev O:=Option SharedT
noncomputable abbrev B (a b:O) (c:Bool):O := @Bool.rec (λ_=>O) a b c
noncomputable def go (F:SharedT->dL->Option (SharedT×dL)) (ok:dL->Bool) (n:Nat):SharedT->dL->O := @Nat.rec (λ_=>SharedT->dL->O) (λ_ _=>none) (λ_ ih s t=>B (B none (@Option.rec (SharedT×dL) (λ_=>O) none (λx=>@Prod.rec SharedT dL (λ_=>O) ih x) (F s t)) (ok t)) (some s) (through t)) n
def Xqi{tb p w m a z}:∀n s t,go (stepT (denote tb) p w) (stepOk m a) n s t=some z->topRun tb p w m a n s.abs t=some z.abs:=by
 intro n
 induction n with
 | zero=>intro s t h;cases h
 | succ n ih=>
  intro s t h;unfold topRun;have h':B (B none (@Option.rec (SharedT×dL) (λ_=>O) none (λx=>@Prod.rec SharedT dL (λ_=>O) (go (stepT (denote tb) p w) (stepOk m a) n) x) (stepT (denote tb) p w s t)) (stepOk m a t)) (some s) (through t)=some z:=h;cases ht:through t with
  | true=>rw[ht] at h';cases h';rfl
  | false=>
   cases hk:stepOk m a t with
   | false=>rw[ht,hk] at h';cases h'
   | true=>
    cases hs:stepT (denote tb) p w s t with
    | none=>rw[ht,hk,hs] at h';cases h'
    | some x=>
     rw[ht,hk,hs] at h';rw[stepT_spec hs];exact ih _ _ h'
noncomputable def tree (P:Is):BT:=((boot_heap P).objs.toList.foldl (λ(x:BT×Nat) o=>(x.1.ins x.2 o,x.2+1)) (.nil,0)).1
def Xqj(P):absHeap (tree P) 11 {}=boot_heap P:=by kernel_rfl
def Xqk(P):((boot_heap P).isNs ak,(boot_heap P).objs.size,(boot_heap P).nsMap ak "__annotations__")=(true,11,some (.ref 6)):=by kernel_rfl
abbrev ck (p:ao) (g h:am) (z:af):=staticsOk (pO p.main.body) g h&&namesBound p h&&gensDone z&&laidKept g h
def left{p q loose Xt α}{Yf:af->α}{Ya N g}(e:opening p=plainProg p.main.scope.names)(hN:Nat.ble 600 N=true)(f:∀s,fenceModules? p s=some s)
 (h:∀w:av,(λos=>(go (Fast.tw10156331382660048174 (Fast.tw11892475500146522536 Fast.tw14364793385576792824) p w) (Fast.tw6613529449190102663 11 (some (.ref 6))) N ⟨tree w.params,11,{},#[],boot_drawn,boot_toks,os⟩ (topStub p)).map λz=>(ck p (boot_heap w.params) z.abs.heap z.abs,Fast.tw4187177175401517315 q loose (pO p.main.body) Xt g z.abs,Yf z.abs))=λ_=>some (true,openGood q loose,Ya w)):LeftO p q loose Xt Yf Ya N g:=λw=>by
 rw[<-Fast.te10156331382660048174,<-Fast.te11892475500146522536,<-Fast.te14364793385576792824,<-Fast.te6613529449190102663,<-Fast.te4187177175401517315] at h;obtain⟨⟨hp,gs,d,k,os⟩,e1,e2⟩:=Rz.mp (boot_open e hN f w);obtain⟨rfl,rfl,rfl,rfl⟩:hp=boot_heap w.params/\gs=#[]/\d=boot_drawn/\k=boot_toks:=by simpa using e2
 obtain⟨z1,z2,z3⟩:_/\_/\_:=by simpa only[Prod.mk.injEq] using Xqk w.params
 obtain⟨z,hz,l⟩:=Rz.mp (congrFun (h w) os);obtain⟨l1,l2,l3⟩:_/\_/\_:=by simpa only[Prod.mk.injEq] using l
 have r:=Xqi _ _ _ hz;rw[show (SharedT.mk (tree w.params) 11 {} #[] boot_drawn boot_toks os).abs=⟨boot_heap w.params,#[],boot_drawn,boot_toks,os⟩ by show af.mk (absHeap (tree w.params) 11 {}) _ _ _ _=_;rw[Xqj]] at r;unfold openEnds;rw[e1];show (topFrom KJ p w N _).map _=_;rw[show topFrom KJ p w N ⟨boot_heap w.params,#[],boot_drawn,boot_toks,os⟩=some z.abs by
  unfold topFrom;dsimp only;rw[z1,z2,z3,r];show (match ck p (boot_heap w.params) z.abs.heap z.abs with | true=>_ | false=>_)=_;rw[l1]]
 exact congrArg some (Prod.ext l2 l3)
def isDef:aK->Bool
 | .Assign _ (.Constant (.str _) _ _) _=>false
 | _=>true
end HD
namespace L2
open PySem
def len1{us:List aa}(h:us.length=1):∃a,us=[a]:=R0.mp h
def len2{us:List aa}(h:us.length=2):∃a b,us=[a,b]:=by
 cases us with
 | nil=>cases h
 | cons a r=>
  obtain⟨b,rfl⟩:=len1 (Nat.succ.inj h);exact⟨a,b,rfl⟩
def len3{us:List aa}(h:us.length=3):∃a b c,us=[a,b,c]:=by
 cases us with
 | nil=>cases h
 | cons a r=>
  obtain⟨b,c,rfl⟩:=len2 (Nat.succ.inj h);exact⟨a,b,c,rfl⟩
def len4{us:List aa}(h:us.length=4):∃a b c d,us=[a,b,c,d]:=by
 cases us with
 | nil=>cases h
 | cons a r=>
  obtain⟨b,c,d,rfl⟩:=len3 (Nat.succ.inj h);exact⟨a,b,c,d,rfl⟩
end L2
local macro_rules | `(tactic| walk_at "1") => `(tactic| (intro _ _ _ _ _ _ us hl;obtain⟨a,e⟩:=L2.len1 hl;subst e;rfl))
local macro_rules | `(tactic| walk_at "2") => `(tactic| (intro _ _ _ _ _ _ us hl;obtain⟨a,b,e⟩:=L2.len2 hl;subst e;rfl))
local macro_rules | `(tactic| walk_at "3") => `(tactic| (intro _ _ _ _ _ _ us hl;obtain⟨a,b,c,e⟩:=L2.len3 hl;subst e;rfl))
local macro_rules | `(tactic| walk_at "4") => `(tactic| (intro _ _ _ _ _ _ us hl;obtain⟨a,b,c,d,e⟩:=L2.len4 hl;subst e;rfl))
namespace K36
open L2 SH
def Xql{P:ao}{w:av}{K:KL}{h:am}{mg:aj->Option aa}{fa iU bw cn bx T_:ae}(X:K.In h)(G:h.Ns ak mg)(IA:mg "law" = some (.ref fa))
  (gu:DefAt K "ask_ditch" sAsk)
  (iV:DefAt K "ditches" sDitches)
  (oB:DefAt K "ends" sEnds)
  (l9:DefAt K "spans" sSpans)
  (jH:DefAt K "lie_of" sLieOf)
  (gx:DefAt K "crossings" sCross)
  (oC:DefAt K "told" sTold)
  (d_in_order:DefT K "in_order" s_in_order T_)
  (lA:DefAt K "plots" s_plots)
  (iW:DefAt K "bank_of" s_bank_of)
  (iX:DefAt K "lies_on" s_lies_on)
  (jI:DefAt K "shared" s_shared)
  (oD:DefAt K "held" s_held)
  (cZ:DefAt K "ditches_between" s_ditches_between)
  (oE:DefAt K "meet" s_meet)
  (fz:DefAt K "_law_keeps" s__law_keeps)
  (gz:DefAt K "_law_held" s__law_held)
  (f8:DefAt K "_law_begin" sBegin)
  (g7:DefAt K "_law_pick" sPick)
  (ia:DefAt K "_law_put" sPut)
  (f9:DefAt K "_law_where" sWhere)
  (g9:DefAt K "_law_word" sWord)
  (eQ:DefAt K "_law_barred" sBarred)
  (ib:DefAt K "_law_row" sRow)
  (fA:DefAt K "_law_names" sNames)
  (eR:DefAt K "_law_island" sIsland)
  (dw:DefAt K "_law_island_to" s__law_island_to)
  (gA:DefAt K "_law_bars" s__law_bars)
  (gB:DefAt K "_law_fits" s__law_fits)
  (fB:DefAt K "_law_plots" s__law_plots)
  (ie:DefAt K "_law_one" s__law_one)
  (ig:DefAt K "_law_few" s__law_few)
  (gC:DefAt K "_law_kept" s__law_kept)
  (dM:DefAt K "_law_stranger" s__law_stranger)
  (dN:DefAt K "_law_odd_kept" s__law_odd_kept)
  (dy:DefAt K "_law_good_kept" s__law_good_kept)
  (ik:DefAt K "_law_int" s__law_int)
  (fC:DefAt K "_law_tuple" s__law_tuple)
  (gD:DefAt K "_law_said" s__law_said)
  (il:DefAt K "_law_due" s__law_due)
  (sQ:DefAt K "law" s_law)
  (x_NoDitch:ExcAt K "NoDitch" iU)
  (x_BadGround:ExcAt K "BadGround" bw)
  (x_NoBody:ExcAt K "NoBody" cn)
  (x_ShoreError:ClsAt K "ShoreError" bx)
  (q_BadGround_ShoreError:KP K (.ref bw) (.ref bx)=some true) (n_BadGround_ShoreError:bw≠bx)
  (q_NoBody_ShoreError:KP K (.ref cn) (.ref bx)=some true) (n_NoBody_ShoreError:cn≠bx)
  (q_BadGround_NoBody:KP K (.ref bw) (.ref cn)=some false) (n_BadGround_NoBody:bw≠cn)
  (q_NoBody_BadGround:KP K (.ref cn) (.ref bw)=some false) (n_NoBody_BadGround:cn≠bw)
  (sS:KP K (.ref bx) (.type "BaseException")=some true)
  (z_len:KO K ak "len" = some none)
  (z_range:KO K ak "range" = some none)
  (z_list:KO K ak "list" = some none)
  (z_min:KO K ak "min" = some none)
  (z_isinstance:KO K ak "isinstance" = some none)
  (z_all:KO K ak "all" = some none)
  (z_str:KO K ak "str" = some none)
  (z_ValueError:KO K ak "ValueError" = some none)
  (z_sorted:KO K ak "sorted" = some none)
  (z_set:KO K ak "set" = some none)
  (z_enumerate:KO K ak "enumerate" = some none)
  (z_int:KO K ak "int" = some none)
  (z_bool:KO K ak "bool" = some none)
  (z_tuple:KO K ak "tuple" = some none)
  (z_any:KO K ak "any" = some none)
  (z_dict:KO K ak "dict" = some none)
  (z_sum:KO K ak "sum" = some none)
  (z_max:KO K ak "max" = some none)
  : ∃fd:bK,(∀(s:af) (v:aa),dQ s fd ⟨[v],[]⟩ [("_law_script",v)])/\∀base:am,K.In base->base.Ns ak mg->BmOk mg base->FnOk P w K mg base CX0 9 fa fd ["_law_script"] (K9 K T_):=by
 have T:Bl mg:=⟨KM X G z_len,KM X G z_range,KM X G z_list,KM X G z_min,KM X G z_isinstance,KM X G z_all,KM X G z_str,KM X G z_ValueError,KM X G z_sorted,KM X G z_set,KM X G z_enumerate,KM X G z_int,KM X G z_bool,KM X G z_tuple,KM X G z_any,KM X G z_dict,KM X G z_sum,KM X G z_max⟩;obtain⟨f,fd,a,hk,F⟩:=sQ.ex;have e:=IA.symm.trans (KZ X G a);cases e;refine⟨fd,?_,λbase hB hG mX=>?_⟩
 ·obtain⟨oc,od,kV,cQ,pm,an,cdv,ct,iu,rfl,lk,gG⟩:=F.ex;exact λs v=>.of_eq rfl
 ·have FB:Fn P w K mg base _ _ _ _ _:=Fn.of X G f8 (by walk_at "1") λf fd F=>Xph F T;have FP:FnPick P w K mg base:=Fn.of X G g7 (by walk_at "2") λf fd F=>Xpi F T;have FU:Fn P w K mg base _ _ _ _ _:=Fn.of X G ia (by walk_at "4") λf fd F=>Xpj F;have FW:Fn P w K mg base _ _ _ _ _:=Fn.of X G f9 (by walk_at "1") λf fd F=>Xpk F T;have FO:Fn P w K mg base _ _ _ _ _:=Fn.of X G g9 (by walk_at "3") λf fd F=>Xpl F T;have FA:Fn P w K mg base _ _ _ _ _:=Fn.of X G eQ (by walk_at "2") λf fd F=>Xpm F T FW FO;have FR:Fn P w K mg base _ _ _ _ _:=Fn.of X G ib (by walk_at "2") λf fd F=>Xpn F T FP FU FA;have FN:Fn P w K mg base _ _ _ _ _:=Fn.of X G fA (by walk_at "2") λf fd F=>Xpo F T FP;have FI:Fn P w K mg base _ _ _ _ _:=Fn.of X G eR (by walk_at "2") λf fd F=>Xpp F T FP FN FR;have FK:Fn P w K mg base _ _ _ _ _:=Fn.of X G gu (by walk_at "2") λf fd F=>Xor F (KZ X G x_NoDitch.a) x_NoDitch.e;have FD:Fn P w K mg base _ _ _ _ _:=Fn.of X G iV (by walk_at "1") λf fd F=>Xot F T;have FE:Fn P w K mg base _ _ _ _ _:=Fn.of X G oB (by walk_at "2") λf fd F=>Xou F T FK;have zV:Fn P w K mg base _ _ _ _ _:=Fn.of X G l9 (by walk_at "1") λf fd F=>Xow F FD FE;have zW:Fn P w K mg base _ _ _ _ _:=Fn.of X G jH (by walk_at "2") λf fd F=>Xox F;have IB:Fn P w K mg base _ _ _ _ _:=Fn.of X G gx (by walk_at "1") λf fd F=>Xoy F zV zW;have IC:Fn P w K mg base _ _ _ _ _:=Fn.of X G oC (by walk_at "1") λf fd F=>Xo0 F T;have ID:Fn P w K mg base _ _ _ _ _:=Fn.ofT X G d_in_order (by walk_at "1") λf fd F=>Xo2 F T mX;have uq:Fn P w K mg base _ _ _ _ _:=Fn.of X G lA (by walk_at "1") λf fd F=>Xo3 F zV zW IC IB ID;have zX:Fn P w K mg base _ _ _ _ _:=Fn.of X G iW (by walk_at "2") λf fd F=>Xo5 F;have zY:Fn P w K mg base _ _ _ _ _:=Fn.of X G iX (by walk_at "2") λf fd F=>Xo7 F T zX;have IE:Fn P w K mg base _ _ _ _ _:=Fn.of X G jI (by walk_at "2") λf fd F=>Xo8 F T FD zX;have IF:Fn P w K mg base _ _ _ _ _:=Fn.of X G oD (by walk_at "2") λf fd F=>Xo9 F (KZ X G x_BadGround.a) x_BadGround.e uq zY IE;have wP:Fn P w K mg base _ _ _ _ _:=Fn.of X G gB (by walk_at "2") λf fd F=>Xpt F;have wQ:Fn P w K mg base _ _ _ _ _:=Fn.of X G gA (by walk_at "1") λf fd F=>Xps F T FW FO;have IG:Fn P w K mg base _ _ _ _ _:=Fn.of X G fB (by walk_at "1") λf fd F=>Xpu F T wP wQ;have sE:Fn P w K mg base _ _ _ _ _:=Fn.of X G ie (by walk_at "2") λf fd F=>Xpw F T FP;have IH:Fn P w K mg base _ _ _ _ _:=Fn.of X G ig (by walk_at "2") λf fd F=>Xpy F T FP sE;have II:Fn P w K mg base _ _ _ _ _:=Fn.of X G fz (by walk_at "2") λf fd F=>Xpd F T;have FS:Fn P w K mg base _ _ _ _ _:=Fn.of X G dM (by walk_at "1") λf fd F=>Xp1 F;have FT:Fn P w K mg base _ _ _ _ _:=Fn.of X G fC (by walk_at "1") λf fd F=>Xp7 F T;have ur:Fn P w K mg base _ _ _ _ _:=Fn.of X G gC (by walk_at "2") λf fd F=>Xpz F T;have zZ:Fn P w K mg base _ _ _ _ _:=Fn.of X G gz (by walk_at "2") λf fd F=>Xpf F II;have x3:Fn P w K mg base _ _ _ _ _:=Fn.of X G dy (by walk_at "3") λf fd F=>Xp3 F zZ ur;have xz:Fn P w K mg base _ _ _ _ _:=Fn.of X G dN (by walk_at "3") λf fd F=>Xp2 F T FP FS sE;have IJ:Fn P w K mg base _ _ _ _ _:=Fn.of X G dw (by walk_at "2") λf fd F=>Xpr F T FP FI;have IK:Fn P w K mg base _ _ _ _ _:=Fn.of X G cZ (by walk_at "2") λf fd F=>Xpa F T;have uv:Fn P w K mg base _ _ _ _ _:=Fn.of X G oE (by walk_at "2") λf fd F=>Xpb F T (KZ X G x_NoBody.a) x_NoBody.e IF IK uq zY;have IL:Fn P w K mg base _ _ _ _ _:=Fn.of X G ik (by walk_at "1") λf fd F=>Xp5 F T;have x4:Fn P w K mg base _ _ _ _ _:=Fn.of X G il (by walk_at "2") λf fd F=>Xp9 F T zZ;have ut:Fn P w K mg base CX0 8 "_law_said" ["_law_row_here", "_law_some"] (spSaid36 T_ (lamPos s_in_order)):=Fn.of X G gD (by walk_at "2") λf fd F=>by
   obtain⟨fa,zw,xr,xt,xu,IM⟩:=uv.ex;exact Xp8 F T (KZ X G x_ShoreError.a) (KZ X G x_BadGround.a) (KZ X G x_NoBody.a) xr xt xu IM x_BadGround.f x_NoBody.f (Xc4 x_BadGround.sb sS x_ShoreError.ic x_ShoreError.ty q_BadGround_ShoreError) (Xc4 x_NoBody.sb sS x_ShoreError.ic x_ShoreError.ty q_NoBody_ShoreError) x_BadGround.val x_NoBody.val (Xcm n_BadGround_NoBody x_NoBody.ic x_NoBody.ty q_BadGround_NoBody) (Xcm n_NoBody_BadGround x_BadGround.ic x_BadGround.ty q_NoBody_BadGround)
  exact Xqf F T FB FP IJ IG sE IH ur xz x3 ut x4 uv IL FT
def walk{l:LW}{q:ao}{loose:Za}{XP:(aj->Option aa)->am->Prop}{YP:av->am->Prop}{d:DefRec}{K:Is->KL}{T c0:ae}(hn:l.most=some 63)(qd:d.params.defaults=[])
  (hY:∀(w:av) (h:am),YP w h->(K w.params).In h) (xK:∀(w:av) (h:am),YP w h->h.get? T=some (KY #[])) (hTK:∀P,(K P).lookup T=none) (hhd:∀P,KW (K P) c0 T=true)
  (F:∀(w:av) (mg:aj->Option aa) (fa:ae) (h:am),(K w.params).In h->h.Ns ak mg->mg d.name=some (.ref fa) ->
   ∃fd:bK,(∀(s:af) (u:aa),dQ s fd ⟨[u],[]⟩ [("_law_script",u)])/\∀base:am,(K w.params).In base->base.Ns ak mg->BmOk mg base->FnOk l.prog w (K w.params) mg base CX0 9 fa fd ["_law_script"] (K9 (K w.params) T)):
  LZ q loose XP YP l.row.toRowW d [] (λf vs=>PySem.call f vs):=
 L2.Xqh (n:=63) (k:=9) (x := "_law_script") (CX:=λ_=>CX0) (sp:=λw=>K9 (K w.params) T) hn (by decide) qd ⟨rfl,by decide,by decide,rfl⟩ hY xK hTK hhd F (λ_ _ a ns hl hT hS=>⟨a,ns,rfl,hS,hl,hT,λ_=>rfl⟩) λ_ _ _ _ _ z=>z
end K36
open PySem PySem.W PyProof.Rows
local macro_rules | `(tactic| walk_at "D") => `(tactic| (refine' L2.DefAt.of ?a ?l ?c ?k;(case a=>k_is);(case l=>k_is);(case c=>k_is);(case k=>k_is)))
local macro_rules | `(tactic| walk_at "X") => `(tactic| (refine' ⟨?a,?e,?ga,?gn,?cl,?sb,?so,?sv,?ss,?ic,?ty⟩;(case a=>k_is);(case e=>k_exc);(case ga=>k_is);(case gn=>k_is);(case cl=>k_is);(case sb=>k_is);(case so=>k_is);(case sv=>k_is);(case ss=>k_is);(case ic=>k_is);(case ty=>k_is)))
def HD.q:Program:={PySem.Challenge.pw_shoretold_k36_whole_grounds_that_meet with main:={PySem.Challenge.pw_shoretold_k36_whole_grounds_that_meet.main with body:=PySem.Challenge.pw_shoretold_k36_whole_grounds_that_meet.main.body.filter HD.isDef}}
theorem HD.said:PySem.Challenge.rw_shoretold_k36_whole_grounds_that_meet.wellSaid=true:=by
 rw[Fast.te9446332074065402090]
 kernel_rfl
local macro_rules | `(tactic| o_head $H) => `(tactic| refine PySem.W.holds_open (q:=HD.q) (loose:=[]) (Xt:=λs=>xlAt HD.q [] s&&recOk [] s) (XP:=XL HD.q []) (N:=1000000) ?hl (Hook.of $H) (Hook.keeps $H) (λs e=>xl_of s (Bool.and_eq_true_iff.mp e).1) XL.keeps (by rfl) (by rfl) (by rfl) (λs e=>recFacts_of (Bool.and_eq_true_iff.mp e).2) (by rfl) (by assumption) (by decide +kernel) ⟨rfl,rfl,rfl,rfl,rfl,by decide +kernel⟩ ?hw ?hc)
set_option maxRecDepth 100000 in
set_option maxHeartbeats 0 in
theorem PySem.Challenge.cw_shoretold_k36_whole_grounds_that_meet_holds : PySem.Challenge.rw_shoretold_k36_whole_grounds_that_meet.Holds := by
 w_on
 refine holds_law HD.said λsaid=>?_
 k_head
 case hw=>w_witness2
 case hl=>exact HD.left (by kernel_rfl) (by kernel_rfl) (λs=>by kernel_rfl) (λw=>by kernel_rfl)
 k_fill
 refine K36.walk (l:=PySem.Challenge.rw_shoretold_k36_whole_grounds_that_meet) (T:=108) (c0:=112) rfl rfl (λw h Y=>PySem.W.km_in_of Y) (λw h Y=>PySem.W.km_tabs_of Y _ (Oe.mpr rfl)) ?hTK ?hhd ?F
 case hTK=>intro P;kernel_rfl
 case hhd=>intro P;kernel_rfl
 case F=>
  intro w mg fa h KX G hmg;refine' K36.Xql KX G hmg ?_ ?_ ?_ ?_ ?_ ?_ ?_ ?d_in_order ?_ ?_ ?_ ?_ ?_ ?_ ?_ ?_ ?_ ?_ ?_ ?_ ?_ ?_ ?_ ?_ ?_ ?_ ?_ ?_ ?_ ?_ ?_ ?_ ?_ ?_ ?_ ?_ ?_ ?_ ?_ ?_ ?_ ?x_NoDitch ?x_BadGround ?x_NoBody ?x_ShoreError ?q_BadGround_ShoreError ?n_BadGround_ShoreError ?q_NoBody_ShoreError ?n_NoBody_ShoreError ?q_BadGround_NoBody ?n_BadGround_NoBody ?q_NoBody_BadGround ?n_NoBody_BadGround ?sS ?z_len ?z_range ?z_list ?z_min ?z_isinstance ?z_all ?z_str ?z_ValueError ?z_sorted ?z_set ?z_enumerate ?z_int ?z_bool ?z_tuple ?z_any ?z_dict ?z_sum ?z_max
  any_goals walk_at "D"
  (case d_in_order=>(refine' L2.DefT.of ?a ?l ?c ?k ?t;(case a=>k_is);(case l=>k_is);(case c=>k_is);(case k=>k_is);(case t=>kernel_rfl)))
  (case x_NoDitch=>walk_at "X")
  (case x_BadGround=>walk_at "X")
  (case x_NoBody=>walk_at "X")
  (case x_ShoreError=>(refine' ⟨?a,?ic,?ty⟩;(case a=>k_is);(case ic=>k_is);(case ty=>k_is)))
  (case q_BadGround_ShoreError=>k_is);(case n_BadGround_ShoreError=>decide)
  (case q_NoBody_ShoreError=>k_is);(case n_NoBody_ShoreError=>decide)
  (case q_BadGround_NoBody=>k_is);(case n_BadGround_NoBody=>decide)
  (case q_NoBody_BadGround=>k_is);(case n_NoBody_BadGround=>decide)
  (case sS=>k_is)
  (case z_len=>k_is);(case z_range=>k_is);(case z_list=>k_is);(case z_min=>k_is);(case z_isinstance=>k_is);(case z_all=>k_is);(case z_str=>k_is);(case z_ValueError=>k_is);(case z_sorted=>k_is);(case z_set=>k_is);(case z_enumerate=>k_is);(case z_int=>k_is);(case z_bool=>k_is);(case z_tuple=>k_is);(case z_any=>k_is);(case z_dict=>k_is);(case z_sum=>k_is);(case z_max=>k_is)
#print axioms PySem.Challenge.cw_shoretold_k36_whole_grounds_that_meet_holds
