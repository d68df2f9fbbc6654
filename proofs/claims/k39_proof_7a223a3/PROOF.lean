import PyProof.Rows.All
import Wide.All
import OpenK.AllK
import Wide.FinOn
import PySem.Challenge.RW_shoretold_k39_whole_same_plots_same_lies
set_option bootstrap.genMatcherCode false
noncomputable section
set_option Elab.async false
set_option linter.all false
set_option maxRecDepth 100000
abbrev Qp := @if_neg
abbrev Qq := @if_pos
abbrev Qr := @decide_eq_true
abbrev Qs := @decide_eq_false
abbrev Qt := @of_decide_eq_true
abbrev Qu := @of_decide_eq_false
local macro_rules | `(tactic| walk_at "s") => `(tactic| exact ⟨rfl,rfl,rfl,by decide +kernel,rfl,by decide +kernel,by decide +kernel⟩)
local macro_rules | `(tactic| walk_at "l") => `(tactic| (intro vs H Q E h;(repeat (obtain ⟨_,h⟩ := h));subst_vars;rfl))
local macro_rules | `(tactic| walk_at "i") => do let v:=#["cdv","A","outer","s","H","vs","Q","E","hr","h"].map fun x=>Lean.mkIdent (.mkSimple x);`(tactic| intro $[$v]*)
open PySem in
abbrev Za:=List Str
open PySem in
abbrev Zb:=Value→Shared→Prop
open List renaming length_map→L5,getElem?_eq_getElem→L6,mem_cons_of_mem→L8,mem_cons→Mb,getElem?_eq_some_iff→Mc,size_toArray→Md,mem_cons_self→Mf,length_append→Mg,mem_filter→Mh,mem_singleton→Mi,length_cons→Ml,mem_append→Mm,map_append→Mn,mem_map→Mo,filter_append→Ms,getElem?_map→Mt,filter_eq_self→Mu,take_succ_eq_append_getElem→Mv,map_cons→Mw,mem_append_right→Mx,getElem_mem→Mz,all_eq_true→M0,mem_iff_getElem→M4,map_map→M5,map_congr_left→M6,filter_cons→M7,nodup_cons→M9,take_append_drop→Nb,length_take→Nd,lookup_cons→Nf,range_succ→Ng,length_singleton→Nh,length_filter_le→Ni,getElem?_append_left→Nl,mem_of_getElem?→Nm,length_eq_zero_iff→Nn,append_nil→Np,getElem?_zip_eq_some→Nq,mem_range→Nr,not_mem_nil→Nt,countP_cons→Nw,getElem_map→Nx,getElem?_append_right→Ny,mem_append_left→Nz,take_of_length_le→N0,pairwise_iff_getElem→N2,nodup_append→N3,length_range→N4,pairwise_map→N5,mem_singleton_self→N7,filterMap_cons→N8,reverse_perm→N9,mem_iff_getElem?→Oa,pairwise_cons→Oc,any_eq_true→Od,take_length→Oe,take_sublist→Oj,count_append→Ol,find?_cons→Om,length_nil→Oo,dropWhile_cons→Op,takeWhile_cons→Oq,mem_map_of_mem→Os,filter_eq_nil_iff→Ou,length_eraseIdx_of_lt→Ov,mem_reverse→Ow,count_eq_zero→Ox,sum_cons→Oy,perm_middle→O4,ext_getElem→O5,getElem?_eq_none→O7,flatMap_cons→Pb,count_cons_self→Pc,mem_of_mem_take→Pd,map_snd_zip→Pe,length_reverse→Pf,flatMap_append→Pg,forIn_cons→Ph,findIdx?_eq_some_iff_getElem→Pi,map_inj_right→Pk,nil_append→Pl,length_zip→Po,length_pos_of_mem→Pp,append_assoc→Pq,forIn_nil→Ps,getElem_inj→Pt,length_drop→Pu,mem_flatMap→Pw,flatMap_nil→Py,mem_of_mem_drop→Pz,any_cons→P0,of_mem_zip→P2,foldl_cons→P3,filter_nil→P5,countP_map→P6,mem_filterMap→P8,map_nil→Qa,count_pos_iff→Qc,set_cons_succ→Qd,nodup_nil→Qe,filter_congr→Qh,set_set→Qi
open Nat renaming le_refl→L7,ne_of_lt→L9,lt_of_lt_of_le→Mq,zero_le→M3,le_trans→M8,lt_irrefl→Na,lt_succ_of_lt→Nc,not_lt_zero→Nj,le_succ→Og,lt_trans→Oi,le_of_lt→O2,min_eq_left→O8,zero_add→Pa,ne_of_gt→P7,lt_of_le_of_lt→Qb,mod_lt→Qg,sub_self→Qk
open Array renaming length_toList→Ma,forIn_toList→Oz,toList_inj→Px
open Option.some renaming inj→Mj
open Bool renaming and_eq_true→Mp,false_ne_true→Mr,false_eq_true→My,false_and→N1,eq_iff_iff→N6,true_and→Oh,or_eq_true→O9,not_true→Pj,eq_false_iff→Pr,and_self→P1,or_eq_true_iff→P4,not_eq_true'→Qf
open Int renaming eq_ofNat_of_zero_le→Nk,toNat_natCast→O0,emod_lt_of_pos→O6,emod_nonneg→Pn,zero_add→Ql
open List.Perm renaming refl→Nv
open Option renaming isSome_iff_exists→Ob,map_eq_some_iff→Ot,map_some→O1,isSome_some→P9
open Sum.inr renaming inj→O3
open Array.Perm renaming refl→Pm
open Nat.succ renaming inj→Qj
open PySem renaming wpAny_bind→Qm,wpAny_pure→Qn,sizeLine_eq→Qo
open PySem.Heap renaming lt_size→Qv,get?_push_of_some→Qw
open PySem.Heap.SameBut renaming update→Qx
open PySem PySem.Spec PyProof.Rows
open PySem renaming Value→aa,Addr→ae,SetTable→af,Shared→ag,Str→ah,wpAny→ai,model→aj,PyData→ak,mainGlobals→am,Heap→ao,Program→au,Builtin→av,FuncData→aw,Around→ax,World→ay,starEach→az,wpAny_holding→a7,wpAny_setState_of→a9,Expr→aA,foldedSetIterable→aC,NameKind→aD,compareOp→aE,Obj→aI,wpAny_askSetting→aJ,wpAny_mono→aK,wpAny_truthy_bool→aM,scanBound→aN,Stmt→aO,rawInt→aP,boot_len→aQ,fits_of_scanBound→aS,wpAny_standAt→aT,wpAny_call_entry→aU,keywordEach→aW,wpAny_storeSet_of→aX,sysModules→aZ,codeAny→bi,Scope→bj,backTo→bn,PassesOwn→bo,bootBuiltins→br,assignEach→bu,codeAny_mono→bv,Pos→bw,cLine→bx,wpAny_newObj_type→bz,wpAny_rule→b8,wpAny_setField→b9,cellsFrom→bA,binaryOp→bC,wpAny_newList→bD,codeAny_builtin→bE,wpAny_Call_Name_kw→bF,pushCells→bG,putSet_of→bH,pickOrder→bI,backToKw→bJ,wpAny_setEpoch_of→bK,setsByText→bP,sliceBounds→bR,setField→bS,letOwnedTupleGo→bU,wpAny_passesOwn→bV,wpAny_ite_split→bW,wpAny_setEntries_of→bY,Arguments→cb,tupleKind_room_in1→cc,evalEach→ce,isSubtype_type→cf,compTurn→ci,standAt→cr,wpAny_pyIter_list→cw,Keyword→cz,valueAt→c6,behindInMarks→c8,plainId_quiet→cA,tupleKind→cC,bindArgs→cD,wpAny_isInstance→cE,builtinsNs→cF,setAddHashed→cH,wpAny_typeOf→cI,pushCells_keeps→cL,relayAll→cQ,wpAny_newTuple→cR,swapsWith→cV,clausesOf→cX,attributeBase→cZ,wpAny_attempt→dc,pyNext→de,Thread→dg,Env→dm,getItem→dv,BindsTo→dw,slot_list_getitem→dA,call_meetsIn→dC,callerA→dD,wpAny_pyIter_slot→dE,wpAny_pyIter_dict→dF,ElemsOf→dG,reprText→dJ,setDiscardHashed→dS,wpAny_of_eq→ed,wpAny_execs_nil→eu,codeAny_of_tree→eA,Sem→eR,pyIter→eT,wpAny_call→eU,wpAny_newFunctionEnv_cells→fb,atKey→fg,closureFor→fh,newFunctionEnv→fi,strKind_is→fk,storeSet→fm,wpAny_runValue→ft,entryFor_alias→fu,raiseNew→fw,checkCount→fz,setState→fC,wpAny_FormattedValue_repr→fS,evalPart_none→fZ,wpAny_getItem_list_slice→ge,strLen_append→gh,wpAny_comprehension_free→gk,setWalkUnseen→gp,bindL→g9,bindC→gA,drawOrder→gC,wpAny_callSpecial?_slot→gD,tupleText→gG,sub_set_self→gP,setNext→gQ,builtinLookup_eq_fast→ie,seqIndex_of→ir,wpAny_alloc→iy,entryFor→i4,wpAny_Name→jp,wpAny_load→jq,wpAny_pyIter_tuple→jr,typeLookup→ju,newExc→j4,isInstance→j5,setRoomFor→jB,wpAny_assign_Name→jR,Walks→jT,wpAny_Call_method→jV,setWalk→jY,wpAny_pyIter_enum→kg,numAt→k8,wpAny_eqBool_int→kM,wpAny_execs_cons→kO,Data→kQ,DictEntry→kY,wpAny_setScan_of→lf,wpAny_pyIter_zip→lw,wpAny_specialOf→mn,typeLookup_type→mw,wpAny_updateSeq→m5,importedModules→mS,wpAny_Compare1→mX,recursionLimit→mZ,Result→ng,cellOf→nF,compEnvC→nG,argsOk→oe,slotArgs→og,wpAny_seqItems→oh,firstArgMember→oi,preSum→oY,intItems→oZ,intBits_le_64→qx,evalPart_some→qy,call_list_seq→qz,setItem→rK,setNextDrawn→rY,IsRangeIter→uU,wpAny_Slice→uZ,Moved→vd,IsPart→xq,typeIs_str→xr,PlainAttrs→xu,Slot→xv,OldK→xy,layNew→x9,defaultsOf→yw,Params→AG,storeName→AW,lastMarks→AY,seqIndex?→AZ,slicePick→By,byScan_of→BC,isSubtype→BD,updateSeq→BE,noteFrame→BF,compStart→BG,setsQuiet→BN,codeAmong→BV,treeTable→DJ
open PyProof.Rows renaming seqObj→aq,StrsAre→aB,envOfC→aH,size_push'→bd,listUpdate_at→bh,AllBare→cq,seqEpoch_at→c7,listItems_at→cJ,entry_list_sort→cM,get?_update_seq→cN,slot_list_sort→cS,IntsAre→cW,plain_sorted→dH,entry_sorted→dI,kind_sorted→eg,arrOf→eh,Subscript_→fc,joinParts_cons→fj,sortedHeap→f7,SortSt→fA,failedOf→fB,subscriptTail→gc,subscriptTail_builtinR→gM,call_function_entry_kw→gY,IsTup→iq,ksk_rest→iE,wpAny_call_entry_kw→jl,strOf→jX,sortedS→kf,ksk_end→k7,formatField_str→m7,tail_any→ni,args_list_sort→on,sortedHeap_old→oo,keyLt'→o9,sortedHeap_at→qJ,isTrue_plain→rJ,args_sorted1→sh,collect_list→t0,strsAre_map→vb,bubble_perm→v9,callWith_kw→vN,isTrue_and→xk,isTrue_or→AX
open PySem.W renaming Frag→DK,mg_none_of→DL,nsIn→DM,kla_fn→DN,findIn→DO,cellsFrom_some→DP,keepIn→DQ,codeHdIn→DR,tabObj→DS,fnOf→DT,kla_makeFunctionHit→DU,codeIn→DV,codeHd_of_K→DW,kla_makeFunction→DX,excIn→DY,subIn→DZ,methodObj→EA,mg_of→EB,kla_callFunE→EC,kla_codeExpr→ED,hideAll_get→EE,hideAll→EF,of_hideAll→EG,envX→EH,specialIn→EI,kla_eval→EJ,instObj→EK,isClsIn→EL,kla_obj→EM,OpenLaw→EN,typeIn→EO,CodeHd→EQ,WalkO→ER,isFn→ES
namespace L2
abbrev Key:=Sum Int ah
def Dg:Key->aa->Bool
 | .inl k,v=>aa.isInt k v
 | .inr x,v=>aa.isStrOf x v
def keyH (w:ay):Key->Int
 | .inl k=>hashInt k
 | .inr x=>hashStr w x
theorem C4:∀{k:Key} {v:aa},Dg k v=true->(∃i t,k=Sum.inl i/\v=aa.int i t)\/(∃x t,k=Sum.inr x/\v=aa.str x t)
 | .inl i,v,h=>by
  obtain⟨t,e⟩:=aa.isInt_shape (k:=i) (v:=v) h;exact .inl ⟨i,t,rfl,e⟩
 | .inr x,v,h=>by
  obtain⟨t,e⟩:=aa.isStrOf_shape (x:=x) (v:=v) h;exact .inr ⟨x,t,rfl,e⟩
def Xgr(i)(t):Dg (.inl i) (.int i t)=true:=by simp[Dg,aa.isInt]
def Xgs(x)(t):Dg (.inr x) (.str x t)=true:=by simp[Dg,aa.isStrOf]
def Xgt(a b):decide ((Sum.inl a:Key)=Sum.inl b)=(a==b):=by
 by_cases e:a=b
 ·subst e;simp
 ·have h:¬(Sum.inl a:Key)=Sum.inl b:=λq=>e (Sum.inl.inj q);rw[Qs h];exact(beq_eq_false_iff_ne.mpr e).symm
def Xgu(a b):decide ((Sum.inr a:Key)=Sum.inr b)=decide (a=b):=by
 by_cases e:a=b
 ·subst e;simp
 ·have h:¬(Sum.inr a:Key)=Sum.inr b:=λq=>e (O3 q);rw[Qs h,Qs e]
def Xgv(a)(b):decide ((Sum.inl a:Key)=Sum.inr b)=false:=Qs (λq=>nomatch q)
def Xgw(a)(b):decide ((Sum.inr a:Key)=Sum.inl b)=false:=Qs (λq=>nomatch q)
def Bb (prog:au) (w:ay):PySem.KeyKind prog w Key where
 is:=Dg
 hash:=keyH w
 inj:=λv a b ha hb=>by
  rcases C4 ha with ⟨i,t,rfl,rfl⟩ | ⟨x,t,rfl,rfl⟩
  ·rcases C4 hb with ⟨j,u,rfl,e⟩ | ⟨y,u,rfl,e⟩
   ·injection e with e1 _;rw[e1]
   ·exact nomatch e
  ·rcases C4 hb with ⟨j,u,rfl,e⟩ | ⟨y,u,rfl,e⟩
   ·exact nomatch e
   ·injection e with e1 _;rw[e1]
 byValue:=λk v h=>by
  rcases C4 h with ⟨i,t,rfl,rfl⟩ | ⟨x,t,rfl,rfl⟩<;>rfl
 pyHash:=λhv h=>by
  rcases C4 hv with ⟨i,t,rfl,rfl⟩ | ⟨x,t,rfl,rfl⟩
  ·exact wpAny_pyHash_int h
  ·exact wpAny_pyHash_str h
 eqBool:=λhu hv h=>by
  rcases C4 hu with ⟨i,t,rfl,rfl⟩ | ⟨x,t,rfl,rfl⟩
  ·rcases C4 hv with ⟨j,u,rfl,rfl⟩ | ⟨y,u,rfl,rfl⟩
   ·rw[Xgt] at h;exact kM h
   ·rw[Xgv] at h;exact SeqAt.EqAt.int_str i t y u _ _ _ _ h
  ·rcases C4 hv with ⟨j,u,rfl,rfl⟩ | ⟨y,u,rfl,rfl⟩
   ·rw[Xgw] at h;exact SeqAt.EqAt.str_int x t j u _ _ _ _ h
   ·rw[Xgu] at h;exact wpAny_eqBool_str h
 «strs»:=λk x t v h=>by
  rcases C4 h with ⟨i,u,rfl,e⟩ | ⟨y,u,rfl,e⟩
  ·exact nomatch e
  ·injection e with e1 _
   subst e1;cases v<;>rfl
def Xgx(prog)(w)(i)(t):(Bb prog w).is (.inl i) (.int i t)=true:=Xgr i t
def Xgy(prog)(w)(x)(t):(Bb prog w).is (.inr x) (.str x t)=true:=Xgs x t
inductive V where
 | non | bl (b:Bool) | int (i:Int) | str (x:ah) | byt (b:Array UInt8) | flt (b:UInt64) | ref (a:ae) | ty (n:String)
 deriving DecidableEq
def Aj:V->aa->Prop
 | .non,u=>u=aa.none
 | .bl b,u=>u=aa.bool b
 | .int i,u=>∃t,u=aa.int i t
 | .str x,u=>∃t,u=aa.str x t
 | .byt b,u=>∃t,u=aa.bytes b t
 | .flt b,u=>∃t,u=aa.float b t
 | .ref a,u=>u=aa.ref a
 | .ty n,u=>u=aa.type n
abbrev Vals:List V->List aa->Prop:=Paired Aj
def Vals.length{xs}(r:Vals xs us):xs.length=us.length:=Paired.length r
theorem Vals.get:∀{xs:List V} {us:List aa} {i:Nat} {x:V},Vals xs us->xs[i]? = some x->∃u,us[i]? = some u/\Aj x u
 | _,_,_,_,.nil,e=>by simp at e
 | _,_,0,_,.cons r _,e=>by simp at e;subst e;exact⟨_,rfl,r⟩
 | _,_,i+1,x,.cons _ t,e=>by
  obtain⟨u,h1,h2⟩:=Vals.get (i:=i) (x:=x) t (by simpa using e);exact⟨u,by simpa using h1,h2⟩
theorem Vals.set  (r:Aj x u):∀{xs:List V} {us:List aa} (i:Nat),Vals xs us->Vals (xs.set i x) (us.set i u)
 | _,_,_,.nil=>.nil
 | _,_,0,.cons _ t=>.cons r t
 | _,_,i+1,.cons q t=>.cons q (Vals.set r i t)
theorem Vals.append:∀{xs ys:List V} {us ws:List aa},Vals xs us->Vals ys ws->Vals (xs++ys) (us++ws)
 | _,_,_,_,.nil,s=>s
 | _,_,_,_,.cons r t,s=>.cons r (Vals.append t s)
theorem Vals.take:∀{xs:List V} {us:List aa} (n:Nat),Vals xs us->Vals (xs.take n) (us.take n)
 | _,_,0,_=>.nil
 | _,_,_+1,.nil=>.nil
 | _,_,n+1,.cons r t=>.cons r (Vals.take n t)
theorem Vals.drop:∀{xs:List V} {us:List aa} (n:Nat),Vals xs us->Vals (xs.drop n) (us.drop n)
 | _,_,0,r=>r
 | _,_,_+1,.nil=>.nil
 | _,_,n+1,.cons _ t=>Vals.drop n t
def Br:Option V->Option aa->Prop
 | some v,some u=>Aj v u
 | none,none=>True
 | _,_=>False
def KV {κ : Type}:List (κ × V)->List (κ × aa)->Prop:=Paired λ(p : κ × V) (q : κ × aa)=>p.1=q.1/\Aj p.2 q.2
def kV:Key->V
 | .inl i=>.int i
 | .inr x=>.str x
inductive HO where
 | lst (xs:List V)
 | tup (xs:List V)
 | dK (kvs:List (Key×V)) | dT (kvs:List (List Key×V))
 | set (S:Int->Bool) (n:Nat)
 | ins (C dx:ae) (fs:List (ah×V))
 | own (x:ae)
 | xd (fs:List (ah×V))
 | met (f x:ae)
 | rng (lo hi:Int)
 | frz (o:aI) (u:HO)
 | tbl (ps:Array aa)
 | ext (φ : ao->Prop)
abbrev Hp:=ae->Option HO
def upd (H:Hp) (a:ae) (o:HO):Hp:=λb=>if b=a then some o else H b
def Ab{H}{a}{o}:upd H a o a=some o:=by unfold upd;rw[Qq rfl]
def Ad{H}{o}(h:b≠a):upd H a o b=H b:=by unfold upd;rw[Qp h]
def Xgz   : upd (upd H a o) a u=upd H a u:=by
 funext b;unfold upd;split<;>rfl
def Jk{H:Hp}  (h:H a=some o)(h':H b=some u)(d:o≠u):a≠b:=by
 intro e;subst e;rw[h] at h';exact d (Mj h')
def Aw{H:Hp}{a b}{o}(h:H a=some o)(h':H b=none):a≠b:=by
 intro e;subst e;rw[h] at h';cases h'
section
variable (P:au) (w:ay)
def A3 (H:Hp) (h:ao) (a:ae):HO->Prop
 | .lst xs=>xs.length<=sizeLine/\∃(a8:List aa) (n:Nat),Vals xs a8/\h.get? a=some {cls:=.type "list",data:=.seq a8.toArray n}
 | .tup xs=>xs.length<=sizeLine/\∃a8:List aa,Vals xs a8/\iq h a a8.toArray
 | .dK kvs=>kvs.length<=sizeLine/\(a==aZ)=false/\∃vs,KV kvs vs/\h.DictOf (Bb P w) a vs
 | .dT kvs=>kvs.length<=sizeLine/\(a==aZ)=false/\∃xs:List (List Key×ae×aa),
   Paired (λ(p:List Key×V) (q:List Key×ae×aa)=>p.1=q.1/\H q.2.1=some (.tup (p.1.map kV))/\Aj p.2 q.2.2) kvs xs /\
   ∃o es ep,h.get? a=some o/\o.ExactDict/\o.data = .dict es ep/\es.toList=xs.map (entryOfKey (cC (Bb P w)))/\(xs.map (·.1)).Nodup
 | .set S n=>h.SetOf (intKind P w) a S n
 | .ins C dx fs=>H dx=some (.own a)/\fs.length<=1000/\dx≠a/\h.get? a=some (EK C dx) /\
   ∃mA,h.Ns1 dx mA/\(∀f,Br (fs.lookup f) (mA f))/\PySem.Within mA (fs.map (·.1))
 | .own _=>∃o,h.get? a=some o
 | .xd fs=>∃mA,h.Ns1 a mA/\∀f,Br (fs.lookup f) (mA f)
 | .rng lo hi=>∃t u v,h.get? a=some {cls:=.type "range",data:=.fields #[.int lo t,.int hi u,.int 1 v]}
 | .frz o u=>h.get? a=some o/\A3 H h a u
 | .tbl ps=>h.get? a=some {cls:=.none,data:=.fields ps}
 | .met f x=>h.get? a=some (EA (.ref f) (.ref x))
 | .ext φ => φ h/\(∃o,h.get? a=some o)/\∀h1 h2:ao, φ h1->(∀o,h1.get? a=some o->h2.get? a=some o) -> φ h2
def HOk (H:Hp) (h:ao):Prop:=∀a o,H a=some o->A3 P w H h a o
end
section
variable {P:au}{w:ay}{H H':Hp}{h h':ao}{a:ae}{o:HO}
def A3.lt(x:A3 P w H h a o):a<h.objs.size:=by
 cases o with
 | lst xs=>obtain⟨_,_,_,_,e⟩:=x;exact Qv e
 | tup xs=>obtain⟨_,_,_,p⟩:=x;exact p.lt
 | dK kvs=>obtain⟨_,_,_,_,o,_,_,e,_⟩:=x;exact Qv e
 | dT kvs=>obtain⟨_,_,_,_,o,_,_,e,_⟩:=x;exact Qv e
 | set S n=>obtain⟨o,_,_,_,e,_⟩:=x;exact Qv e
 | ins C dx fs=>obtain⟨_,_,_,e,_⟩:=x;exact Qv e
 | own y=>obtain⟨_,e⟩:=x;exact Qv e
 | xd fs=>obtain⟨_,⟨_,_,_,e,_⟩,_⟩:=x;exact Qv e
 | rng lo hi=>obtain⟨_,_,_,e⟩:=x;exact Qv e
 | frz ob u=>obtain⟨e,_⟩:=x;exact Qv e
 | tbl ps=>exact Qv (show h.get? a=some _ from x)
 | met f y=>exact Qv (show h.get? a=some _ from x)
 | ext φ=>obtain⟨_,⟨_,e⟩,_⟩:=x;exact Qv e
theorem Paired.mapP{α β : Type}{F G}:∀{l₁ : List α} {l₂ : List β},Paired F l₁ l₂->(∀a b,F a b->G a b)->Paired G l₁ l₂
 | _,_,.nil,_=>.nil
 | _,_,.cons r t,f=>.cons (f _ _ r) (Paired.mapP t f)
def A3.stay(x:A3 P w H h a o)(k:∀b u,(b=a\/H b=some (.own a))->h.get? b=some u->h'.get? b=some u)
  (ho:∀b,H b=some (.own a)->H' b=some (.own a)) (ht:∀b xs,H b=some (.tup xs)->H' b=some (.tup xs)):A3 P w H' h' a o:=by
 induction o with
 | lst xs=>obtain⟨z,a8,n,r,e⟩:=x;exact⟨z,a8,n,r,k _ _ (.inl rfl) e⟩
 | tup xs=>obtain⟨z,a8,r,ob,e,c⟩:=x;exact⟨z,a8,r,ob,k _ _ (.inl rfl) e,c⟩
 | dK kvs=>obtain⟨z,y,vs,r,ob,es,ep,e,c⟩:=x;exact⟨z,y,vs,r,ob,es,ep,k _ _ (.inl rfl) e,c⟩
 | dT kvs=>
  obtain⟨z,y,xs,r,ob,es,ep,e,c⟩:=x;exact⟨z,y,xs,Paired.mapP r λp q z=>⟨z.1,ht _ _ z.2.1,z.2.2⟩,ob,es,ep,k _ _ (.inl rfl) e,c⟩
 | set S n=>obtain⟨ob,es,ep,t,e,c⟩:=x;exact⟨ob,es,ep,t,k _ _ (.inl rfl) e,c⟩
 | ins C dx fs=>
  obtain⟨d,z,ne,e,mA,⟨od,es,ep,e2,c⟩,r⟩:=x;exact⟨ho _ d,z,ne,k _ _ (.inl rfl) e,mA,⟨od,es,ep,k _ _ (.inr d) e2,c⟩,r⟩
 | own y=>obtain⟨ob,e⟩:=x;exact⟨ob,k _ _ (.inl rfl) e⟩
 | xd fs=>obtain⟨mA,⟨od,es,ep,e,c⟩,r⟩:=x;exact⟨mA,⟨od,es,ep,k _ _ (.inl rfl) e,c⟩,r⟩
 | rng lo hi=>obtain⟨t,u,v,e⟩:=x;exact⟨t,u,v,k _ _ (.inl rfl) e⟩
 | frz ob u ih=>obtain⟨e,q⟩:=x;exact⟨k _ _ (.inl rfl) e,ih q⟩
 | tbl ps=>
  have e:h.get? a=some {cls:=.none,data:=.fields ps}:=x;show h'.get? a=some {cls:=.none,data:=.fields ps};exact k a _ (.inl rfl) e
 | met f y=>
  have e:h.get? a=some (EA (.ref f) (.ref y)):=x;show h'.get? a=some (EA (.ref f) (.ref y));exact k a _ (.inl rfl) e
 | ext φ=>obtain⟨p,⟨o,e⟩,st⟩:=x;exact⟨st _ _ p λo q=>k _ _ (.inl rfl) q,⟨o,k _ _ (.inl rfl) e⟩,st⟩
def HOk.lt(x:HOk P w H h)(e:H a=some o):a<h.objs.size:=(x a o e).lt
def HOk.fresh(x:HOk P w H h)(e:h.objs.size<=a):H a=none:=by
 cases q:H a with
 | none=>rfl
 | some u=>exact absurd (Mq (x.lt q) e) (Na _)
def HOk.kept(x:HOk P w H h)(k:∀b u,h.get? b=some u->h'.get? b=some u):HOk P w H h':=λa o e=>
 (x a o e).stay (λb u _ q=>k b u q) (λ_ q=>q) λ_ _ q=>q
def HOk.laid(x:HOk P w H h)(k:∀b u,h.get? b=some u->h'.get? b=some u)(hp:h.objs.size<=a)(new:A3 P w (upd H a o) h' a o):HOk P w (upd H a o) h':=λb u e=>by
 have hn:=x.fresh hp;by_cases hb:b=a
 ·subst hb;rw[Ab] at e;cases e;exact new
 ·rw[Ad hb] at e;exact(x b u e).stay (λc v _ q=>k c v q) (λc q=>by rw[Ad (Aw q hn)];exact q) λc xs q=>by rw[Ad (Aw q hn)];exact q
end
def Rd (H:Hp) (a:ae) (u:HO):Prop:=H a=some u \/ ∃o,H a=some (.frz o u)
def Rd.ok     {a} (r:Rd H a u) (x:HOk P w H h):A3 P w H h a u:=by
 rcases r with r | ⟨o,r⟩
 ·exact x a u r
 ·obtain⟨_,q⟩:=x a _ r;exact q
def Mut:Option HO->Prop
 | some (.lst _)=>True
 | some (.dK _)=>True
 | some (.dT _)=>True
 | some (.set _ _)=>True
 | some (.ins _ _ _)=>True
 | some (.ext _)=>True
 | _=>False
section
variable {P:au}{w:ay}{H:Hp}{h h':ao}{x e:ae}{o':HO}
def HOk.write(ok:HOk P w H h)(mu:Mut (H x))(he:e=x\/H e=some (.own x))(k:∀b u,b≠e->h.get? b=some u->h'.get? b=some u)(ml:∃u,h'.get? e=some u)
  (new:A3 P w (upd H x o') h' x o'):HOk P w (upd H x o') h':=λb u q=>by
 have mT:∀c y,H c=some (.own y)->c≠x:=λc y r z=>by subst z;rw[r] at mu;exact mu
 have ntup:∀c xs,H c=some (.tup xs)->c≠x:=λc xs r z=>by subst z;rw[r] at mu;exact mu
 by_cases hb:b=x
 ·subst hb;rw[Ab] at q;cases q;exact new
 ·rw[Ad hb] at q;by_cases kN:b=e
  ·have q':H b=some (.own x):=by
    rcases he with z | z
    ·exact absurd (kN.trans z) hb
    ·rw[kN];exact z
   rw[q] at q';cases q';obtain⟨v,hv⟩:=ml;exact⟨v,by rw[kN];exact hv⟩
  ·refine(ok b u q).stay (λc v hc r=>k c v ?_ r) (λc r=>by rw[Ad (mT c b r)];exact r) λc xs r=>by rw[Ad (ntup c xs r)];exact r
   rcases hc with rfl | hc
   ·exact kN
   ·rintro rfl;rcases he with z | z
    ·exact mT c b hc z
    ·rw[hc] at z;cases z;exact hb rfl
end
structure Un (fs ex:List ae) (H H':Hp) (h h':ao):Prop where
 keep:∀b o,h.get? b=some o->H b=none->b∉fs->b∉ex->h'.get? b=some o
 slot:∀b o,h.get? b=some o->H b=none->b∈fs->b∉ex->∃sl,h'.get? b=some {o with slots:=sl}
 free:∀b o,h.get? b=some o->H b=none->b∉ex->H' b=none
 there:∀b o,h.get? b=some o->b∉ex->∃o',h'.get? b=some o'
 tups:∀b xs,H b=some (.tup xs)->H' b=some (.tup xs)
 frzs:∀b o u,H b=some (.frz o u)->H' b=some (.frz o u)
 tbls:∀b ps,H b=some (.tbl ps)->∃bL,H' b=some (.tbl (ps++bL))
section
variable {fs mU ex qu:List ae}{H H1 H2:Hp}{h h1 h2 h':ao}{a x e:ae}{o:HO}
def Un.any(u:Un fs ex H H1 h h1)  (q:h.get? b=some ob)(n:H b=none)(hx:b∉ex):∃sl,h1.get? b=some {ob with slots:=sl}:=by
 by_cases hb:b∈fs
 ·exact u.slot b ob q n hb hx
 ·exact⟨ob.slots,u.keep b ob q n hb hx⟩
def Un.kept(k:∀b u,h.get? b=some u->h'.get? b=some u):Un fs ex H H h h':=
 ⟨λb ob q _ _ _=>k b ob q,λb ob q _ _ _=>⟨ob.slots,k b ob q⟩,λ_ _ _ n _=>n,λb ob q _=>⟨ob,k b ob q⟩,λ_ _ q=>q,λ_ _ _ q=>q,λ_ ps q=>⟨#[],by rw[q];simp⟩⟩
def Un.refl:Un fs ex H H h h:=Un.kept λ_ _ q=>q
def Un.laid(k:∀b u,h.get? b=some u->h'.get? b=some u)(hp:h.objs.size<=a)(hn:H a=none):Un fs ex H (upd H a o) h h' where
 keep:=λb u q _ _ _=>k b u q
 slot:=λb u q _ _ _=>⟨u.slots,k b u q⟩
 free:=λb u q n _=>by rw[Ad (L9 (Mq (Qv q) hp))];exact n
 there:=λb u q _=>⟨u,k b u q⟩
 tups:=λb xs q=>by rw[Ad (Aw q hn)];exact q
 frzs:=λb u xs q=>by rw[Ad (Aw q hn)];exact q
 tbls:=λb ps q=>⟨#[],by rw[Ad (Aw q hn),q];simp⟩
def Un.write(mu:Mut (H x))(he:e=x\/H e=some (.own x))(k:∀b u,b≠e->h.get? b=some u->h'.get? b=some u)(ml:∃u,h'.get? e=some u):Un fs ex H (upd H x o) h h':=by
 have hx:∀b,H b=none->b≠x:=λb n z=>by subst z;rw[n] at mu;exact mu
 have hb:∀b,H b=none->b≠e:=λb n z=>by
  subst z;rcases he with r | r
  ·exact hx b n r
  ·rw[n] at r;cases r
 have hm:∀b u,H b=some u->¬Mut (some u)->b≠x:=λb u q nm z=>by subst z;rw[q] at mu;exact nm mu
 refine⟨λb u q n _ _=>k b u (hb b n) q,λb u q n _ _=>⟨u.slots,k b u (hb b n) q⟩,λb u q n _=>by rw[Ad (hx b n)];exact n,λb u q _=>?_,
  λb xs q=>by rw[Ad (hm b _ q λz=>z)];exact q,λb u xs q=>by rw[Ad (hm b _ q λz=>z)];exact q,λb ps q=>⟨#[],by rw[Ad (hm b _ q λz=>z),q];simp⟩⟩
 by_cases kN:b=e
 ·subst kN;exact ml
 ·exact⟨u,k b u kN q⟩
end
def trk (h:ao) (H:Hp):List ae:=(List.range h.objs.size).filter λa=>(H a).isSome
def C5 (h:ao) (H:Hp):ao:=EF h (trk h H)
def Xg0(h)(H):(C5 h H).objs.size=h.objs.size:=PySem.W.hideAll_size _ _
def Xg1    (e:h.get? b=some o) (n:H b=none):(C5 h H).get? b=some o:=
 EE _ e λhm=>by
  have q:(H b).isSome=true:=(Mh.mp hm).2;rw[n] at q;simp at q
def Xg2    (e:(C5 h H).get? b=some o):h.get? b=some o/\H b=none:=by
 have e':h.get? b=some o:=EG (trk h H) e;refine⟨e',?_⟩;cases q:H b with
 | none=>rfl
 | some x=>
  have hm:b∈trk h H:=Mh.mpr ⟨Nr.mpr (Qv e'),by simp[q]⟩;have z:(C5 h H).get? b=none:=PySem.W.hideAll_none (trk h H) hm;rw[z] at e;cases e
def Xg3 (g h:ao) (L:ae):List (ae×aI):=(List.range h.objs.size).filterMap λa=>if a=L\/(g.get? a).isSome=true then none else (h.get? a).map λo=>(a,o)
def rest (g h:ao) (L d:ae):List (ae×aI):=(Xg3 g h L).filter λp=>decide (p.1≠d)
structure Mod (K:DK) (mg:ah->Option aa) (base:ao):Prop where
 kin:K.In base
 glob:base.Ns am mg
 blt:∃mb,base.Ns cF mb/\∀x:ah,x ≠ "__name__" -> mb x=br x
 nolimit:base.NoLimit
structure Cx where
 prog:au
 w:ay
 K:DK
 mg:ah->Option aa
 base:ao
 A:ax
 N:Za
 s₀ : ag
 H₀ : Hp
 env:dm
 outer:List dm
 stack:List dm
 ex:List ae
 fn:ah->Bool
 calm:Bool
 pn:List (ae×aI)
 xe:Zb
def frs (l:List dm):List ae:=l.filterMap (·.frame)
abbrev Cx.fs (X:Cx):List ae:=frs X.outer
def Vis (sc:bj) (x:ah):Prop:=sc.names.lookup x=some .local\/sc.names.lookup x=some .cell\/sc.names.lookup x=some .free
def Loc (sc:bj) (x:ah):Prop:=sc.names.lookup x=some .local\/sc.names.lookup x=some .cell
def Look (env:dm) (h:ao) (m:ah->Option aa) (x:ah) (u:aa):Prop:=
 (env.kindOf x=some .local/\m x=some u)\/((env.kindOf x=some .cell\/env.kindOf x=some .free)/\∃c,env.cells.lookup x=some c/\h.IsCell c (some u))
structure Cx.Ok (X:Cx):Prop where
 mod:Mod X.K X.mg X.base
 kind:X.env.scope.kind = .function
 glob:X.env.globals=am
 blt:X.env.builtins=cF
 above:X.s₀.heap.objs.size<=X.env.locals
 inj:∀x y c,X.env.cells.lookup x=some c->X.env.cells.lookup y=some c->x=y
 has:∀x,(X.env.kindOf x=some .cell\/X.env.kindOf x=some .free)->∃c,X.env.cells.lookup x=some c
 cab:∀x c,X.fn x=true->X.env.cells.lookup x=some c->X.s₀.heap.objs.size<=c
 hd:X.calm=true->X.A.handled=none
 frames:X.A.frames=some X.stack
 stk:X.stack=X.outer\/(X.stack=X.env::X.outer/\X.env.frame=some X.env.locals)
 exf:∀b∈X.ex,b≠X.env.locals/\∀x c,X.env.cells.lookup x=some c->c≠b
 bs:∀b o,X.base.get? b=some o->X.s₀.heap.get? b=some o/\X.H₀ b=none
 bsz:X.base.objs.size<=X.s₀.heap.objs.size
 noex:∀b o,X.base.get? b=some o->b∉X.ex
 exfs:∀b∈X.ex,b∉X.fs
 funs:X.s₀.heap.FunFrames X.base X.outer
 frf:∀b∈X.fs,X.H₀ b=none
structure Inv (X:Cx) (pins:List (ae×aI)) (Z:List (Option V)) (H:Hp) (s:ag):Prop where
 ok:X.Ok
 os:s.os=X.s₀.os
 bare:cq s.gens
 base:Un X.fs X.ex X.H₀ H X.s₀.heap s.heap
 loc:∃m,s.heap.Ns X.env.locals m/\∀(i:Nat) (x:ah) (v:V),X.N[i]? = some x -> Z[i]? = some (some v)->Vis X.env.scope x->∃u,Aj v u/\Look X.env s.heap m x u
 cell:∀x c,X.env.cells.lookup x=some c->∃v,s.heap.IsCell c v
 free:H X.env.locals=none
 freeC:∀x c,X.env.cells.lookup x=some c->H c=none
 pin:∀p∈X.pn++pins,s.heap.get? p.1=some p.2/\H p.1=none/\p.1≠X.env.locals/\p.1∉X.fs/\∀v,p.2.data ≠ .cell v
 hok:HOk X.prog X.w H s.heap
 len : Z.length=X.N.length
section
variable {X:Cx}{pins:List (ae×aI)}{Z:List (Option V)}{H H':Hp}{s:ag}{h':ao}
def Cx.Ok.nofr(ok:X.Ok)  (e:X.base.get? b=some o):b∉X.fs:=λhb=>by
 have:=(ok.funs.mem hb).1;rw[e] at this;cases this
def Inv.bs(I:Inv X pins Z H s):∀b o,X.base.get? b=some o->s.heap.get? b=some o/\H b=none:=λb o e=>
 ⟨I.base.keep b o (I.ok.bs b o e).1 (I.ok.bs b o e).2 (I.ok.nofr e) (I.ok.noex b o e),I.base.free b o (I.ok.bs b o e).1 (I.ok.bs b o e).2 (I.ok.noex b o e)⟩
def Inv.bk(I:Inv X pins Z H s):∀b o,X.base.get? b=some o->s.heap.get? b=some o:=λb o e=>(I.bs b o e).1
def Inv.mod(I:Inv X pins Z H s):Mod X.K X.mg X.base:=I.ok.mod
def Inv.kIn(I:Inv X pins Z H s):X.K.In s.heap:=I.ok.mod.kin.keeps I.bk
def Inv.lt(I:Inv X pins Z H s):X.env.locals<s.heap.objs.size:=let ⟨_,hn,_⟩:=I.loc;hn.lt
def Inv.sz(I:Inv X pins Z H s):X.s₀.heap.objs.size<=s.heap.objs.size:=M8 I.ok.above (O2 I.lt)
def Inv.nofs(I:Inv X pins Z H s)(h:s.heap.objs.size<=a):a∉X.fs:=λhb=>by
 obtain⟨_,o,ho,_⟩:=I.ok.funs.mem hb;exact absurd (Mq (Qv ho) (M8 I.sz h)) (Na _)
def Inv.cne(I:Inv X pins Z H s):∀x c,X.env.cells.lookup x=some c->c≠X.env.locals:=λx c e z=>by
 obtain⟨v,o,ho,hd⟩:=I.cell x c e;obtain⟨m,⟨o',es,ep,dO,fO,_⟩,_⟩:=I.loc;rw[z,dO] at ho;cases ho;rw[fO] at hd;cases hd
def Inv.funs(I:Inv X pins Z H s):s.heap.FunFrames X.base X.outer:=by
 have all:∀(l:List dm),(∀b∈frs l,b∈X.fs)->X.s₀.heap.FunFrames X.base l->s.heap.FunFrames X.base l:=by
  intro l
  induction l with
  | nil=>intro _ _;trivial
  | cons env r ih=>
   intro hs hl;obtain⟨hk,⟨L,o,hf,hn,ho,hd⟩,hr⟩:=hl;have hL:L∈X.fs:=hs L (by unfold frs;rw[N8,hf];exact Mf);obtain⟨sl,e⟩:=I.base.slot L o ho (I.ok.frf L hL) hL λz=>I.ok.exfs L z hL;exact⟨hk,⟨L,_,hf,hn,e,hd⟩,ih (λb hb=>hs b (by unfold frs;rw[N8,hf];exact L8 _ hb)) hr⟩
 exact all X.outer (λ_ hb=>hb) I.ok.funs
def Inv.stack(I:Inv X pins Z H s):s.heap.FunFrames X.base X.stack:=by
 rcases I.ok.stk with e | ⟨e,hf⟩
 ·rw[e];exact I.funs
 ·rw[e];obtain⟨m,hn,_⟩:=I.loc;refine .cons (by rw[I.ok.kind];decide) hf hn ?_ I.funs;exact ao.get?_none_of_le (M8 I.ok.bsz I.ok.above)
def Inv.stkSub(I:Inv X pins Z H s):∀b∈frs X.stack,b∈X.env.locals::X.fs:=λb hb=>by
 rcases I.ok.stk with e | ⟨e,hf⟩
 ·rw[e] at hb;exact L8 _ hb
 ·rw[e] at hb;unfold frs at hb;rw[N8,hf] at hb;exact hb
def Inv.stkFree(I:Inv X pins Z H s):∀b∈frs X.stack,H b=none:=λb hb=>by
 rcases Mb.mp (I.stkSub b hb) with e | hb
 ·rw[e];exact I.free
 ·obtain⟨_,o,ho,_⟩:=I.ok.funs.mem hb;exact I.base.free b o ho (I.ok.frf b hb) λz=>I.ok.exfs b z hb
def Inv.step{g'}{t'}{d'}{ch:List ae}(I:Inv X pins Z H s)
  (iX:∀b∈ch,(b∈X.ex\/X.s₀.heap.objs.size<=b)/\b≠X.env.locals/\(∀x c,X.env.cells.lookup x=some c->c≠b)/\∀p∈X.pn++pins,p.1≠b)
  (keep:∀b o,b≠X.env.locals->b∉X.fs->b∉ch->s.heap.get? b=some o->H b=none->h'.get? b=some o)
  (slot:∀b o,b≠X.env.locals->b∈X.fs->b∉ch->s.heap.get? b=some o->H b=none->∃sl,h'.get? b=some {o with slots:=sl}) (free:∀b o,b∉ch->s.heap.get? b=some o->H b=none->H' b=none)
  (there:∀b o,b∉ch->s.heap.get? b=some o->∃o',h'.get? b=some o')
  (tups:∀b xs,H b=some (.tup xs)->H' b=some (.tup xs)) (frzs:∀b o u,H b=some (.frz o u)->H' b=some (.frz o u)) (tbls:∀b ps,H b=some (.tbl ps)->∃bL,H' b=some (.tbl (ps++bL)))
  (ns:∀m,s.heap.Ns X.env.locals m->h'.Ns X.env.locals m) (hok:HOk X.prog X.w H' h') (hg:cq g'):
  Inv X pins Z H' {s with heap:=h',gens:=g',drawn:=d',toks:=t'}:=by
 have uQ:∀b o,X.s₀.heap.get? b=some o->b≠X.env.locals:=λb o e=>L9 (Mq (Qv e) I.ok.above);have qv:∀b o,X.s₀.heap.get? b=some o->b∉X.ex->b∉ch:=λb o e hx hb=>by
  rcases (iX b hb).1 with z | z
  ·exact hx z
  ·exact absurd (Mq (Qv e) z) (Na _)
 have jP:∀x c,X.env.cells.lookup x=some c->∀v,s.heap.IsCell c v->h'.IsCell c v:=λx c e v ⟨o,ho,hd⟩=>by
  have mV:c∉ch:=λz=>(iX c z).2.2.1 x c e rfl;by_cases hc:c∈X.fs
  ·obtain⟨sl,q⟩:=slot c o (I.cne x c e) hc mV ho (I.freeC x c e);exact⟨_,q,hd⟩
  ·exact⟨o,keep c o (I.cne x c e) hc mV ho (I.freeC x c e),hd⟩
 refine⟨I.ok,I.os,hg,⟨λb o e n hb hx=>?_,λb o e n hb hx=>?_,λb o e n hx=>?_,λb o e hx=>?_,λb xs e=>tups b xs (I.base.tups b xs e),λb o xs e=>frzs b o xs (I.base.frzs b o xs e),λb ps e=>?_⟩,?_,λx c e=>?_,?_,λx c e=>?_,λp hp=>?_,hok,I.len⟩
 ·exact keep b o (uQ b o e) hb (qv b o e hx) (I.base.keep b o e n hb hx) (I.base.free b o e n hx)
 ·obtain⟨sl,e1⟩:=I.base.slot b o e n hb hx;obtain⟨g6,e2⟩:=slot b _ (uQ b o e) hb (qv b o e hx) e1 (I.base.free b o e n hx);exact⟨g6,e2⟩
 ·obtain⟨o',e1⟩:=I.base.there b o e hx;exact free b o' (qv b o e hx) e1 (I.base.free b o e n hx)
 ·obtain⟨o',e1⟩:=I.base.there b o e hx;exact there b o' (qv b o e hx) e1
 ·obtain⟨m1,e1⟩:=I.base.tbls b ps e;obtain⟨m2,e2⟩:=tbls b _ e1;exact⟨m1++m2,by rw[e2,Array.append_assoc]⟩
 ·obtain⟨m,hn,hl⟩:=I.loc;refine⟨m,ns m hn,λi x v e1 e2 e3=>?_⟩;obtain⟨u,r,l⟩:=hl i x v e1 e2 e3;refine⟨u,r,?_⟩;rcases l with l | ⟨k,c,e,z⟩
  ·exact .inl l
  ·exact .inr ⟨k,c,e,jP x c e _ z⟩
 ·obtain⟨v,z⟩:=I.cell x c e;exact⟨v,jP x c e v z⟩
 ·obtain⟨m,⟨o,_,_,ho,_⟩,_⟩:=I.loc;exact free _ o (λz=>(iX _ z).2.1 rfl) ho I.free
 ·obtain⟨v,o,ho,hd⟩:=I.cell x c e;exact free c o (λz=>(iX c z).2.2.1 x c e rfl) ho (I.freeC x c e)
 ·obtain⟨e,n,ne,nf,d⟩:=I.pin p hp;have mV:p.1∉ch:=λz=>(iX p.1 z).2.2.2 p hp rfl;exact⟨keep p.1 p.2 ne nf mV e n,free p.1 p.2 mV e n,ne,nf,d⟩
def Inv.un{t'}(I:Inv X pins Z H s)(u:Un X.fs [] H H' s.heap h')(hok:HOk X.prog X.w H' h'):Inv X pins Z H' {s with heap:=h',toks:=t'}:=by
 obtain⟨m,⟨o,es,ep,ho,r⟩,_⟩:=id I.loc;obtain⟨sl,hL⟩:=u.any ho I.free (by simp);exact I.step (g':=s.gens) (d':=s.drawn) (ch:=[]) (λ_ z=>nomatch z) (λb o _ hb _ e n=>u.keep b o e n hb (by simp)) (λb o _ hb _ e n=>u.slot b o e n hb (by simp)) (λb o _ e n=>u.free b o e n (by simp)) (λb o _ e=>u.there b o e (by simp)) u.tups u.frzs u.tbls (λm' hm=>by
  obtain⟨o',cj,iY,dO,r'⟩:=hm;rw[ho] at dO;cases dO;exact⟨_,cj,iY,hL,r'⟩) hok I.bare
def Inv.call{g'}{t'}{d'}{ch}(I:Inv X pins Z H s)(u:Un (frs X.stack) ch H H' s.heap h')(hok:HOk X.prog X.w H' h')(hg:cq g')
  (iX:∀b∈ch,(b∈X.ex\/X.s₀.heap.objs.size<=b)/\b≠X.env.locals/\(∀x c,X.env.cells.lookup x=some c->c≠b)/\∀p∈X.pn++pins,p.1≠b):
  Inv X pins Z H' {s with heap:=h',gens:=g',drawn:=d',toks:=t'}:=by
 obtain⟨m,⟨o,es,ep,ho,r⟩,_⟩:=id I.loc;obtain⟨sl,hL⟩:=u.any ho I.free λz=>(iX _ z).2.1 rfl;exact I.step (ch:=ch) iX (λb o hL hb hc e n=>u.keep b o e n (λz=>(Mb.mp (I.stkSub b z)).elim hL hb) hc) (λb o _ _ hc e n=>u.any e n hc) (λb o hc e n=>u.free b o e n hc) (λb o hc e=>u.there b o e hc) u.tups u.frzs u.tbls (λm' hm=>by
  obtain⟨o',cj,iY,dO,r'⟩:=hm;rw[ho] at dO;cases dO;exact⟨_,cj,iY,hL,r'⟩) hok hg
def Inv.turned{t'}(I:Inv X pins Z H s)(k:∀b o,b≠it->s.heap.get? b=some o->h'.get? b=some o)(hn:H it=none)(hL:it≠X.env.locals)
  (h1:it∈X.ex\/X.s₀.heap.objs.size<=it) (h2:∀x c,X.env.cells.lookup x=some c->c≠it) (h3:∀p∈X.pn++pins,p.1≠it):Inv X pins Z H {s with heap:=h',toks:=t'}:=by
 have uR:∀b u,H b=some u->b≠it:=λb u e z=>by rw[z,hn] at e;cases e
 refine I.step (g':=s.gens) (d':=s.drawn) (ch:=[it]) (λb hb=>?_) (λb o _ _ hc e _=>k b o (λz=>hc (by simp[z])) e) (λb o _ _ hc e _=>⟨o.slots,k b o (λz=>hc (by simp[z])) e⟩) (λ_ _ _ _ n=>n)
  (λb o hc e=>⟨o,k b o (λz=>hc (by simp[z])) e⟩) (λ_ _ e=>e) (λ_ _ _ e=>e) (λb ps e=>⟨#[],by rw[e];simp⟩) (λm hm=>?_) (λb u e=>?_) I.bare
 ·have e:b=it:=by simpa using hb
  subst e;exact⟨h1,hL,h2,h3⟩
 ·obtain⟨o,es,ep,ho,r⟩:=hm;exact⟨o,es,ep,k _ o (Ne.symm hL) ho,r⟩
 ·refine(I.hok b u e).stay (λc v hc q=>k c v ?_ q) (λ_ q=>q) λ_ _ q=>q;rcases hc with z | z
  ·rw[z];exact uR b u e
  ·exact uR c _ z
def Inv.tok(I:Inv X pins Z H s)(t):Inv X pins Z H {s with toks:=t}:=I.un (h':=s.heap) (t':=t) Un.refl I.hok
def Inv.kept{t'}(I:Inv X pins Z H s)(k:∀b u,s.heap.get? b=some u->h'.get? b=some u):Inv X pins Z H {s with heap:=h',toks:=t'}:=I.un (Un.kept k) (I.hok.kept k)
def Inv.laid{a:ae}{o}{t'}(I:Inv X pins Z H s)(k:∀b u,s.heap.get? b=some u->h'.get? b=some u)(hp:s.heap.objs.size<=a)(new:A3 X.prog X.w (upd H a o) h' a o):
  Inv X pins Z (upd H a o) {s with heap:=h',toks:=t'}:=I.un (Un.laid k hp (I.hok.fresh hp)) (I.hok.laid k hp new)
def Inv.write{x e}  (I:Inv X pins Z H s)(mu:Mut (H x))(he:e=x\/H e=some (.own x))(k:∀b u,b≠e->s.heap.get? b=some u->h'.get? b=some u)(ml:∃u,h'.get? e=some u)
  (new:A3 X.prog X.w (upd H x o) h' x o):Inv X pins Z (upd H x o) {s with heap:=h',toks:=t'}:=I.un (Un.write mu he k ml) (I.hok.write mu he k ml new)
def Inv.pins_of(I:Inv X pins Z H s)(h:∀p∈jQ,s.heap.get? p.1=some p.2/\H p.1=none/\p.1≠X.env.locals/\p.1∉X.fs/\∀v,p.2.data ≠ .cell v):Inv X jQ Z H s:=
 ⟨I.ok,I.os,I.bare,I.base,I.loc,I.cell,I.free,I.freeC,λp hp=>(Mm.mp hp).elim (λz=>I.pin p (Nz _ z)) (h p),I.hok,I.len⟩
def Xaa{N:Za}(hN:N.Nodup){i j:Nat}(a:N[i]? = some x)(b:N[j]? = some x):i=j:=by
 obtain⟨h1,e1⟩:=Mc.mp a;obtain⟨h2,e2⟩:=Mc.mp b;exact(Pt hN).mp (e1.trans e2.symm)
def Xab        (I:Inv X pins Z H s) (hN:X.N.Nodup) (hi:X.N[i]? = some x) (hx:Loc X.env.scope x) (r:Aj v u)
  (h:∀s',Inv X pins (Z.set i (some v)) H s'->(∃a,ao.SameBut a s.heap s'.heap/\(a=X.env.locals\/X.env.cells.lookup x=some a))->Q () s') (hf:X.fn x=true\/X.env.scope.names.lookup x=some .local:=by first | exact .inl rfl | exact .inr rfl | assumption):ai M A (AW X.env x u) Q E s:=by
 obtain⟨m,hn,hl⟩:=id I.loc;have er:(X.env.scope.kind == .class||(X.env.scope.kind == .module&&X.env.locals != X.env.globals))=false:=by rw[I.ok.kind];rfl
 have uS:i < Z.length:=by rw[I.len];exact(Mc.mp hi).1
 have cne:=I.cne;have g7:∀{a:ae} {h':ao},(∃o,s.heap.get? a=some o/\H a=none)->ao.SameBut a s.heap h'->HOk X.prog X.w H h':=λ{a h'} ha hs b ob e=>by
  obtain⟨_,_,g8⟩:=ha;refine(I.hok b ob e).stay (λc w' hc q=>(hs.2 c ?_).trans q) (λ_ q=>q) λ_ _ q=>q;rintro rfl;rcases hc with rfl | hc
  ·rw[g8] at e;cases e
  ·rw[g8] at hc;cases hc
 rcases hx with hk | hk
 ·refine wpAny_storeName_local hk hn (λh' xj hs=>?_) er;obtain⟨oL,_,_,fU,_⟩:=id hn;refine h _ ⟨I.ok,I.os,I.bare,⟨λb o e n hb hx=>?_,λb o e n hb hx=>?_,I.base.free,λb o e hx=>?_,I.base.tups,I.base.frzs,I.base.tbls⟩,⟨_,xj,λj y v' e1 e2 e3=>?_⟩,λy c e=>?_,I.free,I.freeC,λp hp=>?_,g7 ⟨oL,fU,I.free⟩ hs,by simpa using I.len⟩ ⟨_,hs,.inl rfl⟩
  ·exact(hs.2 b (L9 (Mq (Qv e) I.ok.above))).trans (I.base.keep b o e n hb hx)
  ·obtain⟨sl,e1⟩:=I.base.slot b o e n hb hx;exact⟨sl,(hs.2 b (L9 (Mq (Qv e) I.ok.above))).trans e1⟩
  ·obtain⟨o',e1⟩:=I.base.there b o e hx;exact⟨o',(hs.2 b (L9 (Mq (Qv e) I.ok.above))).trans e1⟩
  ·by_cases hj:j=i
   ·subst hj;rw[hi] at e1;cases e1;rw[List.getElem?_set_self uS] at e2;cases e2;exact⟨u,r,.inl ⟨hk,by simp⟩⟩
   ·rw[List.getElem?_set_ne (Ne.symm hj)] at e2;obtain⟨u',r',q⟩:=hl j y v' e1 e2 e3;refine⟨u',r',?_⟩;rcases q with ⟨k,e⟩ | ⟨k,c,e,z⟩
    ·refine .inl ⟨k,?_⟩;have:y≠x:=λe=>hj (Xaa hN e1 (e ▸ hi));simp[this,e]
    ·exact .inr ⟨k,c,e,z.sameBut hs (cne y c e)⟩
  ·obtain⟨w',z⟩:=I.cell y c e;exact⟨w',z.sameBut hs (cne y c e)⟩
  ·obtain⟨e,n,ne,nf,d⟩:=I.pin p hp;exact⟨(hs.2 p.1 ne).trans e,n,ne,nf,d⟩
 ·have rG:X.fn x=true:=by
   rcases hf with z | z
   ·exact z
   ·rw[z] at hk;cases hk
  obtain⟨c,hc⟩:=I.ok.has x (.inl hk);obtain⟨w',z⟩:=I.cell x c hc;refine wpAny_storeName_cell I.ok.kind hk hc z (λh' jn hs=>?_);obtain⟨oc,jo,rH⟩:=id z;refine h {s with heap:=h'} ⟨I.ok,I.os,I.bare,⟨λb o e n hb hx=>?_,λb o e n hb hx=>?_,I.base.free,λb o e hx=>?_,I.base.tups,I.base.frzs,I.base.tbls⟩,⟨m,hn.sameBut hs (Ne.symm (cne x c hc)),λj y v' e1 e2 e3=>?_⟩,λy c' e=>?_,I.free,I.freeC,λp hp=>?_,g7 ⟨oc,jo,I.freeC x c hc⟩ hs,by simpa using I.len⟩ ⟨c,hs,.inr hc⟩
  ·exact(hs.2 b (L9 (Mq (Qv e) (I.ok.cab x c rG hc)))).trans (I.base.keep b o e n hb hx)
  ·obtain⟨sl,e1⟩:=I.base.slot b o e n hb hx;exact⟨sl,(hs.2 b (L9 (Mq (Qv e) (I.ok.cab x c rG hc)))).trans e1⟩
  ·obtain⟨o',e1⟩:=I.base.there b o e hx;exact⟨o',(hs.2 b (L9 (Mq (Qv e) (I.ok.cab x c rG hc)))).trans e1⟩
  ·by_cases hj:j=i
   ·subst hj;rw[hi] at e1;cases e1;rw[List.getElem?_set_self uS] at e2;cases e2;exact⟨u,r,.inr ⟨.inl hk,c,hc,jn⟩⟩
   ·rw[List.getElem?_set_ne (Ne.symm hj)] at e2;obtain⟨u',r',q⟩:=hl j y v' e1 e2 e3;refine⟨u',r',?_⟩;rcases q with q | ⟨k,c',e,z'⟩
    ·exact .inl q
    ·refine .inr ⟨k,c',e,z'.sameBut hs ?_⟩;rintro rfl;exact hj (Xaa hN e1 (I.ok.inj _ _ _ e hc ▸ hi))
  ·by_cases uT:c'=c
   ·subst uT;exact⟨_,jn⟩
   ·obtain⟨w2,z2⟩:=I.cell y c' e;exact⟨w2,z2.sameBut hs uT⟩
  ·obtain⟨e,n,ne,nf,d⟩:=I.pin p hp;refine⟨(hs.2 p.1 ?_).trans e,n,ne,nf,d⟩;intro q;rw[q,jo] at e;have q':oc=p.2:=Mj e;exact d w' (by rw[<-q'];exact rH)
def Xac        (I:Inv X pins Z H s) (hN:X.N.Nodup) (hi:X.N[i]? = some x) (hx:Loc X.env.scope x) (r:Aj v u)
  (h:∀s',Inv X pins (Z.set i (some v)) H s'->Q () s') (hf:X.fn x=true\/X.env.scope.names.lookup x=some .local:=by first | exact .inl rfl | exact .inr rfl | assumption):ai M A (AW X.env x u) Q E s:=
 Xab I hN hi hx r (λs' I' _=>h s' I') hf
def Inv.call'{ch}(I:Inv X pins Z H s)(ho:s'.os=s.os)(u:Un (frs X.stack) ch H H' s.heap s'.heap)(hok:HOk X.prog X.w H' s'.heap)(hg:cq s'.gens)
  (iX:∀b∈ch,(b∈X.ex\/X.s₀.heap.objs.size<=b)/\b≠X.env.locals/\(∀x c,X.env.cells.lookup x=some c->c≠b)/\∀p∈X.pn++pins,p.1≠b):Inv X pins Z H' s':=by
 obtain⟨h',g',d',t',o'⟩:=s';have e:o'=s.os:=ho;subst e;exact I.call (g':=g') (t':=t') (d':=d') u hok hg iX
end
abbrev XK:=aa->Option ae->Hp->Prop
abbrev St:=List (Option V)
abbrev VK:=V->Hp->Prop
abbrev TE:=St->Hp->VK->Prop
abbrev TT:=St->Hp->(Bool->Hp->Prop)->Prop
abbrev TA:=St->Hp->(List V->Hp->Prop)->Prop
structure Ends where
 nx:St->Hp->Prop
 rt:VK
 bk:St->Hp->Prop:=λ_ _=>False
 ct:St->Hp->Prop:=λ_ _=>False
abbrev TS:=Ends->St->Hp->Prop
def EP (X:Cx) (pins:List (ae×aI)) (Z:St) (Q:VK) (u:aa) (s':ag):Prop:=∃v H',Inv X pins Z H' s'/\Aj v u/\Q v H'
def TP (X:Cx) (pins:List (ae×aI)) (Z:St) (Q:Bool->Hp->Prop) (b:Bool) (s':ag):Prop:=∃H',Inv X pins Z H' s'/\Q b H'
def AP (X:Cx) (pins:List (ae×aI)) (Z:St) (Q:List V->Hp->Prop) (us:List aa) (s':ag):Prop:=∃vs H',Inv X pins Z H' s'/\Vals vs us/\Q vs H'
def SP (X:Cx) (pins:List (ae×aI)) (D:Ends) (f:Flow) (s':ag):Prop:=
 match f with
 | .next=>∃Z' H',Inv X pins Z' H' s'/\D.nx Z' H'
 | .brk=>∃Z' H',Inv X pins Z' H' s'/\D.bk Z' H'
 | .cont=>∃Z' H',Inv X pins Z' H' s'/\D.ct Z' H'
 | .ret u=>∃v Z' H',Inv X pins Z' H' s'/\Aj v u/\D.rt v H'
def PE (X:Cx) (e:aA) (t:TE):Prop:=
 ∀pins s Z H (Q:VK),Inv X pins Z H s->t Z H Q->ai (aj X.prog X.w) X.A (eval e X.env) (EP X pins Z Q) X.xe s
def PT (X:Cx) (e:aA) (t:TT):Prop:=
 ∀pins s Z H (Q:Bool->Hp->Prop),Inv X pins Z H s->t Z H Q->ai (aj X.prog X.w) X.A (isTrue e X.env (eval e X.env)) (TP X pins Z Q) X.xe s
def PW (X:Cx) (e:aA) (t:TT):Prop:=
 ∀(du:eR aa) (pins:List (ae×aI)) (s:ag) (Z:St) (H:Hp) (Q:Bool->Hp->Prop),Inv X pins Z H s->t Z H Q->ai (aj X.prog X.w) X.A (isTrue e X.env du) (TP X pins Z Q) X.xe s
def PW.pt   (h:PW X e t):PT X e t:=h _
def PA (X:Cx) (es:List aA) (t:TA):Prop:=
 ∀(pos:bw) (pins:List (ae×aI)) (s:ag) (Z:St) (H:Hp) (Q:List V->Hp->Prop),Inv X pins Z H s->t Z H Q->ai (aj X.prog X.w) X.A (spliced (bn pos (az es X.env))) (AP X pins Z Q) X.xe s
def PS (X:Cx) (st:aO) (t:TS):Prop:=
 ∀pins s Z H (D:Ends),Inv X pins Z H s->t D Z H->ai (aj X.prog X.w) X.A (exec st X.env) (SP X pins D) X.xe s
def PSs (X:Cx) (st:List aO) (t:TS):Prop:=
 ∀pins s Z H (D:Ends),Inv X pins Z H s->t D Z H->ai (aj X.prog X.w) X.A (execs st X.env) (SP X pins D) X.xe s
def thn{α : Type}{t:eR α}{Q Q'}    (h:ai M A t Q E s)(hQ:∀a s,Q a s->Q' a s):ai M A t Q' E s:=aK h hQ λ_ _ x=>x
section
variable {X:Cx}
def Xad (i:Nat):TE:=fun Z H Q=>∃v, Z[i]? = some (some v)/\Q v H
def tC (v:V):TE:=λ_ H Q=>Q v H
def Xg4   (hN:X.N[i]? = some x) (hv:Vis X.env.scope x) (hd:(x==("__debug__" : ah))=false:=by decide) (fP:(x==("__classdict__" : ah))=false:=by decide):PE X (.Name x pos) (Xad i):=by
 intro pins s Z H Q I h;obtain⟨v,e,h⟩:=h;obtain⟨m,hn,hl⟩:=I.loc;obtain⟨u,r,l⟩:=hl i x v hN e hv;have fin:EP X pins Z Q u s:=⟨v,H,I,r,h⟩;rcases l with ⟨hk,hm⟩ | ⟨hk,c,hc,eS⟩
 ·exact jp (wpAny_loadName_local I.ok.kind hk hn hm fin) hd
 ·rcases hk with hk | hk
  ·exact jp (wpAny_loadName_cell I.ok.kind hk hc eS fin) hd
  ·exact jp (wpAny_loadName_free I.ok.kind hk hc eS fin fP) hd
def Ag{i j pos}:PE X (.Constant (.int i) j pos) (tC (.int i)):=λ_ _ _ H _ I h=>wpAny_Constant_int ⟨.int i,H,I.tok _,⟨_,rfl⟩,h⟩
def Ei:PE X (.Constant (.bool b) j pos) (tC (.bl b)):=λ_ _ _ H _ I h=>Constant_bool ⟨.bl b,H,I,rfl,h⟩
def Ej:PE X (.Constant .none j pos) (tC .non):=λ_ _ _ H _ I h=>Constant_none ⟨.non,H,I,rfl,h⟩
def Bm:PE X (.Constant (.str x) j pos) (tC (.str x)):=λ_ _ _ H _ I h=>Calls.Constant_str ⟨.str x,H,I.tok _,⟨_,rfl⟩,h⟩
def Gl (X:Cx) (x:ah):Prop:=X.env.kindOf x=some .globalImplicit
def Xae         (I:Inv X pins Z H s) (hg:Gl X x) (hm:X.mg x=some u) (h:Q u s)
  (hd:(x==("__debug__" : ah))=false:=by decide):ai (aj X.prog X.w) X.A (eval (.Name x pos) X.env) Q E s:=
 Calls.Name_function_global I.ok.kind hg (Calls.loadGlobal_global (by rw[I.ok.glob];exact I.mod.glob.keeps I.bk) hm h) hd
def Ek         (I:Inv X pins Z H s) (hg:Gl X x) (hm:X.mg x=none) (hv:br x=some u) (h:Q u s)
  (hn:x ≠ "__name__" := by decide) (hd:(x==("__debug__" : ah))=false:=by decide):ai (aj X.prog X.w) X.A (eval (.Name x pos) X.env) Q E s:=by
 obtain⟨mb,h1,h2⟩:=I.mod.blt;exact Calls.Name_function_global I.ok.kind hg (Calls.loadGlobal_builtin (by rw[I.ok.glob];exact I.mod.glob.keeps I.bk) hm (by rw[I.ok.blt];exact h1.keeps I.bk) ((h2 x hn).trans hv) h) hd
def t2I (ta tb:TE) (k:Int->Int->Hp->Prop):St->Hp->Prop:=fun Z H=>ta Z H λx H1=>tb Z H1 λy H2=>∃i j,x = .int i/\y = .int j/\k i j H2
def tMul (ta tb:TE):TE:=fun Z H Q=>t2I ta tb (λi j H2=>(-(2 ^ 64)<i/\i<2 ^ 64)/\Q (.int (i * j)) H2) Z H
variable {a b:aA}{ta tb:TE}{pos:bw}
def PC (X:Cx) (op:CmpOp) (a b:aA) (t:TE):Prop:=
 ∀pins s Z H (Q:VK),Inv X pins Z H s->t Z H Q ->
  ai (aj X.prog X.w) X.A (eval a X.env) (λv s₁=>ai (aj X.prog X.w) X.A (eval b X.env) (λu s₂=>ai (aj X.prog X.w) X.A (aE op v u) (EP X pins Z Q) X.xe s₂) X.xe s₁) X.xe s
def tIsN (ta:TE):TE:=fun Z H Q=>ta Z H λx H1=>Q (.bl (decide (x = .non))) H1
def tB (t:TE):TT:=fun Z H Q=>t Z H λx H1=>∃c,x = .bl c/\Q c H1
def Xg5  (h:PC X op a b t) (h1:c8 op b=false:=by first | exact mW _ (by decide) (by decide) | rfl):PE X (.Compare a [op] [b] pos) t:=λpins s Z H Q I hw=>mX (h pins s Z H Q I hw) h1
def E6  (h:PE X e t) (he:∀du,isTrue e X.env du=(do       let v <-du;cr e.pos;holding [v] (truthy v)):=by intro _;rfl):PT X e (tB t):=by
 intro pins s Z H Q I hw;refine rJ (thn (h pins s Z H _ I hw) λv s1 ⟨x,H1,I1,r1,q1⟩=>?_) (he _);obtain⟨d,rfl,q⟩:=q1;cases r1;exact aM ⟨H1,I1,q⟩
variable {tA qw:TT}{rest:List aA}
def tAnd (t u:TT):TT:=fun Z H Q=>t Z H λc H1=>if c=true then u Z H1 Q else Q false H1
def tOr (t u:TT):TT:=fun Z H Q=>t Z H λc H1=>if c=true then Q true H1 else u Z H1 Q
def tNot (t:TT):TT:=fun Z H Q=>t Z H λc H1=>Q (!c) H1
def E7(ha:PT X a tA):PW X (.BoolOp .And [a] pos) tA:=by
 intro wh pins s Z H Q I h;refine xk (thn (ha pins s Z H Q I h) λc s1 e=>?_);cases c with
 | true=>exact isTrue_and_nil e
 | false=>exact e
def Xaf(ha:PT X a tA):PW X (.BoolOp .Or [a] pos) tA:=by
 intro wh pins s Z H Q I h;refine AX (thn (ha pins s Z H Q I h) λc s1 e=>?_);cases c with
 | false=>exact isTrue_or_nil e
 | true=>exact e
def E8(ha:PT X a tA)(hb:PW X (.BoolOp .And (b::rest) pos) qw):PW X (.BoolOp .And (a::b::rest) pos) (tAnd tA qw):=by
 intro wh pins s Z H Q I h;refine xk (thn (ha pins s Z H _ I h) λc s1 ⟨H1,I1,q1⟩=>?_);cases c with
 | true=>exact hb wh pins s1 Z H1 Q I1 q1
 | false=>exact⟨H1,I1,q1⟩
def Xag(ha:PT X a tA)(hb:PW X (.BoolOp .Or (b::rest) pos) qw):PW X (.BoolOp .Or (a::b::rest) pos) (tOr tA qw):=by
 intro wh pins s Z H Q I h;refine AX (thn (ha pins s Z H _ I h) λc s1 ⟨H1,I1,q1⟩=>?_);cases c with
 | true=>exact⟨H1,I1,q1⟩
 | false=>exact hb wh pins s1 Z H1 Q I1 q1
def Jl(ha:PT X a tA):PT X (.UnaryOp .Not a pos) (tNot tA):=by
 intro pins s Z H Q I h;exact isTrue_not (ha pins s Z H (λc H1=>Q (!c) H1) I h)
def tAndV (ta tb:TE):TE:=fun Z H Q=>ta Z H λx H1=>∃c,x = .bl c/\if c=true then tb Z H1 Q else Q (.bl false) H1
def tOrV (ta tb:TE):TE:=fun Z H Q=>ta Z H λx H1=>∃c,x = .bl c/\if c=true then Q (.bl true) H1 else tb Z H1 Q
def Xg6 (ta:TE):TE:=fun Z H Q=>ta Z H λx H1=>∃c,x = .bl c/\Q (.bl (!c)) H1
def Xg7  (h:PE X a t):PE X (.BoolOp op [a] pos) t:=λpins s Z H Q I hw=>BoolOp_one (h pins s Z H Q I hw)
def Xg8(ha:PE X a ta)(hb:PE X (.BoolOp .Or (b::rest) pos) tb):PE X (.BoolOp .Or (a::b::rest) pos) (tOrV ta tb):=by
 intro pins s Z H Q I h;refine BoolOp_or (thn (ha pins s Z H _ I h) λv s1 ⟨x,H1,I1,r1,q1⟩=>?_);obtain⟨c,rfl,q1⟩:=q1;cases r1;refine aM ?_;cases c with
 | false=>exact hb pins s1 Z H1 Q I1 q1
 | true=>exact⟨.bl true,H1,I1,rfl,q1⟩
def Xg9(ha:PE X a ta):PE X (.UnaryOp .Not a pos) (Xg6 ta):=by
 intro pins s Z H Q I h;refine UnaryOp_ (thn (ha pins s Z H _ I h) λv s1 ⟨x,H1,I1,r1,q1⟩=>?_);obtain⟨c,rfl,q1⟩:=q1;cases r1;exact not_of (aM ⟨.bl (!c),H1,I1,rfl,q1⟩)
def tIf (t:TT) (ta tb:TE):TE:=fun Z H Q=>t Z H λc H1=>if c=true then ta Z H1 Q else tb Z H1 Q
def Jm(hc:PT X c tA)(ha:PE X a ta)(hb:PE X b tb):PE X (.IfExp c a b pos) (tIf tA ta tb):=by
 intro pins s Z H Q I h;refine wpAny_IfExp (thn (hc pins s Z H _ I h) λd s1 ⟨H1,I1,q1⟩=>?_);cases d with
 | true=>exact ha pins s1 Z H1 Q I1 q1
 | false=>exact hb pins s1 Z H1 Q I1 q1
end
def SqL (K:DK) (H:Hp) (a:ae) (xs:List V):Prop:=
 Rd H a (.lst xs) \/
  ∃(o:aI) (a8:Array aa) (n:Nat),K.lookup a=some o/\o.cls = .type "list" /\ o.dict=none/\o.data = .seq a8 n/\a8.size<=sizeLine/\Vals xs a8.toList
def SqT (K:DK) (H:Hp) (a:ae) (xs:List V):Prop:=
 Rd H a (.tup xs) \/
  ∃(o:aI) (a8:Array aa) (n:Nat),K.lookup a=some o/\o.cls = .type "tuple" /\ o.data = .seq a8 n/\a8.size<=sizeLine/\Vals xs a8.toList
def absV:aa->Option V
 | .none=>some .non
 | .bool b=>some (.bl b)
 | .int i _=>some (.int i)
 | .str x _=>some (.str x)
 | .bytes b _=>some (.byt b)
 | .float b _=>some (.flt b)
 | .ref a=>some (.ref a)
 | .type n=>some (.ty n)
 | _=>none
def Aj.abs  (r:Aj x u):absV u=some x:=by
 cases x with
 | non=>cases r;rfl
 | bl _=>cases r;rfl
 | int _=>obtain⟨t,rfl⟩:=r;rfl
 | str _=>obtain⟨t,rfl⟩:=r;rfl
 | byt _=>obtain⟨t,rfl⟩:=r;rfl
 | flt _=>obtain⟨t,rfl⟩:=r;rfl
 | ref _=>cases r;rfl
 | ty _=>cases r;rfl
def Aj.inj{x y}(r:Aj x u)(q:Aj y u):x=y:=Mj (r.abs.symm.trans q.abs)
theorem Vals.inj:∀{xs ys:List V} {us:List aa},Vals xs us->Vals ys us->xs=ys
 | _,_,_,.nil,.nil=>rfl
 | _,_,_,.cons r t,.cons r' t'=>by rw[r.inj r',Vals.inj t t']
section
variable {X:Cx}{pins:List (ae×aI)}{Z:St}{H:Hp}{s:ag}{a:ae}{xs ys:List V}
def SqL.of{K}(h:H a=some (.lst xs)):SqL K H a xs:=.inl (.inl h)
def SqT.of{K}(h:H a=some (.tup xs)):SqT K H a xs:=.inl (.inl h)
def Inv.list(I:Inv X pins Z H s)(h:SqL X.K H a xs):∃a8:List aa,Vals xs a8/\PlainL s.heap a a8.toArray/\xs.length<=sizeLine:=by
 rcases h with h | ⟨o,a8,n,hk,hc,hd,hs,hz,r⟩
 ·obtain⟨z,a8,n,r,e⟩:=h.ok I.hok;exact⟨a8,r,⟨_,n,e,rfl,rfl,rfl⟩,z⟩
 ·refine⟨a8.toList,r,⟨o,n,I.kIn a o hk,hc,hd,by simpa using hs⟩,?_⟩;have e:=r.length;simp only[Ma] at e
  lia
def Inv.tuple(I:Inv X pins Z H s)(h:SqT X.K H a xs):∃a8:List aa,Vals xs a8/\iq s.heap a a8.toArray/\xs.length<=sizeLine:=by
 rcases h with h | ⟨o,a8,n,hk,hc,hs,hz,r⟩
 ·obtain⟨z,a8,r,p⟩:=h.ok I.hok;exact⟨a8,r,p,z⟩
 ·refine⟨a8.toList,r,⟨o,I.kIn a o hk,hc,n,by simpa using hs⟩,?_⟩;have e:=r.length;simp only[Ma] at e
  lia
def Inv.list_inj(I:Inv X pins Z H s)(h:SqL X.K H a xs)(h':SqL X.K H a ys):xs=ys:=by
 obtain⟨a8,r,⟨o,n,e,_,_,d⟩,_⟩:=I.list h;obtain⟨its',r',⟨o',n',e',_,_,d'⟩,_⟩:=I.list h';rw[e] at e';cases e';rw[d] at d';injection d' with d1 _
 have:a8=its':=by simpa using congrArg Array.toList d1
 subst this;exact r.inj r'
def Inv.tuple_inj(I:Inv X pins Z H s)(h:SqT X.K H a xs)(h':SqT X.K H a ys):xs=ys:=by
 obtain⟨a8,r,⟨o,e,_,n,d⟩,_⟩:=I.tuple h;obtain⟨its',r',⟨o',e',_,n',d'⟩,_⟩:=I.tuple h';rw[e] at e';cases e';rw[d] at d';injection d' with d1 _
 have:a8=its':=by simpa using congrArg Array.toList d1
 subst this;exact r.inj r'
end
abbrev Cx.wish (X:Cx) (E:Zb):Cx:={X with xe:=E}
abbrev Cx.nox (X:Cx):Cx:=X.wish λ_ _=>False
def Cx.Ok.wish{X:Cx}(ok:X.Ok)(E):(X.wish E).Ok:=
 ⟨ok.mod,ok.kind,ok.glob,ok.blt,ok.above,ok.inj,ok.has,ok.cab,ok.hd,ok.frames,ok.stk,ok.exf,ok.bs,ok.bsz,ok.noex,ok.exfs,ok.funs,ok.frf⟩
def Cx.Ok.unwish{X:Cx}(ok:(X.wish E).Ok):X.Ok:=
 ⟨ok.mod,ok.kind,ok.glob,ok.blt,ok.above,ok.inj,ok.has,ok.cab,ok.hd,ok.frames,ok.stk,ok.exf,ok.bs,ok.bsz,ok.noex,ok.exfs,ok.funs,ok.frf⟩
section
variable {X:Cx}{pins:List (ae×aI)}{Z:St}{H:Hp}{s:ag}{E:Zb}
def Inv.wish(I:Inv X pins Z H s)(E):Inv (X.wish E) pins Z H s:=⟨I.ok.wish E,I.os,I.bare,I.base,I.loc,I.cell,I.free,I.freeC,I.pin,I.hok,I.len⟩
def Inv.unwish(I:Inv (X.wish E) pins Z H s):Inv X pins Z H s:=⟨I.ok.unwish,I.os,I.bare,I.base,I.loc,I.cell,I.free,I.freeC,I.pin,I.hok,I.len⟩
def SP.unwish   (h:SP (X.wish E) pins D f s'):SP X pins D f s':=by
 cases f with
 | next=>obtain⟨Z',H',I,q⟩:=h;exact⟨Z',H',I.unwish,q⟩
 | brk=>obtain⟨Z',H',I,q⟩:=h;exact⟨Z',H',I.unwish,q⟩
 | cont=>obtain⟨Z',H',I,q⟩:=h;exact⟨Z',H',I.unwish,q⟩
 | ret u=>obtain⟨v, Z',H',I,r,q⟩:=h;exact⟨v, Z',H',I.unwish,r,q⟩
def PSs.nox{st}(h:PSs X.nox st t):PSs X st t:=λpins s Z H D I hw=>
 aK (h pins s Z H D (I.wish _) hw) (λ_ _ q=>q.unwish) λ_ _ z=>False.elim z
end
section
variable {X:Cx}{st:aO}{rest:List aO}{t u:TS}{e:aA}{te:TE}{pos:bw}
def E9:TS:=λD Z H=>D.nx Z H
def Dx (t u:TS):TS:=λD Z H=>t {D with nx:=u D} Z H
def Be:PSs X [] E9:=λ_ _ Z H _ I h=>eu ⟨Z,H,I,h⟩
def Af(h1:PS X st t)(h2:PSs X rest u):PSs X (st::rest) (Dx t u):=by
 intro pins s Z H D I h;refine kO (thn (h1 pins s Z H {D with nx:=u D} I h) λf s1 q=>?_);cases f with
 | next=>
  obtain⟨Z',H',I',q⟩:=q;exact h2 pins s1 Z' H' D I' q
 | ret v=>exact q
 | brk=>exact q
 | cont=>exact q
def Ah(h1:PS X st t):PSs X [st] t:=by
 intro pins s Z H D I h;refine kO (thn (h1 pins s Z H D I h) λf s1 q=>?_);cases f with
 | next=>exact eu q
 | ret v=>exact q
 | brk=>exact q
 | cont=>exact q
def Inv.quiet    (I:Inv X pins Z H s):interactive X.env=false:=by simp[interactive,I.ok.kind]
def Xha (te:TE):TS:=λD Z H=>te Z H λ_ H1=>D.nx Z H1
def Fq(he:PE X e te)(hs:cV e none pos.line X.env=pure false:=by rfl):PS X (.Expr e pos) (Xha te):=by
 intro pins s Z H D I h;exact wpAny_Expr_any (thn (he pins s Z H _ I h) λv s1 ⟨x,H1,I1,r1,q1⟩=>⟨Z,H1,I1,q1⟩) I.quiet hs
def Xah (te:TE):TS:=λD Z H=>te Z H D.rt
def Am(he:PE X e te):PS X (.Return (some e) pos) (Xah te):=by
 intro pins s Z H D I h;exact wpAny_Return_some (thn (he pins s Z H _ I h) λv s1 ⟨x,H1,I1,r1,q1⟩=>⟨x, Z,H1,I1,r1,q1⟩)
def Jn (c:TT) (t u:TS):TS:=λD Z H=>c Z H λb H1=>if b=true then t D Z H1 else u D Z H1
def Bc   (hc:PT X c tc) (ha:PSs X a t) (hb:PSs X b u):PS X (.If c a b pos) (Jn tc t u):=by
 intro pins s Z H D I h;refine wpAny_If (thn (hc pins s Z H _ I h) λd s1 ⟨H1,I1,q1⟩=>?_);cases d with
 | true=>exact ha pins s1 Z H1 D I1 q1
 | false=>exact hb pins s1 Z H1 D I1 q1
def Xqu:TS:=λ_ _ _=>False
end
abbrev TG:=V->St->Hp->(St->Hp->Prop)->Prop
abbrev TGs:=List V->St->Hp->(St->Hp->Prop)->Prop
def PG (X:Cx) (kP:aA) (t:TG):Prop:=
 ∀pins s Z H (v:V) (u:aa) (Q:St->Hp->Prop),Inv X pins Z H s->Aj v u->t v Z H Q ->
  ai (aj X.prog X.w) X.A (assign kP X.env u) (λ_ s'=>∃Z' H',Inv X pins Z' H' s'/\Q Z' H') X.xe s
def PGs (X:Cx) (ts:List aA) (t:TGs):Prop:=
 ∀pins s Z H (vs:List V) (us:List aa) (Q:St->Hp->Prop),Inv X pins Z H s->Vals vs us->t vs Z H Q ->
  ai (aj X.prog X.w) X.A (assignInOrder ((bu ts X.env).map (·.2)) us) (λ_ s'=>∃Z' H',Inv X pins Z' H' s'/\Q Z' H') X.xe s
abbrev TSet:=V->V->V->Hp->(Hp->Prop)->Prop
def PSet (X:Cx) (t:TSet):Prop:=
 ∀pins s Z H (o i v:V) (ov iv u:aa) (Q:Hp->Prop),Inv X pins Z H s->Aj o ov->Aj i iv->Aj v u->t o i v H Q ->
  ai (aj X.prog X.w) X.A (rK ov iv u) (λ_ s'=>∃H',Inv X pins Z H' s'/\Q H') X.xe s
abbrev TIp:=V->V->Hp->VK->Prop
section
variable {X:Cx}{pos:bw}
def Bi (i:Nat):TG:=λv Z H Q=>Q (Z.set i (some v)) H
def A2{i:Nat}(hN:X.N.Nodup)(hi:X.N[i]? = some x)(hx:Loc X.env.scope x)(hf:X.fn x=true\/X.env.scope.names.lookup x=some .local:=by first | exact .inl rfl | exact .inr rfl | assumption):PG X (.Name x pos) (Bi i):=by
 intro pins s Z H v u Q I r h;exact jR (Xac I hN hi hx r (λs' I'=>⟨_,H,I',h⟩) hf)
def Xai:TGs:=λvs Z H Q=>vs=[]/\Q Z H
def Jo (t:TG) (u:TGs):TGs:=λvs Z H Q=>∃v r,vs=v::r/\t v Z H fun Z' H'=>u r Z' H' Q
def Fs:PGs X [] Xai:=by
 intro pins s Z H vs us Q I r h;obtain⟨e,h⟩:=h;subst e;cases r;exact assignInOrder_nil ⟨Z,H,I,h⟩
def C6    (h1:PG X e t) (h2:PGs X es u)
  (hs:(bu (e::es) X.env).map (·.2)=assign e X.env::(bu es X.env).map (·.2):=by rfl):PGs X (e::es) (Jo t u):=by
 intro pins s Z H vs us Q I r h;obtain⟨v,vr,e1,h⟩:=h;subst e1;cases r with
 | cons r rr=>
  rw[hs];refine assignInOrder_cons (thn (h1 pins s Z H _ _ _ I r h) λ_ s1 ⟨Z1,H1,I1,q1⟩=>?_);exact h2 pins s1 Z1 H1 _ _ Q I1 rr q1
def Jp (K:DK) (n:Nat) (t:TGs):TG:=λv Z H Q=>∃a xs,v = .ref a/\SqT K H a xs/\xs.length=n/\t xs Z H Q
def Xhb    (hc:X.calm=true) (h:PGs X es t)
  (hn:(bu es X.env).length=n:=by rfl) (cu:(bu es X.env).findIdx? (·.1)=none:=by rfl):PG X (.Tuple es k pos) (Jp X.K n t):=by
 intro pins s Z H v u Q I r hw;obtain⟨a,xs,e1,hq,hl,hw⟩:=hw;subst e1;cases r;obtain⟨a8,rv,ht,hz⟩:=I.tuple hq;refine assign_Tuple_tuple (I.ok.hd hc) ht (by simp[hn,<-hl,rv.length]) cu λh' hx=>?_;have I1:Inv X pins Z H {s with heap:=h'}:=I.kept (t':=s.toks) λb o e=>hx b o (L9 (Qv e)) e;exact h pins _ Z H xs _ Q I1 (by simpa using rv) hw
def gSub (to ti:TE) (t:TSet):TG:=λv Z H Q=>to Z H λo H1=>ti Z H1 λi H2=>t o i v H2 λH3=>Q Z H3
def Dh   (ho:PE X o to) (hi:PE X i ti) (hs:PSet X t)
  (ha:∀v,assign (.Subscript o i pos) X.env v=(do
   let ov <-holding [v] (eval o X.env)
   let iv <-holding [v,ov] (eval i X.env)
   cr pos
   holding [v,ov,iv] (rK ov iv v)
   release [v,ov,iv] []):=by intro _;rfl):PG X (.Subscript o i pos) (gSub to ti t):=by
 intro pins s Z H v u Q I r h;rw[ha];refine Qm (a7 (thn (ho pins s Z H _ I h) λov s1 ⟨x,H1,I1,r1,q1⟩=>?_));refine Qm (a7 (thn (hi pins s1 Z H1 _ I1 q1) λiv s2 ⟨y,H2,I2,r2,q2⟩=>?_));refine Qm (aT (Qm (a7 (thn (hs pins s2 Z H2 x y v ov iv u _ I2 r1 r2 r q2) λ_ s3 ⟨H3,I3,q3⟩=>?_))));exact wpAny_release ⟨Z,H3,I3,q3⟩
def Fa (te:TE) (g:TG):TS:=λD Z H=>te Z H λx H1=>g x Z H1 D.nx
def C7   (he:PE X e te) (hg:PG X tg g) (hs:swapsWithSole [tg] e pos.line X.env=pure false:=by rfl) (hw:swappedStores [tg] e X.env=pure none:=by rfl)
  (h1:(bu [tg] X.env).map (·.2)=[assign tg X.env]:=by rfl):PS X (.Assign [tg] e pos) (Fa te g):=by
 intro pins s Z H D I h;refine wpAny_Assign_stores (thn (he pins s Z H _ I h) λv s1 ⟨x,H1,I1,r1,q1⟩=>?_) hs hw;rw[h1];exact thn (hg pins s1 Z H1 x v _ I1 r1 q1) λ_ s2 q=>q
def Aq{i:Nat}    (hN:X.N.Nodup)(hi:X.N[i]? = some x)(hx:Loc X.env.scope x)(he:PE X e te)(hs:cV e (some (.Name x fV)) pos.line X.env=pure false:=by rfl)(hf:X.fn x=true\/X.env.scope.names.lookup x=some .local:=by first | exact .inl rfl | exact .inr rfl | assumption):
  PS X (.Assign [.Name x fV] e pos) (Fa te (Bi i)):=by
 intro pins s Z H D I h;refine wpAny_Assign_Name (thn (he pins s Z H _ I h) λv s1 ⟨y,H1,I1,r1,q1⟩=>?_) hs;exact Xac I1 hN hi hx r1 (λs2 I2=>⟨_,H1,I2,q1⟩) hf
def tPar (i j:Nat) (ta:TA):TS:=λD Z H=>ta Z H λvs H1=>∃v w,vs=[v,w]/\D.nx ((Z.set i (some v)).set j (some w)) H1
def tAug (i:Nat) (te:TE) (ti:TIp):TS:=λD Z H=>∃x, Z[i]? = some (some x)/\te Z H λy H1=>ti x y H1 λz H2=>D.nx (Z.set i (some z)) H2
def tAugS (to ti te:TE) (rL:V->V->Hp->VK->Prop) (xn:TIp) (rM:TSet):TS:=λD Z H=>to Z H λo H1=>ti Z H1 λi H2=>rL o i H2 λx H3=>te Z H3 λy H4=>xn x y H4 λz H5=>rM o i z H5 λH6=>D.nx Z H6
def PGet (X:Cx) (t:V->V->Hp->VK->Prop):Prop:=
 ∀pins s Z H (o i:V) (ov iv:aa) (Q:VK),Inv X pins Z H s->Aj o ov->Aj i iv->t o i H Q ->
  ai (aj X.prog X.w) X.A (dv ov iv) (EP X pins Z Q) X.xe s
def ipI (f:Int->Int->Int):TIp:=λx y H Q=>∃i j,x = .int i/\y = .int j/\Q (.int (f i j)) H
end
section
variable {X:Cx}{pos:bw}
def Xqv (c:TT) (tb:TS):TS:=λD Z H=>∃W:Nat->St->Hp->Prop,(∃m,W m Z H)/\∀m Z H,W m Z H ->
 c Z H λb H1=>if b=true then ∃N:St->Hp->Prop,(∀Z' H',N Z' H'->∃m',m'<m/\W m' Z' H')/\tb {D with nx:=N,ct:=N,bk:=D.nx} Z H1 else D.nx Z H1
end
structure It where
 go:Nat->Hp->Prop
 yld:Nat->Hp->V->Hp->Prop
 stop:Nat->Hp->Prop
def FpOk (X:Cx) (pins:List (ae×aI)) (H:Hp) (b:ae):Prop:=
 H b=none/\b≠X.env.locals/\b∉X.fs/\(b∈X.ex\/X.s₀.heap.objs.size<=b)/\(∀x c,X.env.cells.lookup x=some c->c≠b)/\∀p∈X.pn++pins,p.1≠b
def Inv.fpOk      (I:Inv X pins Z H s) (hb:s.heap.objs.size<=b) (hn:H' b=none):FpOk X pins H' b:=by
 refine⟨hn,P7 (Mq I.lt hb),I.nofs hb,.inr (M8 I.sz hb),λx c e z=>?_,λp hp z=>?_⟩
 ·obtain⟨v,q⟩:=I.cell x c e;exact absurd (Mq q.lt (by rw[z];exact hb)) (Na _)
 ·exact absurd (Mq (Qv (I.pin p hp).1) (by rw[z];exact hb)) (Na _)
structure Turn (P:au) (w:ay) (K:DK) (tg:aA) (J:It) (fp:List ae) (it:ae) (tn:Nat->ao->Prop):Prop where
 mem:it∈fp
 obj:∀i h,tn i h->∀b∈fp,∃o,h.get? b=some o/\∀v,o.data ≠ .cell v
 keep:∀i h h',tn i h->(∀b∈fp,∀o,h.get? b=some o->h'.get? b=some o)->tn i h'
 item:∀(X:Cx),X.prog=P->X.w=w->X.K=K->X.calm=true->∀(i:Nat) (pins:List (ae×aI)) (s:ag) (Z:St) (H:Hp) (E:Zb),Inv X pins Z H s->(∀b∈fp,FpOk X pins H b)->tn i s.heap->J.go i H ->
  ai (aj P w) X.A (de (.ref it)) (λr s1=>∃u,r=some u /\
   ai (aj P w) X.A (bU tg (.ref it) u) (λ_ s2=>∃x H',Inv X pins Z H' s2/\Aj x u/\J.yld i H x H'/\tn (i+1) s2.heap/\∀b∈fp,H' b=none) E s1) E s
 done:∀(X:Cx),X.prog=P->X.w=w->X.K=K->X.calm=true->∀(i:Nat) (pins:List (ae×aI)) (s:ag) (Z:St) (H:Hp) (E:Zb),Inv X pins Z H s->(∀b∈fp,FpOk X pins H b)->tn i s.heap->J.stop i H ->
  ai (aj P w) X.A (de (.ref it)) (λr s1=>r=none/\Inv X pins Z H s1) E s
 self:∀(A:ax) (i:Nat) (s:ag) (Q:Zb) (E:Zb),tn i s.heap->Q (.ref it) s->ai (aj P w) A (eT (.ref it)) Q E s
abbrev TI:=St->Hp->(It->Hp->Prop)->Prop
def PIE (X:Cx) (pins:List (ae×aI)) (Z:St) (tg:aA) (R:It->Hp->Prop) (jS:aa) (s2:ag):Prop:=
 ∃(it:ae) (fp:List ae) (tn:Nat->ao->Prop) (J:It) (H':Hp),jS = .ref it/\Inv X pins Z H' s2/\Turn X.prog X.w X.K tg J fp it tn/\tn 0 s2.heap/\(∀b∈fp,FpOk X pins H' b)/\R J H'
def PI (X:Cx) (tg iter:aA) (wi:TI):Prop:=
 ∀pins s Z H (R:It->Hp->Prop),Inv X pins Z H s->wi Z H R ->
  ai (aj X.prog X.w) X.A (eval iter X.env) (λv s1=>ai (aj X.prog X.w) X.A (eT v) (PIE X pins Z tg R) X.xe s1) X.xe s
def G2    {s}     {n}  (ho:s.heap.get? it=some o) (hc:o.cls = .type n) (hd:o.data = .fields vs)
    (hn:["enumerate", "zip", "dict_itemiterator", "dict_reverseitemiterator", "odict_iterator", "itertools.zip_longest", "itertools.pairwise"].contains n=false) (hQ:Q () s):ai M A (bU tg (.ref it) u) Q E s:=by
  unfold bU;cases tg<;>first
    | exact Qn hQ
    | (cases u<;>first
        | exact Qn hQ
        | (refine Qm (jq ho ?_)
           rw[hc,hd];show ai M A (if (["enumerate", "zip", "dict_itemiterator", "dict_reverseitemiterator", "odict_iterator", "itertools.zip_longest", "itertools.pairwise"].contains n&&vs[0]? == some (aP _))=true then _ else _) Q E s;rw[Qp (by intro h;rw[hn,N1] at h;cases h)];exact Qn hQ))
def Itl (K:DK) (a:ae):It:=
 ⟨λi H=>∃xs x,SqL K H a xs/\xs[i]? = some x,λi H x H'=>H'=H/\∀xs,SqL K H a xs->xs[i]? = some x,λi H=>∃xs,SqL K H a xs/\xs.length<=i⟩
def Itt (K:DK) (a:ae):It:=
 ⟨λi H=>∃xs x,SqT K H a xs/\xs[i]? = some x,λi H x H'=>H'=H/\∀xs,SqT K H a xs->xs[i]? = some x,λi H=>∃xs,SqT K H a xs/\xs.length<=i⟩
def Itr (lo:Int) (n:Nat):It:=⟨λi _=>i<n,λi H x H'=>H'=H/\x = .int (lo+i),λi _=>n<=i⟩
def Xhc{P:au}{w:ay}{K:DK}{tg:aA}(a it:ae):Turn P w K tg (Itl K a) [it] it (λi h=>h.IsListIter it a i) where
 mem:=by simp
 obj:=λi h st b hb=>by
  have e:b=it:=by simpa using hb
  subst e;obtain⟨o,e,c,d⟩:=st;exact⟨o,e,λv z=>by rw[d] at z;cases z⟩
 keep:=λi h h' st k=>st.at λo e=>k it (by simp) o e
 item:=by
  intro X hP hw hK hc i pins s Z H E I hf st hg;subst hP hw hK;obtain⟨xs,x,hq,hx⟩:=hg;obtain⟨a8,rv,p,hz⟩:=I.list hq;obtain⟨u,hu,ru⟩:=rv.get hx;obtain⟨f0,f1,f2,f3,f4,f5⟩:=hf it (by simp);refine wpAny_pyNext_list_item st p.isList (x:=u) (by simpa using hu) λh' bT sb=>?_;have I1:Inv X pins Z H {s with heap:=h'}:=I.turned (t':=s.toks) (λb o hb e=>(sb.2 b hb).trans e) f0 f1 f3 f4 f5;obtain⟨o,e,c,d⟩:=id bT;exact⟨u,rfl,G2 (s:={s with heap:=h'}) e c d (by decide) ⟨x,H,I1,ru,⟨rfl,λys hy=>by rw[I.list_inj hy hq];exact hx⟩,bT,λb hb=>(hf b hb).1⟩⟩
 done:=by
  intro X hP hw hK hc i pins s Z H E I hf st hg;subst hP hw hK;obtain⟨xs,hq,hx⟩:=hg;obtain⟨a8,rv,p,hz⟩:=I.list hq;obtain⟨f0,f1,f2,f3,f4,f5⟩:=hf it (by simp);have hl:=rv.length;exact wpAny_pyNext_list_end (I.ok.hd hc) st p.isList (by simp;lia) λh' eb=>⟨rfl,I.turned (t':=s.toks) (λb o hb e=>eb b o hb e) f0 f1 f3 f4 f5⟩
 self:=λ_ _ _ _ _ st h=>wpAny_pyIter_listiter st h
def Xhd{P:au}{w:ay}{K:DK}{tg:aA}(a it:ae):Turn P w K tg (Itt K a) [it] it (λi h=>h.IsTupleIter it a i) where
 mem:=by simp
 obj:=λi h st b hb=>by
  have e:b=it:=by simpa using hb
  subst e;obtain⟨o,e,c,d⟩:=st;exact⟨o,e,λv z=>by rw[d] at z;cases z⟩
 keep:=λi h h' st k=>st.at λo e=>k it (by simp) o e
 item:=by
  intro X hP hw hK hc i pins s Z H E I hf st hg;subst hP hw hK;obtain⟨xs,x,hq,hx⟩:=hg;obtain⟨a8,rv,p,hz⟩:=I.tuple hq;obtain⟨u,hu,ru⟩:=rv.get hx;obtain⟨f0,f1,f2,f3,f4,f5⟩:=hf it (by simp);refine wpAny_pyNext_tuple_item st (show s.heap.IsTuple a a8.toArray from p) (x:=u) (by simpa using hu) λh' bT sb=>?_;have I1:Inv X pins Z H {s with heap:=h'}:=I.turned (t':=s.toks) (λb o hb e=>(sb.2 b hb).trans e) f0 f1 f3 f4 f5;obtain⟨o,e,c,d⟩:=id bT;exact⟨u,rfl,G2 (s:={s with heap:=h'}) e c d (by decide) ⟨x,H,I1,ru,⟨rfl,λys hy=>by rw[I.tuple_inj hy hq];exact hx⟩,bT,λb hb=>(hf b hb).1⟩⟩
 done:=by
  intro X hP hw hK hc i pins s Z H E I hf st hg;subst hP hw hK;obtain⟨xs,hq,hx⟩:=hg;obtain⟨a8,rv,p,hz⟩:=I.tuple hq;obtain⟨f0,f1,f2,f3,f4,f5⟩:=hf it (by simp);have hl:=rv.length;exact wpAny_pyNext_tuple_end (I.ok.hd hc) st (show s.heap.IsTuple a a8.toArray from p) (by simp;lia) λh' eb=>⟨rfl,I.turned (t':=s.toks) (λb o hb e=>eb b o hb e) f0 f1 f3 f4 f5⟩
 self:=λ_ _ _ _ _ st h=>wpAny_pyIter_tupleiter st h
def Xhe{P:au}{w:ay}{K:DK}{tg:aA}(it:ae)(lo:Int)(n:Nat):Turn P w K tg (Itr lo n) [it] it (λi h=>uU h it (lo+(i:Nat) * 1) ((n:Int) - (i:Nat)) 1) where
 mem:=by simp
 obj:=λi h st b hb=>by
  have e:b=it:=by simpa using hb
  subst e;exact⟨_,st,λv z=>by
   have z':kQ.fields _=kQ.cell v:=z;cases z'⟩
 keep:=λi h h' st k=>k it (by simp) _ st
 item:=by
  intro X hP hw hK hc i pins s Z H E I hf st hg;subst hP hw hK;obtain⟨f0,f1,f2,f3,f4,f5⟩:=hf it (by simp);have W:=jT.range (prog:=X.prog) (w:=X.w) (I.ok.hd hc) it lo 1 n;refine W.item i s _ _ hg st λv h' tk hv bT kk=>?_;obtain⟨t,rfl⟩:=hv;have I1:Inv X pins Z H {s with heap:=h',toks:=tk}:=I.turned (λb o hb e=>kk b o (by simpa using hb) e) f0 f1 f3 f4 f5;refine⟨_,rfl,G2 (s:={s with heap:=h',toks:=tk}) (n := "range_iterator") bT rfl rfl (by decide) ⟨.int (lo+i),H,I1,⟨t,?_⟩,⟨rfl,rfl⟩,bT,λb hb=>(hf b hb).1⟩⟩;rw[Int.mul_one]
 done:=by
  intro X hP hw hK hc i pins s Z H E I hf st hg;subst hP hw hK;obtain⟨f0,f1,f2,f3,f4,f5⟩:=hf it (by simp);exact wpAny_pyNext_range_end (I.ok.hd hc) st (by have:n<=i:=hg;lia) λh' eb=>⟨rfl,I.turned (t':=s.toks) (λb o hb e=>eb b o hb e) f0 f1 f3 f4 f5⟩
 self:=λ_ _ _ _ _ st h=>wpAny_pyIter_rangeiter st h
section
variable {X:Cx}{tg:aA}
def Xhf (K:DK) (tl:TE):TI:=fun Z H R=>tl Z H λx H1=>∃a,x = .ref a/\(∃xs,SqL K H1 a xs)/\R (Itl K a) H1
def iTup (K:DK) (tl:TE):TI:=fun Z H R=>tl Z H λx H1=>∃a,x = .ref a/\(∃xs,SqT K H1 a xs)/\R (Itt K a) H1
def Cd  (hl:PE X l tl):PI X tg l (Xhf X.K tl):=by
 intro pins s Z H R I h;refine thn (hl pins s Z H _ I h) λv s1 ⟨x,H1,I1,r1,q1⟩=>?_;obtain⟨a,e,⟨xs,hq⟩,q⟩:=q1;subst e;cases r1;obtain⟨a8,rv,p,hz⟩:=I1.list hq;refine cw p.isList ?_;refine⟨s1.heap.objs.size,[s1.heap.objs.size],_,_,H1,rfl,I1.kept (t':=s1.toks) λb o e=>Qw _ e,Xhc a _,⟨_,ao.get?_push_size _ rfl,rfl,rfl⟩,λb hb=>?_,q⟩;have e:b=s1.heap.objs.size:=by simpa using hb
 subst e;exact I1.fpOk (L7 _) (I1.hok.fresh (L7 _))
def Jq  (hl:PE X l tl):PI X tg l (iTup X.K tl):=by
 intro pins s Z H R I h;refine thn (hl pins s Z H _ I h) λv s1 ⟨x,H1,I1,r1,q1⟩=>?_;obtain⟨a,e,⟨xs,hq⟩,q⟩:=q1;subst e;cases r1;obtain⟨a8,rv,p,hz⟩:=I1.tuple hq;refine jr (show s1.heap.IsTuple a a8.toArray from p) ?_;refine⟨s1.heap.objs.size,[s1.heap.objs.size],_,_,H1,rfl,I1.kept (t':=s1.toks) λb o e=>Qw _ e,Xhd a _,⟨_,ao.get?_push_size _ rfl,rfl,rfl⟩,λb hb=>?_,q⟩;have e:b=s1.heap.objs.size:=by simpa using hb
 subst e;exact I1.fpOk (L7 _) (I1.hok.fresh (L7 _))
def Xhg       {lo hi}  (I:Inv X pins Z H s) (h1 : -(2 ^ 62)<=lo) (h2:lo<2 ^ 62) (h3 : -(2 ^ 62)<=hi) (h4:hi<2 ^ 62)
  (q:R (Itr lo (hi - lo).toNat) H):ai (aj X.prog X.w) X.A (eT (.ref s.heap.objs.size)) (PIE X pins Z tg R) E {s with heap:=s.heap.push {cls:=.type "range",data:=.fields #[.int lo t,.int hi u,.int 1 v]},toks:=tk}:=by
 refine wpAny_pyIter_range (IsRange.new ..) (small_one h1 h2 h3 h4) ?_;have I1:Inv X pins Z H {s with heap:=s.heap.push {cls:=.type "range",data:=.fields #[.int lo t,.int hi u,.int 1 v]},toks:=tk}:=I.kept λb o e=>Qw _ e;refine⟨(s.heap.push {cls:=.type "range",data:=.fields #[.int lo t,.int hi u,.int 1 v]}).objs.size,[(s.heap.push {cls:=.type "range",data:=.fields #[.int lo t,.int hi u,.int 1 v]}).objs.size],_,_,H,rfl,
  I1.kept (t':=tk) λb o e=>Qw _ e,Xhe _ lo (hi - lo).toNat,?_,λb hb=>?_,q⟩
 ·have e1:lo+((0:Nat):Int) * 1=lo:=by simp
  have e2:(((hi - lo).toNat:Nat):Int) - ((0:Nat):Int)=av.Range.rangeSize lo hi 1:=by rw[rangeSize_one];split<;>lia
  show uU _ _ (lo+((0:Nat):Int) * 1) ((((hi - lo).toNat:Nat):Int) - ((0:Nat):Int)) 1;rw[e1,e2];exact ao.get?_push_size _ rfl
 ·have e:b=(s.heap.push {cls:=.type "range",data:=.fields #[.int lo t,.int hi u,.int 1 v]}).objs.size:=by simpa using hb
  subst e;exact I1.fpOk (L7 _) (I1.hok.fresh (L7 _))
def Xhh (ta:TA):TI:=fun Z H R=>ta Z H λvs H1=>∃j:Int,vs=[.int j] /\ -(2 ^ 62)<=j/\j<2 ^ 62/\R (Itr 0 j.toNat) H1
def Ft   (hg:Gl X "range") (hm:X.mg "range" = none) (ha:PA X [a] ta) (hs:az [a] X.env=[(false,eval a X.env)]:=by rfl):PI X tg (.Call (.Name "range" p) [a] [] pos) (Xhh ta):=by
 intro pins s Z H R I h;refine Call_ (Ek I hg hm boot_range (PyProof.Rows.callWith_type1 (thn (ha pos pins s Z H _ I h) λus s1 ⟨vs,H1,I1,r1,q1⟩=>?_) hs rfl));obtain⟨j,e,q1,q2,q⟩:=q1;subst e;cases r1 with
 | cons r rr=>
  cases rr;obtain⟨t,rfl⟩:=r;exact call_range_1 (Xhg I1 (by lia) (by lia) q1 q2 (by simpa using q))
def tFor (wi:TI) (g:TG) (tb:TS):TS:=λD Z H=>wi Z H λJ H1=>∃W:Nat->Nat->St->Hp->Prop,(∃m,W 0 m Z H1)/\∀i m Z H,W i m Z H ->
 (J.stop i H/\D.nx Z H)\/(J.go i H/\∃N:St->Hp->Prop,(∀Z' H',N Z' H'->∃m',m'<m/\W (i+1) m' Z' H')/\∀x H',J.yld i H x H'->g x Z H' fun Z2 H2=>tb {D with nx:=N,ct:=N,bk:=D.nx} Z2 H2)
def Fu (fp:List ae) (h:ao):List (ae×aI):=fp.filterMap λb=>(h.get? b).map λo=>(b,o)
def G3    (hb:b∈fp) (e:h.get? b=some o):(b,o)∈Fu fp h:=P8.mpr ⟨b,hb,by rw[e];rfl⟩
def Xhi   (hp:p∈Fu fp h):p.1∈fp/\h.get? p.1=some p.2:=by
 obtain⟨b,hb,e⟩:=P8.mp hp;cases q:h.get? b with
 | none=>rw[q] at e;cases e
 | some o=>
  rw[q] at e;have e':(b,o)=p:=Mj e;subst e';exact⟨hb,q⟩
def Inv.pinned     (I:Inv X pins Z H s) (hf:∀b∈fp,FpOk X pins H b) (ho:∀b∈fp,∃o,s.heap.get? b=some o/\∀v,o.data ≠ .cell v):Inv X (pins++Fu fp s.heap) Z H s:=
 I.pins_of λp hp=>(Mm.mp hp).elim (λz=>I.pin p (Mx _ z)) λz=>by
  obtain⟨hb,e⟩:=Xhi z;obtain⟨f0,f1,f2,_⟩:=hf p.1 hb;obtain⟨o,e',d⟩:=ho p.1 hb;rw[e] at e';cases e';exact⟨e,f0,f1,f2,d⟩
def Inv.unpinned    (I:Inv X (pins++pl) Z H s):Inv X pins Z H s:=I.pins_of λp hp=>I.pin p (Mx _ (Nz _ hp))
def Ce      (hp:bo (aj X.prog X.w) X.A X.env X.xe) (hc:X.calm=true) (hi:PI X tg iter wi) (hg:PG X tg g) (hb:PSs X body tb)
  (hs:∀x,aC iter X.env x=pure x:=by intro _;rfl):PS X (.For tg iter body [] pos) (tFor wi g tb):=by
 intro pins s Z H D I h;refine wpAny_For (thn (hi pins s Z H _ I h) λv s1 h1=>thn h1 λjS s2 h2=>?_) hs;obtain⟨it,fp,tn,J,H2,e,I2,T,jU,f2,W,⟨m0,w0⟩,turn⟩:=h2;subst e;have fW:∀{H':Hp},(∀b∈fp,H' b=none)->∀b∈fp,FpOk X pins H' b:=λhn b hb=>⟨hn b hb,(f2 b hb).2⟩;refine codeAny_forLoop_any (λn s'=>∃i Z' H',Inv X pins Z' H' s'/\tn i s'.heap/\(∀b∈fp,H' b=none)/\W i n Z' H') ?_ m0 ⟨0, Z,H2,I2,jU,λb hb=>(f2 b hb).1,w0⟩;rintro n s3 ⟨i, Z3,H3,I3,uV,uW,w3⟩;rcases turn i n Z3 H3 w3 with ⟨stop,qn⟩ | ⟨go,N,hN,step⟩
 ·refine bV hp (thn (T.done X rfl rfl rfl hc i pins s3 Z3 H3 X.xe I3 (fW uW) uV stop) λr s4 ⟨hr,I4⟩=>?_);subst hr;exact eu ⟨Z3,H3,I4,qn⟩
 ·refine bV hp (thn (T.item X rfl rfl rfl hc i pins s3 Z3 H3 X.xe I3 (fW uW) uV go) λr s4 ⟨u,hr,h4⟩=>?_);subst hr;refine bV hp (thn h4 λ_ s5 ⟨x,H5,I5,r5,y5,kR,rN⟩=>?_);have rO:=I5.pinned (fW rN) (T.obj _ _ kR);refine bV hp (thn (hg _ s5 Z3 H5 x u _ rO r5 (step x H5 y5)) λ_ s6 ⟨Z6,H6,I6,q6⟩=>?_);refine bV hp (thn (hb _ s6 Z6 H6 _ I6 q6) λf s7 q7=>?_);have again:∀{Z7:St} {H7:Hp},Inv X (pins++Fu fp s5.heap) Z7 H7 s7->N Z7 H7->∃m,m<n/\∃i Z' H',Inv X pins Z' H' s7/\tn i s7.heap/\(∀b∈fp,H' b=none)/\W i m Z' H':=λ{Z7 H7} I7 n7=>by
   obtain⟨m',hm,w7⟩:=hN Z7 H7 n7;refine⟨m',hm,i+1, Z7,H7,I7.unpinned,T.keep _ _ _ kR λb hb o e=>(I7.pin (b,o) (Mx _ (Mx _ (G3 hb e)))).1,λb hb=>?_,w7⟩;obtain⟨o,e,d⟩:=T.obj _ _ kR b hb;exact(I7.pin (b,o) (Mx _ (Mx _ (G3 hb e)))).2.1
  cases f with
  | next=>obtain⟨Z7,H7,I7,n7⟩:=q7;exact again I7 n7
  | cont=>obtain⟨Z7,H7,I7,n7⟩:=q7;exact again I7 n7
  | brk=>obtain⟨Z7,H7,I7,q7⟩:=q7;exact⟨Z7,H7,I7.unpinned,q7⟩
  | ret v=>obtain⟨x7, Z7,H7,I7,r7,q7⟩:=q7;exact⟨x7, Z7,H7,I7.unpinned,r7,q7⟩
end
def Fv{K}{a}{xs}{g:TG}{tb:TS}{D:Ends}  (Pv:Nat->St->Hp->Prop)(h0:Pv 0 Z H)(hl:∀i Z H,i<=xs.length->Pv i Z H->SqL K H a xs)
  (hs:∀i x Z H,xs[i]? = some x->Pv i Z H->g x Z H fun Z2 H2=>tb {D with nx:=Pv (i+1),ct:=Pv (i+1),bk:=D.nx} Z2 H2) (hd:∀Z H,Pv xs.length Z H->D.nx Z H):
  ∃W:Nat->Nat->St->Hp->Prop,(∃m,W 0 m Z H)/\∀i m Z H,W i m Z H ->
   ((Itl K a).stop i H/\D.nx Z H)\/((Itl K a).go i H/\∃N:St->Hp->Prop,(∀Z' H',N Z' H'->∃m',m'<m/\W (i+1) m' Z' H')/\∀x H',(Itl K a).yld i H x H'->g x Z H' fun Z2 H2=>tb {D with nx:=N,ct:=N,bk:=D.nx} Z2 H2):=by
 refine⟨λi m Z H=>m=xs.length - i/\i<=xs.length/\Pv i Z H,⟨xs.length,by simp,M3 _,h0⟩,?_⟩;rintro i m Z H ⟨rfl,hi,p⟩;have q:=hl i Z H hi p;by_cases aR:i<xs.length
 ·refine .inr ⟨⟨xs,xs[i],q,by simp[aR]⟩,Pv (i+1),fun Z' H' p'=>⟨xs.length - (i+1),by lia,rfl,aR,p'⟩,λx H' y=>?_⟩;obtain⟨e,y⟩:=y;subst e;exact hs i x Z _ (y xs q) p
 ·have e:i=xs.length:=by lia
  subst e;exact .inl ⟨⟨xs,q,L7 _⟩,hd Z H p⟩
def Xhj{K}{a}{xs}{g:TG}{tb:TS}{D:Ends}  (Pv:Nat->St->Hp->Prop)(h0:Pv 0 Z H)(hl:∀i Z H,i<=xs.length->Pv i Z H->SqT K H a xs)
  (hs:∀i x Z H,xs[i]? = some x->Pv i Z H->g x Z H fun Z2 H2=>tb {D with nx:=Pv (i+1),ct:=Pv (i+1),bk:=D.nx} Z2 H2) (hd:∀Z H,Pv xs.length Z H->D.nx Z H):
  ∃W:Nat->Nat->St->Hp->Prop,(∃m,W 0 m Z H)/\∀i m Z H,W i m Z H ->
   ((Itt K a).stop i H/\D.nx Z H)\/((Itt K a).go i H/\∃N:St->Hp->Prop,(∀Z' H',N Z' H'->∃m',m'<m/\W (i+1) m' Z' H')/\∀x H',(Itt K a).yld i H x H'->g x Z H' fun Z2 H2=>tb {D with nx:=N,ct:=N,bk:=D.nx} Z2 H2):=by
 refine⟨λi m Z H=>m=xs.length - i/\i<=xs.length/\Pv i Z H,⟨xs.length,by simp,M3 _,h0⟩,?_⟩;rintro i m Z H ⟨rfl,hi,p⟩;have q:=hl i Z H hi p;by_cases aR:i<xs.length
 ·refine .inr ⟨⟨xs,xs[i],q,by simp[aR]⟩,Pv (i+1),fun Z' H' p'=>⟨xs.length - (i+1),by lia,rfl,aR,p'⟩,λx H' y=>?_⟩;obtain⟨e,y⟩:=y;subst e;exact hs i x Z _ (y xs q) p
 ·have e:i=xs.length:=by lia
  subst e;exact .inl ⟨⟨xs,q,L7 _⟩,hd Z H p⟩
def Fw{lo}{n}{g:TG}{tb:TS}{D:Ends}  (Pv:Nat->St->Hp->Prop)(h0:Pv 0 Z H)
  (hs:∀i Z H,i<n->Pv i Z H->g (.int (lo+i)) Z H fun Z2 H2=>tb {D with nx:=Pv (i+1),ct:=Pv (i+1),bk:=D.nx} Z2 H2) (hd:∀Z H,Pv n Z H->D.nx Z H):
  ∃W:Nat->Nat->St->Hp->Prop,(∃m,W 0 m Z H)/\∀i m Z H,W i m Z H ->
   ((Itr lo n).stop i H/\D.nx Z H)\/((Itr lo n).go i H/\∃N:St->Hp->Prop,(∀Z' H',N Z' H'->∃m',m'<m/\W (i+1) m' Z' H')/\∀x H',(Itr lo n).yld i H x H'->g x Z H' fun Z2 H2=>tb {D with nx:=N,ct:=N,bk:=D.nx} Z2 H2):=by
 refine⟨λi m Z H=>m=n - i/\i<=n/\Pv i Z H,⟨n,by simp,M3 _,h0⟩,?_⟩;rintro i m Z H ⟨rfl,hi,p⟩;by_cases aR:i<n
 ·refine .inr ⟨aR,Pv (i+1),fun Z' H' p'=>⟨n - (i+1),by lia,rfl,aR,p'⟩,λx H' y=>?_⟩;obtain⟨e,y⟩:=y;subst e y;exact hs i Z _ aR p
 ·have e:i=n:=by lia
  subst e;exact .inl ⟨L7 _,hd Z H p⟩
abbrev R2:=V->V->Hp->VK->Prop
def OpR (X:Cx) (f:aa->aa->eR aa) (r:R2):Prop:=
 ∀pins s Z H (x y:V) (v u:aa) (Q:VK),Inv X pins Z H s->Aj x v->Aj y u->r x y H Q ->
  ai (aj X.prog X.w) X.A (f v u) (EP X pins Z Q) X.xe s
def UnR (X:Cx) (f:aa->eR aa) (r:V->Hp->VK->Prop):Prop:=
 ∀pins s Z H (x:V) (v:aa) (Q:VK),Inv X pins Z H s->Aj x v->r x H Q ->
  ai (aj X.prog X.w) X.A (f v) (EP X pins Z Q) X.xe s
def Cf (X:Cx) (f:aa) (r:List V->Hp->VK->Prop):Prop:=
 ∀pins s Z H (xs:List V) (us:List aa) (Q:VK),Inv X pins Z H s->Vals xs us->r xs H Q ->
  ai (aj X.prog X.w) X.A (call f us) (EP X pins Z Q) X.xe s
def TruR (X:Cx) (r:V->Hp->(Bool->Hp->Prop)->Prop):Prop:=
 ∀pins s Z H (x:V) (v:aa) (Q:Bool->Hp->Prop),Inv X pins Z H s->Aj x v->r x H Q ->
  ai (aj X.prog X.w) X.A (truthy v) (TP X pins Z Q) X.xe s
def tOp (r:R2) (ta tb:TE):TE:=fun Z H Q=>ta Z H λx H1=>tb Z H1 λy H2=>r x y H2 Q
def tUn (r:V->Hp->VK->Prop) (ta:TE):TE:=fun Z H Q=>ta Z H λx H1=>r x H1 Q
def rI (C:Int->Int->Prop) (g:Int->Int->V):R2:=λx y H Q=>∃i j,x = .int i/\y = .int j/\C i j/\Q (g i j) H
def rI0 (g:Int->Int->V):R2:=λx y H Q=>∃i j,x = .int i/\y = .int j/\Q (g i j) H
def rU (g:Int->V):V->Hp->VK->Prop:=λx H Q=>∃i,x = .int i/\Q (g i) H
section
variable {X:Cx}{a b c:aA}{ta tb tc:TE}{pos:bw}
def binT(ha:PE X a ta)(hb:PE X b tb)     {R:V->V->Hp->Prop}(I:Inv X pins Z H s)
  (h:ta Z H λx H1=>tb Z H1 λy H2=>R x y H2) {f:aa->aa->eR aa}
  (hf:∀v u s2 x y H2,Inv X pins Z H2 s2->Aj x v->Aj y u->R x y H2->ai (aj X.prog X.w) X.A (f v u) Q X.xe s2):
  ai (aj X.prog X.w) X.A (eval a X.env) (λv s₁=>ai (aj X.prog X.w) X.A (eval b X.env) (λu s₂=>ai (aj X.prog X.w) X.A (f v u) Q X.xe s₂) X.xe s₁) X.xe s:=by
 refine thn (ha pins s Z H _ I h) λv s1 ⟨x,H1,I1,r1,q1⟩=>?_;refine thn (hb pins s1 Z H1 _ I1 q1) λu s2 ⟨y,H2,I2,r2,q2⟩=>?_;exact hf v u s2 x y H2 I2 r1 r2 q2
def Ao  (ho:OpR X (bC op) r) (ha:PE X a ta) (hb:PE X b tb):PE X (.BinOp a op b pos) (tOp r ta tb):=by
 intro pins s Z H Q I h;exact wpAny_BinOp (binT ha hb I h λv u s2 x y H2 I2 rx ry q=>ho pins s2 Z H2 x y v u Q I2 rx ry q)
def Xhk  (ho:UnR X (unaryOp op) r) (ha:PE X a ta):PE X (.UnaryOp op a pos) (tUn r ta):=by
 intro pins s Z H Q I h;exact UnaryOp_ (thn (ha pins s Z H _ I h) λv s1 ⟨x,H1,I1,r1,q1⟩=>ho pins s1 Z H1 x v Q I1 r1 q1)
def opI  {g:Int->Int->Int}
  (rule:∀(i j:Int) (t u:Tok) (s:ag) (Q:Zb) (E:Zb),C i j->Q (.int (g i j) s.toks) {s with toks:=s.toks+1}->ai (aj X.prog X.w) X.A (f (.int i t) (.int j u)) Q E s):
  OpR X f (rI C λi j=>.int (g i j)):=by
 intro pins s Z H x y v u Q I rx ry h;obtain⟨i,j,rfl,rfl,hc,q⟩:=h;obtain⟨t,rfl⟩:=rx;obtain⟨t',rfl⟩:=ry;exact rule i j t t' s _ _ hc ⟨.int (g i j),H,I.tok _,⟨_,rfl⟩,q⟩
def Xaj{g:Int->Int->Int}
  (rule:∀(i j:Int) (t u:Tok) (s:ag) (Q:Zb) (E:Zb),Q (.int (g i j) s.toks) {s with toks:=s.toks+1}->ai (aj X.prog X.w) X.A (f (.int i t) (.int j u)) Q E s):
  OpR X f (rI0 λi j=>.int (g i j)):=by
 intro pins s Z H x y v u Q I rx ry h;obtain⟨i,j,rfl,rfl,q⟩:=h;obtain⟨t,rfl⟩:=rx;obtain⟨t',rfl⟩:=ry;exact rule i j t t' s _ _ ⟨.int (g i j),H,I.tok _,⟨_,rfl⟩,q⟩
def G4{g:Int->Int->Bool}
  (rule:∀(i j:Int) (t u:Tok) (s:ag) (Q:Zb) (E:Zb),Q (.bool (g i j)) s->ai (aj X.prog X.w) X.A (f (.int i t) (.int j u)) Q E s):
  OpR X f (rI0 λi j=>.bl (g i j)):=by
 intro pins s Z H x y v u Q I rx ry h;obtain⟨i,j,rfl,rfl,q⟩:=h;obtain⟨t,rfl⟩:=rx;obtain⟨t',rfl⟩:=ry;exact rule i j t t' s _ _ ⟨.bl (g i j),H,I,rfl,q⟩
def CDiv (i j:Int):Prop:=0<j/\j<1073741824
def CPow (i j:Int):Prop:=0<=j/\j<=1000000/\i.natAbs<2 ^ 64
def CMul (i j:Int):Prop:=(-(2 ^ 64)<i/\i<2 ^ 64)\/(-(2 ^ 64)<j/\j<2 ^ 64)
def CMul.ok(h:CMul i j):IntMulOk i j:=by
 rcases h with ⟨h1,h2⟩ | ⟨h1,h2⟩
 ·exact .of_left (qx h1 h2)
 ·exact .of_right (qx h1 h2)
def Bs:OpR X (bC .Add) (rI0 λi j=>.int (i+j)):=Xaj λ_ _ _ _ _ _ _ q=>add_int q
def Xak:OpR X (bC .Sub) (rI0 λi j=>.int (i - j)):=Xaj λ_ _ _ _ _ _ _ q=>sub_int q
def Xal:OpR X (bC .Mult) (rI CMul λi j=>.int (i * j)):=opI λ_ _ _ _ _ _ _ hc q=>mul_int q hc.ok
def Xam:OpR X (bC .FloorDiv) (rI CDiv λi j=>.int (i / j)):=opI λi j _ _ _ _ _ hc q=>by
 have h1:(0:Int)<j:=hc.1;have h2:j<1073741824:=hc.2;exact floordiv_int (by lia) (by rw[Int.fdiv_eq_ediv_of_nonneg i (by lia)];exact q) (.inl (PyProof.noPylong_small (by lia)))
def Fb:OpR X (bC .Mod) (rI (λ_ j=>0<j) λi j=>.int (i % j)):=opI λi j _ _ _ _ _ hc q=>by
 have h1:(0:Int)<j:=hc;exact mod_int' (by lia) (by rw[Int.fmod_eq_emod_of_nonneg i (by lia)];exact q)
def Xan:OpR X (bC .Pow) (rI CPow λi j=>.int (i ^ j.toNat)):=opI λ_ _ _ _ _ _ _ hc q=>pow_int_small hc.1 hc.2.1 hc.2.2 q
def unI{g:Int->Int}
  (rule:∀(i:Int) (t:Tok) (s:ag) (Q:Zb) (E:Zb),Q (.int (g i) s.toks) {s with toks:=s.toks+1}->ai (aj X.prog X.w) X.A (f (.int i t)) Q E s):
  UnR X f (rU λi=>.int (g i)):=by
 intro pins s Z H x v Q I rx h;obtain⟨i,rfl,q⟩:=h;obtain⟨t,rfl⟩:=rx;exact rule i t s _ _ ⟨.int (g i),H,I.tok _,⟨_,rfl⟩,q⟩
def Xhl:UnR X (unaryOp .USub) (rU λi=>.int (-i)):=unI λ_ _ _ _ _ q=>neg_int q
end
def scal:V->V->Bool
 | .non,.non=>true | .non,.int _=>true | .int _,.non=>true | .non,.bl _=>true | .bl _,.non=>true | .non,.str _=>true | .str _,.non=>true
 | .int _,.int _=>true | .bl _,.bl _=>true | .str _,.str _=>true | .byt _,.byt _=>true
 | .int _,.str _=>true | .str _,.int _=>true | .bl _,.str _=>true | .str _,.bl _=>true
 | _,_=>false
def rEq:R2:=λx y H Q=>scal x y=true/\Q (.bl (decide (x=y))) H
def rNe:R2:=λx y H Q=>scal x y=true/\Q (.bl (!decide (x=y))) H
def Xao:decide (V.int i=V.int j)=(i==j):=by
 rw[N6];simp
def Jr:decide (V.bl i=V.bl j)=(i==j):=by
 rw[N6];simp
def Js:decide (V.str i=V.str j)=(i==j):=by
 rw[N6];simp
def Xap:decide (V.byt i=V.byt j)=(i.toList==j.toList):=by
 rw[N6];cases i;cases j;simp
section
variable {X:Cx}{a b c:aA}{ta tb tc:TE}{pos:bw}
def A5      (I:Inv X pins Z H s) (q:Q (.bl k) H) (e:k=k'):EP X pins Z Q (.bool k') s:=by
 subst e;exact⟨.bl k,H,I,rfl,q⟩
def C8:OpR X (aE .Eq) rEq:=by
 intro pins s Z H x y v u Q I rx ry h;obtain⟨hs,q⟩:=h;cases x with
 | non=>
  cases rx;cases y with
  | non=>cases ry;exact PySem.EqNone.eq_none_none (A5 I q (by simp))
  | bl j=>cases ry;exact PySem.EqNone.eq_none_bool (A5 I q (by simp))
  | int j=>obtain⟨t',rfl⟩:=ry;exact PySem.EqNone.eq_none_int (A5 I q (by simp))
  | str j=>obtain⟨t',rfl⟩:=ry;exact PySem.EqNone.eq_none_str (A5 I q (by simp))
  | _=>exact absurd (show false=true from hs) Mr
 | bl i=>
  cases rx;cases y with
  | non=>cases ry;exact PySem.EqNone.eq_bool_none (A5 I q (by simp))
  | bl j=>cases ry;exact eq_bool (A5 I q Jr)
  | str j=>obtain⟨t',rfl⟩:=ry;exact PySem.EqMixed.eq_bool_str (A5 I q (by simp))
  | _=>exact absurd (show false=true from hs) Mr
 | int i=>
  obtain⟨t,rfl⟩:=rx;cases y with
  | non=>cases ry;exact PySem.EqNone.eq_int_none (A5 I q (by simp))
  | int j=>obtain⟨t',rfl⟩:=ry;exact eq_int (A5 I q Xao)
  | str j=>obtain⟨t',rfl⟩:=ry;exact PySem.EqMixed.eq_int_str (A5 I q (by simp))
  | _=>exact absurd (show false=true from hs) Mr
 | str i=>
  obtain⟨t,rfl⟩:=rx;cases y with
  | non=>cases ry;exact PySem.EqNone.eq_str_none (A5 I q (by simp))
  | bl j=>cases ry;exact PySem.EqMixed.eq_str_bool (A5 I q (by simp))
  | int j=>obtain⟨t',rfl⟩:=ry;exact PySem.EqMixed.eq_str_int (A5 I q (by simp))
  | str j=>obtain⟨t',rfl⟩:=ry;exact eq_str (A5 I q Js)
  | _=>exact absurd (show false=true from hs) Mr
 | byt i=>
  obtain⟨t,rfl⟩:=rx;cases y with
  | byt j=>obtain⟨t',rfl⟩:=ry;exact PySem.W.eq_bytes (A5 I q Xap)
  | _=>exact absurd (show false=true from hs) Mr
 | _=>cases y<;>exact absurd (show false=true from hs) Mr
def El:OpR X (aE .NotEq) rNe:=by
 intro pins s Z H x y v u Q I rx ry h;obtain⟨hs,q⟩:=h;cases x with
 | non=>
  cases rx;cases y with
  | non=>cases ry;exact PySem.EqNone.ne_none_none (A5 I q (by simp))
  | bl j=>cases ry;exact PySem.EqNone.ne_none_bool (A5 I q (by simp))
  | int j=>obtain⟨t',rfl⟩:=ry;exact PySem.EqNone.ne_none_int (A5 I q (by simp))
  | str j=>obtain⟨t',rfl⟩:=ry;exact PySem.EqNone.ne_none_str (A5 I q (by simp))
  | _=>exact absurd (show false=true from hs) Mr
 | bl i=>
  cases rx;cases y with
  | non=>cases ry;exact PySem.EqNone.ne_bool_none (A5 I q (by simp))
  | bl j=>cases ry;exact ne_bool (A5 I q (congrArg not Jr))
  | str j=>obtain⟨t',rfl⟩:=ry;exact PySem.EqMixed.ne_bool_str (A5 I q (by simp))
  | _=>exact absurd (show false=true from hs) Mr
 | int i=>
  obtain⟨t,rfl⟩:=rx;cases y with
  | non=>cases ry;exact PySem.EqNone.ne_int_none (A5 I q (by simp))
  | int j=>obtain⟨t',rfl⟩:=ry;exact ne_int (A5 I q (congrArg not Xao))
  | str j=>obtain⟨t',rfl⟩:=ry;exact PySem.EqMixed.ne_int_str (A5 I q (by simp))
  | _=>exact absurd (show false=true from hs) Mr
 | str i=>
  obtain⟨t,rfl⟩:=rx;cases y with
  | non=>cases ry;exact PySem.EqNone.ne_str_none (A5 I q (by simp))
  | bl j=>cases ry;exact PySem.EqMixed.ne_str_bool (A5 I q (by simp))
  | int j=>obtain⟨t',rfl⟩:=ry;exact PySem.EqMixed.ne_str_int (A5 I q (by simp))
  | str j=>obtain⟨t',rfl⟩:=ry;exact ne_str (A5 I q (congrArg not Js))
  | _=>exact absurd (show false=true from hs) Mr
 | byt i=>
  obtain⟨t,rfl⟩:=rx;cases y with
  | byt j=>obtain⟨t',rfl⟩:=ry;exact PySem.W.ne_bytes (A5 I q (congrArg not Xap))
  | _=>exact absurd (show false=true from hs) Mr
 | _=>cases y<;>exact absurd (show false=true from hs) Mr
def Cg:OpR X (aE .Lt) (rI0 λi j=>.bl (decide (i<j))):=G4 λ_ _ _ _ _ _ _ q=>lt_int q
def Xaq:OpR X (aE .LtE) (rI0 λi j=>.bl (decide (i<=j))):=G4 λ_ _ _ _ _ _ _ q=>le_int q
def Xar:OpR X (aE .Gt) (rI0 λi j=>.bl (decide (j<i))):=G4 λ_ _ _ _ _ _ _ q=>gt_int q
def Xas:OpR X (aE .GtE) (rI0 λi j=>.bl (decide (j<=i))):=G4 λ_ _ _ _ _ _ _ q=>ge_int q
def Xat:OpR X (aE .Lt) (λx y H Q=>∃i j,x = .str i/\y = .str j/\Q (.bl (decide (i.cps.toList<j.cps.toList))) H):=by
 intro pins s Z H x y v u Q I rx ry h;obtain⟨i,j,rfl,rfl,q⟩:=h;obtain⟨t,rfl⟩:=rx;obtain⟨t',rfl⟩:=ry;exact lt_str (A5 I q rfl)
def Xhm:OpR X (aE .Is) (λx y H Q=>y = .non/\Q (.bl (decide (x = .non))) H):=by
 intro pins s Z H x y v u Q I rx ry h;obtain⟨rfl,q⟩:=h;cases ry;refine is_none_gen (A5 I q ?_);cases x<;>first
  | (cases rx;rfl)
  | (obtain⟨t,rfl⟩:=rx;rfl)
def Xau:OpR X (aE .IsNot) (λx y H Q=>y = .non/\Q (.bl (!decide (x = .non))) H):=by
 intro pins s Z H x y v u Q I rx ry h;obtain⟨rfl,q⟩:=h;cases ry;refine isnot_none_gen (A5 I q ?_);cases x<;>first
  | (cases rx;rfl)
  | (obtain⟨t,rfl⟩:=rx;rfl)
def isObj:HO->Bool
 | .lst _=>true
 | .ins _ _ _=>true
 | _=>false
def Ax(b:aA)(h:op ≠ .In:=by decide)(h2:op ≠ .NotIn:=by decide):c8 op b=false:=by
 have e1:(op==CmpOp.In)=false:=by cases op<;>first | rfl | exact absurd rfl h
 have e2:(op==CmpOp.NotIn)=false:=by cases op<;>first | rfl | exact absurd rfl h2
 cases b<;>simp[c8,e1,e2]
def Fc  (ho:OpR X (aE op) r) (ha:PE X a ta) (hb:PE X b tb) (hm:c8 op b=false):PE X (.Compare a [op] [b] pos) (tOp r ta tb):=by
 intro pins s Z H Q I h;exact mX (binT ha hb I h λv u s2 x y H2 I2 rx ry q=>ho pins s2 Z H2 x y v u Q I2 rx ry q) hm
def Jt (t:TE):TT:=fun Z H Q=>t Z H λx H'=>∃k,x = .bl k/\Q k H'
def Az  (ho:OpR X (aE op) r) (ha:PE X a ta) (hb:PE X b tb) (hm:c8 op b=false):PT X (.Compare a [op] [b] pos) (Jt (tOp r ta tb)):=by
 intro pins s Z H Q I h;refine wpAny_isTrue_Compare1 (thn (ha pins s Z H _ I h) λv s1 ⟨x,H1,I1,r1,q1⟩=>thn (hb pins s1 Z H1 _ I1 q1) λu s2 ⟨y,H2,I2,r2,q2⟩=>
  thn (ho pins s2 Z H2 x y v u _ I2 r1 r2 q2) λc s3 ⟨z,H3,I3,r3,k,e,q3⟩=>?_) hm
 subst e;cases r3;exact aM ⟨H3,I3,q3⟩
def Ju (r r':R2) (ta tb tc:TE):TE:=fun Z H Q=>ta Z H λx H1=>tb Z H1 λy H2=>r x y H2 λz H3=>∃k,z = .bl k /\
 (if k=true then tc Z H3 λw' H4=>r' y w' H4 Q else Q (.bl false) H3)
def Xav  (ho:OpR X (aE op) r) (dO:OpR X (aE mY) r') (ha:PE X a ta) (hb:PE X b tb) (hc:PE X c tc)
  (hm:AY [op,mY] [b,c]=false:=by with_unfolding_all rfl):PE X (.Compare a [op,mY] [b,c] pos) (Ju r r' ta tb tc):=by
 intro pins s Z H Q I h;refine Compare_chain (thn (ha pins s Z H _ I h) λv s1 ⟨x,H1,I1,r1,q1⟩=>chain_link (thn (hb pins s1 Z H1 _ I1 q1) λu s2 ⟨y,H2,I2,r2,q2⟩=>
  thn (ho pins s2 Z H2 x y v u _ I2 r1 r2 q2) λd s3 ⟨z,H3,I3,r3,k,e,q3⟩=>?_)) hm
 subst e;cases r3;refine aM ?_;cases k with
 | false=>exact ite_ff ⟨.bl false,H3,I3,rfl,q3⟩
 | true=>exact ite_tt (chain_last (thn (hc pins s3 Z H3 _ I3 q3) λw' s4 ⟨z',H4,I4,r4,q4⟩=>dO pins s4 Z H4 y z' u w' Q I4 r2 r4 q4))
def Xaw  (ho:OpR X (aE op) r) (dO:OpR X (aE mY) r') (ha:PE X a ta) (hb:PE X b tb) (hc:PE X c tc)
  (hm:AY [op,mY] [b,c]=false:=by with_unfolding_all rfl):PT X (.Compare a [op,mY] [b,c] pos) (Jt (Ju r r' ta tb tc)):=by
 intro pins s Z H Q I h;refine isTrue_chain (thn (ha pins s Z H _ I h) λv s1 ⟨x,H1,I1,r1,q1⟩=>test_link (thn (hb pins s1 Z H1 _ I1 q1) λu s2 ⟨y,H2,I2,r2,q2⟩=>
  thn (ho pins s2 Z H2 x y v u _ I2 r1 r2 q2) λd s3 ⟨z,H3,I3,r3,k,e,q3⟩=>?_)) hm
 subst e;cases r3;refine aM ?_;cases k with
 | false=>
  obtain⟨k',e',q'⟩:=q3;cases e';exact ite_ff ⟨H3,I3,q'⟩
 | true=>
  refine ite_tt (test_last (thn (hc pins s3 Z H3 _ I3 q3) λw' s4 ⟨z',H4,I4,r4,q4⟩=>thn (dO pins s4 Z H4 y z' u w' _ I4 r2 r4 q4) λd' s5 ⟨z2,H5,I5,r5,k2,e2,q5⟩=>?_));subst e2;cases r5;exact aM ⟨H5,I5,q5⟩
def Xax (K:DK) (x:V) (H:Hp) (k:Bool):Prop:=
 match x with
 | .non=>k=false
 | .bl b=>k=b
 | .int i=>k=(i != 0)
 | .str y=>y.length<=sizeLine/\k=((y.length:Int) != 0)
 | .byt y=>y.size<=sizeLine/\k=((y.size:Int) != 0)
 | .ref p=>(∃xs,SqL K H p xs/\k = !xs.isEmpty)\/(∃xs,SqT K H p xs/\k = !xs.isEmpty) \/ ∃kvs,H p=some (.dK kvs)/\k = !kvs.isEmpty
 | _=>False
def Xhn{κ : Type}{kvs:List (κ × V)}{vs}(r:KV kvs vs):(!vs.isEmpty) = !kvs.isEmpty:=by
 cases r<;>rfl
def Xay  (r:Vals xs a8):(!a8.toArray.isEmpty) = !xs.isEmpty:=by
 cases r<;>simp
def line63:(sizeLine:Nat)<2 ^ 63:=by rw[Qo];decide
def Xho:TruR X (λx H Q=>∃k,Xax X.K x H k/\Q k H):=by
 intro pins s Z H x v Q I rx h;obtain⟨k,e,q⟩:=h;have hl:=line63;have hs:sizeLine=16777216:=Qo;cases x with
 | non=>
  cases rx;have e':k=false:=e;subst e';exact truthy_none ⟨H,I,q⟩
 | bl b=>
  cases rx;have e':k=b:=e;subst e';exact aM ⟨H,I,q⟩
 | int i=>
  obtain⟨t,rfl⟩:=rx;have e':k=(i != 0):=e;subst e';exact PySem.P.truthy_int ⟨H,I,q⟩
 | str y=>
  obtain⟨t,rfl⟩:=rx;obtain⟨hy,e'⟩:y.length<=sizeLine/\k=((y.length:Int) != 0):=e;subst e';exact PySem.P.truthy_str (by lia) ⟨H,I.tok _,q⟩
 | byt y=>
  obtain⟨t,rfl⟩:=rx;obtain⟨hy,e'⟩:y.size<=sizeLine/\k=((y.size:Int) != 0):=e;subst e';exact PySem.W.truthy_bytes (by lia) ⟨H,I.tok _,q⟩
 | ref p=>
  cases rx;have e':(∃xs,SqL X.K H p xs/\k = !xs.isEmpty)\/(∃xs,SqT X.K H p xs/\k = !xs.isEmpty) \/ ∃kvs,H p=some (.dK kvs)/\k = !kvs.isEmpty:=e;rcases e' with ⟨xs,hx,e'⟩ | ⟨xs,hx,e'⟩ | ⟨kvs,hx,e'⟩
  ·subst e';obtain⟨a8,r,pl,hz⟩:=I.list hx;have aG:=r.length;exact wpAny_truthy_list pl.isList (by simp only[Md];lia) ⟨H,I.tok _,by rw[Xay r];exact q⟩
  ·subst e';obtain⟨a8,r,pl,hz⟩:=I.tuple hx;have aG:=r.length;exact truthy_tuple pl (by simp only[Md];lia) ⟨H,I.tok _,by rw[Xay r];exact q⟩
  ·subst e';obtain⟨hz,hS,vs,r,m⟩:kvs.length<=sizeLine/\(p==aZ)=false/\∃vs,KV kvs vs/\s.heap.DictOf (Bb X.prog X.w) p vs:=I.hok p _ hx;have aG:kvs.length=vs.length:=Paired.length r;exact wpAny_truthy_dict hS m (by lia) ⟨H,I.tok _,by rw[Xhn r];exact q⟩
 | _=>exact(show False from e).elim
def Xhp(ha:PE X a ta)(he:∀du,isTrue a X.env du=(do       let v <-du;cr a.pos;holding [v] (truthy v))):
  PT X a (fun Z H Q=>ta Z H λx H'=>∃k,Xax X.K x H' k/\Q k H'):=by
 intro pins s Z H Q I h;exact rJ (thn (ha pins s Z H _ I h) λv s1 ⟨x,H1,I1,r1,q1⟩=>Xho pins s1 Z H1 x v Q I1 r1 q1) (he _)
def Jv:OpR X (bC .Add) (λx y H Q=>∃i j,x = .str i/\y = .str j/\i.length+j.length<=sizeLine/\Q (.str (i++j)) H):=by
 intro pins s Z H x y v u Q I rx ry h;obtain⟨i,j,rfl,rfl,hz,q⟩:=h;obtain⟨t,rfl⟩:=rx;obtain⟨t',rfl⟩:=ry;exact add_str (λt' tk=>⟨.str (i++j),H,I.tok _,⟨_,rfl⟩,q⟩) hz
def B2  (r:Vals [x] us):∃u,us=[u]/\Aj x u:=by
 cases r with
 | cons r1 r2=>cases r2;exact⟨_,rfl,r1⟩
def vals2  (r:Vals [x,y] us):∃u w',us=[u,w']/\Aj x u/\Aj y w':=by
 cases r with
 | cons r1 r2=>
  cases r2 with
  | cons r3 r4=>cases r4;exact⟨_,_,rfl,r1,r3⟩
def Xhq(hc:X.calm=true):Cf X (.builtin "min") (λxs H Q=>∃i j,xs=[.int i,.int j]/\Q (.int (if j<i then j else i)) H):=by
 intro pins s Z H xs us Q I r h;obtain⟨i,j,rfl,q⟩:=h;obtain⟨u,w',rfl,⟨t,rfl⟩,⟨t',rfl⟩⟩:=vals2 r;refine min_two_ints (I.ok.hd hc) λh' tk k=>⟨_,H,I.kept k,?_,q⟩;by_cases hj:j<i
 ·rw[Qq hj,Qq hj];exact⟨_,rfl⟩
 ·rw[Qp hj,Qp hj];exact⟨_,rfl⟩
def LenV (K:DK) (x:V) (H:Hp) (n:Nat):Prop:=
 match x with
 | .str y=>y.length<=sizeLine/\n=y.length
 | .byt y=>y.size<=sizeLine/\n=y.size
 | .ref p=>(∃xs,SqL K H p xs/\n=xs.length) \/ ∃xs,SqT K H p xs/\n=xs.length
 | _=>False
end
structure ObjM (h:ao) (x dx C:ae) (mA:ah->Option aa):Prop where
 obj:h.get? x=some (EK C dx)
 ns:h.Ns1 dx mA
 ne:dx≠x
section
variable {prog:au}{w:ay}{A:ax}{E:Zb}{s:ag}{K:DK}{x dx C f:ae}{mA:ah->Option aa}{name:ah}{v:aa}
end
def Jw (f:ah) (v:V):List (ah×V)->List (ah×V)
 | []=>[(f,v)]
 | (g,x)::r=>if g=f then (g,v)::r else (g,x)::Jw f v r
def Br.some_of{v}{o}(r:Br (some v) o):∃u,o=some u/\Aj v u:=by
 cases o with
 | none=>exact(show False from r).elim
 | some u=>exact⟨u,rfl,r⟩
def Br.none_of(r:Br none o):o=none:=by
 cases o with
 | none=>rfl
 | some u=>exact(show False from r).elim
section
variable {P:au}{w:ay}{H H':Hp}{h h':ao}{a C dx:ae}{fs mU:List (ah×V)}
end
structure Cls (K:DK) (C:ae):Prop where
 pg:PySem.W.plainGet K C ah.empty=true
 hd:PySem.W.hasDictIn K C=true
 po:PySem.W.plainOver K C=true
 sa:DO K (.ref C) "__setattr__" = some (some (.builtin "object.__setattr__"))
def Jx (K:DK) (C:ae) (f:ah):Prop:=DO K (.ref C) f=some none
structure Con (K:DK) (C:ae) (f:ah) (v:V) (u:aa):Prop where
 xo:DO K (.ref C) f=some (some u)
 c9:Aj v u
 get:EI K u "__get__" = some none
 cp:PySem.W.copiedNames.contains f=false
structure Meth (K:DK) (C:ae) (m:ah) (f:ae):Prop where
 xo:DO K (.ref C) m=some (some (.ref f))
 fn:ES K (.ref f)=true
 kp:DQ K (.ref f)=true
section
variable {X:Cx}{pins:List (ae×aI)}{Z:St}{H:Hp}{s:ag}{a C dx:ae}{fs:List (ah×V)}{f:ah}{v:V}{A:ax}{E:Zb}
end
def tFld (K:DK) (ta:TE) (f:ah):TE:=fun Z H Q=>ta Z H λx H1=>∃a C dx fs v,x = .ref a/\H1 a=some (.ins C dx fs)/\Cls K C/\Jx K C f/\fs.lookup f=some v/\Q v H1
def tCon (K:DK) (ta:TE) (f:ah):TE:=fun Z H Q=>ta Z H λx H1=>∃a C dx fs v u,x = .ref a/\H1 a=some (.ins C dx fs)/\Cls K C/\Con K C f v u/\fs.lookup f=none/\Q v H1
def sFld (K:DK) (ta tv:TE) (f:ah):TS:=λD Z H=>tv Z H λy H1=>ta Z H1 λx H2=>∃a C dx fs,x = .ref a/\H2 a=some (.ins C dx fs)/\Cls K C/\Jx K C f/\fs.length<1000 /\
 D.nx Z (upd H2 a (.ins C dx (Jw f y fs)))
def InOp (X:Cx) (op:Operator) (rd:V->V->Hp->VK->Prop):Prop:=
 ∀pins s Z H (x y:V) (u v:aa) (Q:VK),Inv X pins Z H s->Aj x u->Aj y v->rd x y H Q->ai (aj X.prog X.w) X.A (inplaceOp op u v) (EP X pins Z Q) X.xe s
def Xqw (K:DK) (ta tv:TE) (rd:V->V->Hp->VK->Prop) (f:ah):TS:=λD Z H=>ta Z H λx H1=>∃a C dx fs v,x = .ref a/\H1 a=some (.ins C dx fs)/\Cls K C/\Jx K C f/\fs.lookup f=some v /\
 tv Z H1 λy H2=>rd v y H2 λz H3=>∃uX mU,H3 a=some (.ins C uX mU)/\mU.length<1000/\D.nx Z (upd H3 a (.ins C uX (Jw f z mU)))
section
variable {X:Cx}{o e value:aA}{f:ah}{pos fV rP:bw}{ta tv:TE}
end
section
variable {X:Cx}{pins:List (ae×aI)}{Z:St}{H:Hp}{s:ag}{A:ax}{E:Zb}{Q:Zb}{c:aa}{b:Bool}
inductive TyOf (K:DK) (H:Hp):V->aa->Prop where
 | non:TyOf K H .non (.type "NoneType")
 | bl (x:Bool):TyOf K H (.bl x) (.type "bool")
 | int (i:Int):TyOf K H (.int i) (.type "int")
 | str (x:ah):TyOf K H (.str x) (.type "str")
 | flt (x:UInt64):TyOf K H (.flt x) (.type "float")
 | lst {a:ae} {xs:List V} (e:H a=some (.lst xs)):TyOf K H (.ref a) (.type "list")
 | frz {a:ae} {o:aI} {xs:List V} (e:H a=some (.frz o (.lst xs))):TyOf K H (.ref a) (.type "list")
 | tup {a:ae} {xs:List V} (e:H a=some (.tup xs)):TyOf K H (.ref a) (.type "tuple")
 | dK {a:ae} {kvs:List (Key×V)} (e:H a=some (.dK kvs)):TyOf K H (.ref a) (.type "dict")
 | dT {a:ae} {kvs:List (List Key×V)} (e:H a=some (.dT kvs)):TyOf K H (.ref a) (.type "dict")
 | ins {a C dx:ae} {fs:List (ah×V)} (e:H a=some (.ins C dx fs)) (cl:Cls K C) (ha:DO K (.ref C) "__class__" = some (some (.builtin "object.__class__")))
   (hn:EI K (.builtin "object.__class__") "__get__" = some (some (.builtin "getset_descriptor.__get__"))) (gI:PySem.W.takesIn K (.builtin "object.__class__")=some true)
   (hm:PySem.W.mroIn K C (.type "object")=some true):TyOf K H (.ref a) (.ref C)
end
structure Room (k:Nat) (A:ax):Prop where
 hd:A.handled=none
 dp:A.depth+3 * k+5<mZ
 un:A.units+16 * k+200<bx
 gd:A.guards=some []
def Room.mono  (r:Room k A) (h:j<=k):Room j A:=⟨r.hd,by have:=r.dp;lia,by have:=r.un;lia,r.gd⟩
def Room.deeper  (r:Room (k+1) A) (env):Room k (A.deeper env):=
 ⟨r.hd,by have:=r.dp;show A.depth+1+3 * k+5<_;lia,by have:=r.un;show A.units+3+16 * k+200<_;lia,r.gd⟩
def Room.in1{k}{A}(r:Room (k+1) A):Room k A.in1:=
 ⟨r.hd,by have:=r.dp;show A.depth+3 * k+5<_;lia,by have:=r.un;show A.units+1+16 * k+200<_;lia,r.gd⟩
def Room.depth  (r:Room k A):A.depth<mZ:=by have:=r.dp;lia
def Room.units  (r:Room k A):A.units+64<bx:=by have:=r.un;lia
def Room.units0  (r:Room k A):A.units<bx:=by have:=r.un;lia
def Xaz:TA:=λ_ H Q=>Q [] H
def Xa0 (ta:TE) (tr:TA):TA:=fun Z H Q=>ta Z H λx H1=>tr Z H1 λxs H2=>Q (x::xs) H2
section
variable {X:Cx}{e:aA}{es:List aA}{te:TE}{t:TA}{pos:bw}
def Ac:PA X [] Xaz:=λ_ _ _ _ H Q I h=>Calls.spliced_nil ⟨[],H,I,.nil,h⟩
def Aa(ha:PE X e te)(hr:PA X es t)(hs:az (e::es) X.env=(false,eval e X.env)::az es X.env:=by rfl):PA X (e::es) (Xa0 te t):=by
 intro pos pins s Z H Q I h;rw[hs];show ai _ _ (spliced ((false,eval e X.env)::bn pos (az es X.env))) _ _ s;refine Calls.spliced_cons (thn (ha pins s Z H _ I h) λu s1 ⟨x,H1,I1,r1,q1⟩=>?_);exact thn (hr pos pins s1 Z H1 _ I1 q1) λus s2 ⟨xs,H2,I2,r2,q2⟩=>⟨x::xs,H2,I2,.cons r1 r2,q2⟩
def tTup (t:TA):TE:=fun Z H Q=>t Z H λxs H1=>xs.length<=sizeLine/\∀p,H1 p=none->Q (.ref p) (upd H1 p (.tup xs))
def tLst (t:TA):TE:=fun Z H Q=>t Z H λxs H1=>xs.length<=sizeLine/\∀p,H1 p=none->Q (.ref p) (upd H1 p (.lst xs))
def B3(h:PA X es t):PE X (.Tuple es x1 pos) (tTup t):=by
 intro pins s Z H Q I hq;refine wpAny_Tuple_spliced (thn (h pos pins s Z H _ I hq) λus s1 ⟨xs,H1,I1,r,z,q⟩=>⟨by rw[<-r.length];exact z,?_⟩);have hf:H1 s1.heap.objs.size=none:=I1.hok.fresh (L7 _);refine⟨.ref s1.heap.objs.size,upd H1 s1.heap.objs.size (.tup xs),I1.laid (t':=s1.toks) (λb u e=>Qw _ e) (L7 _) ?_,rfl,q _ hf⟩;exact⟨z,us,r,⟨_,ao.get?_push_size _ rfl,rfl,_,rfl⟩⟩
def Di(h:PA X es t):PE X (.List es pos) (tLst t):=by
 intro pins s Z H Q I hq;refine wpAny_List_spliced (thn (h pos pins s Z H _ I hq) λus s1 ⟨xs,H1,I1,r,z,q⟩=>⟨by rw[<-r.length];exact z,?_⟩);have hf:H1 s1.heap.objs.size=none:=I1.hok.fresh (L7 _);refine⟨.ref s1.heap.objs.size,upd H1 s1.heap.objs.size (.lst xs),I1.laid (t':=s1.toks) (λb u e=>Qw _ e) (L7 _) ?_,rfl,q _ hf⟩;exact⟨z,us,0,r,ao.get?_push_size _ rfl⟩
end
abbrev Sp:=List V->Hp->VK->XK->Prop
abbrev CXT:=List dm->Hp->ag->XK->aa->ag->Prop
structure Env0 (P:au) (w:ay) (K:DK) (mg:ah->Option aa) (base:ao) (A:ax) (outer:List dm) (s:ag) (H:Hp):Prop where
 frames:A.frames=some outer
 mod:Mod K mg base
 bs:∀b o,base.get? b=some o->s.heap.get? b=some o/\H b=none
 bsz:base.objs.size<=s.heap.objs.size
 funs:s.heap.FunFrames base outer
 frf:∀b∈frs outer,H b=none
 hok:HOk P w H s.heap
 bare:cq s.gens
def CE (outer:List dm) (P:au) (w:ay) (H:Hp) (s:ag) (Q:VK) (u:aa) (s':ag):Prop:=
 ∃v H',s'.os=s.os/\cq s'.gens/\Un (frs outer) [] H H' s.heap s'.heap/\HOk P w H' s'.heap/\Aj v u/\Q v H'
def CR (CX:CXT) (outer:List dm) (P:au) (w:ay) (H:Hp) (s:ag) (Q:VK) (E:XK) (r:ng) (s':ag):Prop:=
 match r with
 | .ok (.ret u)=>CE outer P w H s Q u s'
 | .ok _=>False
 | .error e=>CX outer H s E e s'
structure FnOk (P:au) (w:ay) (K:DK) (mg:ah->Option aa) (base:ao) (CX:CXT) (k:Nat) (f:ae) (fd:aw) (ps:Za) (sp:Sp):Prop where
 len:∀vs H Q E,sp vs H Q E->vs.length=ps.length
 run:∀(A:ax) (outer:List dm) (s:ag) (H:Hp) (args:Args) (us:List aa) (vs:List V) (Q:VK) (E:XK),Room k A->Env0 P w K mg base A outer s H->dw s fd args (ps.zip us)->Vals vs us->sp vs H Q E ->
  bi (aj P w) A (.call (.ref f) args) (CR CX outer P w H s Q E) s
def Env0.in1   {K}   {A}  {s} (e:Env0 P w K mg base A outer s H):
  Env0 P w K mg base A.in1 outer s H:=⟨e.frames,e.mod,e.bs,e.bsz,e.funs,e.frf,e.hok,e.bare⟩
section
variable {X:Cx}{pins:List (ae×aI)}{Z:St}{H:Hp}{s s':ag}
def Inv.env0(I:Inv X pins Z H s):Env0 X.prog X.w X.K X.mg X.base X.A X.stack s H:=
 ⟨I.ok.frames,I.ok.mod,I.bs,M8 I.ok.bsz I.sz,I.stack,I.stkFree,I.hok,I.bare⟩
def Inv.after  (I:Inv X pins Z H s) (h:CE X.stack X.prog X.w H s Q u s'):EP X pins Z Q u s':=by
 obtain⟨v,H',os,bare,un,hok,r,q⟩:=h;obtain⟨hh,g,d,t,xp⟩:=s';obtain rfl:xp=s.os:=os;exact⟨v,H',I.call (h':=hh) (g':=g) (d':=d) (t':=t) (ch:=[]) un hok bare (λb z=>absurd z (by simp)),r,q⟩
end
def Xa1 (sp:Sp) (gJ:List V) (E:XK) (t:TA):TE:=fun Z H Q=>t Z H λvs H1=>sp (vs++gJ) H1 Q E
def tMeth (C:ae) (m:ah) (sp:Sp) (gJ:List V) (E:XK) (ta:TE) (t:TA):TE:=fun Z H Q=>ta Z H λx H1=>∃a dx fs,x = .ref a/\H1 a=some (.ins C dx fs)/\fs.lookup m=none /\
 t Z H1 λvs H2=>sp (x::(vs++gJ)) H2 Q E
def tMake (C:ae) (sp:Sp) (gJ:List V) (E:XK) (t:TA):TE:=fun Z H Q=>t Z H λvs H1=>∀x dx,H1 x=none->H1 dx=none->dx≠x ->
 sp (.ref x::(vs++gJ)) (upd (upd H1 dx (.own x)) x (.ins C dx [])) (λv H2=>v = .non/\Q (.ref x) H2) E
def Binds (K:DK) (fd:aw) (ps:Za) (ds:List aa):Prop:=
 ∀(s:ag) (us:List aa),K.In s.heap->(us++ds).length=ps.length->dw s fd ⟨us,[]⟩ (ps.zip (us++ds))
def Binds.all{K}  (h:∀us:List aa,us.length=ps.length->cD fd ⟨us,[]⟩=pure (ps.zip us)):Binds K fd ps []:=λs us _ hl=>by
 rw[Np] at hl ⊢;exact .of_eq (h us hl)
def Passes (CX:CXT) (X:Cx) (E:XK):Prop:=∀(pins:List (ae×aI)) (Z:St) (H:Hp) (s:ag) (e:aa) (s':ag),Inv X pins Z H s->CX X.stack H s E e s'->X.xe e s'
section
variable {X:Cx}{CX:CXT}{k:Nat}{f C:ae}{fd:aw}{ps:Za}{sp:Sp}{gJ:List V}{ds:List aa}{E:XK}{x m:ah}{p pos cG:bw}{e o:aA}{es:List aA}{ta:TE}{t:TA}
def Xhr       (F:FnOk X.prog X.w X.K X.mg X.base CX k f fd ps sp) (hr:Room k X.A) (hb:Binds X.K fd ps ds) (hd:Vals gJ ds) (hx:Passes CX X E)
  (I:Inv X pins Z H s) (r:Vals vs us) (h:sp (vs++gJ) H Q E):ai (aj X.prog X.w) X.A (call (.ref f) us) (EP X pins Z Q) X.xe s:=by
 have r2:Vals (vs++gJ) (us++ds):=r.append hd;have hl:(us++ds).length=ps.length:=by rw[<-r2.length];exact F.len _ _ _ _ h
 refine eU (bv (F.run X.A X.stack s H ⟨us,[]⟩ (us++ds) (vs++gJ) Q E hr I.env0 (hb s us I.kIn hl) r2 h) λr s' hq=>?_);cases r with
 | error e=>exact hx pins Z H s e s' I hq
 | ok fl=>
  cases fl with
  | ret u=>exact I.after hq
  | next=>exact False.elim hq
  | brk=>exact False.elim hq
  | cont=>exact False.elim hq
def Xhs(F:FnOk X.prog X.w X.K X.mg X.base CX k f fd ps sp)(hr:Room k X.A)(hg:Gl X x)(hm:X.mg x=some (.ref f))(hk:DQ X.K (.ref f)=true)(hb:Binds X.K fd ps ds)(hd:Vals gJ ds)(hx:Passes CX X E)
  (ha:PA X (e::es) t) (gK:(x==("__debug__" : ah))=false:=by decide) (he:az (e::es) X.env=(false,eval e X.env)::az es X.env:=by rfl) (bM:(bn pos (az es X.env)).any (·.1)=false:=by rfl):
  PE X (.Call (.Name x p) (e::es) [] pos) (Xa1 sp gJ E t):=by
 intro pins s Z H Q I h;refine bF (Xae I hg hm ?_ gK);refine PySem.W.callWith_K (h₀:=X.base) I.ok.mod.kin hk (thn (ha pos pins s Z H _ I h) λus s1 ⟨vs,H1,I1,r,q⟩=>⟨I1.kIn,?_⟩) he bM;exact Xhr F hr hb hd hx I1 r q
structure Mk (K:DK) (C f:ae):Prop where
 makes:PySem.W.makesIn K C=true
 init:DO K (.ref C) "__init__" = some (some (.ref f))
 fn:ES K (.ref f)=true
 kp:DQ K (.ref C)=true
end
def PK (X:Cx) (eZ:List cz) (t:TA):Prop:=
 ∀(pos:bw) (pins:List (ae×aI)) (s:ag) (Z:St) (H:Hp) (Q:List V->Hp->Prop),Inv X pins Z H s->t Z H Q->ai (aj X.prog X.w) X.A (evalAll ((bJ pos (aW eZ X.env)).map (·.2))) (AP X pins Z Q) X.xe s
section
variable {X:Cx}{CX:CXT}{k:Nat}{f C:ae}{fd:aw}{ps ks:Za}{sp:Sp}{E:XK}{x m:ah}{p pos cG rQ:bw}{e o:aA}{es:List aA}{eZ:List cz}{te ta:TE}{t tk:TA}{nm:Option ah}
def Xa2:PK X [] Xaz:=λ_ _ _ _ H Q I h=>wpAny_evalAll_nil ⟨[],H,I,.nil,h⟩
def Xa3(ha:PE X e te)(hr:PK X eZ t):PK X (⟨nm,e,rQ⟩::eZ) (Xa0 te t):=by
 intro pos pins s Z H Q I h
 show ai _ _ (evalAll ((do    let v <-eval e X.env;cr pos;pure v)::(bJ pos (aW eZ X.env)).map (·.2))) _ _ s;refine wpAny_evalAll_cons (Qm (thn (ha pins s Z H _ I h) λu s1 ⟨x,H1,I1,r1,q1⟩=>Qm (aT (Qn ?_))));exact thn (hr pos pins s1 Z H1 _ I1 q1) λus s2 ⟨xs,H2,I2,r2,q2⟩=>⟨x::xs,H2,I2,.cons r1 r2,q2⟩
structure KBinds (K:DK) (fd:aw) (ps ks:Za) (g:List aa->List aa->List aa) (gV:List V->List V->List V):Prop where
 to:∀(s:ag) (us ws:List aa),K.In s.heap->(g us ws).length=ps.length->dw s fd ⟨us,ks.zip ws⟩ (ps.zip (g us ws))
 c9:∀{vs:List V} {us:List aa} {zs:List V} {ws:List aa},Vals vs us->Vals zs ws->Vals (gV vs zs) (g us ws)
variable {g:List aa->List aa->List aa}{gV:List V->List V->List V}
end
structure FnScope (N P:Za) (sc:bj):Prop where
 kind:sc.kind = .function
 co:sc.isCoroutine=false
 gen:sc.isGenerator=false
 nd:N.Nodup
 pre:N.take P.length=P
 par:∀x∈P,sc.names.lookup x=some .local\/sc.names.lookup x=some .cell
 nofree:∀y∈sc.names,y.2 ≠ .free
theorem Xa4{kindOf}:∀{binds:List (ah×aa)} {m:ah->Option aa},(∀v,(x,v)∉binds)->g9 kindOf binds m x=m x
 | [],_,_=>rfl
 | (n,v)::r,m,h=>by
  unfold g9;rw[Xa4 λw hw=>h w (L8 _ hw)];split
  ·have:x≠n:=by rintro rfl;exact h v Mf
   simp[this]
  ·rfl
theorem Xa5{kindOf}:∀{binds:List (ah×aa)} {m:ah->Option aa},(∀v,(x,v)∉binds)->gA kindOf binds m x=m x
 | [],_,_=>rfl
 | (n,v)::r,m,h=>by
  unfold gA;rw[Xa5 λw hw=>h w (L8 _ hw)];split
  ·rfl
  ·have:x≠n:=by rintro rfl;exact h v Mf
   simp[this]
theorem Xa6{kindOf}  : ∀{P:Za} {vs:List aa} {i:Nat} {m:ah->Option aa},P.Nodup->P[i]? = some x->vs[i]? = some v->kindOf x=some .local ->
  g9 kindOf (P.zip vs) m x=some v
 | [],_,_,_,_,h,_,_=>by simp at h
 | _::_,[],_,_,_,_,h,_=>by simp at h
 | p::P,w::vs,0,m,nd,h1,h2,hk=>by
  simp at h1 h2;subst h1;subst h2;show g9 kindOf ((p,w)::P.zip vs) m p=_;unfold g9;rw[Xa4 λv hv=>(M9.mp nd).1 (P2 hv).1,Qq hk];simp
 | p::P,w::vs,i+1,m,nd,h1,h2,hk=>by
  show g9 kindOf ((p,w)::P.zip vs) m x=_;unfold g9;exact Xa6 (i:=i) (M9.mp nd).2 (by simpa using h1) (by simpa using h2) hk
theorem Xa7{kindOf}  : ∀{P:Za} {vs:List aa} {i:Nat} {m:ah->Option aa},P.Nodup->P[i]? = some x->vs[i]? = some v->kindOf x≠some .local ->
  gA kindOf (P.zip vs) m x=some v
 | [],_,_,_,_,h,_,_=>by simp at h
 | _::_,[],_,_,_,_,h,_=>by simp at h
 | p::P,w::vs,0,m,nd,h1,h2,hk=>by
  simp at h1 h2;subst h1;subst h2;show gA kindOf ((p,w)::P.zip vs) m p=_;unfold gA;rw[Xa5 λv hv=>(M9.mp nd).1 (P2 hv).1,Qp hk];simp
 | p::P,w::vs,i+1,m,nd,h1,h2,hk=>by
  show gA kindOf ((p,w)::P.zip vs) m x=_;unfold gA;exact Xa7 (i:=i) (M9.mp nd).2 (by simpa using h1) (by simpa using h2) hk
def start (N:Za) (vs:List V):St:=vs.map some++List.replicate (N.length - vs.length) none
def Bz (CX:CXT) (P:au) (w:ay) (K:DK) (mg:ah->Option aa) (base:ao) (N:Za) (qual:ah) (scope:bj) (f:ae) (cd:aa) (A:ax) (outer:List dm) (s:ag) (H:Hp) (E:XK):Cx where
 prog:=P
 w:=w
 K:=K
 mg:=mg
 base:=base
 A:=A.deeper (aH qual scope s.heap.objs.size f cd)
 N:=N
 s₀:=s
 H₀:=H
 env:=aH qual scope s.heap.objs.size f cd
 outer:=outer
 stack:=aH qual scope s.heap.objs.size f cd::outer
 ex:=[]
 calm:=true
 fn:=λ_=>true
 pn:=[]
 xe:=λe s'=>ai (aj P w) (A.deeper (aH qual scope s.heap.objs.size f cd)) (leaving (aH qual scope s.heap.objs.size f cd) e) (λ_ js=>CX outer H s E e js) (λe' js=>CX outer H s E e' js) s'
def Xa8{sc:bj}{n}(h:sc.names.lookup x=some .cell):∃c,(bA n sc.names []).lookup x=some c:=by
 have q:=DP sc.names n [] (.inl h);exact Ob.mp q
def Xa9    {K}              (S:FnScope N ps scope) (hd:A.handled=none) (e0:Env0 P w K mg base A outer s H) (hl:vs.length=ps.length) (r:Vals vs us)
  (x:InCallC s s.heap.objs.size (g9 (aH qual scope s.heap.objs.size f cd).kindOf (ps.zip us) λ_=>none) (bA (s.heap.objs.size+1) scope.names []) (gA (aH qual scope s.heap.objs.size f cd).kindOf (ps.zip us) λ_=>none) s1):
  Inv (Bz CX P w K mg base N qual scope f cd A outer s H E) [] (start N vs) H s1:=by
 have bM:ps.length<=N.length:=by have:=congrArg List.length S.pre;rw[Nd] at this;lia
 obtain⟨h1,tk,rfl,hk⟩:=x.done;have jt:∀b:ae,b∉(Bz CX P w K mg base N qual scope f cd A outer s H E).ex:=λb z=>absurd (show b∈([]:List ae) from z) (by simp);refine⟨⟨e0.mod,S.kind,rfl,rfl,L7 _,λy z c h1 h2=>?_,λy hy=>?_,λy c _ h=>?_,λ_=>hd,ax.frames_deeper e0.frames,.inr ⟨rfl,rfl⟩,λb z=>absurd z (jt b),e0.bs,e0.bsz,λb _ _=>jt b,λb z=>absurd z (jt b),e0.funs,e0.frf⟩,
  rfl,e0.bare,Un.kept hk,⟨_,x.toInCall.ns,λi y v h1 h2 h3=>?_⟩,λy c h=>⟨_,x.cell y c h⟩,e0.hok.fresh (L7 _),λy c h=>?_,λp hp=>absurd (show p∈([]:List (ae×aI)) from hp) (by simp),e0.hok.kept hk,?_⟩
 ·exact name_of_addr x.apart (PySem.mem_of_lookup h1) (PySem.mem_of_lookup h2)
 ·have hy:scope.names.lookup y=some .cell\/scope.names.lookup y=some .free:=hy;rcases hy with hy | hy
  ·exact Xa8 hy
  ·exact absurd rfl (S.nofree _ (PySem.mem_of_lookup hy))
 ·exact O2 (x.above y c (PySem.mem_of_lookup h))
 ·have hi:i<vs.length:=by
   unfold start at h2;by_cases hi:i<vs.length
   ·exact hi
   ·rw[Ny (by simpa using hi)] at h2;rw[List.getElem?_replicate] at h2;split at h2<;>cases h2
  have ha:vs[i]? = some v:=by
   unfold start at h2;rw[Nl (by simpa using hi),Mt] at h2;cases e:vs[i]? with
   | none=>rw[e] at h2;cases h2
   | some a=>rw[e] at h2;cases h2;rfl
  obtain⟨u,hu,rv⟩:=r.get ha;have hp:ps[i]? = some y:=by
   rw[<-S.pre,List.getElem?_take_of_lt (by lia)];exact h1
  have uY:ps.Nodup:=by rw[<-S.pre];exact S.nd.sublist (Oj _ _)
  refine⟨u,rv,?_⟩;rcases S.par y (Nm hp) with k | k
  ·exact .inl ⟨k,Xa6 uY hp hu k⟩
  ·obtain⟨c,e⟩:=Xa8 (n:=s.heap.objs.size+1) k;refine .inr ⟨.inl k,c,e,?_⟩;have q:=x.cell y c e;rw[Xa7 uY hp hu (by show scope.names.lookup y≠_;rw[k];decide)] at q;exact q
 ·exact e0.hok.fresh (O2 (x.above y c (PySem.mem_of_lookup h)))
 ·unfold start;show _=N.length;rw[Mg,L5,List.length_replicate]
  lia
def Jy    {K}         {dV kV cK pm cdv ct oc}    (lk:K.lookup f=some ⟨oc,od,.func (DT name qual params body scope dV kV cK pm an cdv ct),fX⟩) (fP:DV K cdv qual=true) (S:FnScope N ps scope)
  (len:∀vs H Q E,sp vs H Q E->vs.length=ps.length)
  (dy:∀(A:ax) (outer:List dm) (s:ag) (H:Hp) (vs:List V) (Q:VK) (E:XK),Room k (A.deeper (aH qual scope s.heap.objs.size f cdv))->sp vs H Q E ->
   ∃t,PSs (Bz CX P w K mg base N qual scope f cdv A outer s H E) body t/\t {nx:=λ_ H'=>Q .non H',rt:=Q} (start N vs) H):
  FnOk P w K mg base CX (k+1) f (DT name qual params body scope dV kV cK pm an cdv ct) ps sp:=by
 refine⟨len,λA outer s H args us vs Q E hr e0 hb r fQ=>?_⟩;have hl:=len _ _ _ _ fQ;have KX:K.In s.heap:=e0.mod.kin.keeps λb o e=>(e0.bs b o e).1;have nh:s.heap.NoLimit:=e0.mod.nolimit.keeps λb o e=>(e0.bs b o e).1;have dX:∀y∈ps.zip us,scope.names.lookup y.1=some .local\/(scope.names.lookup y.1=some .cell/\((bA (s.heap.objs.size+1) scope.names []).lookup y.1).isSome=true):=λ⟨n,v⟩ hy=>by
  rcases S.par n (P2 hy).1 with q | q
  ·exact .inl q
  ·exact .inr ⟨q,DP _ _ _ (.inl q)⟩
 refine codeAny_call_function hr.depth (KX _ _ lk) rfl S.co S.gen rfl (PySem.W.codeRec_of KX fP) (hb _ _ _ _ ?_);refine fb S.kind dX λenv he s1 x=>?_;subst he;refine⟨nh.keeps x.toInCall.keep,codeAny_func ?_⟩;obtain⟨t,ht,hq⟩:=dy A outer s H vs Q E (hr.deeper _) fQ;have I:Inv (Bz CX P w K mg base N qual scope f cdv A outer s H E) [] (start N vs) H s1:=Xa9 S hr.hd e0 hl r x;refine aK (ht [] s1 (start N vs) H _ I hq) (λfl s' hs=>?_) λe s' hs=>hs;have fin:∀{Z':St} {H':Hp} {v:V} {u:aa},Inv (Bz CX P w K mg base N qual scope f cdv A outer s H E) [] Z' H' s'->Aj v u->Q v H'->CE outer P w H s Q u s':=
  λ{Z' H' v u} J rv q=>⟨v,H',J.os,J.bare,J.base,J.hok,rv,q⟩
 cases fl with
 | ret u=>
  obtain⟨v, Z',H',J,rv,q⟩:=hs;exact fin J rv q
 | next=>
  obtain⟨Z',H',J,q⟩:=hs;exact fin (v:=V.non) (u:=aa.none) J rfl q
 | brk=>
  obtain⟨_,_,_,q⟩:=hs;exact False.elim q
 | cont=>
  obtain⟨_,_,_,q⟩:=hs;exact False.elim q
section
variable {X:Cx}{x:ah}{p pos:bw}{e:aA}{es:List aA}{t:TA}{id T:String}{r:List V->Hp->VK->Prop}
def tCB (r:List V->Hp->VK->Prop) (t:TA):TE:=fun Z H Q=>t Z H λvs H1=>r vs H1 Q
def A8(hc:Cf X (.builtin id) r)(hg:Gl X x)(hm:X.mg x=none)(hv:br x=some (.builtin id))(ha:PA X (e::es) t)(hn:x ≠ "__name__" := by decide)(gK:(x==("__debug__" : ah))=false:=by decide)
  (he:az (e::es) X.env=(false,eval e X.env)::az es X.env:=by rfl) (bM:(bn pos (az es X.env)).any (·.1)=false:=by rfl):PE X (.Call (.Name x p) (e::es) [] pos) (tCB r t):=by
 intro pins s Z H Q I h;refine bF (Ek I hg hm hv ?_ hn gK);exact PyProof.Rows.callWith_builtin1 (thn (ha pos pins s Z H _ I h) λus s1 ⟨vs,H1,I1,r1,q1⟩=>hc pins s1 Z H1 vs us Q I1 r1 q1) he bM
def Ci(hc:Cf X (.type T) r)(hg:Gl X x)(hm:X.mg x=none)(hv:br x=some (.type T))(ha:PA X (e::es) t)(hn:x ≠ "__name__" := by decide)(gK:(x==("__debug__" : ah))=false:=by decide)
  (he:az (e::es) X.env=(false,eval e X.env)::az es X.env:=by rfl) (bM:(bn pos (az es X.env)).any (·.1)=false:=by rfl):PE X (.Call (.Name x p) (e::es) [] pos) (tCB r t):=by
 intro pins s Z H Q I h;refine bF (Ek I hg hm hv ?_ hn gK);exact PyProof.Rows.callWith_type1 (thn (ha pos pins s Z H _ I h) λus s1 ⟨vs,H1,I1,r1,q1⟩=>hc pins s1 Z H1 vs us Q I1 r1 q1) he bM
end
end L2
namespace HT
open PySem PyProof.Rows
def Xht:List Int->List Int->Bool
 | [],[]=>false
 | [],_::_=>true
 | _::_,[]=>false
 | x::xs,y::ys=>if x=y then Xht xs ys else decide (x<y)
section
open PySem.SeqAt
open PySem.AutoSeq1 (wpAny_loadPart')
open PySem.MeetsSeq PySem.MeetsSeq2 PySem.MeetsSeq3
end
section
variable {prog:au}{w:ay}{A:ax}{E:Zb}{s:ag}
def sIx (n d:Nat):Option Int->Nat
 | none=>d
 | some v=>if v<0 then (v+(n:Int)).toNat else min v.toNat n
def sIx_none(n d):sIx n d none=d:=rfl
def sIx_nat(n d k:Nat):sIx n d (some (k:Int))=min k n:=by
 show (if (k:Int)<0 then ((k:Int)+(n:Int)).toNat else min (k:Int).toNat n)=min k n;rw[Qp (by lia),O0]
end
end HT
namespace L2
abbrev TO:=St->Hp->(Option Int->Hp->Prop)->Prop
def PO (X:Cx) (e:Option aA) (t:TO):Prop:=
 ∀pins s Z H (Q:Option Int->Hp->Prop),Inv X pins Z H s->t Z H Q ->
  ai (aj X.prog X.w) X.A (evalPart e X.env) (λu s'=>∃o H',Inv X pins Z H' s'/\xq u o/\Q o H') X.xe s
def Xhu:TO:=λ_ H Q=>Q none H
def Xhv (t:TE):TO:=fun Z H Q=>t Z H λx H1=>∃i,x = .int i/\Q (some i) H1
section
variable {X:Cx}{e:aA}{te:TE}{lo hi:Option aA}{tl th:TO}{pos p2:bw}
def C9:PO X none Xhu:=by
 intro pins s Z H Q I h;rw[fZ];exact Qn ⟨none,H,I,.none,h⟩
def Cj(h:PE X e te):PO X (some e) (Xhv te):=by
 intro pins s Z H Q I hw;rw[qy];refine thn (h pins s Z H _ I hw) λu s1 ⟨x,H1,I1,r1,q1⟩=>?_;obtain⟨i,rfl,q⟩:=q1;obtain⟨t,rfl⟩:=r1;exact⟨some i,H1,I1,.int i t,q⟩
def SlR (X:Cx) (r:V->Option Int->Option Int->Hp->VK->Prop):Prop:=
 ∀pins s Z H (x:V) (v vl vu:aa) (lo hi:Option Int) (sl:ae) (Q:VK),Inv X pins Z H s->Aj x v->s.heap.IsSliceOf sl vl vu .none->xq vl lo->xq vu hi->r x lo hi H Q ->
  ∃T id,ju (.type T) "__getitem__" = pure (some (.builtin id))/\s.TypeIs v T/\ai (aj X.prog X.w) X.A (dv v (.ref sl)) (EP X pins Z Q) X.xe s
def tSl (r:V->Option Int->Option Int->Hp->VK->Prop) (te:TE) (tl th:TO):TE:=fun Z H Q=>te Z H λx H1=>tl Z H1 λl H2=>th Z H2 λu H3=>r x l u H3 Q
def Cr(hr:SlR X r)(he:PE X e te)(hl:PO X lo tl)(hu:PO X hi th):PE X (.Subscript e (.Slice lo hi none p2) pos) (tSl r te tl th):=by
 intro pins s Z H Q I h;refine fc (thn (he pins s Z H _ I h) λv s1 ⟨x,H1,I1,r1,q1⟩=>?_);refine uZ (thn (hl pins s1 Z H1 _ I1 q1) λvl s2 ⟨l,H2,I2,pl,q2⟩=>thn (hu pins s2 Z H2 _ I2 q2) λvu s3 ⟨u,H3,I3,pu,q3⟩=>?_);rw[fZ];refine Qn ?_;have I4:Inv X pins Z H3 {s3 with heap:=s3.heap.push {cls:=.type "slice",data:=.fields #[vl,vu,.none]} }:=I3.kept (t':=s3.toks) λb ob q=>Qw _ q;obtain⟨T,id,hT,ht,hg⟩:=hr pins {s3 with heap:=s3.heap.push {cls:=.type "slice",data:=.fields #[vl,vu,.none]} } Z H3 x v vl vu l u s3.heap.objs.size Q I4 r1 (ao.IsSliceOf.new ..) pl pu q3;show ai (aj X.prog X.w) X.A (gc e (.Slice lo hi none p2) v (.ref s3.heap.objs.size)) (EP X pins Z Q) X.xe {s3 with heap:=s3.heap.push {cls:=.type "slice",data:=.fields #[vl,vu,.none]} };exact ni (ops:=[.ref s3.heap.objs.size,v]) ht hT hg (by with_unfolding_all rfl)
def B4 (xs:List V) (lo hi:Option Int):List V:=(xs.drop (HT.sIx xs.length 0 lo)).take (HT.sIx xs.length xs.length hi - HT.sIx xs.length 0 lo)
def Xhw(xs)(lo hi):(B4 xs lo hi).length<=xs.length:=by
 unfold B4;rw[Nd,Pu]
 lia
def rSlT (K:DK):V->Option Int->Option Int->Hp->VK->Prop:=λx lo hi H Q=>∃a xs,x = .ref a/\SqT K H a xs /\
 ¬(HT.sIx xs.length 0 lo=0/\HT.sIx xs.length xs.length hi=xs.length)/\∀p,H p=none->Q (.ref p) (upd H p (.tup (B4 xs lo hi)))
def rCatT (K:DK):R2:=λx y H Q=>∃a b xs ys,x = .ref a/\y = .ref b/\SqT K H a xs/\SqT K H b ys/\xs≠[]/\xs.length+ys.length<=sizeLine /\
 (ys=[]->Q (.ref a) H)/\(ys≠[]->∀p,H p=none->Q (.ref p) (upd H p (.tup (xs++ys))))
end
def ixN (n:Nat) (i:Int):Option Nat:=if 0<=i then (if i<n then some i.toNat else none) else if -(n:Int)<=i then some (i+n).toNat else none
def atI {α : Type} (xs:List α) (i:Int):Option α:=(ixN xs.length i).bind λj=>xs[j]?
def Xba   (h:ixN n i=some j):AZ i n=some j/\j<n /\ -(n:Int)<=i/\i<n:=by
 unfold ixN at h;by_cases h0:0<=i
 ·rw[Qq h0] at h;by_cases h1:i<n
  ·rw[Qq h1] at h;have e:i.toNat=j:=Mj h;exact⟨by rw[ir h0 h1,e],by lia,by lia,h1⟩
  ·rw[Qp h1] at h;cases h
 ·rw[Qp h0] at h;by_cases h1 : -(n:Int)<=i
  ·rw[Qq h1] at h;have e:(i+n).toNat=j:=Mj h;exact⟨by rw[seqIndex_neg (by lia) h1,e],by lia,h1,by lia⟩
  ·rw[Qp h1] at h;cases h
def Jz{α : Type}{xs}{v : α}(h:atI xs i=some v):∃j,AZ i xs.length=some j/\xs[j]? = some v/\j<xs.length /\ -(xs.length:Int)<=i/\i<xs.length:=by
 unfold atI at h;cases e:ixN xs.length i with
 | none=>rw[e] at h;cases h
 | some j=>
  rw[e] at h;obtain⟨h1,h2,h3,h4⟩:=Xba e;exact⟨j,h1,h,h2,h3,h4⟩
def Dy{α : Type}{xs}{j:Nat}{v : α}(h:xs[j]? = some v):atI xs (j:Int)=some v:=by
 have hj:j<xs.length:=(Mc.mp h).1;have e:ixN xs.length (j:Int)=some j:=by
  unfold ixN;rw[Qq (by lia),Qq (by lia)];simp
 unfold atI;rw[e];exact h
def Xhx (b:aA):Prop:=∀o i,subscripted b false o i=operate [o,i] (dv o i)
def IxR (X:Cx) (r:R2):Prop:=
 ∀(value slice:aA) (pins:List (ae×aI)) (s:ag) (Z:St) (H:Hp) (x y:V) (v u:aa) (Q:VK),Inv X pins Z H s->Aj x v->Aj y u->r x y H Q ->
  subscripted slice false v u=operate [v,u] (dv v u)->ai (aj X.prog X.w) X.A (gc value slice v u) (EP X pins Z Q) X.xe s
def MtR (X:Cx) (id:String) (r:V->List V->Hp->VK->Prop):Prop:=
 ∀pins s Z H (x:V) (xs:List V) (v:aa) (us:List aa) (Q:VK),Inv X pins Z H s->Aj x v->Vals xs us->r x xs H Q ->
  ai (aj X.prog X.w) X.A (call (.builtin id) (v::us)) (EP X pins Z Q) X.xe s
section
variable {X:Cx}{a b:aA}{ta tb:TE}{pos:bw}
def Ay(hr:IxR X r)(ha:PE X a ta)(hb:PE X b tb)(hs:Xhx b):PE X (.Subscript a b pos) (tOp r ta tb):=by
 intro pins s Z H Q I h;exact fc (binT ha hb I h λv u s2 x y H2 I2 rx ry q=>hr a b pins s2 Z H2 x y v u Q I2 rx ry q (hs _ _))
def Xbb (K:DK):R2:=λx y H Q=>∃p xs i v,x = .ref p/\y = .int i/\SqL K H p xs/\atI xs i=some v/\Q v H
def J3 (K:DK):R2:=λx y H Q=>∃p xs i v,x = .ref p/\y = .int i/\SqT K H p xs/\atI xs i=some v/\Q v H
def Xbc:R2:=λx y H Q=>∃z i c,x = .str z/\y = .int i/\z.length<=sizeLine/\atI z.cps.toList i=some c/\Q (.str ⟨#[c]⟩) H
def Bg:IxR X (Xbb X.K):=by
 intro value slice pins s Z H x y v u Q I rx ry h hs;obtain⟨p,xs,i,z,rfl,rfl,hq,he,q⟩:=h;cases rx;obtain⟨t,rfl⟩:=ry;obtain⟨a8,r,pl,hz⟩:=I.list hq;obtain⟨j,h1,h2,h3,h4,h5⟩:=Jz he;obtain⟨w,ew,gB⟩:=r.get h2;have hl:=r.length;have hn:=line63;have fin:EP X pins Z Q w s:=⟨z,H,I,gB,q⟩;by_cases h0:0<=i
 ·have hj:i.toNat=j:=by
   rw[ir h0 h5] at h1;exact Mj h1
  exact item_listR pl.isList h0 (by lia) (by rw[hj];simpa using ew) fin hs
 ·have hj:(i+(a8.toArray.size:Int)).toNat=j:=by
   rw[seqIndex_neg (by lia) h4] at h1;rw[Md,<-hl];exact Mj h1
  exact gM (x:=w) pl.isList.typeIs dA.lookup
   (wpAny_getItem_list_neg (Q:=λr s'=>r=w/\EP X pins Z Q r s') pl.isList (by lia) (by rw[Md]<;>lia) (by lia) (by rw[hj];simpa using ew) ⟨rfl,fin⟩) hs
def J4:IxR X (J3 X.K):=by
 intro value slice pins s Z H x y v u Q I rx ry h hs;obtain⟨p,xs,i,z,rfl,rfl,hq,he,q⟩:=h;cases rx;obtain⟨t,rfl⟩:=ry;obtain⟨a8,r,pl,hz⟩:=I.tuple hq;obtain⟨j,h1,h2,h3,h4,h5⟩:=Jz he;obtain⟨w,ew,gB⟩:=r.get h2;have hl:=r.length;have hn:=line63;have fin:EP X pins Z Q w s:=⟨z,H,I,gB,q⟩;exact gM (x:=w) pl.typeIs slot_tuple_getitem.lookup
  (getItem_tuple (j:=j) (Q:=λr s'=>r=w/\EP X pins Z Q r s') pl (by lia) (by lia) (by rw[Md,<-hl];exact h1) (by simpa using ew) ⟨rfl,fin⟩) hs
def Xhy:IxR X Xbc:=by
 intro value slice pins s Z H x y v u Q I rx ry h hs;obtain⟨z,i,c,rfl,rfl,hz,he,q⟩:=h;obtain⟨t,rfl⟩:=rx;obtain⟨t',rfl⟩:=ry;obtain⟨j,h1,h2,h3,h4,h5⟩:=Jz he;have hl:z.cps.toList.length=z.length:=by simp[ah.length]
 rw[hl] at h1 h4 h5;have hn:=line63;exact ni (xr s z t) slot_str_getitem.lookup (getItem_str (c:=c) (by
  have e1:decide (i < -(2 ^ 63:Int))=false:=Qs (by lia);have e2:decide (i ≥ 2 ^ 63)=false:=Qs (by lia);rw[e1,e2,Bool.or_false]) (by rw[h1];simpa using h2) ⟨.str ⟨#[c]⟩,H,I.tok _,⟨_,rfl⟩,q⟩) hs
def rIx (K:DK):R2:=λx y H Q=>Xbb K x y H Q\/J3 K x y H Q\/Xbc x y H Q
def Xhz(a8:List aa)(n j)(u):aI.mapSeq (·.setIfInBounds j u) {cls:=.type "list",data:=.seq a8.toArray n} = {cls:=.type "list",data:=.seq (a8.set j u).toArray n}:=by
 simp[aI.mapSeq]
def Inv.lst   {H}  {xs} (I:Inv X pins Z H s) (h:H p=some (.lst xs)):
  ∃(a8:List aa) (n:Nat),Vals xs a8/\s.heap.get? p=some {cls:=.type "list",data:=.seq a8.toArray n}/\xs.length<=sizeLine:=by
 obtain⟨z,a8,n,r,e⟩:=I.hok p _ h;exact⟨a8,n,r,e,z⟩
def Inv.lstUpd       {a8 its':List aa}  (I:Inv X pins Z H s) (h:H p=some (.lst xs))
  (ho:s.heap.get? p=some {cls:=.type "list",data:=.seq a8.toArray n}) (hf:f {cls:=.type "list",data:=.seq a8.toArray n} = {cls:=.type "list",data:=.seq its'.toArray n'}) (r:Vals ys its') (hz:ys.length<=sizeLine) (t):
  Inv X pins Z (upd H p (.lst ys)) {s with heap:=s.heap.update p f,toks:=t}:=by
 have e:(s.heap.update p f).get? p=some {cls:=.type "list",data:=.seq its'.toArray n'}:=by
  rw[ao.get?_update_self f ho (by rw[hf]<;>rfl),hf]
 refine I.write (x:=p) (e:=p) (by rw[h];trivial) (.inl rfl) (λb u hb q=>(ao.get?_update_other _ _ (Ne.symm hb)).trans q) ⟨_,e⟩ ?_;exact⟨hz,its',n',r,e⟩
def Xh0:V->V->V->Hp->(Hp->Prop)->Prop:=λo i v H Q=>∃p xs k j,o = .ref p/\i = .int k/\H p=some (.lst xs)/\ixN xs.length k=some j/\Q (upd H p (.lst (xs.set j v)))
def Dj:PSet X Xh0:=by
 intro pins s Z H o i v ov iv u Q I ro ri rv h;obtain⟨p,xs,k,j,rfl,rfl,hp,hj,q⟩:=h;cases ro;obtain⟨t,rfl⟩:=ri;obtain⟨a8,n,r,ho,hz⟩:=I.lst hp;obtain⟨h1,h2,h3,h4⟩:=Xba hj;have hl:=r.length;have hn:=line63;have I':Inv X pins Z (upd H p (.lst (xs.set j v))) {s with heap:=s.heap.update p (aI.mapSeq (·.setIfInBounds j u))}:=
  I.lstUpd hp ho (Xhz a8 n j u) (r.set rv j) (by rw[List.length_set];exact hz) s.toks
 by_cases h0:0<=k
 ·have hk:k.toNat=j:=by
   rw[ir h0 h4] at h1;exact Mj h1
  exact PySem.W.ki_setAt ho h0 (by lia) (by rw[Md,<-hl];exact h4) (by rw[hk];exact⟨_,I',q⟩)
 ·have hk:(k+(a8.toArray.size:Int)).toNat=j:=by
   rw[seqIndex_neg (by lia) h3] at h1;rw[Md,<-hl];exact Mj h1
  exact PySem.W.ki_setBack ho (by lia) (by rw[Md,<-hl];exact h3) (by lia) (by rw[hk];exact⟨_,I',q⟩)
def Xh1(lo hi)(n):(bR lo hi none n).1=((HT.sIx n 0 lo:Nat):Int)/\(bR lo hi none n).2.1=((HT.sIx n n hi:Nat):Int)/\(bR lo hi none n).2.2=1:=by
 refine⟨?_,?_,rfl⟩
 ·cases lo with
  | none=>simp[bR,HT.sIx]
  | some i=>
   simp only[bR,HT.sIx,Option.getD_none,show (1:Int) > 0 by decide,if_true];by_cases h:i<0
   ·simp only[h,if_true]<;>lia
   ·simp only[h,if_false]<;>lia
 ·cases hi with
  | none=>simp[bR,HT.sIx]
  | some i=>
   simp only[bR,HT.sIx,Option.getD_none,show (1:Int) > 0 by decide,if_true];by_cases h:i<0
   ·simp only[h,if_true]<;>lia
   ·simp only[h,if_false]<;>lia
def Xh2(a8:List aa)(lo hi):By a8.toArray lo hi none=((a8.drop (HT.sIx a8.length 0 lo)).take (HT.sIx a8.length a8.length hi - HT.sIx a8.length 0 lo)).toArray:=by
 obtain⟨h1,h2,h3⟩:=Xh1 lo hi a8.toArray.size;unfold By;rw[h1,h2,h3];simp only[sliceRange_one,pick_run,Md]<;>rfl
def rSlL (K:DK):V->Option Int->Option Int->Hp->VK->Prop:=λx lo hi H Q=>∃a xs,x = .ref a/\SqL K H a xs/\∀p,H p=none->Q (.ref p) (upd H p (.lst (B4 xs lo hi)))
def Cs:SlR X (rSlL X.K):=by
 intro pins s Z H x v vl vu lo hi sl Q I rx hs pl pu h;obtain⟨a,xs,rfl,hx,q⟩:=h;cases rx;obtain⟨a8,r,ht,hz⟩:=I.list hx;have aG:=r.length;refine⟨"list",_,dA.lookup,ht.isList.typeIs,?_⟩;refine ge ht.isList hs pl pu .none (by simp) ?_ (by rw[Md]<;>lia);rw[Xh2,<-aG];refine⟨.ref s.heap.objs.size,_,I.laid (t':=s.toks) (o:=.lst (B4 xs lo hi)) (λb ob q=>Qw _ q) (L7 _) ?_,rfl,q _ (I.hok.fresh (L7 _))⟩;exact⟨M8 (Xhw xs lo hi) hz,_,0,(r.drop (HT.sIx xs.length 0 lo)).take (HT.sIx xs.length xs.length hi - HT.sIx xs.length 0 lo),ao.get?_push_size _ rfl⟩
def Dk:V->Bool
 | .non=>true
 | .bl _=>true
 | .int _=>true
 | .str _=>true
 | _=>false
def eqV:V->V->Bool
 | .non,.non=>true
 | .bl a,.bl b=>a==b
 | .bl a,.int b=>(if a then 1 else 0)==b
 | .int a,.bl b=>a==(if b then 1 else 0)
 | .int a,.int b=>a==b
 | .str a,.str b=>a==b
 | _,_=>false
def Xh3    (ry:Aj y u) (rx:Aj x v) (fy:Dk y=true) (fx:Dk x=true):SeqAt.EqAt A s u v (eqV y x):=by
 cases y with
 | non=>
  cases ry;cases x with
  | non=>cases rx;exact SeqAt.EqAt.same _
  | bl b=>cases rx;exact SeqAt.EqAt.none_bool b
  | int b=>obtain⟨t,rfl⟩:=rx;exact SeqAt.EqAt.none_int b t
  | str b=>obtain⟨t,rfl⟩:=rx;exact SeqAt.EqAt.none_str b t
  | _=>exact absurd (show false=true from fx) Mr
 | bl a=>
  cases ry;cases x with
  | non=>cases rx;exact SeqAt.EqAt.bool_none a
  | bl b=>cases rx;exact SeqAt.EqAt.bool_bool a b
  | int b=>obtain⟨t,rfl⟩:=rx;exact SeqAt.EqAt.bool_int a b t
  | str b=>obtain⟨t,rfl⟩:=rx;exact SeqAt.EqAt.bool_str a b t
  | _=>exact absurd (show false=true from fx) Mr
 | int a=>
  obtain⟨t',rfl⟩:=ry;cases x with
  | non=>cases rx;exact SeqAt.EqAt.int_none a t'
  | bl b=>cases rx;exact SeqAt.EqAt.int_bool a t' b
  | int b=>obtain⟨t,rfl⟩:=rx;exact SeqAt.EqAt.int_int a t' b t
  | str b=>obtain⟨t,rfl⟩:=rx;exact SeqAt.EqAt.int_str a t' b t
  | _=>exact absurd (show false=true from fx) Mr
 | str a=>
  obtain⟨t',rfl⟩:=ry;cases x with
  | non=>cases rx;exact SeqAt.EqAt.str_none a t'
  | bl b=>cases rx;exact SeqAt.EqAt.str_bool a t' b
  | int b=>obtain⟨t,rfl⟩:=rx;exact SeqAt.EqAt.str_int a t' b t
  | str b=>obtain⟨t,rfl⟩:=rx;exact SeqAt.EqAt.str_str a t' b t
  | _=>exact absurd (show false=true from fx) Mr
 | _=>exact absurd (show false=true from fy) Mr
def eqU (x:V) (u:aa):Bool:=match u with
 | .none=>eqV .non x
 | .bool b=>eqV (.bl b) x
 | .int i _=>eqV (.int i) x
 | .str z _=>eqV (.str z) x
 | _=>false
def Xbd  (r:Aj y u) (f:Dk y=true):eqU x u=eqV y x:=by
 cases y with
 | non=>cases r;rfl
 | bl b=>cases r;rfl
 | int i=>obtain⟨t,rfl⟩:=r;rfl
 | str z=>obtain⟨t,rfl⟩:=r;rfl
 | _=>exact absurd (show false=true from f) Mr
theorem Fx:∀{xs:List V} {us:List aa},Vals xs us->xs.all Dk=true->us.any (eqU x)=xs.any λy=>eqV y x
 | _,_,.nil,_=>rfl
 | y::xs,u::us,.cons r t,f=>by
  rw[List.all_cons,Mp] at f;rw[P0,P0,Xbd r f.1,Fx t f.2]
theorem Fy    (rx:Aj x v) (fx:Dk x=true):∀{xs:List V} {us:List aa},Vals xs us->xs.all Dk=true->∀u∈us,SeqAt.EqAt A s u v (eqU x u)
 | _,_,.nil,_=>λu hu=>by cases hu
 | y::xs,u::us,.cons r t,f=>λu' hu=>by
  rw[List.all_cons,Mp] at f;rcases Mb.mp hu with rfl | hu
  ·rw[Xbd r f.1];exact Xh3 r rx f.1 fx
  ·exact Fy rx fx t f.2 u' hu
def inV (x:V) (xs:List V):Bool:=xs.any λy=>eqV y x
def rIn (K:DK) (xt:Bool):R2:=λx y H Q=>∃p xs,y = .ref p/\(SqL K H p xs\/SqT K H p xs)/\Dk x=true/\xs.all Dk=true/\Q (.bl (if xt then !inV x xs else inV x xs)) H
def Xh4:OpR X (aE .In) (rIn X.K false):=by
 intro pins s Z H x y v u Q I rx ry h;obtain⟨p,xs,rfl,hq,fx,fs,q⟩:=h;cases ry;rcases hq with hq | hq
 ·obtain⟨a8,r,pl,hz⟩:=I.list hq;refine SeqAt.in_listAt (eqU x) pl.isList (λw hw=>Fy rx fx r fs w (by simpa using hw)) ⟨.bl _,H,I,rfl,?_⟩;rw[show a8.toArray.any (eqU x)=a8.any (eqU x) by simp,Fx r fs];exact q
 ·obtain⟨a8,r,pl,hz⟩:=I.tuple hq;refine SeqAt.in_tupleAt (eqU x) pl (λw hw=>Fy rx fx r fs w (by simpa using hw)) ⟨.bl _,H,I,rfl,?_⟩;rw[show a8.toArray.any (eqU x)=a8.any (eqU x) by simp,Fx r fs];exact q
def Xh5:OpR X (aE .NotIn) (rIn X.K true):=by
 intro pins s Z H x y v u Q I rx ry h;obtain⟨p,xs,rfl,hq,fx,fs,q⟩:=h;cases ry;rcases hq with hq | hq
 ·obtain⟨a8,r,pl,hz⟩:=I.list hq;refine SeqAt.notIn_listAt (eqU x) pl.isList (λw hw=>Fy rx fx r fs w (by simpa using hw)) ⟨.bl _,H,I,rfl,?_⟩;rw[show a8.toArray.any (eqU x)=a8.any (eqU x) by simp,Fx r fs];exact q
 ·obtain⟨a8,r,pl,hz⟩:=I.tuple hq;refine SeqAt.notIn_tupleAt (eqU x) pl (λw hw=>Fy rx fx r fs w (by simpa using hw)) ⟨.bl _,H,I,rfl,?_⟩;rw[show a8.toArray.any (eqU x)=a8.any (eqU x) by simp,Fx r fs];exact q
def Bo:Cf X (.builtin "len") (λxs H Q=>∃p ys,xs=[.ref p]/\(SqL X.K H p ys\/SqT X.K H p ys)/\Q (.int ys.length) H):=by
 intro pins s Z H xs us Q I r h;obtain⟨p,ys,rfl,hq,q⟩:=h;obtain⟨u,rfl,rx⟩:=B2 r;cases rx;have hn:=line63;rcases hq with hq | hq
 ·obtain⟨a8,r',pl,hz⟩:=I.list hq;have aG:=r'.length;exact Calls.call_len_list pl.isList (by simp only[Md]<;>lia) ⟨.int ys.length,H,I.tok _,⟨s.toks+1,by rw[Md,aG]⟩,q⟩
 ·obtain⟨a8,r',pl,hz⟩:=I.tuple hq;have aG:=r'.length;exact len_tuple pl (by simp only[Md]<;>lia) ⟨.int ys.length,H,I.tok _,⟨s.toks+1,by rw[Md,aG]⟩,q⟩
def J5:Cf X (.type "list") (λxs H Q=>∃p ys,xs=[.ref p]/\(SqL X.K H p ys\/SqT X.K H p ys)/\∀l,H l=none->Q (.ref l) (upd H l (.lst ys))):=by
 intro pins s Z H xs us Q I r h;obtain⟨p,ys,rfl,hq,q⟩:=h;obtain⟨u,rfl,rx⟩:=B2 r;cases rx;have fin:∀(a8:List aa),Vals ys a8->ys.length<=sizeLine->∀(h':ao) (c':Nat),(∀b o',s.heap.get? b=some o'->h'.get? b=some o') ->
   h'.get? s.heap.objs.size=some {cls:=.type "list",dict:=none,data:=.seq a8.toArray c',slots := #[]}->EP X pins Z Q (.ref s.heap.objs.size) {s with heap:=h'}:=λa8 r' hz h' c' kp e=>
  ⟨.ref s.heap.objs.size,_,I.laid (t':=s.toks) kp (L7 _) (show A3 X.prog X.w _ h' _ (.lst ys) from ⟨hz,a8,c',r',e⟩),rfl,q _ (I.hok.fresh (L7 _))⟩
 rcases hq with hq | hq
 ·obtain⟨a8,r',pl,hz⟩:=I.list hq;have aG:=r'.length;obtain⟨o,ho,hc,n,hd⟩:=pl.isList;exact qz p (.inl rfl) ho hc hd (λh' c' kp e=>fin a8 r' hz h' c' kp e) (by simp only[Md]<;>lia)
 ·obtain⟨a8,r',pl,hz⟩:=I.tuple hq;have aG:=r'.length;obtain⟨o,ho,hc,n,hd⟩:=pl;exact qz p (.inr rfl) ho hc hd (λh' c' kp e=>fin a8 r' hz h' c' kp e) (by simp only[Md]<;>lia)
def Xbe:Cf X (.type "tuple") (λxs H Q=>∃p ys,xs=[.ref p]/\((SqL X.K H p ys/\∀l,H l=none->Q (.ref l) (upd H l (.tup ys)))\/(SqT X.K H p ys/\Q (.ref p) H))):=by
 intro pins s Z H xs us Q I r h;obtain⟨p,ys,rfl,h⟩:=h;obtain⟨u,rfl,rx⟩:=B2 r;cases rx;rcases h with ⟨hq,q⟩ | ⟨hq,q⟩
 ·obtain⟨a8,r',pl,hz⟩:=I.list hq;have aG:=r'.length;refine call_tuple_list pl.isList (λh' kp=>?_) (by simp only[Md]<;>lia);have I1:Inv X pins Z H {s with heap:=h'}:=I.kept (t':=s.toks) kp;have I2:Inv X pins Z (upd H h'.objs.size (.tup ys)) {s with heap:=h'.push {cls:=.type "tuple",data:=.seq a8.toArray} }:=
   I1.laid (t':=s.toks) (λb o e=>Qw _ e) (L7 _) (show A3 X.prog X.w _ _ _ (.tup ys) from ⟨hz,a8,r',iq.new _ _⟩)
  exact⟨.ref h'.objs.size,_,I2,rfl,q _ (I1.hok.fresh (L7 _))⟩
 ·obtain⟨a8,r',pl,hz⟩:=I.tuple hq;exact call_tuple_same pl ⟨.ref p,H,I,rfl,q⟩
def tyV (K:DK) (T:String) (x:V) (H:Hp):Prop:=match x with
 | .str _=>T = "str"
 | .int _=>T = "int"
 | .ref p=>(T = "list" /\ ∃xs,SqL K H p xs)\/(T = "tuple" /\ ∃o,K.lookup p=some o/\o.cls = .type "tuple" /\ o.dict=none) \/
   (T = "dict" /\ ((∃kvs,H p=some (.dK kvs)) \/ ∃kvs,H p=some (.dT kvs)))\/(T = "set" /\ ∃S n,H p=some (.set S n))
 | _=>False
def Xbf       (I:Inv X pins Z H s) (r:Aj x v) (ty:tyV X.K T x H):
  s.TypeIs v T/\∀a,v = .ref a->∃ob,s.heap.get? a=some ob/\ob.dict=none:=by
 cases x with
 | str z=>
  obtain⟨t,rfl⟩:=r;cases (show T = "str" from ty);exact⟨xr s z t,λ_ e=>nomatch e⟩
 | int i=>
  obtain⟨t,rfl⟩:=r;cases (show T = "int" from ty);exact⟨typeIs_int s i t,λ_ e=>nomatch e⟩
 | ref p=>
  cases r;rcases ty with ⟨rfl,xs,hq⟩ | ⟨rfl,o,hk,hc,hd⟩ | ⟨rfl,hk⟩ | ⟨rfl,S,n,hk⟩
  ·obtain⟨a8,_,pl,_⟩:=I.list hq;refine⟨pl.isList.typeIs,λa e=>?_⟩;cases e;obtain⟨o,n,e,c,hd,_⟩:=pl;exact⟨o,e,hd⟩
  ·refine⟨⟨o,I.kIn p o hk,hc⟩,λa e=>?_⟩;cases e;exact⟨o,I.kIn _ o hk,hd⟩
  ·have z:∃o,s.heap.get? p=some o/\o.ExactDict:=by
    rcases hk with ⟨kvs,hk⟩ | ⟨kvs,hk⟩
    ·obtain⟨_,_,_,_,o,_,_,e,ex,_⟩:=I.hok p _ hk;exact⟨o,e,ex⟩
    ·obtain⟨_,_,_,_,o,_,_,e,ex,_⟩:=I.hok p _ hk;exact⟨o,e,ex⟩
   obtain⟨o,e,ex⟩:=z;refine⟨⟨o,e,ex.1⟩,λa e2=>?_⟩;cases e2;exact⟨o,e,ex.2.1⟩
  ·obtain⟨o,_,_,_,e,ex,_⟩:=I.hok p _ hk;refine⟨⟨o,e,ex.1⟩,λa e2=>?_⟩;cases e2;exact⟨o,e,ex.2.1⟩
 | _=>exact False.elim ty
def tBM0 (K:DK) (T:String) (r:V->List V->Hp->VK->Prop) (to:TE):TE:=fun Z H Q=>to Z H λx H1=>tyV K T x H1/\r x [] H1 Q
def tBM (K:DK) (T:String) (r:V->List V->Hp->VK->Prop) (to:TE) (t:TA):TE:=fun Z H Q=>to Z H λx H1=>tyV K T x H1/\t Z H1 λxs H2=>r x xs H2 Q
variable {o e:aA}{es:List aA}{to:TE}{t:TA}{name:ah}{cG bB:bw}{T id:String}{r:V->List V->Hp->VK->Prop}
def Xh6(pa:xu T)(slot:xv T name id)(rR:typeOf (.builtin id)=pure (.type "method_descriptor"))(hm:MtR X id r)(ho:PE X o to)
  (iu:cZ o name X.env (eval o X.env)=eval o X.env:=by rfl) (iw:(cG.endLine==bB.line)=true:=by rfl):PE X (.Call (.Attribute o name cG) [] [] bB) (tBM0 X.K T r to):=by
 intro pins s Z H Q I h;refine wpAny_Call_method0_late iu iw (thn (ho pins s Z H _ I h) λv s1 ⟨x,H1,I1,r1,ty,q1⟩=>?_);obtain⟨h1,h2⟩:=Xbf I1 r1 ty;exact⟨T,id,pa,slot,rR,h1,h2,Calls.callWith_builtin rfl (PySem.evalArgs_none (hm pins s1 Z H1 x [] v [] Q I1 r1 .nil q1))⟩
def Xh7(pa:xu T)(slot:xv T name id)(rR:typeOf (.builtin id)=pure (.type "method_descriptor"))(hm:MtR X id r)(ho:PE X o to)(ha:PA X (e::es) t)
  (iu:cZ o name X.env (eval o X.env)=eval o X.env:=by rfl)
  (rS:((bn bB (az (e::es) X.env)).all (λx => !x.1)&&(bJ bB (aW [] X.env)).all (λx=>x.1.isSome)
   && decide ((e::es).length+([]:List cz).length+(if ([]:List cz).isEmpty then 0 else 1)<30))=true:=by rfl)
  (iw:(cG.endLine==bB.line)=true:=by rfl) (hs:az (e::es) X.env=(false,eval e X.env)::az es X.env:=by rfl) (dB:(bn bB (az es X.env)).any (·.1)=false:=by rfl):
  PE X (.Call (.Attribute o name cG) (e::es) [] bB) (tBM X.K T r to t):=by
 intro pins s Z H Q I h;refine wpAny_Call_method_late iu rS iw rfl (thn (ho pins s Z H _ I h) λv s1 ⟨x,H1,I1,r1,ty,q1⟩=>?_);obtain⟨h1,h2⟩:=Xbf I1 r1 ty;refine⟨T,id,pa,slot,rR,h1,h2,?_⟩;have hA:=ha bB pins s1 Z H1 _ I1 q1;rw[hs] at hA ⊢;refine Calls.callWith_builtin (by show (false||(bn bB (az es X.env)).any (·.1))=false;rw[dB]<;>rfl) (Calls.evalArgs_plain ?_);exact thn hA λus s2 ⟨vs,H2,I2,r2,q2⟩=>hm pins s2 Z H2 x vs v us Q I2 r1 r2 q2
end
def MtM (X:Cx) (id:String) (r:V->List V->Hp->VK->Prop):Prop:=
 ∀pins s Z H (x:V) (xs:List V) (v:aa) (us:List aa) (Q:VK),Inv X pins Z H s->Aj x v->Vals xs us->r x xs H Q ->
  ai (aj X.prog X.w) X.A (call (.builtin id) (v::us)) (EP X pins Z Q) X.xe s
theorem Vals.one:∀{x:V} {us:List aa},Vals [x] us->∃u,us=[u]/\Aj x u
 | _,_,.cons r .nil=>⟨_,rfl,r⟩
def Vals.reverse{xs}(h:Vals xs us):Vals xs.reverse us.reverse:=by
 induction h with
 | nil=>exact .nil
 | cons r t ih=>rw[List.reverse_cons,List.reverse_cons];exact Vals.append ih (.cons r .nil)
section
variable {X:Cx}{pins:List (ae×aI)}{Z:St}{H:Hp}{s:ag}{l b:ae}{xs ys zs:List V}
def Inv.lset{a8 its':List aa}{f}{t'}(I:Inv X pins Z H s)(hH:H l=some (.lst xs))
  (e:s.heap.get? l=some {cls:=.type "list",data:=.seq a8.toArray n}) (hf:f a8.toArray=its'.toArray) (hv:Vals ys its') (hz:ys.length<=sizeLine):
  Inv X pins Z (upd H l (.lst ys)) {s with heap:=s.heap.update l (aI.mapSeq f),toks:=t'}:=by
 have q:=PySem.IsL.update e f;rw[hf] at q;refine I.write (x:=l) (e:=l) (by rw[hH];exact trivial) (.inl rfl) (λb' u hb hu=>(ao.get?_update_other s.heap (aI.mapSeq f) (Ne.symm hb)).trans hu) ⟨_,q⟩ ?_;exact⟨hz,its',_,hv,q⟩
def Inv.lnew{t'}(I:Inv X pins Z H s)(hv:Vals ys a8)(hz:ys.length<=sizeLine):
  Inv X pins Z (upd H s.heap.objs.size (.lst ys)) {s with heap:=s.heap.push {cls:=.type "list",data:=.seq a8.toArray},toks:=t'}:=
 I.laid (λ_ _ q=>Qw _ q) (L7 _) ⟨hz,a8,0,hv,ao.get?_push_size _ rfl⟩
def Inv.fresh(I:Inv X pins Z H s):H s.heap.objs.size=none:=I.hok.fresh (L7 _)
def Inv.lstM(I:Inv X pins Z H s)(hH:H l=some (.lst xs)):xs.length<=sizeLine/\∃(a8:List aa) (n:Nat),Vals xs a8/\xs.length=a8.length/\s.heap.get? l=some {cls:=.type "list",data:=.seq a8.toArray n}:=by
 obtain⟨z,a8,n,r,e⟩:=I.hok l _ hH;exact⟨z,a8,n,r,r.length,e⟩
end
section
variable {X:Cx}
def Xbg:V->List V->Hp->VK->Prop:=λx vs H Q=>∃l xs y,x = .ref l/\vs=[y]/\H l=some (.lst xs)/\xs.length<sizeLine/\Q .non (upd H l (.lst (xs++[y])))
def Xbh:MtM X "list.append" Xbg:=by
 intro pins s Z H x vs v us Q I rx rv h;obtain⟨l,xs,y,rfl,rfl,hH,hz,q⟩:=h;cases rx;obtain⟨u,rfl,ru⟩:=rv.one;obtain⟨z,a8,n,r,hl,e⟩:=I.lstM hH;refine call_meets F.slot_list_append ⟨_,e,rfl⟩ F.entry_list_append (F.args_list_append_2 _ _) (PySem.list_append l a8.toArray n u (by rw[Md];lia)) ⟨e,?_⟩;refine⟨.non,_,I.lset (its':=a8++[u]) hH e (by simp) (r.append (.cons ru .nil)) ?_,rfl,q⟩;rw[Mg,Nh]
 lia
def rCat:R2:=λx y H Q=>∃l b xs zs,x = .ref l/\y = .ref b/\H l=some (.lst xs)/\H b=some (.lst zs)/\xs.length+zs.length<=sizeLine/\∀p,H p=none->Q (.ref p) (upd H p (.lst (xs++zs)))
def B5:OpR X (bC .Add) rCat:=by
 intro pins s Z H x y v u Q I rx ry h;obtain⟨l,b,xs,zs,rfl,rfl,hH,hB,hz,q⟩:=h;cases rx;cases ry;obtain⟨z,a8,n,r,hl,e⟩:=I.lstM hH;obtain⟨z2,kT,n2,r2,fe,e2⟩:=I.lstM hB;refine PySem.P.add_list e e2 ?_ (by rw[Md,Md];lia);have ea:a8.toArray++kT.toArray=(a8++kT).toArray:=by simp
 rw[ea];exact⟨.ref _,_,I.lnew (t':=s.toks) (r.append r2) (by rw[Mg];lia),rfl,q _ I.fresh⟩
def rRep:R2:=λx y H Q=>∃l k xs,x = .ref l/\y = .int k/\H l=some (.lst xs) /\ -(2 ^ 63)<=k/\k<2 ^ 63/\xs.length * k.toNat<=sizeLine /\
 ∀p,H p=none->Q (.ref p) (upd H p (.lst (List.replicate k.toNat xs).flatten))
end
section
variable {prog:au}{w:ay}{A:ax}{E:Zb}{s:ag}
end
section
variable {X:Cx}
end
section
variable {κ : Type} [DecidableEq κ]
def An (kvs:List (κ × V)) (k : κ):Option V:=(kvs.find? λkv=>decide (kv.1=k)).map (·.2)
def A9 (kvs:List (κ × V)) (k : κ) (v:V):List (κ × V):=
 if (kvs.any λkv=>decide (kv.1=k))=true then kvs.map (λkv=>if kv.1=k then (kv.1,v) else kv) else kvs++[(k,v)]
def Xbi (kvs:List (κ × V)) (k : κ):List (κ × V):=kvs.filter λkv=>decide (kv.1≠k)
def Ct{p}{k : κ}(e:p.1=k):An (p::r) k=some p.2:=by simp[An,Om,e]
def Cu{p}{k : κ}(e:¬p.1=k):An (p::r) k=An r k:=by simp[An,Om,e]
theorem D0(k):∀kvs:List (κ × V),(kvs.any λkv=>decide (kv.1=k))=(An kvs k).isSome
 | []=>rfl
 | p::r=>by
  rw[P0];by_cases e:p.1=k
  ·simp only[Ct e,Qr e,Bool.true_or,P9]
  ·rw[Cu e,Qs e,Bool.false_or];exact D0 k r
theorem Xbj(k j)(y):∀kvs:List (κ × V),An (kvs.map λkv=>if kv.1=k then (kv.1,y) else kv) j=(An kvs j).map λx=>if j=k then y else x
 | []=>rfl
 | p::r=>by
  have ih:=Xbj k j y r;rw[Mw];by_cases h:p.1=k
  ·rw[Qq h];by_cases e:p.1=j
   ·rw[Ct (p:=(p.1,y)) e,Ct e,O1,Qq (e.symm.trans h)]
   ·rw[Cu (p:=(p.1,y)) e,Cu e,ih]
  ·rw[Qp h];by_cases e:p.1=j
   ·rw[Ct (p:=p) e,Ct e,O1,Qp (λz=>h (e.trans z))]
   ·rw[Cu (p:=p) e,Cu e,ih]
theorem Xbk(k j)(y):∀kvs:List (κ × V),An kvs k=none->An (kvs++[(k,y)]) j=if j=k then some y else An kvs j
 | [],_=>by
  by_cases e:k=j
  ·rw[Qq e.symm];exact Ct (p:=(k,y)) e
  ·rw[Qp (λz=>e z.symm)];exact Cu (p:=(k,y)) e
 | p::r,hn=>by
  rw[List.cons_append];have hk:¬p.1=k:=λz=>by rw[Ct z] at hn;cases hn
  rw[Cu hk] at hn;have ih:=Xbk k j y r hn;by_cases e:p.1=j
  ·rw[Ct e,Ct e,Qp (λz=>hk (e.trans z))]
  ·rw[Cu e,Cu e,ih]
def G5(kvs)(k j : κ)(y):An (A9 kvs k y) j=if j=k then some y else An kvs j:=by
 unfold A9;by_cases a:(kvs.any λkv=>decide (kv.1=k))=true
 ·rw[Qq a,Xbj];rw[D0] at a;by_cases e:j=k
  ·obtain⟨x,hx⟩:=Ob.mp a;rw[Qq e,e,hx,O1,Qq rfl]
  ·rw[Qp e];cases An kvs j with
   | none=>rfl
   | some x=>rw[O1,Qp e]
 ·rw[Qp a];refine Xbk k j y kvs ?_;rw[D0] at a;cases q:An kvs k with
  | none=>rfl
  | some x=>rw[q] at a;exact(a rfl).elim
def Fz(kvs)(k : κ)(v):(A9 kvs k v).length<=kvs.length+1:=by
 unfold A9;split
 ·rw[L5];lia
 ·rw[Mg,Ml,Oo];lia
def F0{k : κ}(v)(h:An kvs k=none):A9 kvs k v=kvs++[(k,v)]:=by
 unfold A9;rw[D0,h];exact Qp (by decide)
def Br.isSome_eq  (r:Br o u):o.isSome=u.isSome:=by
 cases o with
 | none=>cases u with
  | none=>rfl
  | some _=>exact(show False from r).elim
 | some _=>cases u with
  | none=>exact(show False from r).elim
  | some _=>rfl
def Br.getD{o}   (r:Br o u)(rd:Aj d d'):Aj (o.getD d) (u.getD d'):=by
 cases o with
 | none=>cases u with
  | none=>exact rd
  | some _=>exact(show False from r).elim
 | some _=>cases u with
  | none=>exact(show False from r).elim
  | some _=>exact r
def KV.val  (r:KV kvs vs) (k : κ):Br (An kvs k) (c6 vs k):=by
 unfold KV at r
 induction r with
 | nil=>exact True.intro
 | @cons p q ps qs h t ih=>
  obtain⟨h1,h2⟩:=h;by_cases e:p.1=k
  ·have e':q.1=k:=h1.symm.trans e;have b:c6 (q::qs) k=some q.2:=by simp[c6,Om,e']
   rw[Ct e,b];exact h2
  ·have e':¬q.1=k:=λz=>e (h1.trans z);have b:c6 (q::qs) k=c6 qs k:=by simp[c6,Om,e']
   rw[Cu e,b];exact ih
def KV.any  (r:KV kvs vs) (k : κ):(kvs.any λkv=>decide (kv.1=k))=vs.any λkv=>decide (kv.1=k):=by
 unfold KV at r
 induction r with
 | nil=>rfl
 | cons h t ih=>rw[P0,P0,ih,h.1]
def KV.repl   (r:KV kvs vs) (k : κ)  (ry:Aj y u):
  KV (kvs.map λkv=>if kv.1=k then (kv.1,y) else kv) (vs.map λkv=>if kv.1=k then (kv.1,u) else kv):=by
 unfold KV at r ⊢
 induction r with
 | nil=>exact .nil
 | @cons p q ps qs h t ih=>
  rw[Mw,Mw];refine .cons ?_ ih;obtain⟨h1,h2⟩:=h;by_cases e:p.1=k
  ·rw[Qq e,Qq (h1.symm.trans e)];exact⟨h1,ry⟩
  ·rw[Qp e,Qp (λz=>e (h1.trans z))];exact⟨h1,h2⟩
def KV.put   (r:KV kvs vs) (k : κ)  (ry:Aj y u):KV (A9 kvs k y) (stored vs k u):=by
 unfold A9 stored;rw[r.any k];by_cases e:(vs.any λkv=>decide (kv.1=k))=true
 ·rw[Qq e,Qq e];exact r.repl k ry
 ·rw[Qp e,Qp e];exact Paired.snoc r ⟨rfl,ry⟩
def KV.length{kvs:List (κ × V)}(r:KV kvs vs):kvs.length=vs.length:=Paired.length r
end
def Em    (r:Aj (kV k) u):(Bb P w).is k u=true:=by
 cases k with
 | inl i=>obtain⟨t,e⟩:=(show ∃t,u=aa.int i t from r);subst e;exact Xgx P w i t
 | inr x=>obtain⟨t,e⟩:=(show ∃t,u=aa.str x t from r);subst e;exact Xgy P w x t
theorem Xbl  : ∀{ks:List Key} {us:List aa},Vals (ks.map kV) us->ItemsAre (Bb P w) ks us
 | [],_,r=>by rw[Qa] at r;cases r;exact .nil
 | k::ks,_,r=>by
  rw[Mw] at r;cases r with
  | cons h t=>exact .cons (Em h) (Xbl t)
abbrev KT (H:Hp):List (List Key×V)->List (List Key×ae×aa)->Prop:=Paired λp q=>p.1=q.1/\H q.2.1=some (.tup (p.1.map kV))/\Aj p.2 q.2.2
def KT.val   (r:KT H kvs xs) (k):Br (An kvs k) ((fg xs k).map (·.2)):=by
 induction r with
 | nil=>exact True.intro
 | @cons p q ps qs h t ih=>
  obtain⟨h1,_,h2⟩:=h;by_cases e:p.1=k
  ·have e':q.1=k:=h1.symm.trans e;have b:fg (q::qs) k=some q.2:=by simp[fg,Om,e']
   rw[Ct e,b];exact h2
  ·have e':¬q.1=k:=λz=>e (h1.trans z);have b:fg (q::qs) k=fg qs k:=by simp[fg,Om,e']
   rw[Cu e,b];exact ih
def KT.repl    (r:KT H kvs xs) (k)  (ry:Aj y u):
  KT H (kvs.map λkv=>if kv.1=k then (kv.1,y) else kv) (xs.map (putAt k u)):=by
 induction r with
 | nil=>exact .nil
 | @cons p q ps qs h t ih=>
  rw[Mw,Mw];refine .cons ?_ ih;obtain⟨h1,h2,h3⟩:=h;unfold putAt;by_cases e:p.1=k
  ·rw[Qq e,Qq (h1.symm.trans e)];exact⟨h1,h2,ry⟩
  ·rw[Qp e,Qp (λz=>e (h1.trans z))];exact⟨h1,h2,h3⟩
def KT.put    (r:KT H kvs xs) (k)   (hb:H b=some (.tup (k.map kV))) (ry:Aj y u):
  KT H (A9 kvs k y) (storedH xs k b u):=by
 have e:(kvs.any λkv=>decide (kv.1=k))=(fg xs k).isSome:=by
  rw[D0,(r.val k).isSome_eq,Option.isSome_map]
 unfold A9 storedH;rw[e];by_cases q:(fg xs k).isSome=true
 ·rw[Qq q,Qq q];exact r.repl k ry
 ·rw[Qp q,Qp q];exact Paired.snoc r ⟨rfl,hb,ry⟩
def KT.keeps   (r:KT H kvs xs) (ht:∀b ys,H b=some (.tup ys)->H' b=some (.tup ys)):KT H' kvs xs:=
 Paired.mapP r λ_ _ z=>⟨z.1,ht _ _ z.2.1,z.2.2⟩
section
variable {P:au}{w:ay}{H:Hp}{h:ao}{a:ae}
def Xbm(ok:HOk P w H h)(e:Rd H a u):A3 P w H h a u:=e.ok ok
def Fd(ok:HOk P w H h)(e:Rd H a (.dK kvs)):kvs.length<=sizeLine/\(a==aZ)=false/\∃vs,KV kvs vs/\h.DictOf (Bb P w) a vs:=
 show A3 P w H h a (.dK kvs) from Xbm ok e
def F2(ok:HOk P w H h)(e:H a=some (.dK kvs)):kvs.length<=sizeLine/\(a==aZ)=false/\∃vs,KV kvs vs/\h.DictOf (Bb P w) a vs:=Fd ok (.inl e)
def Fe(ok:HOk P w H h)(e:H a=some (.tup (ks.map kV))):(cC (Bb P w)).is h ks a:=by
 obtain⟨_,a8,r,o,h1,h2,n,h3⟩:=(show A3 P w H h a (.tup (ks.map kV)) from ok a _ e);exact⟨o,a8.toArray,n,h1,h2,h3,by simpa using Xbl r⟩
def Ff(ok:HOk P w H h)(e:Rd H a (.dT kvs)):kvs.length<=sizeLine/\(a==aZ)=false /\
  ∃xs,KT H kvs xs/\h.DictOfH (cC (Bb P w)) a xs:=by
 obtain⟨z,y,xs,r,o,es,ep,h1,h2,h3,h4,h5⟩:=(show A3 P w H h a (.dT kvs) from Xbm ok e);refine⟨z,y,xs,r,o,es,ep,h1,h2,h3,h4,λx hx=>?_,h5⟩;have all:∀{l:List (List Key×V)} {m:List (List Key×ae×aa)},KT H l m->∀x∈m,(cC (Bb P w)).is h x.1 x.2.1:=by
  intro l m q
  induction q with
  | nil=>intro x hx;exact nomatch hx
  | @cons p q ps qs hq t ih=>
   intro x hx;rcases Mb.mp hx with e | hx
   ·subst e;exact Fe ok (by rw[<-hq.1];exact hq.2.1)
   ·exact ih x hx
 exact all r x hx
def Xbn(ok:HOk P w H h)(e:H a=some (.dT kvs)):kvs.length<=sizeLine/\(a==aZ)=false /\
  ∃xs,KT H kvs xs/\h.DictOfH (cC (Bb P w)) a xs:=Ff ok (.inl e)
end
def DGet (H:Hp) (a:ae) (y:V) (r:Option V):Prop:=
 (∃kvs k,Rd H a (.dK kvs)/\y=kV k/\r=An kvs k) \/ ∃kvs k b,Rd H a (.dT kvs)/\y = .ref b/\H b=some (.tup (k.map kV))/\r=An kvs k
def DPut (H:Hp) (a:ae) (y v:V) (H':Hp):Prop:=
 (∃kvs k,H a=some (.dK kvs)/\y=kV k/\kvs.length<sizeLine/\H'=upd H a (.dK (A9 kvs k v))) \/
 ∃kvs k b,H a=some (.dT kvs)/\y = .ref b/\H b=some (.tup (k.map kV))/\kvs.length<sizeLine/\H'=upd H a (.dT (A9 kvs k v))
def DGet.k  {a} {k} (e:H a=some (.dK kvs)):DGet H a (kV k) (An kvs k):=.inl ⟨kvs,k,.inl e,rfl,rfl⟩
def DPut.k  {a} {k} {v} (e:H a=some (.dK kvs)) (hl:kvs.length<sizeLine):DPut H a (kV k) v (upd H a (.dK (A9 kvs k v))):=.inl ⟨kvs,k,e,rfl,hl,rfl⟩
section
variable {X:Cx}{pins:List (ae×aI)}{Z:St}{H:Hp}{s:ag}{a:ae}{y v:V}{u r:aa}{o:Option V}{A:ax}{E:Zb}
def Inv.big(I:Inv X pins Z H s):aZ<s.heap.objs.size:=by
 have h:am<s.heap.objs.size:=(I.mod.glob.keeps I.bk).lt;exact Oi (by decide) h
def d_getItem(hu:A.units+1<bx)(I:Inv X pins Z H s)(g:DGet H a y (some v))(ry:Aj y u)(h:∀w' s',Inv X pins Z H s'->Aj v w'->Q w' s'):
  ai (aj X.prog X.w) A (dv (.ref a) u) Q E s:=by
 rcases g with ⟨kvs,k,e,ey,l⟩ | ⟨kvs,k,b,e,ey,eb,l⟩
 ·subst ey;obtain⟨z,hd,vs,c9,dd⟩:=Fd I.hok e;obtain⟨w',hw,gB⟩:=Br.some_of (v:=v) (o:=c6 vs k) (by rw[l];exact c9.val k);exact wpAny_getItem_of (Em ry) dd.mapOf hw (h w' _ (I.tok _) gB)
 ·subst ey;cases (show u=aa.ref b from ry);obtain⟨z,hd,xs,c9,dd⟩:=Ff I.hok e;obtain⟨w',hw,gB⟩:=Br.some_of (v:=v) (o:=(fg xs k).map (·.2)) (by rw[l];exact c9.val k);obtain⟨p,hp,ia⟩:=Ot.mp hw;refine wpAny_getItem_heap (cc hu) (Fe I.hok eb) dd hp ?_;rw[ia];exact h w' _ (I.tok _) gB
def Xh8(hu:A.units+1<bx)(I:Inv X pins Z H s)(g:DGet H a y o)(ry:Aj y u)(h:∀s',Inv X pins Z H s'->Q (.bool (!o.isSome)) s'):
  ai (aj X.prog X.w) A (aE .NotIn u (.ref a)) Q E s:=by
 rcases g with ⟨kvs,k,e,ey,l⟩ | ⟨kvs,k,b,e,ey,eb,l⟩
 ·subst ey;obtain⟨z,hd,vs,c9,dd⟩:=Fd I.hok e;refine wpAny_notIn_of (Em ry) hd dd.mapOf ?_;rw[<-(c9.val k).isSome_eq,<-l];exact h _ (I.tok _)
 ·subst ey;cases (show u=aa.ref b from ry);obtain⟨z,hd,xs,c9,dd⟩:=Ff I.hok e;refine wpAny_notIn_heap (cc hu) (Fe I.hok eb) hd dd ?_;have q:=(c9.val k).isSome_eq;rw[Option.isSome_map] at q;rw[<-q,<-l];exact h _ (I.tok _)
def F3   (I:Inv X pins Z H s) (mu:Mut (H a)) (hs:ao.SameBut a s.heap h') (he:∃q,h'.get? a=some q) (new:A3 X.prog X.w (upd H a ob) h' a ob):
  Inv X pins Z (upd H a ob) {s with heap:=h',toks:=t'}:=
 I.write (x:=a) (e:=a) mu (.inl rfl) (λb q hb z=>(hs.2 b hb).trans z) he new
def J6      (z:kvs.length<=sizeLine) (hd:(a==aZ)=false) (c9:KV kvs vs) (dd:h'.DictOf (Bb P w) a vs):
  A3 P w H' h' a (.dK kvs):=⟨z,hd,vs,c9,dd⟩
def Xh9  (hu:A.units+1<bx) (I:Inv X pins Z H s) (g:DPut H a y v H') (ry:Aj y u) (rv:Aj v r) (h:∀s',Inv X pins Z H' s'->Q () s'):
  ai (aj X.prog X.w) A (rK (.ref a) u r) Q E s:=by
 rcases g with ⟨kvs,k,e,ey,l,eH⟩ | ⟨kvs,k,b,e,ey,eb,l,eH⟩
 ·subst ey eH;obtain⟨z,hd,vs,c9,dd⟩:=F2 I.hok e;have hz:vs.length<=sizeLine:=by rw[<-c9.length];exact z
  have hl:(A9 kvs k v).length<=sizeLine:=by have:=Fz kvs k v;lia
  refine wpAny_setItem_pairs (hsz:=hz) (Em ry) dd λh' ib hs=>h _ ?_;have he:∃q,h'.get? a=some q:=let ⟨q,_,_,hq,_⟩:=ib; ⟨q,hq⟩;exact F3 I (by rw[e];exact True.intro) hs he (J6 hl hd (c9.put k rv) ib)
 ·subst ey eH;cases (show u=aa.ref b from ry);obtain⟨z,hd,xs,c9,dd⟩:=Xbn I.hok e;have hz:xs.length<=sizeLine:=by rw[<-Paired.length c9];exact z
  have hl:(A9 kvs k v).length<=sizeLine:=by have:=Fz kvs k v;lia
  refine wpAny_setItem_heap (hsz:=hz) (cc hu) (Fe I.hok eb) dd λh' ib hs=>h _ ?_;obtain⟨q,es,ep,hq,h2,h3,h4,_,h5⟩:=ib;refine F3 I (by rw[e];exact True.intro) hs ⟨q,hq⟩ ⟨hl,hd,_,(c9.put k eb rv).keeps λc ys ec=>?_,q,es,ep,hq,h2,h3,h4,h5⟩;rw[Ad (Jk ec e (λz=>nomatch z))];exact ec
end
section
variable {X:Cx}{pins:List (ae×aI)}{Z:St}{H:Hp}{s:ag}{a:ae}{kvs:List (Key×V)}{k:Key}{u:aa}{A:ax}{E:Zb}
end
def Xbo (i:aA):Prop:=∀ov iv,subscripted i false ov iv=operate [ov,iv] (dv ov iv)
def Xia         {T id} (hl:ju (.type T) "__getitem__" = pure (some (.builtin id))) (hs:Xbo slice)
  (h:ai (aj prog w) A (eval value env) (λo s₁=>ai (aj prog w) A (eval slice env) (λi s₂=>s₂.TypeIs o T/\ai (aj prog w) A (dv o i) Q E s₂) E s₁) E s):
  ai (aj prog w) A (eval (.Subscript value slice pos) env) Q E s:=by
 refine fc (aK h (λo s₁ h₁=>aK h₁ (λi s₂ h₂=>?_) λ_ _ x=>x) λ_ _ x=>x);obtain⟨hT,h₂⟩:=h₂;unfold gc;refine Qm ?_;rw[getitemInPython_of_ne hT.not_modules];refine Qm (mn hT hl ?_);have fin:ai (aj prog w) A (subscripted slice false o i) (λr s₃=>ai (aj prog w) A (letTemporaryGo value o r >>= λ_=>pure r) Q E s₃) E s₂:=by
  rw[hs o i];exact wpAny_operating (aK h₂ (λr s₃ h₃=>Qm (wpAny_letTemporaryGo (Qn h₃))) λ_ _ x=>x)
 first
  | exact Qn (Qm fin)
  | exact Qm (Qn (Qm fin))
  | exact Qm fin
def Xib        (I:Inv X pins Z H s) (g:DGet H a y o):s.TypeIs (.ref a) "dict" := by
 rcases g with ⟨kvs,k,e,_,_⟩ | ⟨kvs,k,b,e,_,_,_⟩
 ·obtain⟨_,_,vs,_,dd⟩:=Fd I.hok e;exact dd.typeIs
 ·obtain⟨_,_,xs,_,dd⟩:=Ff I.hok e;exact dd.typeIs
def Xic (td ty:TE):TE:=fun Z H Q=>td Z H λx H1=>ty Z H1 λy H2=>∃a v,x = .ref a/\DGet H2 a y (some v)/\Q v H2
def tDIn (ty td:TE):TE:=fun Z H Q=>ty Z H λy H1=>td Z H1 λx H2=>∃a o,x = .ref a/\DGet H2 a y o/\Q (.bl o.isSome) H2
def Xid (ty td:TE):TE:=fun Z H Q=>ty Z H λy H1=>td Z H1 λx H2=>∃a o,x = .ref a/\DGet H2 a y o/\Q (.bl (!o.isSome)) H2
def Xie (td ty tv:TE):TS:=λD Z H=>tv Z H λv H1=>td Z H1 λx H2=>ty Z H2 λy H3=>∃a H4,x = .ref a/\DPut H3 a y v H4/\D.nx Z H4
def sDAug (td ty tv:TE) (rd:V->V->Hp->VK->Prop):TS:=λD Z H=>td Z H λx H1=>ty Z H1 λy H2=>∃a v,x = .ref a/\DGet H2 a y (some v) /\
 tv Z H2 λy2 H3=>rd v y2 H3 λz H4=>∃H5,DPut H4 a y z H5/\D.nx Z H5
def sDDel (td ty:TE):TS:=λD Z H=>td Z H λx H1=>ty Z H1 λy H2=>∃a kvs k,x = .ref a/\H2 a=some (.dK kvs)/\y=kV k/\(An kvs k).isSome=true/\D.nx Z (upd H2 a (.dK (Xbi kvs k)))
section
variable {X:Cx}{o i e value:aA}{pos fV rP:bw}{td ty tv:TE}
def B0(hu:X.A.units+1<bx)(ho:PE X o td)(hi:PE X i ty)(hs:Xbo i):PE X (.Subscript o i pos) (Xic td ty):=by
 intro pins s Z H Q I h;refine Xia PySem.F.slot_dict_getitem.lookup hs (thn (ho pins s Z H _ I h) λu s1 ⟨x,H1,I1,rx,q1⟩=>thn (hi pins s1 Z H1 _ I1 q1) λiv s2 ⟨y,H2,I2,ry,a,v,ex,g,q2⟩=>?_);subst ex;obtain rfl:u=aa.ref a:=rx;exact⟨Xib I2 g,d_getItem hu I2 g ry λw' s3 I3 gB=>⟨v,H2,I3,gB,q2⟩⟩
def Xif(hu:X.A.units+1<bx)(hi:PE X i ty)(ho:PE X o td):PC X .NotIn i o (Xid ty td):=by
 intro pins s Z H Q I h;refine thn (hi pins s Z H _ I h) λiv s1 ⟨y,H1,I1,ry,q1⟩=>thn (ho pins s1 Z H1 _ I1 q1) λu s2 ⟨x,H2,I2,rx,a,ov,ex,g,q2⟩=>?_;subst ex;obtain rfl:u=aa.ref a:=rx;exact Xh8 hu I2 g ry λs3 I3=>⟨.bl (!ov.isSome),H2,I3,rfl,q2⟩
def Xbp(hu:X.A.units+1<bx)(ho:PE X o td)(hi:PE X i ty)(hv:PE X value tv)(hs:cV value (some (.Subscript o i fV)) pos.line X.env=pure false):
  PS X (.Assign [.Subscript o i fV] value pos) (Xie td ty tv):=by
 intro pins s Z H D I h;refine wpAny_Assign_Subscript (thn (hv pins s Z H _ I h) λr s1 ⟨v,H1,I1,rv,q1⟩=>thn (ho pins s1 Z H1 _ I1 q1) λu s2 ⟨x,H2,I2,rx,q2⟩=>thn (hi pins s2 Z H2 _ I2 q2) λiv s3 ⟨y,H3,I3,ry,a,H4,ex,g,q3⟩=>?_) hs;subst ex;obtain rfl:u=aa.ref a:=rx;exact Xh9 hu I3 g ry rv λs4 I4=>⟨Z,H4,I4,q3⟩
end
def Xbq   (h:ao) (hb:aZ<h.objs.size):A3 P w H (h.push {cls:=.type "dict",data:=.dict #[]}) h.objs.size (.dK []):=
 ⟨M3 _,beq_eq_false_iff_ne.mpr (Ne.symm (L9 hb)),[],.nil,ao.DictOf.new h⟩
def Xig   (h:ao) (hb:aZ<h.objs.size):A3 P w H (h.push {cls:=.type "dict",data:=.dict #[]}) h.objs.size (.dT []):=
 ⟨M3 _,beq_eq_false_iff_ne.mpr (Ne.symm (L9 hb)),[],.nil,_, #[],0,ao.get?_push_size _ rfl,⟨rfl,rfl,rfl⟩,rfl,rfl,Qe⟩
def Xih:TE:=λ_ H Q=>∀p,H p=none->Q (.ref p) (upd H p (.dK []))
section
variable {X:Cx}{pos:bw}
def Xbr:PE X (.Dict [] [] pos) Xih:=λpins s Z H Q I h=>
 wpAny_Dict_empty ⟨.ref s.heap.objs.size,_,I.laid (a:=s.heap.objs.size) (o:=.dK []) (t':=s.toks) (λ_ _ q=>Qw _ q) (L7 _) (Xbq s.heap I.big),rfl,h _ (I.hok.fresh (L7 _))⟩
end
def J7:List (TE×TE)->St->Hp->(List (V×V)->Hp->Prop)->Prop
 | [],_,H,Q=>Q [] H
 | (tk,tv)::r, Z,H,Q=>tk Z H λx H1=>tv Z H1 λy H2=>J7 r Z H2 λps H3=>Q ((x,y)::ps) H3
abbrev VV:List (V×V)->List (aa×aa)->Prop:=Paired λp q=>Aj p.1 q.1/\Aj p.2 q.2
def PPs (X:Cx) (pos:bw) (keys:List (Option aA)) (kU:List aA) (n0:List (TE×TE)):Prop:=
 ∀pins s Z H (Q:List (V×V)->Hp->Prop),Inv X pins Z H s->J7 n0 Z H Q ->
  ai (aj X.prog X.w) X.A (evalPairs (pairTrees keys kU X.env pos)) (λvs s'=>∃ps H',Inv X pins Z H' s'/\VV ps vs/\Q ps H') X.xe s
def Xii  : PPs X pos [] [] []:=λpins s Z H Q I h=>pairTrees_nil_walk ⟨[],H,I,.nil,h⟩
def Xij       (hk:PE X k tk) (hv:PE X v tv) (hr:PPs X pos ks vs n0):
  PPs X pos (some k::ks) (v::vs) ((tk,tv)::n0):=λpins s Z H Q I h=>
 pairTrees_cons_walk (thn (hk pins s Z H _ I h) λu s1 ⟨x,H1,I1,rx,q1⟩=>thn (hv pins s1 Z H1 _ I1 q1) λw2 s2 ⟨y,H2,I2,ry,q2⟩=>
  thn (hr pins s2 Z H2 _ I2 q2) λws s3 ⟨ps,H3,I3,c9,q3⟩=>⟨(x,y)::ps,H3,I3,.cons ⟨rx,ry⟩ c9,q3⟩)
def Xik (kvs bL:List (Key×V)):List (Key×V):=bL.foldl (λacc kv=>A9 acc kv.1 kv.2) kvs
def tDisp (n0:List (TE×TE)):TE:=fun Z H Q=>∀p,H p=none->J7 n0 Z (upd H p (.dK [])) λps H2=>H2 p=some (.dK [])/\∃kvs:List (Key×V),ps=kvs.map (λkv=>(kV kv.1,kv.2))/\kvs.length<=15/\Q (.ref p) (upd H2 p (.dK (Xik [] kvs)))
structure M1 (X:Cx) (o:aA) (m:ah) (cG:bw) (e:aA) (bB:bw):Prop where
 base:cZ o m X.env (eval o X.env)=eval o X.env
 few:((bn bB (az [e] X.env)).all (λx => !x.1)&&(bJ bB (aW [] X.env)).all (λx=>x.1.isSome)
  && decide (([e]:List aA).length+([]:List cz).length+(if ([]:List cz).isEmpty then 0 else 1)<30))=true
 line:(cG.endLine==bB.line)=true
 trees:bn bB (az [e] X.env)=[(false,eval e X.env)]
structure M2 (X:Cx) (o:aA) (m:ah) (cG:bw) (e f:aA) (bB:bw):Prop where
 base:cZ o m X.env (eval o X.env)=eval o X.env
 few:((bn bB (az [e,f] X.env)).all (λx => !x.1)&&(bJ bB (aW [] X.env)).all (λx=>x.1.isSome)
  && decide (([e,f]:List aA).length+([]:List cz).length+(if ([]:List cz).isEmpty then 0 else 1)<30))=true
 line:(cG.endLine==bB.line)=true
 trees:bn bB (az [e,f] X.env)=[(false,eval e X.env),(false,eval f X.env)]
def IsD (H:Hp) (a:ae):Prop:=(∃kvs,Rd H a (.dK kvs)) \/ ∃kvs,Rd H a (.dT kvs)
def Xbs      (I:Inv X pins Z H s) (d:IsD H a):
  s.TypeIs (.ref a) "dict" /\ (∀b,aa.ref a = .ref b->∃ob,s.heap.get? b=some ob/\ob.dict=none)/\(a==aZ)=false:=by
 rcases d with ⟨kvs,e⟩ | ⟨kvs,e⟩
 ·obtain⟨_,hd,vs,_,dd⟩:=Fd I.hok e;refine⟨dd.typeIs,λb q=>?_,hd⟩;cases q;obtain⟨ob,_,_,h1,h2,_⟩:=dd;exact⟨ob,h1,h2.2.1⟩
 ·obtain⟨_,hd,xs,_,dd⟩:=Ff I.hok e;refine⟨dd.typeIs,λb q=>?_,hd⟩;cases q;obtain⟨ob,_,_,h1,h2,_⟩:=dd;exact⟨ob,h1,h2.2.1⟩
section
variable {X:Cx}{pins:List (ae×aI)}{Z:St}{H:Hp}{s:ag}{a:ae}{y d:V}{u r:aa}{o:Option V}{A:ax}{E:Zb}
def Xil(hu:A.units+1<bx)(I:Inv X pins Z H s)(g:DGet H a y o)(ry:Aj y u)(rd:Aj d r)(h:∀w' s',Inv X pins Z H s'->Aj (o.getD d) w'->Q w' s'):
  ai (aj X.prog X.w) A (call (.builtin "dict.get") [.ref a,u,r]) Q E s:=by
 rcases g with ⟨kvs,k,e,ey,l⟩ | ⟨kvs,k,b,e,ey,eb,l⟩
 ·subst ey;obtain⟨z,hd,vs,c9,dd⟩:=Fd I.hok e;refine dC PySem.F.slot_dict_get dd.typeIs PySem.F.entry_dict_get (PySem.F.args_dict_get_3 _ _ _) (meets_dict_get_default (Bb X.prog X.w) a (Em ry) hd r) ⟨_,dd.mapOf,h _ _ (I.tok _) ?_⟩;rw[l];exact(c9.val k).getD rd
 ·subst ey;cases (show u=aa.ref b from ry);obtain⟨z,hd,xs,c9,dd⟩:=Ff I.hok e;refine dC PySem.F.slot_dict_get dd.typeIs PySem.F.entry_dict_get (PySem.F.args_dict_get_3 _ _ _) (meetsH_dict_get_default (cC (Bb X.prog X.w)) a b hd r) ⟨cc hu,k,xs,Fe I.hok eb,dd,h _ _ (I.tok _) ?_⟩;rw[l];exact(c9.val k).getD rd
end
def Xim (td ty tx:TE):TE:=fun Z H Q=>td Z H λx H1=>∃a,x = .ref a/\IsD H1 a/\ty Z H1 λy H2=>tx Z H2 λz H3=>∃o,DGet H3 a y o/\Q (o.getD z) H3
def Xqx (td ty:TE):TE:=fun Z H Q=>td Z H λx H1=>∃a,x = .ref a/\IsD H1 a/\ty Z H1 λy H2=>∃kvs k v,H2 a=some (.dK kvs)/\y=kV k/\An kvs k=some v/\Q v (upd H2 a (.dK (Xbi kvs k)))
section
variable {X:Cx}{o e f:aA}{cG bB:bw}{td ty tx:TE}
def Xbt(hu:X.A.units+1<bx)(ho:PE X o td)(he:PE X e ty)(hf:PE X f tx)(m:M2 X o "get" cG e f bB):PE X (.Call (.Attribute o "get" cG) [e,f] [] bB) (Xim td ty tx):=by
 intro pins s Z H Q I h;refine jV m.base m.few m.line PySem.F.plainAttrs_dict PySem.F.slot_dict_get PySem.F.type_dict_get (thn (ho pins s Z H _ I h) λu s1 ⟨x,H1,I1,rx,a,ex,d,q1⟩=>?_);subst ex;obtain rfl:u=aa.ref a:=rx;obtain⟨t1,t2,_⟩:=Xbs I1 d;refine⟨t1,t2,?_⟩;rw[m.trees];refine Calls.callWith_builtin rfl (Calls.evalArgs_plain (Calls.spliced_cons (thn (he pins s1 Z H1 _ I1 q1) λiv s2 ⟨y,H2,I2,ry,q2⟩=>
  Calls.spliced_cons (thn (hf pins s2 Z H2 _ I2 q2) λfv s3 ⟨z,H3,I3,rz,ov,g,q3⟩=>Calls.spliced_nil ?_))))
 exact Xil hu I3 g ry rz λw' s4 I4 gB=>⟨_,H3,I4,gB,q3⟩
end
section
variable {X:Cx}{pins:List (ae×aI)}{Z:St}{H:Hp}{s:ag}{a:ae}{kvs:List (Key×V)}{A:ax}{E:Zb}
end
section
variable {X:Cx}{pins:List (ae×aI)}{Z:St}{H:Hp}{s:ag}{a:ae}{y:V}{u:aa}{A:ax}{E:Zb}
end
end L2
namespace Att
open PySem PySem.W PySem.Calls PyProof.Rows
def Xin  : ∀ns vs,WellAll P h vs (ns.map WData.int)->cW vs ns:=by
 intro ns
 induction ns with
 | nil=>
  intro vs w;rw[Qa] at w;cases w;exact .nil
 | cons n ns ih=>
  intro vs w;rw[Mw] at w;cases w with
  | cons a b=>
   cases a;exact .cons _ _ (ih _ b)
def Xio{l:OpenLaw}  (hn:l.most=some n)    (jv:l.row.toRowW.claim.pre args=true)(nA:WellAll P h nB args):
  ∃a vs ns,nB=[aa.ref a]/\args=[WData.list (ns.map WData.int)]/\h.get? a=some {cls:=.type "list",data:=.seq vs.toArray}/\cW vs ns/\ns.length<=n:=by
 have xw:WShape.hasAll [] args [.list .int]=true:=(pre_splitW jv).1;have hc:l.pre.holds [] {args:=args}=true:=(pre_splitW jv).2;obtain⟨d,r,rfl,h1,h2⟩:=hasAllW_cons xw;obtain rfl:=hasAllW_nil h2;obtain⟨xs,rfl,h3⟩:=hasW_list h1;obtain⟨ns,rfl⟩:=items_int h3;have aG:ns.length<=n:=by
  unfold OpenLaw.pre at hc;have h4:(WTm.not (.lt (.lit (.int (n:Int))) (.len (.arg 0)))).holds [] {args:=[.list (ns.map .int)]}=true:=by
   have h4:=(holds_andW hc).1;rw[hn] at h4;exact h4
  have h5:=condW_of h4 (w_not (w_lt w_lit (w_len_list (w_arg rfl))));rw[L5] at h5;refine Nat.le_of_not_lt λq=>?_;have q':(n:Int)<((ns.length:Nat):Int):=by lia
  first
   | (rw[Qr q'] at h5;exact absurd h5 (by decide))
   | (simp at h5;lia)
 cases nA with
 | cons w1 w2=>
  cases w2;cases w1 with
  | list ho bN=>exact⟨_,_,ns,rfl,rfl,ho,Xin ns _ bN,aG⟩
def Xip(l:OpenLaw)(args):l.row.toRowW.claim.post args (.bool true) args=true:=
 postW_of (r:=l.row.toRowW) (X:=(true==true))
  (show WShape.has [] (.bool true) .bool=true by first | rfl | decide | simp[WShape.has,WShape.arms,WShape.armsAll])
  (show (WTm.eq .res (.lit (.bool true))).value [] {args:=args,res:=some (.bool true),after:=args}=some (.bool (true==true)) from w_eq_bool (w_res rfl) w_lit) rfl
def attach_call{l:OpenLaw}      (hn:l.most=some n)(nC:d.params.defaults=[])
  (call:∀(w:ay) (s₀ s₁ : ag) (mg mb:ah->Option aa) (fa:ae) (o:aI) (pm cd cK:aa) (a:ae) (vs:List aa) (ns:List Int),
   Ground q loose [] XP w s₀ mg mb s₁.heap->YP w s₁.heap ->
   s₁.heap.get? fa=some o->o.data = .func (docDef d.name d.params d.body d.scope pm cd cK)->s₁.heap.CodeRec cd d.name->mg d.name=some (.ref fa) ->
   s₁.heap.get? a=some {cls:=.type "list",data:=.seq vs.toArray}->cW vs ns->ns.length<=n->s₁.gens = #[] ->
   bi (aj l.prog w) dD (.call (.ref fa) ⟨[.ref a],[]⟩) (λr s'=>r = .ok (.ret (.bool true))/\xy s₁.heap s'.heap/\s'.os=s₁.os/\cq s'.gens) s₁):
  WalkO q loose XP YP l.row.toRowW d [] (λf vs=>PySem.call f vs):=by
 intro w s₀ s₁ mg mb G Y fa o pm cd cK dV kV ho hd fP hD hmg hg args nB as jv nE B' nA qA;obtain rfl:dV = .none:=Dflts.none hD nC;obtain rfl:kV = .none:=Dflts.noKw hD;obtain⟨a,vs,ns,rfl,rfl,kW,ix,aG⟩:=Xio hn jv nA;refine enter_call (bv (call w s₀ s₁ mg mb fa o pm cd cK a vs ns G Y ho (fd_plain hd) fP hmg kW ix aG hg) λr s' hq=>?_);obtain⟨rfl,h2,h3,h4⟩:=hq;exact⟨.inl ⟨.bool true,.bool true,[],rfl,λ_=>rfl,.bool true,Xip l _,λ_=>⟨List.Pairwise.nil,λ_ hm=>(nomatch hm)⟩⟩,h2,h3,h4⟩
section
variable {prog:au}{w:ay}{A:ax}{E:Zb}{s:ag}{K:Frag}
def ledger (h:ao) (L d:ae):List (ae×aI):=(List.range h.objs.size).filterMap λa=>if a=L\/a=d then none else (h.get? a).map λo=>(a,o)
end
end Att
namespace L2
theorem Xbu:∀{vs:List aa} {ns:List Int},cW vs ns->Vals (ns.map V.int) vs
 | _,_,.nil=>.nil
 | _,_,.cons n t h=>.cons ⟨t,rfl⟩ (Xbu h)
def Only (H:Hp):Prop:=∀b,H b=none \/ ∃o xs,H b=some (.frz o (.lst xs))
abbrev KOf {K:DK} {h:ao} (_:K.In h):DK:=K
def Xqy (s:aO) (j:Nat):aO:=match s with
 | .ClassDef _ _ _ body _ _ _ _ _ _ _=>body.getD j (.Pass ⟨0,0,0,0⟩)
 | _=>.Pass ⟨0,0,0,0⟩
def Dl (s:aO):cb:=match s with
 | .FunctionDef _ a _ _ _ _ _ _ _ _=>a
 | _=>{posonlyargs:=[],args:=[],vararg:=none,kwonlyargs:=[],kw_defaults:=[],kwarg:=none,defaults:=[]}
def B1 (s:aO):List aO:=match s with
 | .FunctionDef _ _ b _ _ _ _ _ _ _=>b
 | _=>[]
def defScope (s:aO):bj:=match s with
 | .FunctionDef _ _ _ _ _ _ sc _ _ _=>sc
 | _=>{kind:=.function,names:=[],isGenerator:=false,isCoroutine:=false}
abbrev CX0:CXT:=λ_ _ _ _ _ _=>False
abbrev E0:XK:=λ_ _ _=>False
def Al:Passes CX0 X E0:=λ_ _ _ _ _ _ _ h=>h.elim
structure Fun (K:DK) (x qual:ah) (st:aO) (f:ae) (fd:aw):Prop where
 ex:∃(oc:aa) (od:Option ae) (kV cK pm:aa) (an:Option ae) (cdv ct:aa) (fX:Array (Option aa)),
  fd=DT x qual (Dl st) (B1 st) (defScope st) .none kV cK pm an cdv ct/\K.lookup f=some ⟨oc,od,.func fd,fX⟩/\DV K cdv qual=true
 kp:DQ K (.ref f)=true
section
variable {P:au}{w:ay}{K:DK}{mg:ah->Option aa}{base:ao}
def Fun.ok{x qual}{st}  {fd}   (F:Fun K x qual st f fd)(S:FnScope N ps (defScope st))(len:∀vs H Q E,sp vs H Q E->vs.length=ps.length)
  (dy:∀(cdv:aa) (A:ax) (outer:List dm) (s:ag) (H:Hp) (vs:List V) (Q:VK) (E:XK),Room k (A.deeper (aH qual (defScope st) s.heap.objs.size f cdv))->sp vs H Q E ->
   ∃t,PSs (Bz CX0 P w K mg base N qual (defScope st) f cdv A outer s H E).nox (B1 st) t/\t {nx:=λ_ H'=>Q .non H',rt:=Q} (start N vs) H):FnOk P w K mg base CX0 (k+1) f fd ps sp:=by
 obtain⟨oc,od,kV,cK,pm,an,cdv,ct,fX,rfl,lk,fP⟩:=F.ex;refine Jy lk fP S len λA outer s H vs Q E hr fQ=>?_;obtain⟨t,h,q⟩:=dy cdv A outer s H vs Q E hr fQ;exact⟨t,h.nox,q⟩
def Fun.binds  {st}   (F:Fun K x qual st f fd)
  (h:∀(kV cK pm:aa) (an:Option ae) (cdv ct:aa) (us:List aa),us.length=ps.length->cD (DT x qual (Dl st) (B1 st) (defScope st) .none kV cK pm an cdv ct) ⟨us,[]⟩=pure (ps.zip us)):Binds K fd ps []:=by
 obtain⟨oc,od,kV,cK,pm,an,cdv,ct,fX,rfl,lk,fP⟩:=F.ex;exact .all (h kV cK pm an cdv ct)
def Xbv  {st}    {kV cK pm cdv ct} (l:K.lookup f=some ⟨oc,od,.func (DT x qual (Dl st) (B1 st) (defScope st) .none kV cK pm an cdv ct),fX⟩)
  (c:DV K cdv qual=true) (k:DQ K (.ref f)=true):Fun K x qual st f (DT x qual (Dl st) (B1 st) (defScope st) .none kV cK pm an cdv ct):=⟨⟨oc,od,kV,cK,pm,an,cdv,ct,fX,rfl,l,c⟩,k⟩
end
def Dm  (hr:Room k A):A.units+1<bx:=Qb (Nat.add_le_add_left (by decide:1<=64) _) hr.units
section
variable {X:Cx}
def pv(i:Nat)  (hN:X.N[i]? = some x:=by rfl)(hv:Vis X.env.scope x:=by first | exact Or.inl rfl | exact Or.inr (.inl rfl) | exact Or.inr (.inr rfl))(hd:(x==("__debug__" : ah))=false:=by decide)
  (fP:(x==("__classdict__" : ah))=false:=by decide):PE X (.Name x pos) (Xad i):=Xg4 hN hv hd fP
end
def Bt{A B:Prop}(h:B):if false=true then A else B:=by
 rw[Qp Mr];exact h
def Cv{A B:Prop}(h:A):if true=true then A else B:=by
 rw[Qq rfl];exact h
def Xiq{c A B:Prop}[Decidable c](hc:c)(h:B):if (!decide c)=true then A else B:=by
 rw[Qr hc];exact Bt h
def Same (H H':Hp):Prop:=∀b o,H b=some o->H' b=some o
def Same.refl(H):Same H H:=λ_ _ h=>h
def Same.trans(a:Same H H1)(b:Same H1 H2):Same H H2:=λc o h=>b c o (a c o h)
def Same.free  (e:Same H H') (h:H' l=Option.none):H l=Option.none:=by
 cases q:H l with
 | none=>rfl
 | some o=>
  rw[e l o q] at h;cases h
def Same.seq{K}   (e:Same H H')(h:SqL K H a xs):SqL K H' a xs:=by
 rcases h with (h | ⟨o,h⟩) | h
 ·exact .inl (.inl (e _ _ h))
 ·exact .inl (.inr ⟨o,e _ _ h⟩)
 ·exact .inr h
section
variable {X:Cx}
end
section
variable {κ : Type} [DecidableEq κ]
def Xir{k : κ}(h:An kvs k=none):¬k∈kvs.map (·.1):=by
 intro m;obtain⟨p,hp,e⟩:=Mo.mp m;have q:(kvs.any λkv=>decide (kv.1=k))=true:=Od.mpr ⟨p,hp,Qr e⟩;rw[D0,h] at q;exact absurd q (by simp)
def G6  {k : κ} (h:An kvs k=some v):k∈kvs.map (·.1):=by
 have q:(kvs.any λkv=>decide (kv.1=k))=true:=by
  rw[D0,h]
  all_goals rfl
 obtain⟨p,hp,e⟩:=Od.mp q;exact Mo.mpr ⟨p,hp,Qt e⟩
theorem nd_snoc:∀{l:List κ} {k : κ},l.Nodup->¬k∈l->(l++[k]).Nodup
 | [],k,_,_=>by simp
 | a::r,k,h,hk=>by
  obtain⟨h1,h2⟩:=M9.mp h;show (a::(r++[k])).Nodup;refine M9.mpr ⟨λm=>?_,nd_snoc h2 λm=>hk (Mb.mpr (Or.inr m))⟩;rcases Mm.mp m with q | q
  ·exact h1 q
  ·exact hk (Mb.mpr (Or.inl (Mi.mp q).symm))
def Xis{k : κ}(v)(hn:(kvs.map (·.1)).Nodup)(h:An kvs k=none):((A9 kvs k v).map (·.1)).Nodup:=by
 rw[F0 v h,Mn];exact nd_snoc hn (Xir h)
end
def Bv (env:dm):List (ah×aD)->List (ah×ae)->List (ah×ae)
 | [],cs=>cs
 | (n,k)::r,cs=>if k == .free then Bv env r ((n,(env.cells.lookup n).getD 0)::cs) else Bv env r cs
theorem J8:∀names cs,(∀x∈names,x.2 = .free->∃c,env.cells.lookup x.1=some c) ->
  (forIn names cs fun (x : ah × aD) r => (if (x.2 == .free) = true then do        let c <- nF env x.1; pure (ForInStep.yield ((x.1, c) :: r)) else pure (ForInStep.yield r) : eR (ForInStep (List (ah × ae))))) = pure (Bv env names cs)
 | [],cs,_=>rfl
 | (n,k)::r,cs,h=>by
  rw[Ph];cases hk:(k==aD.free) with
  | true=>
   have iZ:k = .free:=by simpa using hk
   obtain⟨c,hc⟩:=h (n,k) Mf iZ;have e1:nF env n=pure c:=by unfold nF;rw[hc]
   simp only[hk,if_true,e1,pure_bind];rw[J8 r _ λx hx=>h x (L8 _ hx)];show _=pure (if (k==aD.free)=true then _ else _);rw[hk,Qq rfl,hc];rfl
  | false=>
   simp only[hk,My,if_false,pure_bind];rw[J8 r _ λx hx=>h x (L8 _ hx)];show _=pure (if (k==aD.free)=true then _ else _);rw[hk,Qp Mr]
def Xbw  (h:∀x∈scope.names,x.2 = .free->∃c,env.cells.lookup x.1=some c):fh scope env=pure (Bv env scope.names []):=by
 have e:=J8 scope.names [] h
 have q : fh scope env = (forIn scope.names [] fun (x : ah × aD) r => (if (x.2 == .free) = true then do                let c <- nF env x.1; pure (ForInStep.yield ((x.1, c) :: r)) else pure (ForInStep.yield r) : eR (ForInStep (List (ah × ae))))) >>= fun cs => pure cs := rfl
 rw[q,e];rfl
theorem J9   : ∀names cs,(∀x∈names,x.2 = .free->∃c,env.cells.lookup x.1=some c) ->
  (Bv env names cs).lookup x=some c->cs.lookup x=some c\/env.cells.lookup x=some c
 | [],cs,_,h=>.inl h
 | (n,k)::r,cs,hf,h=>by
  unfold Bv at h;split at h
  ·rename_i hk;rcases J9 r _ (λx hx=>hf x (L8 _ hx)) h with q | q
   ·rw[Nf] at q;split at q
    ·rename_i e;have e':x=n:=by simpa using e
     subst e';obtain⟨c',hc⟩:=hf (x,k) Mf (by simpa using hk);have jn:env.cells.lookup x=some c':=hc;rw[jn] at q ⊢;exact .inr q
    ·exact .inl q
   ·exact .inr q
  ·exact J9 r _ (λx hx=>hf x (L8 _ hx)) h
theorem Ka  : ∀names cs,((cs.lookup x).isSome=true\/(x,aD.free)∈names)->((Bv env names cs).lookup x).isSome=true
 | [],cs,h=>by
  rcases h with h | h
  ·exact h
  ·cases h
 | (n,k)::r,cs,h=>by
  unfold Bv;split
  ·refine Ka r _ ?_;rw[Nf];rcases h with h | h
   ·left;split
    ·rfl
    ·exact h
   ·rcases Mb.mp h with e | h
    ·left;cases e;simp
    ·exact .inr h
  ·rename_i hk;refine Ka r _ ?_;rcases h with h | h
   ·exact .inl h
   ·rcases Mb.mp h with e | h
    ·cases e;exact absurd rfl hk
    ·exact .inr h
theorem Xbx{env:dm}{x:ah}{k':aD}:∀{names:List (ah×aD)},
  (names.map λ(n,k)=>if (k==aD.free&&env.scope.kind == .function&&env.kindOf n==some .cell) then (n,aD.cell) else (n,k)).lookup x=some k'->∃k,names.lookup x=some k/\(k'=k\/k = .free)
 | [],h=>by simp at h
 | (n,k)::r,h=>by
  have ih := @Xbx env x k' r;have h':List.lookup x ((if (k==aD.free&&env.scope.kind == .function&&env.kindOf n==some .cell)=true then (n,aD.cell) else (n,k))::_)=_:=h;rw[Nf];by_cases hc:(k==aD.free&&env.scope.kind == .function&&env.kindOf n==some .cell)=true
  ·rw[Qq hc,Nf] at h';cases hx:x==n with
   | true=>
    have hk:k = .free:=by
     simp only[Mp,beq_iff_eq] at hc;exact hc.1.1
    exact⟨k,rfl,.inr hk⟩
   | false=>
    rw[hx] at h';exact ih h'
  ·rw[Qp hc,Nf] at h';cases hx:x==n with
   | true=>
    rw[hx] at h';exact⟨k,rfl,.inl (Mj h').symm⟩
   | false=>
    rw[hx] at h';exact ih h'
theorem Kb:∀(names:List (ah×aD)) (h:ao) (acc:List (ah×ae)) (x:ah) (c:ae),(bA h.objs.size names acc).lookup x=some c ->
  (h.objs.size<=c/\(x,aD.cell)∈names/\(bG h names).IsCell c none)\/acc.lookup x=some c
 | [],_,_,_,_,e=>.inr e
 | (name,kind)::r,h,acc,x,c,e=>by
  unfold bA at e;unfold bG;by_cases hk:(kind==aD.cell)=true
  ·rw[Qq hk] at e ⊢;have iZ:kind = .cell:=by simpa using hk
   have sz:(h.push {cls:=.type "cell",data:=.cell none}).objs.size=h.objs.size+1:=ao.size_push ..;rw[<-sz] at e;rcases Kb r _ _ x c e with ⟨a1,a2,a3⟩ | a
   ·exact .inl ⟨by lia,L8 _ a2,a3⟩
   ·rw[Nf] at a;cases hx:x==name with
    | true=>
     rw[hx] at a;cases a;have:x=name:=by simpa using hx
     subst this;refine .inl ⟨L7 _,by rw[iZ];exact Mf,?_⟩;exact⟨_,cL r _ _ _ (ao.get?_push_size _ rfl),rfl⟩
    | false=>rw[hx] at a;exact .inr a
  ·rw[Qp hk] at e ⊢;rcases Kb r h acc x c e with ⟨a1,a2,a3⟩ | a
   ·exact .inl ⟨a1,L8 _ a2,a3⟩
   ·exact .inr a
theorem Kc:∀(names:List (ah×aD)) (n:Nat) (acc:List (ah×ae)),(∀x y c,acc.lookup x=some c->acc.lookup y=some c->x=y)->(∀x c,acc.lookup x=some c->c<n) ->
  ∀x y c,(bA n names acc).lookup x=some c->(bA n names acc).lookup y=some c->x=y
 | [],_,_,h,_=>h
 | (name,kind)::r,n,acc,h,hb=>by
  unfold bA;by_cases hk:(kind==aD.cell)=true
  ·rw[Qq hk];refine Kc r (n+1) _ (λx y c e1 e2=>?_) (λx c e=>?_)
   ·rw[Nf] at e1 e2;cases hx:x==name with
    | true=>
     cases hy:y==name with
     | true=>rw[beq_iff_eq.mp hx,beq_iff_eq.mp hy]
     | false=>
      rw[hx] at e1;rw[hy] at e2;cases e1;exact absurd (hb y _ e2) (Na _)
    | false=>
     cases hy:y==name with
     | true=>
      rw[hx] at e1;rw[hy] at e2;cases e2;exact absurd (hb x _ e1) (Na _)
     | false=>rw[hx] at e1;rw[hy] at e2;exact h x y c e1 e2
   ·rw[Nf] at e;cases hx:x==name with
    | true=>rw[hx] at e;cases e;exact Nat.lt_succ_self _
    | false=>rw[hx] at e;exact Nc (hb x c e)
  ·rw[Qp hk];exact Kc r n acc h hb
theorem Kd   : ∀names cs,(Bv env names cs).lookup x=some c->cs.lookup x=some c\/(x,aD.free)∈names
 | [],cs,h=>.inl h
 | (n,k)::r,cs,h=>by
  unfold Bv at h;split at h
  ·rename_i hk;have iZ:k = .free:=by simpa using hk
   rcases Kd r _ h with q | q
   ·rw[Nf] at q;cases hx:x==n with
    | true=>
     have:x=n:=by simpa using hx
     subst this;exact .inr (by rw[iZ];exact Mf)
    | false=>rw[hx] at q;exact .inl q
   ·exact .inr (L8 _ q)
  ·rcases Kd r _ h with q | q
   ·exact .inl q
   ·exact .inr (L8 _ q)
def Xit          (h:Q (newEnv scope s.heap.objs.size globals (bA (s.heap.objs.size+1) scope.names jw) qual none .none (some outer) cF) {s with heap:=bG (s.heap.push {cls:=.type "dict",data:=.dict #[]}) scope.names}):
  ai M A (fi scope globals jw [] qual none .none (some outer)) Q E s:=by
 simp only[fi,P9,if_true];refine Qm (iy ?_);refine Qm (wpAny_layCells _ (λname kind cells=>by cases xz:kind==aD.cell<;>simp[xz]) _ _ _ _ ?_);rw[show ({s with heap:=s.heap.push {cls:=.type "dict",data:=.dict #[]} }:ag).heap.objs.size=s.heap.objs.size+1 from ao.size_push ..];refine Qm ?_;rw[Ps];exact Qn (Qn h)
def F4 (X:Cx) (scope:bj) (s0:ag):List (ah×ae):=bA (s0.heap.objs.size+1) scope.names (Bv X.env scope.names [])
def Cx.comp (X:Cx) (N:Za) (scope:bj) (s0:ag) (H0:Hp) (ex:List ae):Cx where
 prog:=X.prog
 w:=X.w
 K:=X.K
 mg:=X.mg
 base:=X.base
 A:=X.A
 N:=N
 s₀:=s0
 H₀:=H0
 env:=nG scope (F4 X scope s0) s0.heap.objs.size X.env
 outer:=X.stack
 stack:=X.stack
 ex:=ex
 fn:=λx=>decide (scope.names.lookup x=some .cell)
 calm:=X.calm
 pn:=[]
 xe:=λ_ _=>False
def Bu (cap:List (Option Nat)) (Z:St):St:=cap.map λo=>o.bind λj=>(Z[j]?).join
structure CompScope (X:Cx) (N:Za) (cap:List (Option Nat)) (scope:bj):Prop where
 kind:scope.kind = .function
 uniq:∀y∈scope.names,scope.names.lookup y.1=some y.2
 free:∀y∈scope.names,y.2 = .free->X.env.kindOf y.1=some .cell\/X.env.kindOf y.1=some .free
 len:cap.length=N.length
 cap:∀(i:Nat) (x:ah) (j:Nat),N[i]? = some x->cap[i]? = some (some j)->X.N[j]? = some x/\scope.names.lookup x=some .free
def PIfs (X:Cx) (bQ:List aA) (t:TT):Prop:=
 ∀pins s Z H (Q:Bool->Hp->Prop),Inv X pins Z H s->t Z H Q ->
  ai (aj X.prog X.w) X.A (forIn bQ true fun c r => if r = true then do        let ok <- isTrue c X.env (eval c X.env); pure (ForInStep.yield ok) else pure (ForInStep.yield r)) (TP X pins Z Q) X.xe s
def D1:TT:=λ_ H Q=>Q true H
def Cw:PIfs X [] D1:=λ_ _ _ H _ I h=>wpAny_tests_nil ⟨H,I,h⟩
def Fg   (h:PT X c t):PIfs X [c] t:=λpins s Z H Q I hw=>wpAny_tests_one (h pins s Z H Q I hw)
def En (cap:List (Option Nat)) (g:TG) (tt:TT) (te:TE) (J:It) (Z:St) (H1:Hp) (F:ae->Hp->Prop):Prop:=
 ∀D,H1 D=none->∃W:Nat->Nat->St->Hp->Prop,(∃m,W 0 m (Bu cap Z) (upd H1 D (.lst [])))/\∀i m Z1 H2,W i m Z1 H2 ->
  (J.stop i H2/\F D H2)\/(J.go i H2/\∀x H3,J.yld i H2 x H3->g x Z1 H3 fun Z2 H4=>tt Z2 H4 λb H5=>
   if b=true then te Z2 H5 λy H6=>∃ys,H6 D=some (.lst ys)/\ys.length<sizeLine/\∃m',m'<m/\W (i+1) m' Z2 (upd H6 D (.lst (ys++[y])))
   else ∃m',m'<m/\W (i+1) m' Z2 H5)
theorem Xby{env:dm}{x:ah}:∀{names:List (ah×aD)} {k:aD},names.lookup x=some k ->
  (names.map λ(n,k)=>if (k==aD.free&&env.scope.kind == .function&&env.kindOf n==some .cell) then (n,aD.cell) else (n,k)).lookup x=some (if (k==aD.free&&env.scope.kind == .function&&env.kindOf x==some .cell) then aD.cell else k)
 | [],_,h=>by simp at h
 | (n,q)::r,k,h=>by
  have ih := @Xby env x r k;show List.lookup x ((if (q==aD.free&&env.scope.kind == .function&&env.kindOf n==some .cell)=true then (n,aD.cell) else (n,q))::_)=_;rw[Nf] at h;cases hx:x==n with
  | true=>
   rw[hx] at h;cases h;have:x=n:=by simpa using hx
   subst this;by_cases hc:(q==aD.free&&env.scope.kind == .function&&env.kindOf x==some .cell)=true
   ·rw[Qq hc,Qq hc,Nf,hx]
   ·rw[Qp hc,Qp hc,Nf,hx]
  | false=>
   rw[hx] at h;by_cases hc:(q==aD.free&&env.scope.kind == .function&&env.kindOf n==some .cell)=true
   ·rw[Qq hc,Nf,hx];exact ih h
   ·rw[Qp hc,Nf,hx];exact ih h
section
variable {X:Cx}{N:Za}{cap:List (Option Nat)}{scope:bj}{pins:List (ae×aI)}{Z:St}{H H':Hp}{s s':ag}{fp:List ae}
def Ke(C:CompScope X N cap scope)(ok:X.Ok):∀x∈scope.names,x.2 = .free->∃c,X.env.cells.lookup x.1=some c:=λx hx hf=>ok.has x.1 (C.free x hx hf)
def G7(C:CompScope X N cap scope)(ok:X.Ok)  (h:(Bv X.env scope.names []).lookup x=some c):X.env.cells.lookup x=some c:=by
 rcases J9 scope.names [] (Ke C ok) h with q | q
 ·simp at q
 ·exact q
def Xbz(C:CompScope X N cap scope)(ok:X.Ok)(h:scope.names.lookup x=some .free):∃c,(Bv X.env scope.names []).lookup x=some c:=
 Ob.mp (Ka scope.names [] (.inr (PySem.mem_of_lookup h)))
def Xb0(C:CompScope X N cap scope)(ok:X.Ok)  (hz:h.objs.size=s.heap.objs.size+1)  (e:(F4 X scope s).lookup x=some c):
  (s.heap.objs.size<c/\scope.names.lookup x=some .cell/\(bG h scope.names).IsCell c none)\/(scope.names.lookup x=some .free/\X.env.cells.lookup x=some c):=by
 unfold F4 at e;rw[<-hz] at e;rcases Kb scope.names h _ x c e with ⟨a1,a2,a3⟩ | a
 ·exact .inl ⟨by lia,C.uniq _ a2,a3⟩
 ·refine .inr ⟨?_,G7 C ok a⟩;rcases Kd scope.names [] a with q | q
  ·simp at q
  ·exact C.uniq _ q
def Xiu(C:CompScope X N cap scope)(I:Inv X pins Z H s)(hf:∀b∈fp,FpOk X pins H b)(va:∀b∈fp,b<s.heap.objs.size){tk}:
  Inv (X.comp N scope s H fp) [] (Bu cap Z) H {s with heap:=bG (s.heap.push {cls:=.type "dict",data:=.dict #[]}) scope.names,toks:=tk}:=by
 have hC:H s.heap.objs.size=none:=I.hok.fresh (L7 _);have hz:(s.heap.push {cls:=.type "dict",data:=.dict #[]}).objs.size=s.heap.objs.size+1:=ao.size_push ..;have kX:(bG (s.heap.push {cls:=.type "dict",data:=.dict #[]}) scope.names).Ns s.heap.objs.size λ_=>none:=(ao.Ns.new s.heap (.type "dict")).keeps (cL _ _);have hk:∀b o,s.heap.get? b=some o->(bG (s.heap.push {cls:=.type "dict",data:=.dict #[]}) scope.names).get? b=some o:=λb o e=>cL _ _ b o (Qw _ e);have iz:∀{x c},(X.comp N scope s H fp).env.cells.lookup x=some c->_:=λ{x c} h=>Xb0 (s:=s) C I.ok hz h;have x4:∀x c,X.env.cells.lookup x=some c->c<s.heap.objs.size:=λx c h=>by
  obtain⟨v,q⟩:=I.cell x c h;exact q.lt
 have kind:∀x k,(relabel scope X.env).names.lookup x=some k->k = .cell\/k = .free->scope.names.lookup x=some .cell\/scope.names.lookup x=some .free:=λx k e hk=>by
  obtain⟨k0,e0,z⟩:=Xbx e;rcases z with z | z
  ·rw[<-z] at e0;rcases hk with q | q
   ·rw[q] at e0;exact .inl e0
   ·rw[q] at e0;exact .inr e0
  ·rw[z] at e0;exact .inr e0
 refine⟨⟨I.ok.mod,C.kind,I.ok.glob,I.ok.blt,L7 _,?inj,λx hx=>?has,λx c h e=>?cab,I.ok.hd,I.ok.frames,.inl rfl,λb hb=>⟨L9 (va b hb),λx c h=>?exf⟩,
   I.bs,M8 I.ok.bsz I.sz,λb o e hb=>?noex,λb hb hs=>?exfs,I.stack,I.stkFree⟩,
  rfl,I.bare,Un.kept hk,⟨_,kX,λi x v qB h2 h3=>?loc⟩,λx c h=>?cell,hC,λx c h=>?freeC,λp hp=>absurd (show p∈([]:List (ae×aI)) from hp) (by simp),I.hok.kept hk,?len⟩
 case inj=>
  refine Kc scope.names _ _ (λx y c e1 e2=>I.ok.inj x y c (G7 C I.ok e1) (G7 C I.ok e2)) λx c e=>Nc (x4 x c (G7 C I.ok e))
 case has=>
  have fR:(relabel scope X.env).names.lookup x=some .cell\/(relabel scope X.env).names.lookup x=some .free:=hx;refine Ob.mp (DP scope.names _ _ ?_);rcases (fR.elim (λq=>kind x _ q (.inl rfl)) λq=>kind x _ q (.inr rfl)) with q | q
  ·exact .inl q
  ·obtain⟨c,hc⟩:=Xbz C I.ok q;exact .inr (by rw[hc];rfl)
 case cab=>
  have h:scope.names.lookup x=some .cell:=Qt h;rcases iz e with ⟨a,_⟩ | ⟨a,_⟩
  ·exact O2 a
  ·rw[h] at a;cases a
 case exf=>
  rcases iz h with ⟨a,_⟩ | ⟨_,a⟩
  ·exact λz=>Na _ (Oi a (by rw[z];exact va b hb))
  ·exact(hf b hb).2.2.2.2.1 x c a
 case noex=>
  obtain⟨_,_,_,z,_⟩:=hf b hb;rcases z with z | z
  ·exact I.ok.noex b o e z
  ·exact absurd (Mq (Qv e) (M8 I.ok.bsz z)) (Na _)
 case exfs=>
  obtain⟨_,f1,f2,_⟩:=hf b hb;rcases Mb.mp (I.stkSub b hs) with e | e
  ·exact f1 e
  ·exact f2 e
 case loc=>
  have eL:(cap.map λo=>o.bind λj=>(Z[j]?).join)[i]? = some (some v):=h2;rw[Mt] at eL;cases hc:cap[i]? with
  | none=>rw[hc] at eL;cases eL
  | some o=>
   rw[hc] at eL;cases o with
   | none=>cases eL
   | some j=>
    have jx:(Z[j]?).join=some v:=Mj eL;have hZ : Z[j]? = some (some v):=by
     cases hj : Z[j]? with
     | none=>rw[hj] at jx;cases jx
     | some o=>rw[hj] at jx;exact congrArg some jx
    obtain⟨hN,ja⟩:=C.cap i x j qB hc;obtain⟨m,hn,hl⟩:=I.loc;have dX:X.env.kindOf x=some .cell\/X.env.kindOf x=some .free:=C.free (x,.free) (PySem.mem_of_lookup ja) rfl;obtain⟨u,r,l⟩:=hl j x v hN hZ (by rcases dX with q | q;exact .inr (.inl q);exact .inr (.inr q));refine⟨u,r,.inr ⟨?_,?_⟩⟩
    ·show (relabel scope X.env).names.lookup x=some .cell\/(relabel scope X.env).names.lookup x=some .free;have:=Xby (env:=X.env) ja;have e:(relabel scope X.env).names.lookup x=_:=this;rw[e];split
     ·exact .inl rfl
     ·exact .inr rfl
    ·obtain⟨c,dY⟩:=Xbz C I.ok ja;obtain⟨c2,i3⟩:=Ob.mp (DP scope.names (s.heap.objs.size+1) (Bv X.env scope.names []) (x:=x) (.inr (by rw[dY];rfl)));rcases iz (x:=x) (c:=c2) i3 with ⟨_,a,_⟩ | ⟨_,a⟩
     ·rw[ja] at a;cases a
     ·rcases l with ⟨k,_⟩ | ⟨_,c',e,z⟩
      ·rcases dX with q | q
       ·rw[k] at q;cases q
       ·rw[k] at q;cases q
      ·rw[a] at e;cases e;obtain⟨o,ho,hd⟩:=z;exact⟨c2,i3,o,hk c2 o ho,hd⟩
 case cell=>
  rcases iz h with ⟨_,_,a⟩ | ⟨_,a⟩
  ·exact⟨none,a⟩
  ·obtain⟨v,o,ho,hd⟩:=I.cell x c a;exact⟨v,o,hk c o ho,hd⟩
 case freeC=>
  rcases iz h with ⟨a,_⟩ | ⟨_,a⟩
  ·exact I.hok.fresh (O2 a)
  ·exact I.freeC x c a
 case len=>
  show (cap.map _).length=N.length;rw[L5,C.len]
end
def Xiv (cap:List (Option Nat)) (wi:TI) (g:TG) (tt:TT) (te:TE):TE:=fun Z H Q=>wi Z H λJ H1=>En cap g tt te J Z H1 λD H2=>Q (.ref D) H2
def Xiw (i:Nat) (cap:List (Option Nat)) (wi:TI) (g:TG) (tt:TT) (te:TE):TS:=λD Z H=>wi Z H λJ H1=>En cap g tt te J Z H1 λl H2=>D.nx (Z.set i (some (.ref l))) H2
def A3.there      (x:A3 P w H h a o):∃u,h.get? a=some u:=by
 cases o with
 | lst xs=>obtain⟨_,_,_,_,e⟩:=x;exact⟨_,e⟩
 | tup xs=>obtain⟨_,_,_,o,e,_⟩:=x;exact⟨_,e⟩
 | dK kvs=>obtain⟨_,_,_,_,o,_,_,e,_⟩:=x;exact⟨_,e⟩
 | dT kvs=>obtain⟨_,_,_,_,o,_,_,e,_⟩:=x;exact⟨_,e⟩
 | set S n=>obtain⟨o,_,_,_,e,_⟩:=x;exact⟨_,e⟩
 | ins C dx fs=>obtain⟨_,_,_,e,_⟩:=x;exact⟨_,e⟩
 | own y=>exact x
 | xd fs=>obtain⟨_,⟨_,_,_,e,_⟩,_⟩:=x;exact⟨_,e⟩
 | rng lo hi=>obtain⟨_,_,_,e⟩:=x;exact⟨_,e⟩
 | frz ob u=>obtain⟨e,_⟩:=x;exact⟨_,e⟩
 | tbl ps=>exact⟨_,(show h.get? a=some _ from x)⟩
 | met f y=>exact⟨_,(show h.get? a=some _ from x)⟩
 | ext φ=>obtain⟨_,e,_⟩:=x;exact e
structure Flown (P:au) (w:ay) (outer:List dm) (H:Hp) (hc:ao) (H':Hp) (ex C:ae) (B:ao) (a0:aa) (h:ao):Prop where
 un:Un (frs outer) [] H H' hc h
 hok:HOk P w H' h
 fly:ao.FlyingW B outer ex (.ref C) a0 h
 inB:∀b o,h.get? b=some o->b∉frs outer->((∃o',hc.get? b=some o')\/H' b≠none)->B.get? b=some o
 frf:∀b∈frs outer,H' b=none
def Flown.move       (F:Flown P w outer H hc H' ex C B a0 h) (st:B.StaysIn h') (up:h.UpToSlots h'):
  Un (frs outer) [] H H' hc h'/\HOk P w H' h'/\∀b o,h'.get? b=some o->b∉frs outer->((∃o',hc.get? b=some o')\/H' b≠none)->B.get? b=some o:=by
 have nf:∀b∈frs outer,∀o,h.get? b=some o->∀vs,o.data ≠ .fields vs:=λb hb o e=>by
  obtain⟨_,o',e',d⟩:=F.fly.2.2.1.mem hb;rw[e] at e';cases e';exact d
 have tr:∀b o,H' b=some o->b∉frs outer:=λb o e hb=>by rw[F.frf b hb] at e;cases e
 have old:∀b,(∃o',hc.get? b=some o')\/H' b≠none->∃o,h.get? b=some o:=λb hb=>by
  rcases hb with ⟨o',e⟩ | hb
  ·obtain⟨o,e'⟩:=F.un.there b o' e (by simp);exact⟨o,e'⟩
  ·cases q:H' b with
   | none=>exact absurd q hb
   | some u=>exact(F.hok b u q).there
 refine⟨⟨λb o e n hb hx=>?_,λb o e n hb hx=>?_,F.un.free,λb o e hx=>?_,F.un.tups,F.un.frzs,F.un.tbls⟩,λa o e=>?_,λb o e hb hw=>?_⟩
 ·exact st b o (F.inB b o (F.un.keep b o e n hb hx) hb (.inl ⟨o,e⟩))
 ·obtain⟨sl,e1⟩:=F.un.slot b o e n hb hx;obtain⟨g6,e2⟩:=up b _ e1 (nf b hb _ e1);exact⟨g6,e2⟩
 ·obtain⟨o1,e1⟩:=F.un.there b o e hx;by_cases hb:b∈frs outer
  ·obtain⟨g6,e2⟩:=up b _ e1 (nf b hb _ e1);exact⟨_,e2⟩
  ·exact⟨o1,st b o1 (F.inB b o1 e1 hb (.inl ⟨o,e⟩))⟩
 ·refine(F.hok a o e).stay (λb u hb q=>?_) (λ_ q=>q) λ_ _ q=>q;have hn:H' b≠none:=by
   rcases hb with z | z
   ·rw[z,e];simp
   ·rw[z];simp
  have dn:b∉frs outer:=λz=>hn (F.frf b z);exact st b u (F.inB b u q dn (.inr hn))
 ·obtain⟨o1,e1⟩:=old b hw;have e2:=F.inB b o1 e1 hb hw;have e3:=st b o1 e2;rw[e] at e3;cases e3;exact e2
def CX1 (P:au) (w:ay):CXT:=λouter H s E e s'=>
 ∃ex C H' B a0,e = .ref ex/\s'.os=s.os/\cq s'.gens/\Flown P w outer H s.heap H' ex C B a0 s'.heap/\E (.ref C) none H'
section
variable {P:au}{w:ay}{K:DK}{mg:ah->Option aa}{base:ao}{N:Za}{qual:ah}{scope:bj}{f:ae}{cd:aa}{A:ax}{outer:List dm}{s:ag}{H:Hp}{E:XK}
def Leaves (X:Cx) (E:XK):Prop:=∀(pins:List (ae×aI)) (Z:St) (H:Hp) (s:ag) (h':ao) (ex C:ae) (args:List aa),
 Inv X pins Z H s->ao.MadeExcOf s.heap h' ex (.ref C) args->E (.ref C) none H->X.xe (.ref ex) {s with heap:=h'}
def leaves1:Leaves (Bz (CX1 P w) P w K mg base N qual scope f cd A outer s H E) E:=by
 intro pins Z H1 s1 h' ex C args I hm hE;show ai (aj P w) (A.deeper (aH qual scope s.heap.objs.size f cd)) (leaving (aH qual scope s.heap.objs.size f cd) (.ref ex)) _ _ {s1 with heap:=h'};have cu:(Bz (CX1 P w) P w K mg base N qual scope f cd A outer s H E).stack=aH qual scope s.heap.objs.size f cd::outer:=rfl;have cO:∀env∈(aH qual scope s.heap.objs.size f cd::outer),∀b,env.frame=some b->b∈frs (aH qual scope s.heap.objs.size f cd::outer):=λenv he b hb=>P8.mpr ⟨env,he,hb⟩;have nJ:s1.heap.FunFrames base (aH qual scope s.heap.objs.size f cd::outer):=I.stack;have hB:(EF s1.heap (frs (aH qual scope s.heap.objs.size f cd::outer))).StaysIn s1.heap:=λb o q=>EG _ q;have jy:∀b o,s1.heap.get? b=some o->b∉frs (aH qual scope s.heap.objs.size f cd::outer)->(EF s1.heap (frs (aH qual scope s.heap.objs.size f cd::outer))).get? b=some o:=λb o e n=>EE _ e n;have sub:∀b,b∈frs (aH qual scope s.heap.objs.size f cd::outer)->b=s.heap.objs.size\/b∈frs outer:=λb hb=>Mb.mp (I.stkSub b hb);have nK:∀b,b∈frs outer->b∈frs (aH qual scope s.heap.objs.size f cd::outer):=λb hb=>by
  unfold frs at hb ⊢;rw[N8];split
  ·exact hb
  ·exact L8 _ hb
 have gf:∀b,b∈frs (aH qual scope s.heap.objs.size f cd::outer)->H1 b=none:=λb hb=>I.stkFree b hb;refine wpAny_leaves_madeW (A:=A.deeper (aH qual scope s.heap.objs.size f cd)) (L:=s.heap.objs.size) I.ok.frames rfl hB (PySem.W.funFrames_hide nJ cO) hm λjW t f1 _ _ up=>?_;have old:∀b o,s.heap.get? b=some o->b∉frs outer->b∉frs (aH qual scope s.heap.objs.size f cd::outer):=λb o e nb hb=>by
  rcases sub b hb with z | z
  ·exact absurd (Qv e) (by rw[z];exact Na _)
  ·exact nb z
 have nf:∀b∈frs (aH qual scope s.heap.objs.size f cd::outer),∀o,s1.heap.get? b=some o->∀vs,o.data ≠ .fields vs:=λb hb o e=>by
  obtain⟨_,o',e',d⟩:=nJ.mem hb;rw[e] at e';cases e';exact d
 refine⟨ex,C,H1,_,_,rfl,I.os,I.bare,⟨⟨λb o e n hb hx=>?_,λb o e n hb hx=>?_,I.base.free,λb o e hx=>?_,I.base.tups,I.base.frzs,I.base.tbls⟩,λa o e=>?_,f1,λb o e hb hw=>?_,λb hb=>gf b (nK b hb)⟩,hE⟩
 ·exact f1.1 b o (jy b o (I.base.keep b o e n hb hx) (old b o e hb))
 ·obtain⟨sl,e1⟩:=I.base.slot b o e n hb hx;obtain⟨g6,e2⟩:=up b _ (hm.keeps _ _ e1) (nf b (nK b hb) _ e1);exact⟨g6,e2⟩
 ·obtain⟨o1,e1⟩:=I.base.there b o e hx;by_cases hb:b∈frs (aH qual scope s.heap.objs.size f cd::outer)
  ·obtain⟨g6,e2⟩:=up b _ (hm.keeps _ _ e1) (nf b hb _ e1);exact⟨_,e2⟩
  ·exact⟨o1,f1.1 b o1 (jy b o1 e1 hb)⟩
 ·refine(I.hok a o e).stay (λb u hb q=>?_) (λ_ q=>q) λ_ _ q=>q;have hn:H1 b≠none:=by
   rcases hb with z | z
   ·rw[z,e];simp
   ·rw[z];simp
  exact f1.1 b u (jy b u q λz=>hn (gf b z))
 ·have:∃o1,s1.heap.get? b=some o1/\b∉frs (aH qual scope s.heap.objs.size f cd::outer):=by
   rcases hw with ⟨o',e'⟩ | hw
   ·obtain⟨o1,e1⟩:=I.base.there b o' e' (λz=>absurd (show b∈([]:List ae) from z) (by simp));exact⟨o1,e1,old b o' e' hb⟩
   ·cases q:H1 b with
    | none=>exact absurd q hw
    | some u=>
     obtain⟨o1,e1⟩:=(I.hok b u q).there;exact⟨o1,e1,λz=>hw (gf b z)⟩
  obtain⟨o1,e1,nb⟩:=this;have e2:=jy b o1 e1 nb;have e3:=f1.1 b o1 e2;rw[e] at e3;cases e3;exact e2
def pass1:Passes (CX1 P w) (Bz (CX1 P w) P w K mg base N qual scope f cd A outer s H E) E:=by
 intro pins Z H1 s1 e s' I h;obtain⟨ex,C,H',B,a0,rfl,qC,nN,F,hE⟩:=h;show ai (aj P w) (A.deeper (aH qual scope s.heap.objs.size f cd)) (leaving (aH qual scope s.heap.objs.size f cd) (.ref ex)) _ _ s';have sub:∀b,b∈frs (aH qual scope s.heap.objs.size f cd::outer)->b=s.heap.objs.size\/b∈frs outer:=λb hb=>Mb.mp (I.stkSub b hb);have nK:∀b,b∈frs outer->b∈frs (aH qual scope s.heap.objs.size f cd::outer):=λb hb=>by
  unfold frs at hb ⊢;rw[N8];split
  ·exact hb
  ·exact L8 _ hb
 have old:∀b o,s.heap.get? b=some o->b∉frs outer->b∉frs (aH qual scope s.heap.objs.size f cd::outer):=λb o e nb hb=>by
  rcases sub b hb with z | z
  ·exact absurd (Qv e) (by rw[z];exact Na _)
  ·exact nb z
 have F':Flown P w (aH qual scope s.heap.objs.size f cd::outer) H1 s1.heap H' ex C B a0 s'.heap:=F;refine wpAny_leaves_onW (A:=A.deeper (aH qual scope s.heap.objs.size f cd)) (L:=s.heap.objs.size) I.ok.frames rfl F'.fly λjW f1 up=>?_;obtain⟨un,hok,inB⟩:=F'.move f1.1 up;refine⟨ex,C,H',B,a0,rfl,qC.trans I.os,nN,⟨?_,hok,f1,λb o e hb hw=>?_,λb hb=>F'.frf b (nK b hb)⟩,hE⟩
 ·have jb:Un (frs outer) [] H H1 s.heap s1.heap:=I.base;refine⟨λb o e n hb hx=>?_,λb o e n hb hx=>?_,λb o e n hx=>?_,λb o e hx=>?_,λb xs e=>un.tups b xs (jb.tups b xs e),λb ob u e=>un.frzs b ob u (jb.frzs b ob u e),λb ps e=>?_⟩
  ·exact un.keep b o (jb.keep b o e n hb hx) (jb.free b o e n hx) (old b o e hb) hx
  ·obtain⟨sl,e1⟩:=jb.slot b o e n hb hx;obtain⟨g6,e2⟩:=un.slot b _ e1 (jb.free b o e n hx) (nK b hb) hx;exact⟨g6,e2⟩
  ·obtain⟨o1,e1⟩:=jb.there b o e hx;exact un.free b o1 e1 (jb.free b o e n hx) hx
  ·obtain⟨o1,e1⟩:=jb.there b o e hx;exact un.there b o1 e1 hx
  ·obtain⟨m1,e1⟩:=jb.tbls b ps e;obtain⟨m2,e2⟩:=un.tbls b _ e1;exact⟨m1++m2,by rw[e2,Array.append_assoc]⟩
 ·refine inB b o e ?_ ?_
  ·rcases hw with ⟨o',e'⟩ | hw
   ·exact old b o' e' hb
   ·intro z;exact hw (F'.frf b z)
  ·rcases hw with ⟨o',e'⟩ | hw
   ·obtain⟨o1,e1⟩:=(show Un (frs outer) [] H H1 s.heap s1.heap from I.base).there b o' e' (by simp);exact .inl ⟨o1,e1⟩
   ·exact .inr hw
end
abbrev bmV:List aa:=[.type "ValueError",.type "Exception",.type "BaseException",.type "object"]
def Xix{K}  {C}  (X:K.In h)(q:DY K C x5 nO=true):
  ∃bm N nm q bs hdct sn sub ab col dd k0 k1 k2 k3 k5 mN,h.get? C=some (excClassObj nm q C N bs bm hdct sn sub ab col dd k0 k1 k2 k3 k5 nO)/\h.Ns N mN/\mN "__init__" = none/\OwnTail h x5 bm:=by
 unfold DY at q;split at q
 ·rename_i dd cd sl ho;split at q
  ·rename_i C' bm k0 k1 k2 k3 n k5 hm hs;simp only[Mp,beq_iff_eq,Qf] at q;obtain⟨⟨⟨⟨⟨rfl,rfl⟩,nP⟩,ht⟩,hok⟩,qD⟩:=q;obtain⟨nm,bs,mro,ns,qn,hd,sn,sub,ab,col,BA⟩:=cd;dsimp only at hm nP hok qD;subst hm nP;have mo:sl = #[k0,k1,k2,k3,some (.builtin n),k5]:=by
    obtain⟨l⟩:=sl;simp only at hs;rw[hs]
   subst mo;exact⟨bm,ns,nm,qn,bs,hd,sn,sub,ab,col,dd,k0,k1,k2,k3,k5,_,X _ _ ho,.of_isNs (PySem.W.isNs_of_in X hok),PySem.W.nsMap_none_of_in X hok qD,PySem.W.tail_of_in X ht⟩
  ·cases q
 ·cases q
def Xiy (C:ae) (E:XK) (t:TA):TS:=λ_ Z H=>t Z H λvs H1=>vs.length<=sizeLine/\E (.ref C) none H1
def Xb1  {C:ae} {E:XK}     (hc:DY X.K C bmV "ValueError.__new__" = true) (bq:X.calm=true) (hx:Leaves X E) (hg:Gl X x) (hm:X.mg x=some (.ref C))
  (ha:PA X (e::es) t) (gK:(x==("__debug__" : ah))=false:=by decide) (he:az (e::es) X.env=(false,eval e X.env)::az es X.env:=by rfl) (bM:(bn bB (az es X.env)).any (·.1)=false:=by rfl):
  PS X (.Raise (some (.Call (.Name x np) (e::es) [] bB)) none pos) (Xiy C E t):=by
 intro pins s Z H D I h;obtain⟨tl,N,nm,q,bs,hdct,sn,sub,ab,col,dd,k0,k1,k2,k3,k5,mN,hC,hN,qD,T⟩:=Xix I.mod.kin hc;refine wpAny_Raise_call_subT (C:=C) (nm:=nm) (q:=q) (N:=N) (bs:=bs) (bm:=tl) (hdct:=hdct) (sn:=sn) (sub:=sub) (ab:=ab) (col:=col) (dd:=dd) (k0:=k0) (k1:=k1) (k2:=k2) (k3:=k3) (k5:=k5)
  PySem.F.excBase_ValueError (mN:=mN) (T.hasType PySem.F.excBase_ValueError.hasBase) (I.ok.hd bq) (by rw[he];show (false||(bn bB (az es X.env)).any (·.1))=false;rw[bM];rfl) qD (Xae I hg hm ⟨rfl,?_⟩ gK)
 have hh:=thn (ha bB pins s Z H _ I h) (Q':=λvs s₂=>vs.length<=sizeLine/\(∀b o,X.base.get? b=some o->s₂.heap.get? b=some o)/\∀h' e,ao.MadeExcOf s₂.heap h' e (.ref C) vs->X.xe (.ref e) {s₂ with heap:=h'})
  (λus s2 ⟨vs,H2,I2,r2,hl,hE⟩=>⟨by rw[<-r2.length];exact hl,I2.bk,λh' ex x6=>hx pins Z H2 s2 h' ex C us I2 x6 hE⟩)
 rw[he] at hh ⊢;exact Calls.evalArgs_plain (aK hh (λvs s₂ h₂=>⟨rfl,h₂.1,h₂.2.1 _ _ hC,hN.keeps h₂.2.1,T.keeps h₂.2.1,h₂.2.2⟩) λ_ _ y=>y)
def Fun.ok1   {K}    {st}     (F:Fun K x qual st f fd) (S:FnScope N ps (defScope st)) (len:∀vs H Q E,sp vs H Q E->vs.length=ps.length)
  (dy:∀(cdv:aa) (A:ax) (outer:List dm) (s:ag) (H:Hp) (vs:List V) (Q:VK) (E:XK),Room k (A.deeper (aH qual (defScope st) s.heap.objs.size f cdv))->sp vs H Q E ->
   ∃t,PSs (Bz (CX1 P w) P w K mg base N qual (defScope st) f cdv A outer s H E) (B1 st) t/\t {nx:=λ_ H'=>Q .non H',rt:=Q} (start N vs) H):FnOk P w K mg base (CX1 P w) (k+1) f fd ps sp:=by
 obtain⟨oc,od,kV,cK,pm,an,cdv,ct,fX,rfl,lk,fP⟩:=F.ex;exact Jy lk fP S len λA outer s H vs Q E hr fQ=>dy cdv A outer s H vs Q E hr fQ
abbrev Cx.re (X:Cx) (pn:List (ae×aI)) (A:ax) (c:Bool) (E:Zb):Cx:={X with pn:=pn,A:=A,calm:=c,xe:=E}
section
variable {X:Cx}{pins jQ pn:List (ae×aI)}{Z:St}{H:Hp}{s:ag}{A:ax}{c:Bool}{E:Zb}
end
def excP (ex C:ae) (h:ao):Prop:=∃o vs,h.get? ex=some o/\o.cls = .ref C/\o.data = .fields vs
def ExcO (ex C:ae):HO:=.ext (excP ex C)
def Cx.tryC (X:Cx) (pn:List (ae×aI)) (R:ae->St->Hp->Prop):Cx:=X.re pn X.A X.calm λe s1=>
 ∃Z Hc sc,Inv (X.re pn X.A X.calm λ_ _=>True) [] Z Hc sc/\CX1 X.prog X.w X.stack Hc sc (λc _ H1=>∃C,c = .ref C/\R C Z H1) e s1
def Cx.suite (X:Cx) (pn:List (ae×aI)) (ex:ae):Cx:=X.re pn (X.A.mark (some (.ref ex))) false λ_ _=>False
section
variable {X:Cx}{pn:List (ae×aI)}{R:ae->St->Hp->Prop}{k:Nat}{f:ae}{fd:aw}{ps:Za}{sp:Sp}{gJ:List V}{ds:List aa}{x:ah}{p pos:bw}{e:aA}{es:List aA}{t:TA}
end
section
variable {X:Cx}{pos np rT:bw}{body:List aO}{b0:aO}{suite:List aO}{n x:ah}{i:Nat}{Cc:ae}{tb:(ae->St->Hp->Prop)->TS}{th:TS}
def tTry (K:DK) (i:Nat) (Cc:ae) (tb:(ae->St->Hp->Prop)->TS) (th:TS):TS:=λD Z H=>∃R:ae->St->Hp->Prop,tb R D Z H/\∀C Z1 H1,R C Z1 H1->PySem.W.exmOne K (.ref C) (.ref Cc)=some true /\
 ∀ex,H1 ex=none->th {nx:=fun Z2 H2=>D.nx (Z2.set i none) H2,rt:=D.rt,bk:=fun Z2 H2=>D.bk (Z2.set i none) H2,ct:=fun Z2 H2=>D.ct (Z2.set i none) H2} (Z1.set i (some (.ref ex))) (upd H1 ex (ExcO ex C))
end
section
variable {X:Cx}{pos p2:bw}{e:aA}{te:TE}
def tRev (K:DK) (te:TE):TE:=fun Z H Q=>te Z H λx H1=>∃a xs,x = .ref a/\SqL K H1 a xs/\∀p,H1 p=none->Q (.ref p) (upd H1 p (.lst xs.reverse))
def G8  (he:PE X e te):PE X (.Subscript e (.Slice none none (some (.UnaryOp .USub (.Constant (.int 1) k p3) p4)) p2) pos) (tRev X.K te):=by
 intro pins s Z H Q I h;refine fc (thn (he pins s Z H _ I h) λv s1 ⟨x,H1,I1,r1,q1⟩=>?_);have nQ:PE X (.UnaryOp .USub (.Constant (.int 1) k p3) p4) (tUn (rU λi=>.int (-i)) (tC (.int 1))):=Xhk Xhl Ag;refine uZ ?_;rw[fZ];refine Qn (Qn ?_);rw[qy];refine thn (nQ pins s1 Z H1 (λy H2=>y = .int (-1)/\H2=H1) I1 ⟨1,rfl,rfl,rfl⟩) λu s2 ⟨y,H2,I2,r2,ey,eH⟩=>?_;subst ey eH;obtain⟨t,rfl⟩:=r2;obtain⟨a,xs,ex,hx,q⟩:=q1;subst ex;cases r1;obtain⟨a8,r,ht,hz⟩:=I2.list hx;have I4:Inv X pins Z H2 {s2 with heap:=s2.heap.push {cls:=.type "slice",data:=.fields #[.none,.none,.int (-1) t]} }:=I2.kept (t':=s2.toks) λb ob q=>Qw _ q;obtain⟨x8,r4,qE,qF⟩:=I4.list hx;have aG:=r4.length;refine ni (ops:=[.ref a,.ref s2.heap.objs.size]) qE.isList.typeIs dA.lookup (ge qE.isList (ao.IsSliceOf.new ..) .none .none (.int (-1) t) (by simp) ?_ (by rw[Md]<;>lia)) (by with_unfolding_all rfl);rw[PySem.W.krv_pick];refine⟨.ref _,_,I4.laid (t':=s2.toks) (o:=.lst xs.reverse) (λb ob q=>Qw _ q) (L7 _) ?_,rfl,q _ (I4.hok.fresh (L7 _))⟩;exact⟨by rw[Pf];exact qF,_,0,Vals.reverse r4,ao.get?_push_size _ rfl⟩
def Xiz (K:DK) (n:Nat) (t:TGs):TG:=λv Z H Q=>∃a xs,v = .ref a/\SqL K H a xs/\xs.length=n/\t xs Z H Q
def Xi0    (hc:X.calm=true) (h:PGs X es t)
  (hn:(bu es X.env).length=n:=by rfl) (cu:(bu es X.env).findIdx? (·.1)=none:=by rfl):PG X (.Tuple es k pos) (Xiz X.K n t):=by
 intro pins s Z H v u Q I r hw;obtain⟨a,xs,e1,hq,hl,hw⟩:=hw;subst e1;cases r;obtain⟨a8,rv,ht,hz⟩:=I.list hq;rw[assign_Tuple];refine Qm (aT ?_);unfold unpack;have aG:(bu es X.env).length=a8.toArray.size:=by rw[hn,<-hl,Md];exact rv.length
 rw[aG,cu];refine Qm (a7 (PySem.W.kun_itemsOf (I.ok.hd hc) ht.isList λh' hx=>?_));have I1:Inv X pins Z H {s with heap:=h'}:=I.kept (t':=s.toks) λb o e=>hx b o (L9 (Qv e)) e;exact h pins _ Z H xs _ Q I1 (by simpa using rv) hw
def repS (z:ah) (n:Nat):ah:=⟨(List.replicate n z.cps).foldl (· ++ ·) #[]⟩
def Xi1(z):repS z 1=z:=by
 obtain⟨c⟩:=z;show (⟨(#[]:Array Nat)++c⟩:ah)=⟨c⟩;rw[Array.empty_append]
theorem Xb2(z):∀(n:Nat) (a:Array Nat),((List.replicate n z).foldl (· ++ ·) a).size=a.size+n * z.size
 | 0,a=>by simp
 | n+1,a=>by
  rw[List.replicate_succ,P3,Xb2 z n,Array.size_append,Nat.succ_mul]
  lia
def Kf(z)(n):(repS z n).length=n * z.length:=by
 have e:=Xb2 z.cps n #[];show ((List.replicate n z.cps).foldl (· ++ ·) #[]).size=n * z.cps.size;simpa using e
def Xi2(h:z.length=0)(n):repS z n=z:=by
 have e:=Kf z n;rw[h,Nat.mul_zero] at e;generalize repS z n=y at e;obtain⟨c⟩:=z;obtain⟨d⟩:=y;have h':c.size=0:=h;have e':d.size=0:=e;rw[Array.size_eq_zero_iff] at h' e';rw[h',e']
def Xi3:OpR X (bC .Mult) (λx y H Q=>∃z n,x = .str z/\y = .int n/\0<=n/\n<=1000/\z.length<=1000/\Q (.str (repS z n.toNat)) H):=by
 intro pins s Z H x y v u Q I rx ry h;obtain⟨z,n,rfl,rfl,h0,h1,hz,q⟩:=h;obtain⟨t,rfl⟩:=rx;obtain⟨t',rfl⟩:=ry;have hle:z.length * n.toNat<=1000 * 1000:=Nat.mul_le_mul hz (by lia);refine PySem.P.mul_str ?_ (λhn nR=>?_) (λhn nR=>?_) ?_
 ·have h2:¬n < -(2 ^ 63:Int):=by lia
  have h3:¬n ≥ 2 ^ 63:=by lia
  rw[Qs h2,Qs h3];rfl
 ·have h4:(1000:Int)<=(2 ^ 63 - 1) / n:=by
   refine(Int.le_ediv_iff_mul_le (by lia)).mpr ?_;have:(1000:Int) * n<=1000 * 1000:=by lia
   lia
  lia
 ·show av.Str.tooLong _=false;unfold av.Str.tooLong
  first
   | (refine Qs ?_;have:=hle;rw[Qo];lia)
   | (simp;lia)
 ·by_cases hn:n<1
  ·rw[Qq hn];have:n=0:=by lia
   subst this;exact⟨by decide,.str ah.empty,H,I.tok _,⟨_,rfl⟩,q⟩
  ·rw[Qp hn];by_cases hc:(n==1||z.length==0)=true
   ·rw[Qq hc];have e:repS z n.toNat=z:=by
     rcases P4.mp hc with e | e
     ·have e':n=1:=by simpa using e
      subst e';exact Xi1 z
     ·exact Xi2 (by simpa using e) _
    rw[e] at q;exact⟨.str z,H,I,⟨_,rfl⟩,q⟩
   ·rw[Qp hc];refine⟨?_,.str (repS z n.toNat),H,I.tok _,⟨_,rfl⟩,q⟩;show (repS z n.toNat).length<=sizeLine;rw[Kf,Nat.mul_comm,Qo]
    lia
def Xi4:X.calm=true->Cf X (.builtin "all") (λxs H Q=>∃(a:ae) (bs:List Bool),xs=[.ref a]/\H a=some (.lst (bs.map V.bl))/\Q (.bl (bs.all id)) H):=by
 intro hc pins s Z H xs us Q I r h;obtain⟨a,bs,rfl,ha,q⟩:=h;obtain⟨u,rfl,ru⟩:=B2 r;cases ru;obtain⟨a8,rv,p,hz⟩:=I.list (SqL.of ha);have hl:=rv.length;rw[L5] at hl;refine call_all_walk (cw p.isList ?_);have aR:a≠s.heap.objs.size:=by
  obtain⟨o,ho,_⟩:=p.isList;exact L9 (Qv ho)
 refine⟨s.heap.objs.size,_,_,_,_,_,λj=>bs.getD j false,rfl,jT.list (A:=X.A.in1) (show X.A.in1.handled=none from I.ok.hd hc) s.heap.objs.size a aR a8.toArray,⟨⟨_,ao.get?_push_size _ rfl,rfl,rfl⟩,p.isList.push _⟩,λi v s' Q' E' hP hQ=>?_,λh' tk k=>?_⟩
 ·have hv:a8[i]? = some v:=by simpa using hP
  have hi:i<a8.length:=(Mc.mp hv).1;have g:(bs.map V.bl)[i]? = some (.bl (bs[i]'(by lia))):=by
   rw[Mt,L6 (by lia)];rfl
  obtain⟨u,hu,ru⟩:=rv.get g;rw[hv] at hu;cases hu;cases ru;have e:bs.getD i false=bs[i]'(by lia):=by simp[List.getD,(by lia:i<bs.length)]
  have nU:Q' (bs.getD i false) s':=hQ;rw[e] at nU;exact aM nU
 ·refine⟨.bl (bs.all id),H,I.kept (t':=tk) λb o e=>k b o (λz=>?_) (Qw _ e),?_,q⟩
  ·have z':b=s.heap.objs.size:=by simpa using z
   exact absurd (Qv e) (by rw[z'];exact Na _)
  ·show aa.bool _=aa.bool _;congr 1;rw[Md,<-hl];rw[N6,M0,M0];constructor
   ·intro hx b hb;obtain⟨j,hj,rfl⟩:=M4.mp hb;have:=hx j (Nr.mpr hj);simpa [List.getD,hj] using this
   ·intro hx j hj;have eM:=Nr.mp hj;have:=hx _ (Mz eM);simpa [List.getD,eM] using this
end
def Itd (d:ae) (o:aI) (kvs:List (Key×V)):It:=
 ⟨λi H=>H d=some (.frz o (.dK kvs))/\i<kvs.length,λi H x H'=>H'=H/\∃p,kvs[i]? = some p/\x=kV p.1,λi H=>H d=some (.frz o (.dK kvs))/\kvs.length<=i⟩
def Xi5    (h:(Bb P w).is k u=true):Aj (kV k) u:=by
 rcases C4 (show Dg k u=true from h) with ⟨i,t,rfl,rfl⟩ | ⟨x,t,rfl,rfl⟩
 ·exact⟨t,rfl⟩
 ·exact⟨t,rfl⟩
theorem Xb3:∀{kvs:List (Key×V)} {vs:List (Key×aa)} {i:Nat} {p:Key×V},KV kvs vs->kvs[i]? = some p->∃u,vs[i]? = some (p.1,u)
 | _,_,_,_,.nil,e=>by simp at e
 | _,_,0,p,.cons (b:=b) r _,e=>by
  simp at e;subst e;obtain⟨k,u⟩:=b;obtain⟨r1,r2⟩:=r;exact⟨u,by simp only[List.getElem?_cons_zero,Option.some.injEq,Prod.mk.injEq];exact⟨r1.symm,trivial⟩⟩
 | _,_,i+1,p,.cons _ t,e=>by
  obtain⟨u,h⟩:=Xb3 (i:=i) t (by simpa using e);exact⟨u,by simpa using h⟩
def Kg{P:au}{w:ay}{K:DK}{tg:aA}(d it:ae)(o:aI)(es:Array kY)(ep:Nat)(hd:o.data = .dict es ep)(kvs:List (Key×V))(dZ:d≠it):
  Turn P w K tg (Itd d o kvs) [it] it (λi h=>h.IsKeyIter it d i kvs.length ep) where
 mem:=by simp
 obj:=λi h st b hb=>by
  have e:b=it:=by simpa using hb
  subst e;obtain⟨o,e,c,d⟩:=st;exact⟨o,e,λv z=>by rw[d] at z;cases z⟩
 keep:=λi h h' st k=>by
  obtain⟨o,e,r⟩:=st;exact⟨o,k it (by simp) o e,r⟩
 item:=by
  intro X hP hw hK hc i pins s Z H E I hf st hg;subst hP hw hK;obtain⟨hH,hi⟩:=hg;obtain⟨ho,hz,hm,vs,rv,o',cj,iY,dO,hex,fO,r'⟩:=I.hok d _ hH;rw[ho] at dO;cases dO;rw[hd] at fO;cases fO;have aG:kvs.length=vs.length:=Paired.length rv;obtain⟨f0,f1,f2,f3,f4,f5⟩:=hf it (by simp);have hp:kvs[i]? = some (kvs[i]'hi):=L6 hi;obtain⟨u,hu⟩:=Xb3 rv hp;rw[aG] at st;refine wpAny_pyNext_dict_item (knd:=Bb X.prog X.w) st ⟨o,es,ho,hex,hd,r'⟩ hu λbX h' hk bT sb=>?_;have I1:Inv X pins Z H {s with heap:=h'}:=I.turned (t':=s.toks) (λb o hb e=>(sb.2 b hb).trans e) f0 f1 f3 f4 f5;obtain⟨o2,e2,c2,d2⟩:=id bT;refine⟨bX,rfl,G2 (s:={s with heap:=h'}) e2 c2 d2 (by decide) ⟨_,H,I1,Xi5 hk,⟨rfl,_,hp,rfl⟩,?_,λb hb=>(hf b hb).1⟩⟩;rw[aG];exact bT
 done:=by
  intro X hP hw hK hc i pins s Z H E I hf st hg;subst hP hw hK;obtain⟨hH,hi⟩:=hg;obtain⟨ho,hz,hm,vs,rv,o',cj,iY,dO,hex,fO,r'⟩:=I.hok d _ hH;rw[ho] at dO;cases dO;rw[hd] at fO;cases fO;have aG:kvs.length=vs.length:=Paired.length rv;obtain⟨f0,f1,f2,f3,f4,f5⟩:=hf it (by simp);rw[aG] at st;exact wpAny_pyNext_dict_end (knd:=Bb X.prog X.w) (I.ok.hd hc) st ⟨o,es,ho,hex,hd,r'⟩ (O7 (by lia)) λh' eb=>⟨rfl,I.turned (t':=s.toks) (λb o hb e=>eb b o hb e) f0 f1 f3 f4 f5⟩
 self:=λA i s Q E st h=>by
  refine dE st.typeIs PySem.F.slot_dict_keyiterator_iter (aU PySem.F.slot_dict_keyiterator_iter st.typeIs PySem.F.entry_dict_keyiterator_iter ?_ (PySem.F.args_dict_keyiterator_iter_1 _));show ai _ _ (ret (.ref it)) _ _ s;exact Qn ⟨_,rfl, "dict_keyiterator",_,st.typeIs,PySem.F.slot_dict_keyiterator_next.lookup,h⟩
section
variable {X:Cx}{tg:aA}
def Inv.freeze       (I:Inv X pins Z H s) (hH:H d=some (.dK kvs)) (ho:s.heap.get? d=some o):Inv X pins Z (upd H d (.frz o (.dK kvs))) s:=by
 have ne:∀{b:ae} {u:HO},H b=some u->(HO.dK kvs≠u)->b≠d:=λ{b u} e n=>Jk e hH (λz=>n z.symm);refine⟨I.ok,I.os,I.bare,⟨I.base.keep,I.base.slot,λb ob e n hx=>?_,I.base.there,λb xs e=>?_,λb ob u e=>?_,λb ps e=>?_⟩,I.loc,I.cell,?_,λx c e=>?_,λp kZ=>?_,λb ob e=>?_,I.len⟩
 ·have q:=I.base.free b ob e n hx;rw[Ad (λz=>by rw[z,hH] at q;cases q)];exact q
 ·have q:=I.base.tups b xs e;rw[Ad (ne q (by simp))];exact q
 ·have q:=I.base.frzs b ob u e;rw[Ad (ne q (by simp))];exact q
 ·obtain⟨bL,q⟩:=I.base.tbls b ps e;exact⟨bL,by rw[Ad (ne q (by simp))];exact q⟩
 ·rw[Ad (λz=>by have:=I.free;rw[z,hH] at this;cases this)];exact I.free
 ·have q:=I.freeC x c e;rw[Ad (λz=>by rw[z,hH] at q;cases q)];exact q
 ·obtain⟨e,n,r⟩:=I.pin p kZ;exact⟨e,by rw[Ad (λz=>by rw[z,hH] at n;cases n)];exact n,r⟩
 ·by_cases hb:b=d
  ·subst hb;rw[Ab] at e;cases e;exact⟨ho,(I.hok b _ hH).stay (λ_ _ _ q=>q) (λc q=>by rw[Ad (ne q (by simp))];exact q) λc xs q=>by rw[Ad (ne q (by simp))];exact q⟩
  ·rw[Ad hb] at e;exact(I.hok b ob e).stay (λ_ _ _ q=>q) (λc q=>by rw[Ad (ne q (by simp))];exact q) λc xs q=>by rw[Ad (ne q (by simp))];exact q
def Xi6 (tl:TE):TI:=fun Z H R=>tl Z H λx H1=>∃d kvs,x = .ref d/\H1 d=some (.dK kvs)/\∀o,R (Itd d o kvs) (upd H1 d (.frz o (.dK kvs)))
def Xi7  (hl:PE X l tl):PI X tg l (Xi6 tl):=by
 intro pins s Z H R I h;refine thn (hl pins s Z H _ I h) λv s1 ⟨x,H1,I1,r1,q1⟩=>?_;obtain⟨d,kvs,e,hH,q⟩:=q1;subst e;cases r1;obtain⟨hz,hm,vs,rv,o,es,ep,ho,hex,hd,r⟩:=I1.hok d _ hH;have aG:kvs.length=vs.length:=Paired.length rv;refine dF (knd:=Bb X.prog X.w) hm ⟨o,es,ho,hex,hd,r⟩ ?_;have I2:=I1.freeze hH ho;refine⟨s1.heap.objs.size,[s1.heap.objs.size],_,_,_,rfl,I2.kept (t':=s1.toks) λb o e=>Qw _ e,Kg d _ o es ep hd kvs (L9 (Qv ho)),⟨_,ao.get?_push_size _ rfl,rfl,by rw[aG];rfl⟩,λb hb=>?_,q o⟩;have e:b=s1.heap.objs.size:=by simpa using hb
 subst e;exact I2.fpOk (L7 _) (I2.hok.fresh (L7 _))
end
def PJ (X:Cx) (es:List aA) (t:St->Hp->(Hp->Prop)->Prop):Prop:=
 ∀(out:ah) (pins:List (ae×aI)) (s:ag) (Z:St) (H:Hp) (Q:Hp->Prop),Inv X pins Z H s->t Z H Q->out.length+5000 * es.length<=sizeLine ->
  ai (aj X.prog X.w) X.A (joinParts out (ce es X.env)) (λu s'=>∃z tk H',u = .str z tk/\Inv X pins Z H' s'/\Q H') X.xe s
def Xi8:St->Hp->(Hp->Prop)->Prop:=λ_ H Q=>Q H
def Xi9 (t:St->Hp->(Hp->Prop)->Prop):St->Hp->(Hp->Prop)->Prop:=t
section
variable {X:Cx}{es:List aA}{t:St->Hp->(Hp->Prop)->Prop}{e:aA}{te:TE}{pos:bw}
def Xb4:PJ X [] Xi8:=λout pins s Z H Q I h hz=>joinParts_nil ⟨out,_,H,rfl,I.tok _,h⟩ (by simpa using hz)
def Eo(a b:ah):(a++b).length=a.length+b.length:=gh a b
def G9   (hz:z.length<=5000) (h:PJ X es t) (he:ce (.Constant (.str z) k p::es) X.env=eval (.Constant (.str z) k p) X.env::ce es X.env:=by rfl):PJ X (.Constant (.str z) k p::es) (Xi9 t):=by
 intro out pins s Z H Q I hw hl;rw[he];rw[Ml] at hl;refine fj (Calls.Constant_str ⟨by rw[Eo];lia,?_⟩);exact h (out++z) pins _ Z H Q (I.tok _) hw (by rw[Eo];lia)
def Xja (t:St->Hp->(Hp->Prop)->Prop):TE:=fun Z H Q=>t Z H λH1=>∀z,Q (.str z) H1
def Xb5(h:PJ X (a::b::es) t)(hz:5000 * (a::b::es).length<=sizeLine:=by decide)(he:ce (a::b::es) X.env=eval a X.env::eval b X.env::ce es X.env:=by rfl):PE X (.JoinedStr (a::b::es) pos) (Xja t):=by
 intro pins s Z H Q I hw;refine JoinedStr_many ?_;rw[<-he];refine thn (h ah.empty pins s Z H _ I hw (by rw[show ah.empty.length=0 from rfl];lia)) λu s' ⟨z,tk,H',e,I',q⟩=>?_;subst e;exact⟨.str z,H',I',⟨tk,rfl⟩,q z⟩
end
end L2
namespace L2
open PySem.Calls Builtin Builtin.ObjectAttr Builtin.Getset_descriptor
structure ExcF (K:DK) (C:ae):Prop where
 ga:DO K (.ref C) "__getattribute__" = some (some (.builtin "BaseException.__getattribute__"))
 gn:DO K (.ref C) "__getattr__" = some none
 cl:DO K (.ref C) "__class__" = some (some (.builtin "object.__class__"))
 sb:DZ K (.ref C) (.type "BaseException")=some true
 so:DZ K (.ref C) (.type "object")=some true
 ic:(PySem.W.clsIn K C).isSome=true
section
variable {prog:au}{w:ay}{A:ax}{E:Zb}{K:DK}{C a:ae}{h:ao}{g:Array GenState}{d:Drawn}{t:Nat}{os:OsState}
end
end L2
namespace L2
def clsV:V->Option aa
 | .ty n=>some (.type n)
 | .ref a=>some (.ref a)
 | _=>none
section
variable {X:Cx}
end
def wN (n:Nat) (Pv:Nat->St->Hp->Prop):Nat->Nat->St->Hp->Prop:=λi m Z H=>m=n - i/\i<=n/\Pv i Z H
def wput       (hi:i<n) (hD:H D=some (.lst ys)) (hl:ys.length<sizeLine) (p:Pv (i+1) Z (upd H D (.lst (ys++[y])))):
  ∃ys,H D=some (.lst ys)/\ys.length<sizeLine/\∃m',m'<n - i/\wN n Pv (i+1) m' Z (upd H D (.lst (ys++[y]))):=⟨ys,hD,hl,n - (i+1),by lia,rfl,hi,p⟩
def wskip    (hi:i<n) (p:Pv (i+1) Z H):∃m',m'<n - i/\wN n Pv (i+1) m' Z H:=⟨n - (i+1),by lia,rfl,hi,p⟩
def F5        (n:Nat) (vs:Nat->V) (Pv:ae->Nat->St->Hp->Prop)
  (h0:∀D,H1 D=none->Pv D 0 (Bu cap Z) (upd H1 D (.lst [])))
  (gN:∀D i Z2 H2,H1 D=none->i<n->Pv D i Z2 H2->J.go i H2/\∀x H3,J.yld i H2 x H3->H3=H2/\x=vs i)
  (cu:∀D Z2 H2,H1 D=none->Pv D n Z2 H2->J.stop n H2)
  (step:∀D i Z1 H2,H1 D=none->i<n->Pv D i Z1 H2->g (vs i) Z1 H2 fun Z2 H4=>tt Z2 H4 λb H5=>
   if b=true then te Z2 H5 λy H6=>∃ys,H6 D=some (.lst ys)/\ys.length<sizeLine/\∃m',m'<n - i/\wN n (Pv D) (i+1) m' Z2 (upd H6 D (.lst (ys++[y])))
   else ∃m',m'<n - i/\wN n (Pv D) (i+1) m' Z2 H5)
  (hd:∀D Z2 H2,H1 D=none->Pv D n Z2 H2->F D H2):En cap g tt te J Z H1 F:=by
 intro D hD;refine⟨wN n (Pv D),⟨n,by simp,M3 _,h0 D hD⟩,?_⟩;rintro i m Z1 H2 ⟨rfl,hi,p⟩;by_cases aR:i<n
 ·obtain⟨h1,h2⟩:=gN D i Z1 H2 hD aR p;refine .inr ⟨h1,λx H3 y=>?_⟩;obtain⟨e1,e2⟩:=h2 x H3 y;subst e1 e2;exact step D i Z1 _ hD aR p
 ·have e:i=n:=by lia
  subst e;exact .inl ⟨cu D Z1 H2 hD p,hd D Z1 H2 hD p⟩
def Ep{K}    (h:SqL K H a xs)(hi:i<xs.length):(Itl K a).go i H/\∀x H3,(Itl K a).yld i H x H3->H3=H/\x=xs.getD i .non:=
 ⟨⟨xs,xs[i],h,by simp[hi]⟩,λx H3 ⟨e,y⟩=>⟨e,by have:=y xs h;simp[List.getD,this]⟩⟩
def Er{K}   (h:SqL K H a xs):(Itl K a).stop xs.length H:=⟨xs,h,L7 _⟩
def Xb6{K}    (h:SqT K H a xs)(hi:i<xs.length):(Itt K a).go i H/\∀x H3,(Itt K a).yld i H x H3->H3=H/\x=xs.getD i .non:=
 ⟨⟨xs,xs[i],h,by simp[hi]⟩,λx H3 ⟨e,y⟩=>⟨e,by have:=y xs h;simp[List.getD,this]⟩⟩
def Xb7{K}   (h:SqT K H a xs):(Itt K a).stop xs.length H:=⟨xs,h,L7 _⟩
def F6   {kvs}  (h:H d=some (.frz o (.dK kvs))) (hi:i<kvs.length):(Itd d o kvs).go i H/\∀x H3,(Itd d o kvs).yld i H x H3->H3=H/\x=(kvs.map λp=>kV p.1).getD i .non:=
 ⟨⟨h,hi⟩,λx H3 ⟨e,p,hp,y⟩=>⟨e,by rw[y];simp[List.getD,hp]⟩⟩
def F7   {kvs} (h:H d=some (.frz o (.dK kvs))):(Itd d o kvs).stop kvs.length H:=⟨h,L7 _⟩
end L2
namespace L2
open PySem.Calls
def Xjb(t:af)(n):(t.orStandIn n).led=t.led:=by
 unfold af.orStandIn;split
 ·rfl
 ·rfl
def Xjc(t)(es)(k)(x):(x9 t es k x).2.1.led=t.led:=by
 unfold x9;split
 ·exact Xjb _ _
 ·rfl
def Xjd  {led plain}   (h:af.laid mask finger moves led plain hs=some (t,o)):t.led=led/\t.plain=plain:=by
 unfold af.laid at h;cases q:af.layClean mask hs with
 | none=>rw[q] at h;cases h
 | some ow=>
  rw[q] at h;cases h;exact⟨rfl,rfl⟩
def Xje(t)(es)(n)(hp:t.plain=false):(cQ t es n).2.1.led=t.led/\(cQ t es n).2.1.plain=false:=by
 unfold cQ;split
 ·rename_i t' o e;obtain⟨e1,e2⟩:=Xjd e;dsimp only;split
  ·exact⟨e1,e2.trans hp⟩
  ·exact⟨rfl,rfl⟩
 ·exact⟨rfl,rfl⟩
def A4 (w:ay):Bool:=w.params.followText "set-order"
def SSet (P:au) (w:ay) (h:ao) (a:ae) (ks:Za):Prop:=
 ∃o es ep t ls,h.get? a=some o/\o.ExactSet/\o.data = .set es ep t/\dG (PySem.strKind P w) es.toList/\aB (es.toList.map (·.2)) ls/\ls.Perm ks/\es.size<aN/\t.fits es.size=true/\t.led = !A4 w/\(t.plain=true->es.size=0)
def Hh{l1 l2:List (Int×aa)}(p:l1.Perm l2)(h:aB (l2.map (·.2)) ls):∃mq,aB (l1.map (·.2)) mq/\mq.Perm ls:=by
 refine⟨(l1.map (·.2)).map jX,vb _ (λv hv=>?_),?_⟩
 ·exact h.all v ((p.map (·.2)).mem_iff.mp hv)
 ·rw[<-h.strs];exact(p.map (·.2)).map jX
def Xjf    (h:aB vs ls):aB (vs++[.str x t]) (ls++[x]):=by
 induction h with
 | nil=>exact .cons x t .nil
 | cons y u _ ih=>exact .cons y u ih
section
variable {P:au}{w:ay}{A:ax}{E:Zb}{s:ag}{a:ae}{ks:Za}
def SSet.stay(S:SSet P w h a ks)(k:∀o,h.get? a=some o->h'.get? a=some o):SSet P w h' a ks:=by
 obtain⟨o,es,ep,t,ls,ho,r⟩:=S;exact⟨o,es,ep,t,ls,k o ho,r⟩
def Xb8{vs:List (Int×aa)}  (h:aB (vs.map (·.2)) ls):x∈ls ↔ ∃e∈vs,(PySem.strKind P w).is x e.2=true:=by
 rw[<-h.strs];constructor
 ·intro hx;obtain⟨v,hv,rfl⟩:=Mo.mp hx;obtain⟨e,he,rfl⟩:=Mo.mp hv;obtain⟨y,t,q⟩:=h.all e.2 hv;refine⟨e,he,?_⟩;rw[q];exact fk P w y t
 ·rintro ⟨e,he,q⟩;obtain⟨t,e2⟩:=aa.isStrOf_shape q;exact Mo.mpr ⟨e.2,Mo.mpr ⟨e,he,rfl⟩,by rw[e2];rfl⟩
def Xb9     {h:ao} (ho:h.get? a=some o) (hex:o.ExactSet) (hd:o.data = .set es ep t)   (dq:dG (PySem.strKind P w) cj.toList) (hs:aB (cj.toList.map (·.2)) ls) (hp:ls.Perm ks) (hb:cj.size<aN) (hf:t'.fits cj.size=true) (hl:t'.led = !A4 w) (bM:t'.plain=false):
  (h.update a (aI.putSet cj t')).get? a=some {o with data:=.set cj (ep+1) t'}/\SSet P w (h.update a (aI.putSet cj t')) a ks:=by
 have g:=ao.get?_update_self (aI.putSet cj t') ho (by rw[bH cj t' hd];rfl);rw[bH cj t' hd] at g;exact⟨g,_,cj,ep+1,t',ls,g,hex,rfl,dq,hs,hp,hb,hf,hl,λz=>by rw[bM] at z;cases z⟩
def Xca{g:Bool->eR Unit}(hg:∀(b:Bool) (s1:ag) (Q':Unit->ag->Prop),Q' () s1->ai (aj P w) A (g b) Q' E s1)     (ho:s.heap.get? a=some o)(hex:o.ExactSet)(hd:o.data = .set es ep t)
    (dq:dG (PySem.strKind P w) dM.toList) (hs:aB (dM.toList.map (·.2)) ls) (hp:ls.Perm ks) (hb:dM.size<aN) (hf:t2.fits dM.size=true) (hl:t2.led = !A4 w) (bM:t2.plain=false)  (h:∀h',ao.SameBut a s.heap h'->SSet P w h' a ks->R (some true) {s with heap:=h'}):
    ai (aj P w) A (do
        fm a dM t2
        if (!wd && t2.tooFull) = true then do g (cQ t2 dM (af.grown dM.size)).2.2
                                              fm a (cQ t2 dM (af.grown dM.size)).1 (cQ t2 dM (af.grown dM.size)).2.1
                                              pure (some true)
        else pure (some true)) R E s:=by
  refine Qm (aX ho hd ?_ (aS hb));obtain⟨g1,S1⟩:=Xb9 (P:=P) (w:=w) ho hex hd dq hs hp hb hf hl bM;have sb:=Qx s.heap a (aI.putSet dM t2);split
  . have pp:=relayAll_perm t2 dM (af.grown dM.size);have ff:=relayAll_fits t2 dM (af.grown dM.size);obtain⟨rV,nV⟩:=Xje t2 dM (af.grown dM.size) bM;generalize cQ t2 dM (af.grown dM.size)=R3 at pp ff rV nV ⊢;obtain⟨qG,t3,gv⟩:=R3;dsimp only at pp ff rV nV ⊢;obtain⟨BB,s3,p3⟩:=Hh pp hs;have z:qG.size=dM.size:=by rw[<-Ma,pp.length_eq,Ma]
    refine Qm (hg _ _ _ ?_);refine Qm (aX g1 rfl ?_ (aS (by rw[z];exact hb)));obtain⟨_,S3⟩:=Xb9 (P:=P) (w:=w) (ks:=ks) g1 hex rfl (dq.perm pp) s3 (p3.trans hp) (by rw[z];exact hb) ff (rV.trans hl) nV;exact Qn (h _ (sb.trans (Qx _ a _)) S3)
  . exact Qn (h _ sb S1)
def sset_add   (S:SSet P w s.heap a ks) (hr:ks.length+1<aN)
  (h:∀b h',ao.SameBut a s.heap h'->SSet P w h' a (if x∈ks then ks else ks++[x])->Q b {s with heap:=h'}):
  ai (aj P w) A (cH a (.str x tk) ((PySem.strKind P w).hash x)) Q E s:=by
 obtain⟨o,es,ep,t,ls,ho,hex,hd,dq,hs,hp,hb,hf,hl,bM⟩:=S;have aG:es.size=ks.length:=by
  have:=hs.length;rw[L5,Ma] at this;rw[this,hp.length_eq]
 have fq:(PySem.strKind P w).is x (.str x tk)=true:=fk P w x tk;have cO:x∈ks ↔ ∃e∈es.toList,(PySem.strKind P w).is x e.2=true:=hp.mem_iff.symm.trans (Xb8 hs);unfold cH setAddHashedIn;refine a7 (Qm (a9 ho hd hf ?_));dsimp only;rw[BC (knd:=PySem.strKind P w) rfl hb dq];simp only[↓reduceIte];unfold setAddByScan;refine Qm (Qm (b8 (Qm (lf fq ho hd hf dq ?_))));cases lg:List.findIdx? (λe=>(PySem.strKind P w).is x e.2) es.toList with
 | some j=>
  dsimp only;obtain⟨hj,nW,_⟩:=Pi.mp lg;have hx:x∈ks:=cO.mpr ⟨es.toList[j],Mz hj,nW⟩;refine Qn (Qn ?_);have:=h false s.heap (ao.SameBut.refl a s.heap) (by rw[Qq hx];exact⟨o,es,ep,t,ls,ho,hex,hd,dq,hs,hp,hb,hf,hl,bM⟩);exact this
 | none=>
  dsimp only;have hx:x∉ks:=λz=>by
   obtain⟨e,he,q⟩:=cO.mp z;have:=List.findIdx?_eq_none_iff.mp lg e he;rw[q] at this;cases this
  have gw:∀(b:Bool) (s1:ag) (Q':Unit->ag->Prop),Q' () s1->ai (aj P w) A (match b with | true=>rule "set.scan.the-table-gave-way" | false=>pure ()) Q' E s1:=λb s1 Q' q=>by
   cases b with
   | true=>exact b8 q
   | false=>exact Qn q
  have pp:=layNew_perm t es ((PySem.strKind P w).hash x) (.str x tk);have ff:=layNew_fits t es ((PySem.strKind P w).hash x) (.str x tk);have fl:=Xjc t es ((PySem.strKind P w).hash x) (.str x tk);generalize x9 t es ((PySem.strKind P w).hash x) (.str x tk)=R at pp ff fl ⊢;obtain⟨dM,t1,wd,gv⟩:=R;dsimp only at pp ff fl ⊢;rw[Array.toList_push] at pp;have vc:=(dq.push fq rfl).perm pp;have qH:aB ((es.toList++[((PySem.strKind P w).hash x,aa.str x tk)]).map (·.2)) (ls++[x]):=by
   rw[Mn];exact Xjf hs
  obtain⟨xA,nX,p1⟩:=Hh pp qH;have z1:dM.size=ks.length+1:=by
   rw[<-Ma,pp.length_eq,Mg,Ma,aG];rfl
  have p2:xA.Perm (ks++[x]):=p1.trans (hp.append_right _);rw[Qp hx] at h;refine Qm (gw _ _ _ ?_);split
  ·refine Qm ?_;rw[hashByValue_scannable 8 (x:=aa.str x tk) rfl];refine Qn ?_;refine Xca (ks:=ks++[x]) gw ho hex hd vc nX p2 (by rw[z1];exact hr) (af.fits_plain_off ff) (fl.trans hl) rfl (λh' sb S'=>?_);dsimp only;exact Qn (h true h' sb S')
  ·rename_i np;refine Qm (Qn ?_);simp only[↓reduceIte];refine Xca (ks:=ks++[x]) gw ho hex hd vc nX p2 (by rw[z1];exact hr) ff (fl.trans hl) (by cases q:t1.plain with | false=>rfl | true=>exact absurd q np) (λh' sb S'=>?_);dsimp only;exact Qn (h true h' sb S')
end
def dd1 (acc:Za) (x:ah):Za:=if x∈acc then acc else acc++[x]
def ddup (ss:Za):Za:=ss.foldl dd1 []
def Xcb(ss)(x):ddup (ss++[x])=dd1 (ddup ss) x:=by
 unfold ddup;rw[List.foldl_append];rfl
def Kh{p:Za->Za->Prop}(h0:p [] [])(h1:∀ss x,p ss (ddup ss)->p (ss++[x]) (dd1 (ddup ss) x))(ss):p ss (ddup ss):=by
 have go:∀n ss,ss.length=n->p ss (ddup ss):=by
  intro n
  induction n with
  | zero=>
   intro ss e;rw[Nn.mp e];exact h0
  | succ n ih=>
   intro ss e;have dZ:ss≠[]:=λz=>by rw[z] at e;cases e
   have e2:=List.dropLast_concat_getLast dZ;rw[<-e2,Xcb];exact h1 _ _ (ih _ (by rw[List.length_dropLast,e];rfl))
 exact go _ ss rfl
def Hi(ss):∀x,x∈ddup ss↔x∈ss:=by
 refine Kh (p:=λss d=>∀x,x∈d↔x∈ss) (λx=>Iff.rfl) (λss y ih x=>?_) ss;unfold dd1;split
 ·rename_i hy;rw[ih,Mm,Mi];constructor
  ·exact .inl
  ·rintro (z | z)
   ·exact z
   ·rw[z];exact(ih y).mp hy
 ·rw[Mm,Mm,ih]
def Fh(ss):(ddup ss).Nodup:=by
 refine Kh (p:=λ_ d=>d.Nodup) Qe (λss y ih=>?_) ss;unfold dd1;split
 ·exact ih
 ·rename_i hy;exact N3.mpr ⟨ih,by simp,λa ha b hb=>by rw[Mi.mp hb];exact λz=>hy (z ▸ ha)⟩
def F8(ss):(ddup ss).length<=ss.length:=by
 refine Kh (p:=λss d=>d.length<=ss.length) (L7 _) (λss y ih=>?_) ss;unfold dd1;rw[Mg,Nh];split
 ·lia
 ·rw[Mg,Nh];lia
section
variable {P:au}{w:ay}{A:ax}{E:Zb}{s:ag}
def Xcc     {St} (ss) (W:WalksS P w A.in1 I fp wr G ss.length Pv St) (S) (nS:S∉fp)
  (jz:∀i v,Pv i v->∃t,v = .str (ss.getD i "") t) (hb:ss.length+1<aN):
  ∀k i s,ss.length - i=k->i<=ss.length->St i s->SSet P w s.heap S (ddup (ss.take i))->(∀s',vd (S::wr) G s s'->SSet P w s'.heap S (ddup ss)->R (.ok (.ret .none)) s') ->
   bi (aj P w) A (.builtin "set.update.loop" ⟨[.ref S,.ref I],[]⟩) R s:=by
 have nw:S∉wr:=λz=>nS (W.sub _ z);have up:∀b∈wr,b∈S::wr:=λb z=>L8 _ z;intro k
 induction k with
 | zero=>
  intro i s e hi st hS hR;have:i=ss.length:=by lia
  subst this;rw[Oe] at hS;refine bE F.entry_set_update_loop ?_;rw[ax.under_plainId F.plain_set_update_loop _];show ai _ A.in1 (de (.ref I) >>= λ_=>_) _ _ s;refine Qm (W.done s _ _ st λs' mv=>?_);show ai _ A.in1 (ret aa.none) _ _ s';exact Qn (hR s' (mv.mono up) (hS.stay λo z=>mv.heap S o nw z))
 | succ k ih=>
  intro i s e hi st hS hR;have lt:i<ss.length:=by lia
  refine bE F.entry_set_update_loop ?_;rw[ax.under_plainId F.plain_set_update_loop _];show ai _ A.in1 (de (.ref I) >>= λ_=>_) _ _ s;refine Qm (W.item i s _ _ lt st λv s' hP bT mv=>?_);obtain⟨t,rfl⟩:=jz i v hP;have rW:=hS.stay λo z=>mv.heap S o nw z;show ai _ A.in1 (holding [aa.str (ss.getD i "") t] (setAdd S (.str (ss.getD i "") t)) >>= λ_=>_) _ _ s';refine Qm (a7 ?_);unfold setAdd;refine a7 (Qm ((PySem.strKind P w).pyHash (k:=ss.getD i "") (fk P w _ t) ?_));have gO:(ddup (ss.take i)).length<=i:=M8 (F8 _) (by rw[Nd];lia);refine sset_add (s:={s' with toks:=s'.toks+1}) rW (by lia) λb h' sb S2=>?_;have e3:ddup (ss.take (i+1))=dd1 (ddup (ss.take i)) (ss.getD i ""):=by
   rw[Mv lt,Xcb];congr 1;simp[List.getD,lt]
  have S3:SSet P w h' S (ddup (ss.take (i+1))):=by rw[e3];exact S2
  refine Qn ⟨cA F.plain_set_update_loop _,ih (i+1) _ (by lia) lt (W.frame _ s' _ _ bT (Og _) λb hb o q=>?_) S3 λjs xB S4=>?_⟩
  ·rw[sb.2 b (λz=>nS (z ▸ hb))];exact q
  ·refine hR js (vd.trans W.gtrans ((mv.mono up).then_heap (Og _) λb o hb q=>?_) xB) S4;rw[sb.2 b (λz=>hb (z ▸ Mf))];exact q
inductive Src (h:ao) (l:ae) (aY:Array aa):Prop
 | lst:h.IsList l aY->Src h l aY
 | tup:h.IsTuple l aY->Src h l aY
def Xjg(a){Q}(h:Q (.ref s.heap.objs.size) {s with heap:=s.heap.push {cls:=.type "set",dict:=none,data:=.set #[] 0 (.fresh 0 0 (!A4 w))} }):
    bi (aj P w) A (.call (.builtin "set.__new__") ⟨[.type "set",a],[]⟩) (wants Q E) s:=by
  refine eA ?_
  show ai _ A.in1 (do    checkBuiltinCall "set.__new__" ⟨[.type "set",a],[]⟩
                         again (.builtin "set.__new__" ⟨[.type "set",a],[]⟩)) _ _ s
  refine Qm (ed (PySem.F.newCall_set_1 a) (Qn ⟨cA PySem.F.plain_set_new _,bE PySem.F.entry_set_new ?_⟩));rw[ax.under_plainId PySem.F.plain_set_new _];unfold av.«set.__new__» av.Frozenset.newClass;have q:=gP;obtain⟨hp,g,d,tk,os⟩:=s;dsimp only
  wp_walk
  refine aJ (Qn ?_);dsimp only;simp only[newObj];exact Qm (iy (Qn (Qn h)))
end
end L2
set_option maxHeartbeats 3200000
namespace L2
open PySem.Calls
section
variable {P:au}{w:ay}{A:ax}{E:Zb}{s:ag}
abbrev D3 (w:ay):aI:={cls:=.type "set",dict:=none,data:=.set #[] 0 (.fresh 0 0 (!A4 w))}
def Xjh  (g:h.get? a=some (D3 w)):SSet P w h a []:=
 ⟨_, #[],0,_,[],g,⟨rfl,rfl,rfl⟩,rfl,λe he=>by simp at he,.nil,.nil,by decide,rfl,rfl,λ_=>rfl⟩
def Xji    (hh:A.handled=none) (lh:Src s.heap l aY) (hs:aB aY.toList ss) (hb:ss.length+1<aN) (hS:SSet P w s.heap S []) (ve:l≠S)
  (xC:∀(Q:Bool->ag->Prop),Q false s->ai (aj P w) A (av.Frozenset.isAnySet (.ref l)) Q E s)
  (h:∀(h':ao) (tk:Nat),SSet P w h' S (ddup ss)->(∀b o,b≠S->s.heap.get? b=some o->h'.get? b=some o)->R () {s with heap:=h',toks:=tk}):
  ai (aj P w) A (av.Frozenset.updateFrom "set.__init__" S (.ref l)) R E s:=by
 have aG:aY.size=ss.length:=by
  have:=hs.length
  rwa [Ma] at this
 have jz:∀(i:Nat) (v:aa),aY[i]? = some v->∃t,v = .str (ss.getD i "") t:=λi v q=>by
  have q':aY.toList[i]? = some v:=by rw[Array.getElem?_toList];exact q
  obtain⟨x,t,rfl⟩:=hs.all v (Nm q');refine⟨t,?_⟩;congr 1;rw[<-hs.strs];simp[List.getD,Mt,q,jX]
 obtain⟨oS,_,_,_,_,gS,_⟩:=id hS;have ltS:=Qv gS;unfold av.Frozenset.updateFrom;refine Qm (xC _ ?_);simp only[My,if_false];cases lh with
 | lst hl=>
  have nY:l<s.heap.objs.size:=by obtain⟨o,g,_⟩:=hl;exact Qv g
  refine Qm (cI (T := "list") hl.typeIs ?_);have ne:(aa.type "list" == aa.type "dict")=false:=by decide
  simp only[ne,My,if_false];refine Qm (cw hl ?_);refine Qm (ft ?_);have nI:S∉[s.heap.objs.size,l]:=by simp only[Mb,Nt,or_false,not_or];exact⟨L9 ltS,ve.symm⟩
  have W:=(jT.list (prog:=P) (w:=w) (A:=A.in1) (by simp[hh]) s.heap.objs.size l (L9 nY) aY).toS;rw[aG] at W;refine Xcc ss W S nI jz hb _ 0 _ rfl (M3 _) ⟨⟨_,ao.get?_push_size _ rfl,rfl,rfl⟩,hl.push _⟩ (hS.stay λo q=>Qw _ q) λs' mv S'=>?_;rw[vd.eq_with mv];refine Qn (h s'.heap s'.toks S' λb o nb q=>mv.heap b o (λz=>?_) (Qw _ q));rcases Mb.mp z with z | z
  ·exact nb z
  ·exact absurd (Qv q) (by rw[Mi.mp z];exact Na _)
 | tup hl=>
  have nY:l<s.heap.objs.size:=by obtain⟨o,g,_⟩:=hl;exact Qv g
  refine Qm (cI (T := "tuple") hl.typeIs ?_);have ne:(aa.type "tuple" == aa.type "dict")=false:=by decide
  simp only[ne,My,if_false];refine Qm (jr hl ?_);refine Qm (ft ?_);have nI:S∉[s.heap.objs.size,l]:=by simp only[Mb,Nt,or_false,not_or];exact⟨L9 ltS,ve.symm⟩
  have W:=(jT.tuple (prog:=P) (w:=w) (A:=A.in1) (by simp[hh]) s.heap.objs.size l (L9 nY) aY).toS;rw[aG] at W;refine Xcc ss W S nI jz hb _ 0 _ rfl (M3 _) ⟨⟨_,ao.get?_push_size _ rfl,rfl,rfl⟩,hl.push _⟩ (hS.stay λo q=>Qw _ q) λs' mv S'=>?_;rw[vd.eq_with mv];refine Qn (h s'.heap s'.toks S' λb o nb q=>mv.heap b o (λz=>?_) (Qw _ q));rcases Mb.mp z with z | z
  ·exact nb z
  ·exact absurd (Qv q) (by rw[Mi.mp z];exact Na _)
def Src.push   (x:Src h l aY) (o):Src (h.push o) l aY:=by
 cases x with
 | lst y=>exact .lst (y.push o)
 | tup y=>exact .tup (y.push o)
def Src.any   (x:Src s.heap l aY) (q:Q false s):ai (aj P w) A (av.Frozenset.isAnySet (.ref l)) Q E s:=by
 cases x with
 | lst y=>
  obtain⟨o,g,c,n,d⟩:=y;obtain⟨oc,od,xD,os⟩:=o;simp only at c d;subst c d;have h1:=PySem.F.sub_list_set;have h2:=PySem.F.sub_list_frozenset;unfold av.Frozenset.isAnySet
  wp_walk
  exact q
 | tup y=>
  obtain⟨o,g,c,n,d⟩:=y;obtain⟨oc,od,xD,os⟩:=o;simp only at c d;subst c d;have h1:BD (.type "tuple") (.type "set")=pure false:=by rw[cf];kernel_rfl
  have h2:BD (.type "tuple") (.type "frozenset")=pure false:=by rw[cf];kernel_rfl
  unfold av.Frozenset.isAnySet
  wp_walk
  exact q
def Src.lt   (x:Src h l aY):l<h.objs.size:=by
 cases x with
 | lst y=>obtain⟨o,g,_⟩:=y;exact Qv g
 | tup y=>obtain⟨o,g,_⟩:=y;exact Qv g
def Xjj    (hh:A.handled=none) (lh:Src s.heap l aY) (hs:aB aY.toList ss) (hb:ss.length+1<aN)
  (h:∀(h':ao) (tk:Nat),SSet P w h' s.heap.objs.size (ddup ss)->(∀b o,s.heap.get? b=some o->h'.get? b=some o)->Q (.ref s.heap.objs.size) {s with heap:=h',toks:=tk}):
  ai (aj P w) A (call (.type "set") [.ref l]) Q E s:=by
 obtain⟨c,tl,xE⟩:=PySem.F.called_set.mro;have vf:=PySem.F.called_set.made;have xF:=PySem.F.called_set.sub;refine eU (eA ?_);show ai _ _ (callAny (.type "set") _) _ _ s;refine Qn ⟨Code.quiet_builtin _ (by decide +kernel),bE PySem.F.entry_type_call ?_⟩;rw[ax.under_plain (weight_type_call_type "set" [.ref l] []) rfl];have f1:=PySem.F.called_set.notType;have f2:=PySem.F.called_set.canCreate;have f3:=PySem.F.typeCall_set_1 (.ref l)
 repeat (any_goals (first | assumption | wp_step))
 refine bv (Xjg (.ref l) (E:=E) (Q:=λobj s1=>obj = .ref s.heap.objs.size/\s1 = {s with heap:=s.heap.push (D3 w)}) ⟨rfl,rfl⟩) λr s1 hr=>?_;cases r with
 | error e=>exact hr
 | ok fl=>
  cases fl with
  | ret obj=>
   obtain⟨rfl,rfl⟩:=hr;have gS:(s.heap.push (D3 w)).get? s.heap.objs.size=some (D3 w):=ao.get?_push_size _ rfl;have hT:ag.TypeIs {s with heap:=s.heap.push (D3 w)} (.ref s.heap.objs.size) "set" := ⟨_,gS,rfl⟩;have f4:=PySem.F.called_set.init.lookup;have f5:=PySem.F.called_set.init.bind (.ref s.heap.objs.size)
   repeat (any_goals (first | assumption | wp_step))
   refine bv (codeAny_call_builtin (R:=wants (λr s2=>r = .none/\∃h' tk,s2 = {s with heap:=h',toks:=tk}/\SSet P w h' s.heap.objs.size (ddup ss)/\∀b o,s.heap.get? b=some o->h'.get? b=some o) E)
    PySem.F.called_set.init.plain PySem.F.entry_set_init (check_set_init_1 hT ?_)) λr2 s2 eB=>?_
   ·have nZ:=lh.push (D3 w);have lt:=lh.lt;unfold av.«set.__init__» noKeywords;generalize hU:av.Frozenset.updateFrom=U
    wp_walk
    subst hU;refine Xji (s:={s with heap:=s.heap.push (D3 w)}) (by simp[hh]) nZ hs hb (Xjh gS) (L9 lt) (λQ q=>Src.any (s:={s with heap:=s.heap.push (D3 w)}) nZ q) λh' tk S' kk=>?_;exact Qn ⟨rfl,h',tk,rfl,S',λb o q=>kk b o (L9 (Qv q)) (Qw _ q)⟩
   ·cases r2 with
    | error e=>exact eB
    | ok nV=>
     cases nV with
     | ret r=>
      obtain⟨rfl,h',tk,rfl,S',kk⟩:=eB
      repeat (any_goals (first | assumption | wp_step))
      exact h _ _ S' kk
     | _=>exact eB.elim
  | _=>exact hr.elim
end
namespace SF
def sIter:xv "set" "__iter__" "set.__iter__" := PySem.F.slot_set_iter
def eIter:i4 table "set.__iter__" = some av.«frozenset.__iter__»:=fu (id' := "frozenset.__iter__") (by kernel_rfl) rfl (by decide +kernel) (by kernel_rfl)
def sNext:xv "set_iterator" "__next__" "set_iterator.__next__" := .of (owner := "set_iterator") (n := "__next__") (by rw[mw,ie];kernel_rfl) (by decide +kernel) (by decide +kernel) (by decide +kernel) (by first | exact .inl (by decide +kernel) | exact .inr (by decide +kernel)) (by rw[cf];kernel_rfl)
def eNext:i4 table "set_iterator.__next__" = some av.«set_iterator.__next__»:=entryFor_of_tree (by kernel_rfl)
def aNext(a):oe "set_iterator.__next__" ⟨[a],[]⟩:=by unfold oe;kernel_rfl
end SF
theorem Ki{α : Type}:∀(xs:List α) (i:Nat) (hi:i<xs.length),(xs[i]::xs.eraseIdx i).Perm xs
 | x::xs,0,_=>Nv _
 | x::xs,i+1,hi=>by
  have ih:=Ki xs i (by simpa using hi);rw[List.eraseIdx_cons_succ,List.getElem_cons_succ];exact(List.Perm.swap x _ _).trans (ih.cons x)
def Xjk{α : Type}(next):∀(n k:Nat) (left:List α) (out:Array α),left.length=n->(bI.go next n k left out).toList.Perm (out.toList++left):=by
 intro n
 induction n with
 | zero=>
  intro k left out e;rw[Nn.mp e,Np];exact Nv _
 | succ n ih=>
  intro k left out e;have aR:next k % left.length<left.length:=Qg _ (by lia);unfold bI.go;rw[L6 aR];dsimp only;refine(ih _ _ _ (by rw[Ov aR,e];rfl)).trans ?_;rw[Array.toList_push,Pq];exact(Ki left _ aR).append_left _
def Xcd{α : Type}(next)(xs:Array α):(bI next xs).toList.Perm xs.toList:=by
 have:=Xjk next xs.size 0 xs.toList #[] (by simp);simpa [bI] using this
section
variable {P:au}{w:ay}{A:ax}{E:Zb}{s:ag}
def Xjl   (hn:n≠0) (h:∀i d,i<n->Q i {s with drawn:=d}):ai (aj P w) A (choose lh n) Q E s:=by
 intro Γ p hΓ;exact⟨hn,h _ _ (Qg _ (Nat.pos_of_ne_zero hn))⟩
def Xce{α : Type}:∀(n:Nat) (xs:List α) (s:ag) (Q:List α->ag->Prop),xs.length=n->(∀os d,os.Perm xs->Q os {s with drawn:=d})->ai (aj P w) A (gC n xs) Q E s:=by
 intro n
 induction n with
 | zero=>
  intro xs s Q e h;rw[Nn.mp e] at h ⊢;unfold gC;exact Qn (h [] s.drawn (Nv _))
 | succ n ih=>
  intro xs s Q e h;cases xs with
  | nil=>cases e
  | cons y ys=>
   unfold gC;refine Qm (Xjl (by simp) λi d hi=>?_);rw[L6 hi];dsimp only;refine Qm (ih _ _ _ (by rw[Ov hi,e];rfl) λos d' hp=>?_);exact Qn (h _ d' ((hp.cons _).trans (Ki _ i hi)))
def SAt (h:ao) (a:ae) (es:Array (Int×aa)) (ep:Nat) (t:af):Prop:=∃o,h.get? a=some o/\o.ExactSet/\o.data = .set es ep t/\t.fits es.size=true
def Xjm     (hs:SAt s.heap a es ep t) (h:Q (!A4 w&&(!t.plain&&decide (es.size > 1))) s):ai (aj P w) A (setDrawn a) Q E s:=by
 obtain⟨o,ho,hex,hd,hf⟩:=hs;unfold setDrawn bP;refine Qm (a9 ho hd hf ?_);dsimp only;refine Qm (Qm (aJ (Qn ?_)));exact Qn h
abbrev itO (f0:aa) (i:Nat) (a:ae) (n ep:Nat):aI:={cls:=.type "set_iterator",data:=.fields #[f0,.int i 0,.ref a,.int n 0,.int ep 0]}
inductive Ord (w:ay) (h:ao) (a:ae) (es:Array (Int×aa)) (ep:Nat) (t:af) (f0:aa) (i:Nat):List aa->Prop
 | txt:A4 w=true->f0 = .int 0 0->Ord w h a es ep t f0 i ((bI (w.params.setOrder a ep) es).toList.map (·.2))
 | drw (p:ae) (os:List Nat):A4 w=false->os.Perm (List.range es.size)->f0 = .ref p->(∃n,h.get? p=some ⟨.type "tuple",none,.seq (os.map λj=>aa.int (j:Nat) 0).toArray n, #[]⟩)->Ord w h a es ep t f0 i (os.map λj=>((es[j]?).map (·.2)).getD .none)
 | one (sl:Nat):A4 w=false->t.led=true->es.size<=1->f0 = .int sl 0->(i=0->sl=0)->(∀j,i=1->t.place[0]? = some j->sl=j+1)->Ord w h a es ep t f0 i (es.toList.map (·.2))
def Xjn     (hs:SAt s.heap a es ep t) (hb:es.size<aN) (hl:t.led = !A4 w) (hp:t.plain=true->es.size=0)
    (h:∀(f0:aa) (vs:List aa) (h1:ao) (d:Drawn),(∀b o,s.heap.get? b=some o->h1.get? b=some o)->h1.objs.size<=s.heap.objs.size+1->s.heap.objs.size<=h1.objs.size->(∀p,f0 = .ref p->p<h1.objs.size)->Ord w (h1.push (itO f0 0 a es.size ep)) a es ep t f0 0 vs ->
      vs.Perm (es.toList.map (·.2))->Q (.ref h1.objs.size) {s with heap:=h1.push (itO f0 0 a es.size ep),drawn:=d}):
    ai (aj P w) A (eT (.ref a)) Q E s:=by
  obtain⟨o,ho,hex,hd,hf⟩:=id hs;have hT:s.TypeIs (.ref a) "set" := ⟨o,ho,hex.1⟩;refine dE hT SF.sIter (aU SF.sIter hT SF.eIter ?_ (PySem.F.args_set_iter_1 _));unfold av.«frozenset.__iter__» av.Frozenset.slot0 og;simp only[List.isEmpty_nil,Pj,My, ↓reduceIte,bind_assoc,Oo,bne_self_eq_false];unfold av.Frozenset.addrOf av.Frozenset.sizeOf;refine Qm (Qn ?_);dsimp only;refine Qm (Qn ?_);refine Qm (Qm (bY ho hd hf (Qn ?_)));refine Qm (Xjm hs ?_);have fin:∀(f0:aa) (vs:List aa) (h1:ao) (d:Drawn),(∀b o,s.heap.get? b=some o->h1.get? b=some o)->h1.objs.size<=s.heap.objs.size+1->s.heap.objs.size<=h1.objs.size->(∀p,f0 = .ref p->p<h1.objs.size)->Ord w (h1.push (itO f0 0 a es.size ep)) a es ep t f0 0 vs->vs.Perm (es.toList.map (·.2)) ->
      ai (aj P w) A.in1 (do       let r <-newFields "set_iterator" [f0,aP 0,.ref a,aP es.size,aP ep]
                                  ret r) (λfin s'=>∃r,fin = .done (.ret r)/\∃T v,s'.TypeIs r T/\ju (.type T) (ah.ofString "__next__")=pure (some v)/\Q r s') E {s with heap:=h1,drawn:=d}:=λf0 vs h1 d k1 k2 k3 k4 k5 k6=>
    Qm (bz (Qn ⟨_,rfl, "set_iterator",_,⟨_,ao.get?_push_size _ rfl,rfl⟩,SF.sNext.lookup,h f0 vs h1 d k1 k2 k3 k4 k5 k6⟩))
  by_cases hc:(!A4 w&&(!t.plain&&decide (es.size > 1)))=true
  . rw[Qq hc];simp only[Mp,Qf,decide_eq_true_eq] at hc;obtain⟨c1,c2,c3⟩:=hc;refine Qm (Xce _ _ _ _ N4 λos d po=>?_);have rX:os.length=es.size:=by rw[po.length_eq,N4]
    refine Qm (cR ?_ (by rw[L5,rX];exact aS hb));refine Qm (bK (Qw _ ho) hd hf ?_);refine fin _ _ _ d (λb o q=>Qw _ q) (by rw[bd];exact L7 _) (by rw[bd];exact Og _) (λp e=>by cases e;rw[bd];exact Nat.lt_succ_self _) (.drw s.heap.objs.size os c1 po rfl ⟨0,Qw _ (ao.get?_push_size _ rfl)⟩) ?_;have e:(os.map λj=>((es[j]?).map (·.2)).getD aa.none).Perm ((List.range es.size).map λj=>((es[j]?).map (·.2)).getD aa.none):=po.map _;refine e.trans ?_;have e2:((List.range es.size).map λj=>((es[j]?).map (·.2)).getD aa.none)=es.toList.map (·.2):=by
      apply List.ext_getElem?;intro i;have q:es.toList[i]? = es[i]?:=Array.getElem?_toList;rw[Mt,Mt,q];by_cases hi:i<es.size
      . rw[List.getElem?_range hi,O1,getElem?_pos es i hi];rfl
      . rw[O7 (by simpa using hi),getElem?_neg es i hi];rfl
    rw[e2]
  . rw[Qp hc];refine Qm (Qn ?_);refine Qm (bK ho hd hf ?_);cases hw:A4 w with
    | true=>exact fin _ _ _ s.drawn (λb o q=>q) (Og _) (L7 _) (λp e=>by cases e) (.txt hw rfl) ((Xcd _ es).map _)
    | false=>
      have h1:es.size<=1:=by
        cases bM:t.plain with
        | true=>rw[hp bM];exact M3 _
        | false=>
          simp only[hw,bM,Bool.not_false,Oh,decide_eq_true_eq] at hc
          lia
      exact fin _ _ _ s.drawn (λb o q=>q) (Og _) (L7 _) (λp e=>by cases e) (.one 0 hw (by rw[hl,hw];rfl) h1 rfl (λ_=>rfl) (λj e=>by cases e)) (Nv _)
end
end L2
namespace L2
open PySem.Calls
section
variable {P:au}{w:ay}{A:ax}{E:Zb}{s:ag}{I a:ae}{es:Array (Int×aa)}{ep:Nat}{t:af}
def ItS (w:ay) (I a:ae) (es:Array (Int×aa)) (ep:Nat) (t:af) (vs:List aa) (fp:Option ae) (i:Nat) (h:ao):Prop:=
 ∃f0,h.get? I=some (itO f0 i a es.size ep)/\Ord w h a es ep t f0 i vs/\SAt h a es ep t/\(∀p,f0 = .ref p->fp=some p)
def Xcf   (hI:s.heap.get? I=some (itO f0 i a es.size ep)) (hS:SAt s.heap a es ep t)
  (h1:∀sl,f0 = .int sl 0->ai (aj P w) A (do
   match <-gQ a sl.toNat i ep with
   | some (x,next)=>bS (.ref I) 0 (aP next);bS (.ref I) 1 (aP ((i:Int)+1));ret x
   | none=>bS (.ref I) 2 .none;fw (<-j4 (.type "StopIteration") [])) Q E s)
  (h2:∀p,f0 = .ref p->ai (aj P w) A (do
   let some lj <-seqItems? (.ref p) | unsupported "internal:set_iterator"
   match lj[i]? with
   | some (.int place _)=>let x <-rY a place.toNat ep;bS (.ref I) 1 (aP ((i:Int)+1));ret x
   | some _=>unsupported "internal:set_iterator"
   | none=>bS (.ref I) 0 (aP 0);bS (.ref I) 2 .none;fw (<-j4 (.type "StopIteration") [])) Q E s)
  (hf:(∃sl,f0 = .int sl 0) \/ ∃p,f0 = .ref p):ai (aj P w) A (av.«set_iterator.__next__» ⟨[.ref I],[]⟩) Q E s:=by
 obtain⟨o,ho,hex,hd,jc⟩:=id hS;unfold av.«set_iterator.__next__» og;simp only[List.isEmpty_nil,Pj,My, ↓reduceIte,bind_assoc,Oo,bne_self_eq_false];refine Qm (Qn ?_);dsimp only;refine Qm (wpAny_fieldsOf hI rfl ?_);dsimp only;refine Qm (bY ho hd jc ?_);rw[Qp (by simp)];rcases hf with ⟨sl,rfl⟩ | ⟨p,rfl⟩
 ·exact h1 sl rfl
 ·exact h2 p rfl
def Hj{h:ao}{f0 x:aa}{i j n:Nat}(hI:h.get? I=some (itO f0 i a n ep))(k)(v):
  (h.update I (aI.mapFields (·.setIfInBounds k v))).get? I=some {cls:=.type "set_iterator",data:=.fields ((#[f0,.int i 0,.ref a,.int n 0,.int ep 0]:Array aa).setIfInBounds k v)}:=
 ao.get?_update_self _ hI rfl
def SAt.at(x:SAt h a es ep t)(k:∀o,h.get? a=some o->h'.get? a=some o):SAt h' a es ep t:=by
 obtain⟨o,ho,r⟩:=x;exact⟨o,k o ho,r⟩
def Xcg  (hw:A4 w=true) (hS:SAt s.heap a es ep t) (h:Q (((bI (w.params.setOrder a ep) es)[i]?).map λe=>(e.2,sl)) s):ai (aj P w) A (gQ a sl i ep) Q E s:=by
 obtain⟨o,ho,hex,hd,hf⟩:=id hS;unfold gQ bP;refine Qm (a9 ho hd hf ?_);dsimp only;refine Qm (Qm (aJ (Qn ?_)));rw[Qq (show (aj P w).w.params.followText "set-order" = true from hw),Qp (by simp)];unfold jY bP;refine Qm (Qm (a9 ho hd hf ?_));dsimp only;refine Qm (Qm (aJ (Qn ?_)));rw[Qq (show (aj P w).w.params.followText "set-order" = true from hw)];exact Qm (aJ (Qn (Qn h)))
def Xch  (hw:A4 w=false) (hl:t.led=true) (h1:es.size<=1) (hS:SAt s.heap a es ep t)
  (h:Q (match es[af.below t.place sl]?,t.place[af.below t.place sl]? with | some (_,x),some j=>some (x,j+1) | _,_=>none) s):ai (aj P w) A (gQ a sl i ep) Q E s:=by
 obtain⟨o,ho,hex,hd,hf⟩:=id hS;unfold gQ bP;refine Qm (a9 ho hd hf ?_);dsimp only;refine Qm (Qm (aJ (Qn ?_)));rw[Qp (show ¬(aj P w).w.params.followText "set-order" = true from by show ¬A4 w=true;rw[hw];decide)];have d1:(!t.plain&&decide (es.size > 1))=false:=by rw[Qs (by lia),Bool.and_false]
 refine bW (λz=>?_) (λ_=>?_)
 ·have z':(!t.plain&&decide (es.size > 1))=true:=z;rw[d1] at z';cases z'
 refine Qm ?_;have m1:(!t.led && !es.isEmpty)=false:=by rw[hl];rfl
 refine bW (λz=>?_) (λ_=>Qn (Qn h));have z':(!t.led && !es.isEmpty)=true:=z;rw[m1] at z';cases z'
def Xjo(h:t.place.size<=1):af.below t.place 0=0:=by
 generalize t.place=pl at *;obtain⟨l⟩:=pl
 match l,h with
 | [],_=>rfl
 | [x],_=>simp[af.below,af.below.go]
def Xjp  (h:t.place.size<=1) (hj:t.place[0]? = some j):af.below t.place (j+1)=1:=by
 generalize t.place=pl at *;obtain⟨l⟩:=pl
 match l,h,hj with
 | [x],_,hj=>
  have:x=j:=by simpa using hj
  subst this;simp[af.below,af.below.go]
def Xci(h:t.fits n=true):t.place.size=n:=by
 unfold af.fits at h;simp only[Mp,beq_iff_eq] at h;exact h.1
end
section
variable {P:au}{w:ay}{A:ax}{E:Zb}{s:ag}{I a:ae}{es:Array (Int×aa)}{ep:Nat}{t:af}{vs:List aa}{fp:Option ae}
def Ord.cases0   (x:Ord w h a es ep t f0 i vs):(∃sl:Int,f0 = .int sl 0) \/ ∃p,f0 = .ref p:=by
 cases x with
 | txt _ e=>exact .inl ⟨0,e⟩
 | drw p os _ _ e _=>exact .inr ⟨p,e⟩
 | one sl _ _ _ e _ _=>exact .inl ⟨sl,e⟩
def Xjq  (st:ItS w I a es ep t vs fp i s.heap) (hi:i<vs.length) (hl:vs.length=es.size) (qI:a≠I) (rZ:∀p,fp=some p->p≠I)
  (hQ:∀h',ItS w I a es ep t vs fp (i+1) h'->ao.SameBut I s.heap h'->Q (some vs[i]) {s with heap:=h'}):ai (aj P w) A (de (.ref I)) Q E s:=by
 obtain⟨f0,hI,hO,hS,hp⟩:=st;have hT:s.TypeIs (.ref I) "set_iterator" := ⟨_,hI,rfl⟩;unfold de;refine Qm (dc (gD (name:=ah.ofString "__next__") hT SF.sNext (aU SF.sNext hT SF.eNext ?_ (SF.aNext _))));have e1:((i:Int)+1)=((i+1:Nat):Int):=by lia
 have fin:∀(E':Zb) (nx:Nat),Ord w ((s.heap.update I (aI.mapFields (·.setIfInBounds 0 (aP nx)))).update I (aI.mapFields (·.setIfInBounds 1 (aP ((i:Int)+1))))) a es ep t (.int nx 0) (i+1) vs ->
   ai (aj P w) A.in1 (do
    bS (.ref I) 0 (aP nx)
    bS (.ref I) 1 (aP ((i:Int)+1))
    ret vs[i]) (λfin s'=>∃r,fin = .done (.ret r)/\ai (aj P w) A (pure (some r)) Q E s') E' s:=λE' nx O=>by
  refine Qm (b9 hI rfl (by simp) ?_);refine Qm (b9 (Hj (x:=.none) (j:=0) hI 0 (aP nx)) rfl (by simp) ?_);have g:=ao.get?_update_self (aI.mapFields (·.setIfInBounds 1 (aP ((i:Int)+1)))) (Hj (x:=.none) (j:=0) hI 0 (aP nx)) rfl;refine Qn ⟨_,rfl,Qn (hQ _ ⟨_,g.trans ?_,O,hS.at λo q=>?_,λp z=>by cases z⟩ ((Qx ..).trans (Qx ..)))⟩
  ·rw[e1];rfl
  ·rw[((Qx s.heap I _).trans (Qx _ I _)).2 a qI];exact q
 refine Xcf hI hS (λsl e=>?_) (λp e=>?_) hO.cases0
 ·subst e;cases hO with
  | txt hw e=>
   cases e;have dP:i<(bI (w.params.setOrder a ep) es).size:=by simpa using hi
   refine Qm (Xcg hw hS ?_);rw[getElem?_pos _ i dP];have ev:((bI (w.params.setOrder a ep) es).toList.map (·.2))[i]=((bI (w.params.setOrder a ep) es)[i]).2:=by simp
   have f:=λE'=>fin E' 0 (.txt hw rfl);rw[ev] at f;exact f _
  | drw p os _ _ e _=>cases e
  | one g6 hw m4 h1 e hz ho=>
   cases e;obtain⟨_,_,_,_,jc⟩:=id hS;have gE:=Xci jc;have i0:i=0:=by
    have:i<es.size:=by rw[<-hl];exact hi
    lia
   subst i0;have z0:=hz rfl;subst z0;have he:0<es.size:=by rw[<-hl];exact hi
   have bM:0<t.place.size:=by rw[gE];exact he
   refine Qm (Xch hw m4 h1 hS ?_);have b0:af.below t.place ((0:Nat):Int).toNat=0:=Xjo (by rw[gE];exact h1);rw[b0,getElem?_pos es 0 he,getElem?_pos t.place 0 bM];have ev:(es.toList.map (·.2))[0]=(es[0]).2:=by simp
   have f:=λE'=>fin E' (t.place[0]+1) (.one (t.place[0]+1) hw m4 h1 rfl (λz=>by cases z) (λj _ q=>by rw[getElem?_pos t.place 0 bM] at q;cases q;rfl));rw[ev] at f;exact f _
 ·subst e;cases hO with
  | txt hw e=>cases e
  | one g6 hw m4 h1 e hz ho=>cases e
  | drw p' os hw ia e jZ=>
   cases e;obtain⟨n,jZ⟩:=jZ;have i5:i<os.length:=by simpa using hi
   have qC:os[i]<es.size:=Nr.mp (ia.mem_iff.mp (Mz i5));refine Qm (oh jZ rfl ?_);have g:((os.map λj=>aa.int (j:Nat) 0).toArray)[i]? = some (.int ((os[i]:Nat):Int) 0):=by simp[i5]
   dsimp only;rw[g];dsimp only;obtain⟨o,ho,hex,hd,jc⟩:=id hS;unfold rY;refine Qm (Qm (a9 ho hd jc ?_));dsimp only;rw[Qp (by simp),show ((os[i]:Nat):Int).toNat=os[i] from O0 _,getElem?_pos es _ qC];refine Qn ?_;refine Qm (b9 hI rfl (by simp) ?_);have ev:(os.map λj=>((es[j]?).map (·.2)).getD aa.none)[i]=(es[os[i]]).2:=by simp[qC]
   have g2:=Hj (x:=.none) (j:=0) hI 1 (aP ((i:Int)+1));have xG:p≠I:=rZ p (hp p rfl);have q:=hQ (s.heap.update I (aI.mapFields (·.setIfInBounds 1 (aP ((i:Int)+1))))) ⟨_,g2.trans (by rw[e1];rfl),.drw p os hw ia rfl ⟨n,?_⟩,hS.at λo q=>?_,λp' z=>hp p' z⟩ (Qx ..)
   ·rw[ev] at q;exact Qn ⟨_,rfl,Qn q⟩
   ·rw[(Qx s.heap I _).2 p xG];exact jZ
   ·rw[(Qx s.heap I _).2 a qI];exact q
end
section
variable {P:au}{w:ay}{A:ax}{E:Zb}{s:ag}{I a:ae}{es:Array (Int×aa)}{ep:Nat}{t:af}{vs:List aa}{fp:Option ae}
def Xcj{α : Type}{h0:ao}{Q}{E'}(hh:A.handled=none)
  (k:∀e h',(∀b o,s.heap.get? b=some o->h'.get? b=some o)->ag.TypeIs {s with heap:=h'} e "StopIteration" -> E' e {s with heap:=h'}):
  ai (aj P w) A (do       fw (<-j4 (.type "StopIteration") []):eR α) Q E' s:=by
 refine Qm ?_;simp only[j4,newTuple];refine Qm (bz ?_ (by size_fits));refine Qm (m:=oi _ _) (ed (a:=aa.none) (by first | rfl | (simp only[oi];rfl)) ?_);refine bz ?_ (by size_fits);simp only[fw];refine Qm (wpAny_handled ?_);rw[hh];refine Qm (Qn (wpAny_throw ?_));exact k _ _ (λb o q=>Qw _ (Qw _ q)) ⟨_,ao.get?_push_size _ rfl,rfl⟩
def Xjr(hh:A.handled=none)(st:ItS w I a es ep t vs fp vs.length s.heap)(hl:vs.length=es.size)
    (hQ:∀h',(∀b o,b≠I->s.heap.get? b=some o->h'.get? b=some o)->Q none {s with heap:=h'}):ai (aj P w) A (de (.ref I)) Q E s:=by
  obtain⟨f0,hI,hO,hS,hp⟩:=st;have hT:s.TypeIs (.ref I) "set_iterator" := ⟨_,hI,rfl⟩;unfold de;refine Qm (dc (gD (name:=ah.ofString "__next__") hT SF.sNext (aU SF.sNext hT SF.eNext ?_ (SF.aNext _))));have vh:A.in1.handled=none:=hh;have ka:∀(e:aa) (h':ao),(∀b o,b≠I->s.heap.get? b=some o->h'.get? b=some o)->ag.TypeIs {s with heap:=h'} e "StopIteration" ->
      ai (aj P w) A (do       if <-j5 e (.type "StopIteration") then pure none else throw e) Q E {s with heap:=h'}:=λe h' k ty=>
    Qm (cE (T := "StopIteration") (b:=true) ty isSubtype_stop (Qn (hQ h' k)))
  have kb:∀(f:aI->aI) b o,b≠I->s.heap.get? b=some o->(s.heap.update I f).get? b=some o:=λf b o nb q=>by
    rw[(Qx s.heap I f).2 b nb];exact q
  have fin:∀(Q':PySem.Fin->ag->Prop),ai (aj P w) A.in1 (do
        bS (.ref I) 2 .none
        fw (<-j4 (.type "StopIteration") [])) Q' (λe s'=>ai (aj P w) A (do                 if <-j5 e (.type "StopIteration") then pure none else throw e) Q E s') s:=λQ'=>by
    refine Qm (b9 hI rfl (by simp) ?_);refine Xcj (h0:=s.heap) (s:={s with heap:=s.heap.update I (aI.mapFields (·.setIfInBounds 2 aa.none))}) vh λe h' k ty=>?_;exact ka e h' (λb o nb q=>k b o (kb _ b o nb q)) ty
  refine Xcf hI hS (λsl e=>?_) (λp e=>?_) hO.cases0
  . subst e;cases hO with
    | txt hw e=>
      cases e;refine Qm (Xcg hw hS ?_);rw[getElem?_neg _ _ (by simp)];exact fin _
    | drw p os _ _ e _=>cases e
    | one g6 hw m4 h1 e hz ho=>
      cases e;obtain⟨_,_,_,_,jc⟩:=id hS;have gE:=Xci jc;refine Qm (Xch hw m4 h1 hS ?_);have hn:es[af.below t.place ((g6:Nat):Int).toNat]? = none:=by
        rw[O0];by_cases h0:es.size=0
        . exact getElem?_neg _ _ (by lia)
        . have e1:es.size=1:=by lia
          have bM:0<t.place.size:=by rw[gE,e1];decide
          have:=ho t.place[0] (by rw[hl,e1]) (getElem?_pos t.place 0 bM);rw[this,Xjp (by rw[gE];exact h1) (getElem?_pos t.place 0 bM)];exact getElem?_neg _ _ (by lia)
      rw[hn];exact fin _
  . subst e;cases hO with
    | txt hw e=>cases e
    | one g6 hw m4 h1 e hz ho=>cases e
    | drw p' os hw ia e jZ=>
      cases e;obtain⟨n,jZ⟩:=jZ;refine Qm (oh jZ rfl ?_);dsimp only;rw[getElem?_neg _ _ (by simp)];dsimp only;refine Qm (b9 hI rfl (by simp) ?_);refine Qm (b9 (Hj (x:=.none) (j:=0) hI 0 (aP 0)) rfl (by simp) ?_);refine Xcj (h0:=s.heap) (s:={s with heap:=(s.heap.update I (aI.mapFields (·.setIfInBounds 0 (aP 0)))).update I (aI.mapFields (·.setIfInBounds 2 aa.none))}) vh λe h' k ty=>?_;refine ka e h' (λb o nb q=>k b o ?_) ty;show ((s.heap.update I _).update I _).get? b=some o;rw[(Qx _ I _).2 b nb];exact kb _ b o nb q
end
namespace SF
def sSelf:xv "set_iterator" "__iter__" "set_iterator.__iter__" := .of (owner := "set_iterator") (n := "__iter__") (by rw[mw,ie];kernel_rfl) (by decide +kernel) (by decide +kernel) (by decide +kernel) (by first | exact .inl (by decide +kernel) | exact .inr (by decide +kernel)) (by rw[cf];kernel_rfl)
def eSelf:i4 table "set_iterator.__iter__" = some av.«dict_keyiterator.__iter__»:=fu (id' := "dict_keyiterator.__iter__") (by kernel_rfl) rfl (by decide +kernel) (by kernel_rfl)
def aSelf(a):oe "set_iterator.__iter__" ⟨[a],[]⟩:=by unfold oe;kernel_rfl
end SF
section
variable {P:au}{w:ay}{A:ax}{E:Zb}{s:ag}{I a:ae}{es:Array (Int×aa)}{ep:Nat}{t:af}{vs:List aa}{fp:Option ae}{ks:Za}
def ItS.at{i}(x:ItS w I a es ep t vs fp i h)(k:∀b∈I::a::fp.toList,∀o,h.get? b=some o->h'.get? b=some o):ItS w I a es ep t vs fp i h':=by
 obtain⟨f0,h1,h2,h3,h4⟩:=x;refine⟨f0,k I (by simp) _ h1,?_,h3.at λo q=>k a (by simp) o q,h4⟩;cases h2 with
 | txt e1 e2=>exact .txt e1 e2
 | drw p os e1 e2 e3 e4=>
  obtain⟨n,e4⟩:=e4;exact .drw p os e1 e2 e3 ⟨n,k p (by rw[h4 p e3];simp) _ e4⟩
 | one sl e1 e2 e3 e4 e5 e6=>exact .one sl e1 e2 e3 e4 e5 e6
def Xjs(hh:A.handled=none)(hl:vs.length=es.size)(qI:a≠I)(rZ:∀p,fp=some p->p≠I):jT P w A I (I::a::fp.toList) [I] vs.length (λi v=>vs[i]? = some v) (ItS w I a es ep t vs fp) where
 sub:=λb hb=>by simp at hb;simp[hb]
 frame:=λ_ _ _ st hk=>st.at hk
 item:=λi s Q E hi st hQ=>by
  refine Xjq st hi hl qI rZ λh' bT sb=>?_;exact hQ vs[i] h' s.toks (by simp[hi]) bT λb o hb e=>by rw[sb.2 b (λz=>hb (by simp[z]))];exact e
 done:=λs Q E st hQ=>Xjr hh st hl λh' k=>hQ h' s.toks λb o hb e=>k b o (λz=>hb (by simp[z])) e
 self:=λi s Q E st hQ=>by
  obtain⟨f0,h1,_⟩:=st;have hT:s.TypeIs (.ref I) "set_iterator" := ⟨_,h1,rfl⟩;refine dE hT SF.sSelf (aU SF.sSelf hT SF.eSelf ?_ (SF.aSelf _));show ai _ _ (ret (.ref I)) _ _ s;exact Qn ⟨_,rfl, "set_iterator",_,hT,SF.sNext.lookup,hQ⟩
def Xjt  (hT:s.TypeIs (.ref r) "set") (h:Q false s):ai (aj P w) A (av.List.listLengthHint (.ref r)) Q E s:=by
 unfold av.List.listLengthHint;refine Qm (mn hT PySem.F.slot_set_len.lookup ?_);generalize hid:("set.__len__" : String)=xH
 wp_delta
 rw[show splitId xH=some ("set", "__len__") from by subst hid;decide +kernel];subst hid;refine Qm (cE (T := "set") (b:=true) hT (by rw[cf];kernel_rfl) ?_);refine bW (λz=>absurd z (by decide)) (λ_=>?_);refine bW (λ_=>?_) (λz=>absurd (by decide +kernel) z);exact Qm (cI hT (Qn h))
end
end L2
namespace L2
open PySem.Calls
section
variable {P:au}{w:ay}{A:ax}{E:Zb}{s:ag}{a:ae}{ks:Za}
def Xju  {S:ae} {res:aa} (hh:A.handled=none) (hs:SSet P w s.heap a ks) (nS:S≠a) (gS:s.heap.get? S=some {cls:=.type "list",data:=.seq #[] c0})
  (hR:∀s' acc c vs ls,(∀b o,b≠S->s.heap.get? b=some o->s'.heap.get? b=some o)->s'.os=s.os->s'.gens=s.gens->s'.heap.get? S=some {cls:=.type "list",dict:=none,data:=.seq acc c,slots := #[]}->acc.toList=vs->aB vs ls->ls.Perm ks->R (.ok (.ret res)) s'):
  ai (aj P w) A.in1 (av.List.listExtendWith (.ref S) (.ref a) res)
   (λfin s'=>match fin with | .done f=>R (.ok f) s' | .again c'=>c'.quiet=true/\bi (aj P w) A c' R s') (λe s'=>R (.error e) s') s:=by
 obtain⟨o,es,ep,t,vi,ho,hex,hd,dq,cu,oj,hb,hf,hl,bM⟩:=id hs;have hT:s.TypeIs (.ref a) "set" := ⟨o,ho,hex.1⟩;have la:=Qv ho;have lS:=Qv gS;unfold av.List.listExtendWith;refine Qm (cI (T := "set") hT ?_);have n1:av.List.listSameRef (.ref S) (.ref a)=false:=by simp[av.List.listSameRef,nS]
 have n2:(aa.type "set" == aa.type "list")=false:=by decide
 have n3:(aa.type "set" == aa.type "tuple")=false:=by decide
 simp only[n1,n2,n3,Bool.or_false,My,if_false];refine Qm (Xjn ⟨o,ho,hex,hd,hf⟩ hb hl bM λf0 vs h1 d k1 z1 z2 kp O pv=>?_);have i6:vs.length=es.size:=by rw[pv.length_eq,L5,Ma]
 have nI:∀b,b<h1.objs.size->b≠h1.objs.size:=λb q=>L9 q;have kI:∀b o,s.heap.get? b=some o->(h1.push (itO f0 0 a es.size ep)).get? b=some o:=λb o q=>Qw _ (k1 b o q);obtain⟨fp,se⟩:∃fp:Option ae,(∀p,f0 = .ref p->fp=some p)/\∀p,fp=some p->p≠h1.objs.size/\p≠S:=by
  cases f0 with
  | ref p=>
   refine⟨some p,⟨λq e=>(by cases e;rfl),λq e=>?_⟩⟩;cases e;refine⟨L9 (kp p rfl),λz=>?_⟩;subst z;cases O with
   | drw p' os _ _ e ht=>
    cases e;obtain⟨n,ht⟩:=ht;rw[kI _ _ gS] at ht;have hc:=congrArg aI.cls (Mj ht);exact absurd hc (by simp)
   | txt _ e=>cases e
   | one _ _ _ _ e _ _=>cases e
  | _=>exact⟨none,⟨λq e=>(by cases e),λq e=>(by cases e)⟩⟩
 have qH:ItS w h1.objs.size a es ep t vs fp 0 (h1.push (itO f0 0 a es.size ep)):=⟨f0,ao.get?_push_size _ rfl,O,⟨o,kI _ _ ho,hex,hd,hf⟩,se.1⟩;have W:=Xjs (P:=P) (w:=w) (A:=A.in1) (I:=h1.objs.size) (a:=a) (es:=es) (ep:=ep) (t:=t) (vs:=vs) (fp:=fp) hh i6 (L9 (Mq la z2)) (λp e=>(se.2 p e).1);have vj:S∉h1.objs.size::a::fp.toList:=by
  simp only[Mb,not_or];refine⟨L9 (Mq lS z2),nS,λz=>?_⟩;cases sf:fp with
  | none=>rw[sf] at z;simp at z
  | some p=>
   rw[sf] at z;have:S=p:=by simpa using z
   exact(se.2 p sf).2 this.symm
 have bX:∀(h:ao) (c1:Nat),ItS w h1.objs.size a es ep t vs fp 0 h->(∀b o,b≠S->s.heap.get? b=some o->h.get? b=some o)->h.get? S=some {cls:=.type "list",data:=.seq #[] c1} ->
   bi (aj P w) A (.builtin "list.extend.loop" ⟨[.ref S,.ref h1.objs.size,res],[]⟩) R {s with heap:=h,drawn:=d}:=by
  intro h c1 j6 hk om;refine codeAny_extend_loopS W.toS (by rw[i6];exact aS hb) S vj res vs.length 0 _ #[] c1 rfl (M3 _) j6 om (ItemsOf.nil _) λs' acc c hm xI gj=>?_;have xJ:acc.toList=vs:=by
   apply List.ext_getElem?;intro i;by_cases hi:i<vs.length
   ·have dP:i<acc.size:=by rw[gj.1];exact hi
    have:=gj.2 i acc[i] (getElem?_pos acc i dP);rw[this];simp[dP]
   ·rw[O7 (by rw[Ma,gj.1];lia),O7 (by lia)]
  have xK:aB vs (vs.map jX):=vb vs λv hv=>cu.all v (pv.mem_iff.mp hv);refine hR s' acc c vs (vs.map jX) (λb o nb q=>hm.heap b o (λz=>?_) (hk b o nb q)) hm.os hm.gens xI xJ xK ?_
  ·rcases Mb.mp z with z | z
   ·exact nb z
   ·exact absurd (Mq (Qv q) z2) (by rw[Mi.mp z];exact Na _)
  ·have:=pv.map jX;rw[cu.strs] at this;exact this.trans oj
 have om:=kI _ _ gS;have sg:ag.TypeIs {s with heap:=h1.push (itO f0 0 a es.size ep),drawn:=d} (.ref a) "set" := ⟨o,kI _ _ ho,hex.1⟩;refine Qm (a7 (Xjt sg ?_));refine bW (λ_=>?_) (λ_=>Qn ⟨cA PySem.F.plain_extend_loop _,bX _ c0 qH (λb o _ q=>kI b o q) om⟩);refine Qm (b8 (Qm ?_));show ai _ _ (BE S (·.push .none) >>= λ_=>BE S (·.pop)) _ _ _;refine Qm (m5 om rfl ?_);have vk:=ao.get?_update_self (aI.mapSeq (·.push aa.none)) om rfl;refine m5 (hz:=by seq_fits) vk rfl ?_;have xL:=ao.get?_update_self (aI.mapSeq (·.pop)) vk rfl;have aF:∀b,b≠S->(((h1.push (itO f0 0 a es.size ep)).update S (aI.mapSeq (·.push aa.none))).update S (aI.mapSeq (·.pop))).get? b=(h1.push (itO f0 0 a es.size ep)).get? b:=λb nb=>
  (ao.get?_update_other _ _ (Ne.symm nb)).trans (ao.get?_update_other _ _ (Ne.symm nb))
 refine Qn ⟨cA PySem.F.plain_extend_loop _,bX _ _ (qH.at λb xM o q=>?_) (λb o nb q=>?_) xL⟩
 ·rw[aF b (λz=>vj (z ▸ xM))];exact q
 ·rw[aF b nb];exact kI b o q
def Xjv(hh:A.handled=none)(hs:SSet P w s.heap a ks)
    (h:∀s' vs ls,(∀b o,s.heap.get? b=some o->s'.heap.get? b=some o)->s'.os=s.os->s'.gens=s.gens->aB vs ls->ls.Perm ks->R vs s'):ai (aj P w) A (collect (.ref a)) R E s:=by
  have la:a<s.heap.objs.size:=by obtain⟨o,_,_,_,_,g,_⟩:=hs;exact Qv g
  unfold collect;refine Qm (ft (bE entry_proto_collect' ?_));rw[ax.under_plainId PySem.F.plain_proto_collect _];show ai _ A.in1 (newList [] >>= λl=>again (.builtin "list.__iadd__" ⟨[l,aa.ref a],[]⟩)) _ _ s;refine Qm (bz ?_);refine Qn ⟨cA PySem.F.plain_list_iadd _,bE entry_list_iadd' ?_⟩;rw[ax.under_plainId PySem.F.plain_list_iadd _];have gS:(s.heap.push {cls:=.type "list",data:=.seq ([]:List aa).toArray}).get? s.heap.objs.size=some {cls:=.type "list",data:=.seq #[] 0}:=ao.get?_push_size _ rfl;show ai _ A.in1 (av.List.listExtendWith (.ref s.heap.objs.size) (.ref a) (.ref s.heap.objs.size)) _ _ _;have bX:=Xju (A:=A) (s:={s with heap:=s.heap.push {cls:=.type "list",data:=.seq ([]:List aa).toArray} }) (S:=s.heap.objs.size) (res:=.ref s.heap.objs.size)
    (R:=λq s'=>∃acc c vs ls,q = .ok (.ret (.ref s.heap.objs.size))/\(∀b o,s.heap.get? b=some o->s'.heap.get? b=some o)/\s'.os=s.os/\s'.gens=s.gens/\s'.heap.get? s.heap.objs.size=some {cls:=.type "list",dict:=none,data:=.seq acc c,slots := #[]}/\acc.toList=vs/\aB vs ls/\ls.Perm ks)
    hh (hs.stay λo q=>Qw _ q) (P7 la) gS (λs' acc c vs ls k e1 e2 g e3 e4 e5=>⟨acc,c,vs,ls,rfl,λb o q=>k b o (L9 (Qv q)) (Qw _ q),e1,e2,g,e3,e4,e5⟩)
  have done:∀(q:ng) (s':ag),(∃acc c vs ls,q = .ok (.ret (.ref s.heap.objs.size))/\(∀b o,s.heap.get? b=some o->s'.heap.get? b=some o)/\s'.os=s.os/\s'.gens=s.gens/\s'.heap.get? s.heap.objs.size=some {cls:=.type "list",dict:=none,data:=.seq acc c,slots := #[]}/\acc.toList=vs/\aB vs ls/\ls.Perm ks) ->
      wants (λv s2=>ai (aj P w) A (match v with
        | .ref l=>(do match (<-load l).data with
                        | .seq xs _=>pure xs.toList
                        | _=>unsupported "internal:collect")
        | _=>unsupported "internal:collect") R E s2) E q s':=λq s' ⟨acc,c,vs,ls,e0,k,e1,e2,g,e3,e4,e5⟩=>by
    subst e0;show ai _ A (load s.heap.objs.size >>= _) _ _ s';refine Qm (jq g ?_);refine Qn ?_;rw[e3];exact h s' vs ls k e1 e2 e4 e5
  refine aK bX (λfin s' x=>?_) λe s' x=>?_
  . cases fin with
    | done f=>exact done _ _ x
    | again c1=>exact⟨x.1,bv x.2 λq s2 y=>done q s2 y⟩
  . obtain⟨_,_,_,_,e',_⟩:=x;cases e'
end
section
variable {X:Cx}{pins:List (ae×aI)}{Z:St}{H:Hp}{s s':ag}
def Inv.moved(I:Inv X pins Z H s)(k:∀b u,s.heap.get? b=some u->s'.heap.get? b=some u)(ho:s'.os=s.os)(hg:s'.gens=s.gens):Inv X pins Z H s':=by
 have J:=I.kept (h':=s'.heap) (t':=s'.toks) k;exact⟨J.ok,ho.trans I.os,by rw[hg];exact I.bare,J.base,J.loc,J.cell,J.free,J.freeC,J.pin,J.hok,J.len⟩
def Inv.laidM  (I:Inv X pins Z H s) (k:∀b u,s.heap.get? b=some u->s'.heap.get? b=some u) (ho:s'.os=s.os) (hg:s'.gens=s.gens) (hp:s.heap.objs.size<=a) (new:A3 X.prog X.w (upd H a o) s'.heap a o):Inv X pins Z (upd H a o) s':=by
 have J:=I.laid (h':=s'.heap) (t':=s'.toks) k hp new;exact⟨J.ok,ho.trans I.os,by rw[hg];exact I.bare,J.base,J.loc,J.cell,J.free,J.freeC,J.pin,J.hok,J.len⟩
end
section
variable {P:au}{w:ay}{A:ax}{E:Zb}{s:ag}{ks:Za}
def Xjw  (cB:ks.length<64)
  (hc:∀(R:List aa->ag->Prop),(∀s' vs ls,(∀b o,s.heap.get? b=some o->s'.heap.get? b=some o)->s'.os=s.os->s'.gens=s.gens->aB vs ls->ls.Perm ks->R vs s')->ai (aj P w) A.in1 (collect (.ref r)) R E s)
  (h:∀(s1 s':ag) (vs:List aa) (ls:Za) (e:Nat),(∀b o,s.heap.get? b=some o->s1.heap.get? b=some o)->s1.os=s.os->s1.gens=s.gens->(∀b o,s1.heap.get? b=some o->s'.heap.get? b=some o)->s'.os=s1.os->s'.gens=s1.gens->s'.heap.get? s1.heap.objs.size=some (aq "list" vs.toArray e)->aB vs ls->ls.Perm ks->kf ls=true->Q (.ref s1.heap.objs.size) s'):
  ai (aj P w) A (call (.builtin "sorted") [.ref r]) Q E s:=by
 refine Calls.call_function_entry eg dH dI (sh _) ?_;unfold av.«sorted»;refine Qm (m:=fz "sorted" 1 1 _) (Qn ?_);refine Qm (hc _ λs1 vs ls k1 o1 g1 st p=>?_);have hl:vs.length<64:=by rw[st.length,p.length_eq];exact cB
 refine Qm (bD ?_ (by rw[Qo];lia));have gL:(s1.heap.push (aq "list" vs.toArray 0)).get? s1.heap.objs.size=some (aq "list" vs.toArray 0):=ao.get?_push_size _ rfl;refine Qm (a7 (aU (s:={s1 with heap:=s1.heap.push (aq "list" vs.toArray 0)}) cS ⟨_,gL,rfl⟩ cM (list_sort_treeK strKind_oneLt gL st.keysOf (λa b rest e=>keyKind_strs (by rw[<-e];exact st)) hl λbT pp so=>⟨_,rfl,?_⟩) (on _)));obtain⟨mq,a1,a2,a3⟩:=sorted_out_str st pp so;obtain⟨e,he⟩:=qJ (out:=(eh bT).map (·.2)) gL;refine Qn ⟨_,rfl,h s1 _ ((eh bT).map (·.2)).toList mq e k1 o1 g1 (λb o q=>?_) rfl rfl he a1 (a2.trans p) a3⟩;have lt:=Qv q;show (f7 (s1.heap.push (aq "list" vs.toArray 0)) s1.heap.objs.size vs ((eh bT).map (·.2))).get? b=some o;rw[oo (L9 lt) (by rw[bd];exact Nc lt)];exact Qw _ q
end
def D4 (P:au) (w:ay) (a:ae) (ks:Za):HO:=.ext λh=>SSet P w h a ks
def Xck  (h:aB vs ss):Vals (ss.map V.str) vs:=by
 induction h with
 | nil=>exact .nil
 | cons x t _ ih=>exact .cons ⟨t,rfl⟩ ih
theorem Kj:∀{ss:Za} {vs:List aa},Vals (ss.map V.str) vs->aB vs ss
 | [],_,r=>by cases r;exact .nil
 | x::ss,_,r=>by
  cases r with
  | cons r1 r2=>
   obtain⟨t,rfl⟩:=r1;exact .cons x t (Kj r2)
section
variable {X:Cx}
def Et:X.calm=true->Cf X (.type "set") (λxs H Q=>∃p ss,xs=[.ref p]/\(SqL X.K H p (ss.map V.str)\/SqT X.K H p (ss.map V.str))/\ss.length+1<aN/\∀a,H a=none->Q (.ref a) (upd H a (D4 X.prog X.w a (ddup ss)))):=by
 intro bq pins s Z H xs us Q I r h;obtain⟨p,ss,rfl,hq,hb,q⟩:=h;obtain⟨u,rfl,rx⟩:=B2 r;cases rx;obtain⟨a8,r',lh⟩:∃a8:List aa,Vals (ss.map V.str) a8/\Src s.heap p a8.toArray:=by
  rcases hq with hq | hq
  ·obtain⟨a8,r',pl,_⟩:=I.list hq;exact⟨a8,r',.lst pl.isList⟩
  ·obtain⟨a8,r',pl,_⟩:=I.tuple hq;exact⟨a8,r',.tup pl⟩
 refine Xjj (I.ok.hd bq) lh (Kj r') hb λh' tk S k=>?_;refine⟨.ref s.heap.objs.size,_,I.laidM (s':={s with heap:=h',toks:=tk}) k rfl rfl (L7 _) ?_,rfl,q _ (I.hok.fresh (L7 _))⟩;exact⟨S,by obtain⟨o,_,_,_,_,g,_⟩:=S;exact⟨o,g⟩,λh1 h2 S1 kk=>S1.stay kk⟩
def Xjx    {s s1 s':ag}    (I:Inv X pins Z H s) (cB:ks.length<64) (k1:∀b o,s.heap.get? b=some o->s1.heap.get? b=some o) (o1:s1.os=s.os) (g1:s1.gens=s.gens)
  (k2:∀b o,s1.heap.get? b=some o->s'.heap.get? b=some o) (o2:s'.os=s1.os) (g2:s'.gens=s1.gens) (he:s'.heap.get? s1.heap.objs.size=some (aq "list" vs.toArray e)) (st:aB vs ls) (p:ls.Perm ks)
  (q:∀l,H l=none->Q (.ref l) (upd H l (.lst (ls.map V.str)))):EP X pins Z Q (.ref s1.heap.objs.size) s':=by
 have I1:=I.moved k1 o1 g1;refine⟨.ref s1.heap.objs.size,_,I1.laidM k2 o2 g2 (L7 _) (show A3 X.prog X.w _ s'.heap _ (.lst (ls.map V.str)) from ⟨?_,vs,e,Xck st,he⟩),rfl,q _ (I1.hok.fresh (L7 _))⟩;rw[L5,p.length_eq,Qo]
 lia
def F9:X.calm=true->Cf X (.builtin "sorted") (λxs H Q=>∃a ks,xs=[.ref a]/\H a=some (D4 X.prog X.w a ks)/\ks.length<64/\∀l ls,H l=none->ls.Perm ks->kf ls=true->Q (.ref l) (upd H l (.lst (ls.map V.str)))):=by
 intro bq pins s Z H xs us Q I r h;obtain⟨a,ks,rfl,ha,cB,q⟩:=h;obtain⟨u,rfl,rx⟩:=B2 r;cases rx;obtain⟨S,_⟩:=(show A3 X.prog X.w H s.heap a (.ext λh=>SSet X.prog X.w h a ks) from I.hok a _ ha);refine Xjw cB (λR k=>Xjv (by show X.A.in1.handled=none;simp[I.ok.hd bq]) S k) λs1 s' vs ls e k1 o1 g1 k2 o2 g2 he st p so=>?_;exact Xjx I cB k1 o1 g1 k2 o2 g2 he st p λl hl=>q l ls hl p so
end
def Inv.turned2        (I:Inv X pins Z H s) (k:∀b o,b≠e1->b≠e2->s.heap.get? b=some o->h'.get? b=some o) (f1:FpOk X pins H e1) (f2:FpOk X pins H e2):Inv X pins Z H {s with heap:=h',toks:=t'}:=by
 have no:∀b u,H b=some u->b≠e1/\b≠e2:=λb u q=>⟨λz=>(by rw[z,f1.1] at q;cases q),λz=>(by rw[z,f2.1] at q;cases q)⟩;have nn:∀b,b∉[e1,e2]->b≠e1/\b≠e2:=λb hb=>by simpa using hb
 refine I.step (g':=s.gens) (d':=s.drawn) (ch:=[e1,e2]) (λb hb=>?_) (λb o _ _ hc q _=>k b o (nn b hc).1 (nn b hc).2 q) (λb o _ _ hc q _=>⟨o.slots,k b o (nn b hc).1 (nn b hc).2 q⟩) (λ_ _ _ _ n=>n) (λb o hc q=>⟨o,k b o (nn b hc).1 (nn b hc).2 q⟩) (λ_ _ q=>q) (λ_ _ _ q=>q) (λb ps q=>⟨#[],by rw[q];simp⟩) (λm hm=>?_) (λb u q=>?_) I.bare
 ·have dn:b=e1\/b=e2:=by simpa using hb
  rcases dn with z | z
  ·subst z;exact⟨f1.2.2.2.1,f1.2.1,f1.2.2.2.2.1,f1.2.2.2.2.2⟩
  ·subst z;exact⟨f2.2.2.2.1,f2.2.1,f2.2.2.2.2.1,f2.2.2.2.2.2⟩
 ·obtain⟨o,es,ep,ho,r⟩:=hm;exact⟨o,es,ep,k _ o (Ne.symm f1.2.1) (Ne.symm f2.2.1) ho,r⟩
 ·refine(I.hok b u q).stay (λc v hc z=>k c v ?_ ?_ z) (λ_ z=>z) λ_ _ z=>z
  ·rcases hc with y | y
   ·rw[y];exact(no b u q).1
   ·exact(no c _ y).1
  ·rcases hc with y | y
   ·rw[y];exact(no b u q).2
   ·exact(no c _ y).2
def Ite (K:DK) (a:ae):It:=
 ⟨λi H=>∃xs x,SqL K H a xs/\xs[i]? = some x,λi H x H'=>∃tp,x = .ref tp/\H tp=none/\∀xs,SqL K H a xs->∃y,xs[i]? = some y/\H'=upd H tp (.tup [.int i,y]),λi H=>∃xs,SqL K H a xs/\xs.length<=i⟩
def Xjy{P:au}{w:ay}{K:DK}{es:List aA}{k:Nat}{p:bw}(a e it:ae)(ne:e≠it):Turn P w K (.Tuple es k p) (Ite K a) [e,it] e (λi h=>(∃old,IsEnum h e it i old)/\h.IsListIter it a i) where
 mem:=by simp
 obj:=λi h st b hb=>by
  have dn:b=e\/b=it:=by simpa using hb
  rcases dn with z | z
  ·subst z;obtain⟨⟨old,q⟩,_⟩:=st;exact⟨_,q,λv z=>by
    have z':kQ.fields _=kQ.cell v:=z;cases z'⟩
  ·subst z;obtain⟨o,q,c,d⟩:=st.2;exact⟨o,q,λv z=>by rw[d] at z;cases z⟩
 keep:=λi h h' st k=>by
  obtain⟨⟨old,q⟩,l⟩:=st;exact⟨⟨old,k e (by simp) _ q⟩,l.at λo z=>k it (by simp) o z⟩
 item:=by
  intro X hP hw hK hc i pins s Z H E I hf st hg;subst hP hw hK;obtain⟨xs,x,hq,hx⟩:=hg;obtain⟨a8,rv,pl,hz⟩:=I.list hq;obtain⟨u,hu,ru⟩:=rv.get hx;have f1:=hf e (by simp);have f2:=hf it (by simp);obtain⟨⟨old,q⟩,l⟩:=st;refine wpAny_pyNext_enum_item q l pl.isList (x:=u) (by simpa using hu) ne λh' qo l' tp sz kk=>?_;have I1:Inv X pins Z H {s with heap:=h',toks:=s.toks+1}:=I.turned2 kk f1 f2;refine⟨_,rfl,?_⟩;have le:e<s.heap.objs.size:=Qv q;obtain⟨ol,rX,_⟩:=id l;have lit:it<s.heap.objs.size:=Qv rX;unfold bU;refine Qm (jq qo ?_);dsimp only;rw[Qq (by simp[aP])];refine Qm (b8 ?_);show ai _ _ (bS (.ref e) 0 .none) _ _ _;refine b9 qo rfl (by simp) ?_;have g:=ao.get?_update_self (aI.mapFields (·.setIfInBounds 0 aa.none)) qo rfl;have sb:=Qx h' e (aI.mapFields (·.setIfInBounds 0 aa.none));have I2:Inv X pins Z (upd H s.heap.objs.size (.tup [.int i,x])) {s with heap:=h'.update e (aI.mapFields (·.setIfInBounds 0 aa.none)),toks:=s.toks+1}:=by
   have J:=I.laid (a:=s.heap.objs.size) (o:=.tup [.int i,x]) (h':=s.heap.push {cls:=.type "tuple",data:=.seq #[.int i s.toks,u]}) (t':=s.toks+1) (λb o z=>Qw _ z) (L7 _) (show A3 X.prog X.w _ _ _ (.tup [.int i,x]) from ⟨by show 2<=sizeLine;decide,[.int i s.toks,u],.cons ⟨_,rfl⟩ (.cons ru .nil),iq.new _ _⟩);have g1:FpOk X pins (upd H s.heap.objs.size (.tup [.int i,x])) e:=⟨by rw[Ad (L9 le)];exact f1.1,f1.2⟩;have g2:FpOk X pins (upd H s.heap.objs.size (.tup [.int i,x])) it:=⟨by rw[Ad (L9 lit)];exact f2.1,f2.2⟩;refine J.turned2 (λb o n1 n2 z=>?_) g1 g2;show (h'.update e _).get? b=some o;rw[sb.2 b n1];by_cases hb:b=s.heap.objs.size
   ·subst hb;have z':(s.heap.push {cls:=.type "tuple",data:=.seq #[.int i s.toks,u]}).get? s.heap.objs.size=some o:=z;rw[ao.get?_push_size _ rfl] at z';cases z';exact tp
   ·have z':(s.heap.push {cls:=.type "tuple",data:=.seq #[.int i s.toks,u]}).get? b=some o:=z;rw[ao.get?_push_ne _ _ _ hb] at z';exact kk b o n1 n2 z'
  refine⟨.ref s.heap.objs.size,_,I2,rfl,⟨_,rfl,I.hok.fresh (L7 _),λys hy=>⟨x,by rw[I.list_inj hy hq];exact hx,rfl⟩⟩,⟨⟨u,g.trans ?_⟩,l'.at λo z=>?_⟩,λb hb=>?_⟩
  ·rfl
  ·rw[sb.2 it (Ne.symm ne)];exact z
  ·have dn:b=e\/b=it:=by simpa using hb
   rcases dn with z | z
   ·subst z;rw[Ad (L9 le)];exact f1.1
   ·subst z;rw[Ad (L9 lit)];exact f2.1
 done:=by
  intro X hP hw hK hc i pins s Z H E I hf st hg;subst hP hw hK;obtain⟨xs,hq,hx⟩:=hg;obtain⟨a8,rv,pl,hz⟩:=I.list hq;have hl:=rv.length;have f2:=hf it (by simp);obtain⟨⟨old,q⟩,l⟩:=st;exact wpAny_pyNext_enum_end (I.ok.hd hc) q l pl.isList (by simp;lia) λh' eb=>⟨rfl,I.turned (t':=s.toks) (λb o hb z=>eb b o hb z) f2.1 f2.2.1 f2.2.2.2.1 f2.2.2.2.2.1 f2.2.2.2.2.2⟩
 self:=λ_ _ _ _ _ st h=>by
  obtain⟨⟨old,q⟩,_⟩:=st;exact kg q h
def Xjz (K:DK) (ta:TA):TI:=fun Z H R=>ta Z H λvs H1=>∃a,vs=[.ref a]/\(∃xs,SqL K H1 a xs)/\R (Ite K a) H1
def Xj0       (hg:Gl X "enumerate") (hm:X.mg "enumerate" = none) (ha:PA X [l] ta) (hs:az [l] X.env=[(false,eval l X.env)]:=by rfl):PI X (.Tuple es k p2) (.Call (.Name "enumerate" p) [l] [] pos) (Xjz X.K ta):=by
 intro pins s Z H R I h;refine Call_ (Ek I hg hm (show br "enumerate" = some (.type "enumerate") by decide +kernel) (PyProof.Rows.callWith_type1 (thn (ha pos pins s Z H _ I h) λus s1 ⟨vs,H1,I1,r1,q1⟩=>?_) hs rfl));obtain⟨a,e,⟨xs,hq⟩,q⟩:=q1;subst e;cases r1 with
 | cons r rr=>
  cases rr;cases r;obtain⟨a8,rv,pl,hz⟩:=I1.list hq;refine call_enumerate_list pl.isList λh' qe ql sz kk=>?_;refine kg qe ?_;have I2:Inv X pins Z H1 {s1 with heap:=h'}:=I1.kept (t':=s1.toks) kk;refine⟨_,[s1.heap.objs.size+1,s1.heap.objs.size],_,_,H1,rfl,I2,Xjy a _ _ (Nat.succ_ne_self _),⟨⟨_,qe⟩,ql⟩,λb hb=>?_,q⟩;have dn:b=s1.heap.objs.size+1\/b=s1.heap.objs.size:=by simpa using hb
  rcases dn with z | z
  ·subst z;exact I1.fpOk (Og _) (I1.hok.fresh (Og _))
  ·subst z;exact I1.fpOk (L7 _) (I1.hok.fresh (L7 _))
section
variable {X:Cx}{es:List aA}{t:St->Hp->(Hp->Prop)->Prop}{e:aA}{te:TE}{pos:bw}
def Xj1 (te:TE) (t:St->Hp->(Hp->Prop)->Prop):St->Hp->(Hp->Prop)->Prop:=fun Z H Q=>te Z H λx H1=>∃z,x = .str z/\z.length<=400/\(∀c∈z.cps.toList,c<16 ^ 8)/\t Z H1 Q
def Xj2(ha:PE X e te)(h:PJ X es t)(he:ce (.FormattedValue e 114 none p::es) X.env=eval (.FormattedValue e 114 none p) X.env::ce es X.env:=by rfl):PJ X (.FormattedValue e 114 none p::es) (Xj1 te t):=by
 intro out pins s Z H Q I hw hl;rw[he];rw[Ml] at hl;refine fj (fS (thn (ha pins s Z H _ I hw) λv s1 ⟨x,H1,I1,r1,q1⟩=>?_));obtain⟨z,ez,h1,h2,q⟩:=q1;subst ez;obtain⟨tk,rfl⟩:=r1;have hz:=StrLaws.reprText_len z h2;have m6:(dJ z).length<=sizeLine:=by rw[Qo];lia
 refine wpAny_pyReprObj_str ?_ m6;refine m7 (λt' k=>⟨by rw[Eo];lia,?_⟩) m6;exact h _ pins _ Z H1 Q ((I1.tok _).tok _) q (by rw[Eo];lia)
def rSlS:V->Option Int->Option Int->Hp->VK->Prop:=λx lo hi H Q=>∃z,x = .str z/\lo=none/\(∃j,hi=some j)/\z.length<=1000/\Q (.str (Txt.slice z lo hi)) H
end
end L2
set_option maxHeartbeats 4000000
namespace L2
def leS (x y:ah):Prop:=x.cps.toList<=y.cps.toList
def Xj3{x y:ah}(h:x.cps.toList=y.cps.toList):x=y:=by
 obtain⟨⟨a⟩⟩:=x;obtain⟨⟨b⟩⟩:=y;have:a=b:=h;rw[this]
def Xcl(h:leS x y)(g:leS y x):x=y:=Xj3 (List.le_antisymm h g)
def Xcm(h:leS x y)(g:leS y z):leS x z:=List.le_trans h g
def Hk(x y):leS x y\/leS y x:=List.le_total _ _
def ltS (x y:ah):Prop:=x.cps.toList<y.cps.toList
instance (x y:ah):Decidable (ltS x y):=inferInstanceAs (Decidable (x.cps.toList<y.cps.toList))
instance (x y:ah):Decidable (leS x y):=inferInstanceAs (Decidable (x.cps.toList<=y.cps.toList))
def Fi(x):¬ltS x x:=List.lt_irrefl _
def Ga(h:ltS x y)(g:ltS y z):ltS x z:=List.lt_trans h g
def Kk:¬ltS x y↔leS y x:=List.not_lt
def ltS_of(h:leS x y)(n:x≠y):ltS x y:=by
 by_cases q:ltS x y
 ·exact q
 ·exact absurd (Xcl h (Kk.mp q)) n
def Xj4(h:ltS x y):leS x y:=List.le_of_lt h
def Eu(h:ltS x y):x≠y:=λe=>Fi y (e ▸ h)
theorem Xcn:∀l p,risingS p l=true->(p::l).Pairwise leS
 | [],p,_=>by simp
 | x::r,p,h=>by
  have h':(!ltCps x.cps.toList p.cps.toList&&risingS x r)=true:=h;rw[Mp,ltCps_eq] at h';have ih:=Xcn r x h'.2;have vm:leS p x:=by
   have:=h'.1;simp only[Qf,decide_eq_false_iff_not] at this;exact this
  refine Oc.mpr ⟨λy hy=>?_,ih⟩;rcases Mb.mp hy with e | e
  ·rw[e];exact vm
  ·exact Xcm vm ((Oc.mp ih).1 y e)
theorem Xj5:∀l,kf l=true->l.Pairwise leS
 | [],_=>by simp
 | x::r,h=>Xcn r x h
theorem Gb:∀{a b:Za},a.Perm b->a.Pairwise leS->b.Pairwise leS->a=b
 | [],b,p,_,_=>by rw[List.nil_perm.mp p]
 | x::a,[],p,_,_=>by have:=p.length_eq;simp at this
 | x::a,y::b,p,ha,hb=>by
  obtain⟨a1,a2⟩:=Oc.mp ha;obtain⟨b1,b2⟩:=Oc.mp hb;have e:x=y:=by
   have hx:x∈y::b:=p.mem_iff.mp Mf;have hy:y∈x::a:=p.mem_iff.mpr Mf;rcases Mb.mp hx with e | hx
   ·exact e
   ·rcases Mb.mp hy with e | hy
    ·exact e.symm
    ·exact Xcl (a1 y hy) (b1 x hx)
  subst e;rw[Gb (List.Perm.cons_inv p) a2 b2]
def srt (l:Za):Za:=l.mergeSort λx y=>decide (leS x y)
def Cy(l):(srt l).Perm l:=List.mergeSort_perm ..
def Ev(l):(srt l).Pairwise leS:=by
 have h:=List.pairwise_mergeSort (le:=λx y=>decide (leS x y)) (λa b c h1 h2=>Qr (Xcm (Qt h1) (Qt h2)))
  (λa b=>by rcases Hk a b with h | h<;>simp[h]) l
 exact h.imp λh=>Qt h
def Gc(p:ls.Perm ks)(h:kf ls=true):ls=srt ks:=Gb (p.trans (Cy ks).symm) (Xj5 _ h) (Ev _)
def Xj6(p:a.Perm b):srt a=srt b:=Gb ((Cy a).trans (p.trans (Cy b).symm)) (Ev _) (Ev _)
def Hl  : x∈srt l↔x∈l:=(Cy l).mem_iff
def dit (row:Za):Za:=srt (ddup row)
def Ae  : x∈dit row↔x∈row:=Hl.trans (Hi row x)
def Ck(row):(dit row).Nodup:=(Cy _).nodup_iff.mpr (Fh row)
def B6(row):(dit row).Pairwise ltS:=by
 have h1:=Ev (ddup row);have h2:(dit row).Pairwise (· ≠ ·):=Ck row;exact(h1.and h2).imp λh=>ltS_of h.1 h.2
def Ge(row):(dit row).length<=row.length:=by
 have:=(Cy (ddup row)).length_eq;have h:=F8 row;unfold dit
 lia
def Gf{a b:Za}(ha:a.Nodup)(hb:b.Nodup)(h:∀x,x∈a↔x∈b):a.Perm b:=(List.perm_ext_iff_of_nodup ha hb).mpr h
structure Fn (P:au) (w:ay) (K:DK) (mg:ah->Option aa) (base:ao) (CX:CXT) (k:Nat) (x:ah) (ps:Za) (sp:Sp):Prop where
 ex:∃f fd,mg x=some (.ref f)/\DQ K (.ref f)=true/\Binds K fd ps []/\FnOk P w K mg base CX k f fd ps sp
section
variable {X:Cx}{CX:CXT}{k:Nat}{ps:Za}{sp:Sp}{E:XK}{x:ah}{p pos:bw}{e:aA}{es:List aA}{t:TA}
def Ai(F:Fn X.prog X.w X.K X.mg X.base CX k x ps sp)(hr:Room k X.A)(hg:Gl X x)(hx:Passes CX X E)
  (ha:PA X (e::es) t) (gK:(x==("__debug__" : ah))=false:=by decide) (he:az (e::es) X.env=(false,eval e X.env)::az es X.env:=by rfl) (bM:(bn pos (az es X.env)).any (·.1)=false:=by rfl):
  PE X (.Call (.Name x p) (e::es) [] pos) (Xa1 sp [] E t):=by
 obtain⟨f,fd,hm,hk,hb,hF⟩:=F.ex;exact Xhs hF hr hg hm hk hb .nil hx ha gK he bM
def Xj7{st}{rest}   (P:St->Hp->Prop)(h2:∃u,PSs X rest u/\∀Z' H',P Z' H'->u D Z' H')
  (h1:∀nx,(∀Z' H',P Z' H'->nx Z' H')->∃t,PS X st t/\t {D with nx:=nx} Z H):∃t,PSs X (st::rest) t/\t D Z H:=by
 obtain⟨u,hu,ru⟩:=h2;obtain⟨t,ht,rt⟩:=h1 (u D) ru;exact⟨Dx t u,Af ht hu,rt⟩
end
def Av{A B:Prop}(h1:c=true->A)(h2:c=false->B):if c=true then A else B:=by
 cases c with
 | true=>exact Cv (h1 rfl)
 | false=>exact Bt (h2 rfl)
def Same.upd{H H':Hp}{a:ae}{o:HO}(s:Same H H')(h:H a=none):Same H (upd H' a o):=λb u e=>by
 rw[Ad (Aw e h)];exact s b u e
def Same.upd0   (h:H a=none):Same H (L2.upd H a o):=(Same.refl H).upd h
def ku  {o u} (h:H b=some o) (hp:H p=none):upd H p u b=some o:=by
 rw[Ad (Aw h hp)];exact h
def Same.step  {o} (s:Same H H1) (hp:H1 p=none):Same H (L2.upd H1 p o):=s.upd (s.free hp)
def Same.go{p q}{o}(s:Same H H1)(hp:H1 p=none)(hq:L2.upd H1 p o q=none):Same H (L2.upd H1 p o):=s.step hp
def Hm{α : Type}(f)(xs:List α)(b)(hb:b<=xs.length):B4 (xs.map f) none (some (b:Int))=(xs.take b).map f:=by
 unfold B4;rw[HT.sIx_none,List.drop_zero,HT.sIx_nat,L5,List.map_take,Nat.sub_zero,O8 hb]
def Gg{α : Type}(f)(xs:List α)(a)(ha:a<=xs.length):B4 (xs.map f) (some (a:Int)) none=(xs.drop a).map f:=by
 unfold B4;rw[HT.sIx_none,HT.sIx_nat,L5,O8 ha,List.map_drop];exact N0 (by rw[Pu,L5];lia)
def Xj8{α : Type}(f)(xs:List α)(a b)(jd:a<=b)(hb:b<=xs.length):B4 (xs.map f) (some (a:Int)) (some (b:Int))=((xs.drop a).take (b - a)).map f:=by
 unfold B4;rw[HT.sIx_nat,HT.sIx_nat,L5,O8 hb,O8 (M8 jd hb),List.map_take,List.map_drop]
def Xco (oq:bj) (fN N:Za) (cap:List (Option Nat)) (scope:bj):Bool:=
 (scope.names.all λy=>decide (scope.names.lookup y.1=some y.2)) &&
 (scope.names.all λy=>decide (y.2 ≠ .free)||decide (oq.names.lookup y.1=some .cell)||decide (oq.names.lookup y.1=some .free))&&decide (cap.length=N.length) &&
 ((List.range N.length).all λi=>match cap[i]?,N[i]? with
  | some (some j),some x=>decide (fN[j]? = some x)&&decide (scope.names.lookup x=some .free)
  | _,_=>true)
def CompScope.of   {cap} (oq) (fN) (h1:X.env.scope=oq) (h2:X.N=fN) (hk:scope.kind = .function) (h:Xco oq fN N cap scope=true):CompScope X N cap scope:=by
 unfold Xco at h;simp only[Mp,M0,O9,decide_eq_true_eq] at h;obtain⟨⟨⟨a1,a3⟩,a4⟩,a5⟩:=h;refine⟨hk,a1,λy hy e=>?_,a4,λi x j hN hc=>?_⟩
 ·show X.env.scope.names.lookup y.1=some .cell\/X.env.scope.names.lookup y.1=some .free;rw[h1];rcases a3 y hy with (z | z) | z
  ·exact absurd e z
  ·exact .inl z
  ·exact .inr z
 ·have hi:i<N.length:=(Mc.mp hN).1;have q:=a5 i (Nr.mpr hi);rw[hc,hN] at q;simp only[Mp,decide_eq_true_eq] at q;rw[h2];exact q
section
variable {X:Cx}
def Dn(K)(h:X.K=K):IxR X (J3 K):=by subst h;exact J4
def Xcp(K)(h:X.K=K):OpR X (aE .In) (rIn K false):=by subst h;exact Xh4
end
def Kl        (n:Nat) (hn:n<sizeLine) (vs:Nat->V) (ok:Nat->Bool) (ys:Nat->V)
  (gN:∀i H2,i<n->Same H1 H2->J.go i H2/\∀x H3,J.yld i H2 x H3->H3=H2/\x=vs i)
  (cu:∀H2,Same H1 H2->J.stop n H2)
  (ot:∀i H2 Q,i<n->Same H1 H2->(∀H',Same H2 H'->Q (ok i) H')->tt ((Bu cap Z).set j (some (vs i))) H2 Q)
  (step:∀i H2 Q,i<n->ok i=true->Same H1 H2->(∀H',Same H2 H'->Q (ys i) H')->te ((Bu cap Z).set j (some (vs i))) H2 Q)
  (hd:∀D H2,H1 D=none->Same H1 H2->H2 D=some (.lst (((List.range n).filter ok).map ys))->F D H2):En cap (Bi j) tt te J Z H1 F:=by
 refine F5 n vs (λD i Z2 H2=>(∀v, Z2.set j v=(Bu cap Z).set j v)/\Same H1 H2/\H2 D=some (.lst (((List.range i).filter ok).map ys))) ?_ ?_ ?_ ?_ ?_
 ·intro D hD;exact⟨λ_=>rfl,(Same.refl H1).step hD,Ab⟩
 ·rintro D i Z2 H2 hD hi ⟨_,s2,_⟩;exact gN i H2 hi s2
 ·rintro D Z2 H2 hD ⟨_,s2,_⟩;exact cu H2 s2
 ·rintro D i Z2 H2 hD hi ⟨e,s2,hb⟩;show tt (Z2.set j (some (vs i))) H2 _;rw[e];refine ot i H2 _ hi s2 λH3 s3=>?_;have kh:=s2.trans s3;have qK:=s3 _ _ hb;have ki:∀v,((Bu cap Z).set j (some (vs i))).set j v=(Bu cap Z).set j v:=λv=>by rw[Qi]
  have hl:(((List.range i).filter ok).map ys).length<=i:=by
   rw[L5];exact M8 (Ni ..) (by rw[N4];lia)
  refine Av (λhk=>?_) (λhk=>?_)
  ·refine step i H3 _ hi hk kh λH4 s4=>?_;refine wput hi (s4 _ _ qK) (by lia) ⟨ki,λb u e'=>?_,?_⟩
   ·rw[Ad (Aw e' hD)];exact s4 _ _ (kh b u e')
   ·rw[Ab,Ng,Ms,Mn];simp[hk]
  ·refine wskip hi ⟨ki,kh,?_⟩;rw[qK,Ng,Ms,Mn];simp[hk]
 ·rintro D Z2 H2 hD ⟨_,s2,hb⟩;exact hd D H2 hD s2 hb
def Xj9       (n:Nat) (hn:n<sizeLine) (vs:Nat->V) (ys:Nat->V)
  (gN:∀i H2,i<n->Same H1 H2->J.go i H2/\∀x H3,J.yld i H2 x H3->H3=H2/\x=vs i)
  (cu:∀H2,Same H1 H2->J.stop n H2)
  (step:∀i H2 Q,i<n->Same H1 H2->(∀H',Same H2 H'->Q (ys i) H')->te ((Bu cap Z).set j (some (vs i))) H2 Q)
  (hd:∀D H2,H1 D=none->Same H1 H2->H2 D=some (.lst ((List.range n).map ys))->F D H2):En cap (Bi j) D1 te J Z H1 F:=
 Kl n hn vs (λ_=>true) ys gN cu (λi H2 Q _ _ k=>k H2 (Same.refl _)) (λi H2 Q hi _ s k=>step i H2 Q hi s k) λD H2 hD s e=>hd D H2 hD s (by rw[e,Mu.mpr (λ_ _=>rfl)])
def Ew:Passes (CX1 X.prog X.w) X E0:=λ_ _ _ _ _ _ _ h=>by
 obtain⟨_,_,_,_,_,_,_,_,_,h⟩:=h;exact h.elim
structure DefAt (K:DK) (x:ah) (st:aO):Prop where
 ex:∃f fd,DM K am x=some (some (.ref f))/\DQ K (.ref f)=true/\Fun K x x st f fd
def DefAt.of{K}{x}{st}    {kV cK pm cdv ct}(a:DM K am x=some (some (.ref f)))
  (l:K.lookup f=some ⟨oc,od,.func (DT x x (Dl st) (B1 st) (defScope st) .none kV cK pm an cdv ct),fX⟩) (c:DV K cdv x=true) (k:DQ K (.ref f)=true):DefAt K x st:=
 ⟨⟨f,_,a,k,Xbv l c k⟩⟩
def Fn.of   {K}     {k} {x} {st}  (X:K.In h) (G:h.Ns am mg) (D:DefAt K x st)
  (hb:∀(kV cK pm:aa) (an:Option ae) (cdv ct:aa) (us:List aa),us.length=ps.length->cD (DT x x (Dl st) (B1 st) (defScope st) .none kV cK pm an cdv ct) ⟨us,[]⟩=pure (ps.zip us))
  (ok:∀f fd,Fun K x x st f fd->FnOk P w K mg base CX k f fd ps sp):Fn P w K mg base CX k x ps sp:=by
 obtain⟨f,fd,a,hk,F⟩:=D.ex;exact⟨⟨f,fd,EB X G a,hk,F.binds hb,ok f fd F⟩⟩
structure ExcAt (K:DK) (x:ah) (C:ae):Prop where
 a:DM K am x=some (some (.ref C))
 e:DY K C bmV "ValueError.__new__" = true
 ga:DO K (.ref C) "__getattribute__" = some (some (.builtin "BaseException.__getattribute__"))
 gn:DO K (.ref C) "__getattr__" = some none
 cl:DO K (.ref C) "__class__" = some (some (.builtin "object.__class__"))
 sb:DZ K (.ref C) (.type "BaseException")=some true
 so:DZ K (.ref C) (.type "object")=some true
 sv:DZ K (.ref C) (.type "ValueError")=some true
 ss:DZ K (.ref C) (.ref C)=some true
 ic:EL K C=true
 ty:EO K (.ref C)=some (.type "type")
section
variable {K:DK}{x:ah}{C:ae}
end
structure ClsAt (K:DK) (x:ah) (C:ae):Prop where
 a:DM K am x=some (some (.ref C))
 ic:EL K C=true
 ty:EO K (.ref C)=some (.type "type")
def Hn(x)(row:Za):inV (.str x) (row.map V.str)=decide (x∈row):=by
 unfold inV;rw[N6,Od,decide_eq_true_eq];constructor
 ·rintro ⟨y,hy,e⟩;obtain⟨z,hz,rfl⟩:=Mo.mp hy;have:z=x:=by simpa [eqV] using e
  rw[<-this];exact hz
 ·intro hx;exact⟨.str x,Mo.mpr ⟨x,hx,rfl⟩,by simp[eqV]⟩
def Ho(row:Za):(row.map V.str).all Dk=true:=by
 rw[M0];intro v h;obtain⟨x,_,rfl⟩:=Mo.mp h;rfl
def Xka{K}        {p q}(si:p≠q)(hS:SqL K H1 a xs)(hn:xs.length<sizeLine)(ok)(ys)
  (ot:∀(i:Nat) x H2 Q,xs[i]? = some x->Same H1 H2->(∀H',Same H2 H'->Q (ok i) H')->tt (((Bu cap Z).set p (some (.int i))).set q (some x)) H2 Q)
  (step:∀(i:Nat) x H2 Q,xs[i]? = some x->ok i=true->Same H1 H2->(∀H',Same H2 H'->Q (ys i) H')->te (((Bu cap Z).set p (some (.int i))).set q (some x)) H2 Q)
  (hd:∀D H2,H1 D=none->Same H1 H2->H2 D=some (.lst (((List.range xs.length).filter ok).map ys))->F D H2):En cap (Jp K 2 (Jo (Bi p) (Jo (Bi q) Xai))) tt te (Ite K a) Z H1 F:=by
 intro D hD;refine⟨wN xs.length λi Z2 H2=>(∀u v,(Z2.set p u).set q v=((Bu cap Z).set p u).set q v)/\Same H1 H2/\H2 D=some (.lst (((List.range i).filter ok).map ys)),⟨xs.length,by simp,M3 _,λ_ _=>rfl,(Same.refl H1).step hD,Ab⟩,?_⟩;rintro i m Z1 H2 ⟨rfl,hi,e,s2,hb⟩;have sj:SqL K H2 a xs:=s2.seq hS;by_cases aR:i<xs.length
 ·have hx:xs[i]? = some xs[i]:=L6 aR;refine .inr ⟨⟨xs,xs[i],sj,hx⟩,?_⟩;rintro x H3 ⟨tp,rfl,ht,hy⟩;obtain⟨y,i7,rfl⟩:=hy xs sj;rw[hx] at i7;cases i7;refine⟨tp,_,rfl,SqT.of Ab,rfl,_,_,rfl,_,_,rfl,rfl,?_⟩;have s3:Same H1 (upd H2 tp (.tup [.int i,xs[i]])):=s2.step ht;have qK:upd H2 tp (.tup [.int i,xs[i]]) D=some (.lst (((List.range i).filter ok).map ys)):=ku hb ht;rw[e];refine ot i _ _ _ hx s3 λH4 s4=>?_;have sk:=s3.trans s4;have ou:=s4 _ _ qK;have ki:∀u v,(((((Bu cap Z).set p (some (.int i))).set q (some xs[i])).set p u).set q v)=((Bu cap Z).set p u).set q v:=λu v=>by
   rw[List.set_comm _ _ (Ne.symm si),Qi,Qi]
  have hl:(((List.range i).filter ok).map ys).length<=i:=by
   rw[L5];exact M8 (Ni ..) (by rw[N4];lia)
  refine Av (λhk=>?_) (λhk=>?_)
  ·refine step i _ H4 _ hx hk sk λH5 s5=>?_;refine wput aR (s5 _ _ ou) (by lia) ⟨ki,λb u e'=>?_,?_⟩
   ·rw[Ad (Aw e' hD)];exact s5 _ _ (sk b u e')
   ·rw[Ab,Ng,Ms,Mn];simp[hk]
  ·refine wskip aR ⟨ki,sk,?_⟩;rw[ou,Ng,Ms,Mn];simp[hk]
 ·have ei:i=xs.length:=by lia
  subst ei;exact .inl ⟨⟨xs,sj,L7 _⟩,hd D H2 hD s2 hb⟩
def Hq     (K:DK) (n:Nat) (hK:X.K=K) (hc:X.calm=true) (h:PGs X es t)
  (hn:(bu es X.env).length=n:=by rfl) (cu:(bu es X.env).findIdx? (·.1)=none:=by rfl):PG X (.Tuple es k pos) (Jp K n t):=by
 subst hK;exact Xhb hc h hn cu
def Da{α : Type}(d)(p):∀(xs:List α),((List.range xs.length).filter λi=>p (xs.getD i d)).map (λi=>xs.getD i d)=xs.filter p:=by
 intro xs;have go:∀n,n<=xs.length->((List.range n).filter λi=>p (xs.getD i d)).map (λi=>xs.getD i d)=(xs.take n).filter p:=by
  intro n
  induction n with
  | zero=>intro _;rfl
  | succ n ih=>
   intro h;have hn:n<xs.length:=by lia
   have e:xs.getD n d=xs[n]:=by simp[List.getD,hn]
   rw[Ng,Ms,Mn,ih (by lia),Mv hn,Ms,M7,M7,e];split
   ·simp[hn]
   ·simp
 rw[go _ (L7 _),Oe]
abbrev TM:=St->Hp->(St->Hp->Prop)->Prop
def PM (X:Cx) (m:eR Unit) (t:TM):Prop:=∀pins s Z H (Q:St->Hp->Prop),Inv X pins Z H s->t Z H Q ->
 ai (aj X.prog X.w) X.A m (λ_ s'=>∃Z' H',Inv X pins Z' H' s'/\Q Z' H') X.xe s
def Dp (e:aA) (d:Nat) (tg iter:aA) (bQ:List aA) (act:eR Unit) (it acc:aa) (env:dm):eR Fin:=do
 cr iter.pos
 match <-de it with
 | none=>pure (.done .next)
 | some v=>
  bU tg it v
  assign tg env v
  let mut ok:=true
  for c in bQ do
   if ok then ok <-isTrue c env (eval c env)
  if ok then act
  again (.compLoop e d it acc env)
structure Cm (e:aA):Prop where
 den1 : ∀ (P : au) (w : ay) (d : Nat) (it acc : aa) (env : dm), (aj P w).den (.compLoop e d it acc env) = (ci e d it acc env).onRaise (fun x => do                      BF x env; theTreesLotGoes x)
 den2 : ∀ (P : au) (w : ay) (d : Nat) (it acc : aa) (env : dm), (aj P w).den (.compStart e d it acc env) = (BG e d it acc env).onRaise (fun x => do                       BF x env; cr theWindowsPlace)
 und1:∀(A:ax) (d:Nat) (it acc:aa) (env:dm),A.under (.compLoop e d it acc env)=A
 und2:∀(A:ax) (d:Nat) (it acc:aa) (env:dm),A.under (.compStart e d it acc env)=A
def Gh    : Cm (.ListComp cY gs sc p):=⟨λ_ _ _ _ _ _=>rfl,λ_ _ _ _ _ _=>rfl,λ_ _ _ _ _=>rfl,λ_ _ _ _ _=>rfl⟩
def Xkb    : Cm (.DictComp k v gs sc p):=⟨λ_ _ _ _ _ _=>rfl,λ_ _ _ _ _ _=>rfl,λ_ _ _ _ _=>rfl,λ_ _ _ _ _=>rfl⟩
def tLp (g:TG) (tt:TT) (tm:TM) (J:It) (Z:St) (H1:Hp) (F:St->Hp->Prop):Prop:=
 ∃W:Nat->Nat->St->Hp->Prop,(∃m,W 0 m Z H1)/\∀i m Z1 H2,W i m Z1 H2 ->
  (J.stop i H2/\F Z1 H2)\/(J.go i H2/\∀x H3,J.yld i H2 x H3->g x Z1 H3 fun Z2 H4=>tt Z2 H4 λb H5=>
   if b=true then tm Z2 H5 fun Z3 H6=>∃m',m'<m/\W (i+1) m' Z3 H6 else ∃m',m'<m/\W (i+1) m' Z2 H5)
section
variable {Y:Cx}{e tg iter:aA}{d:Nat}{bQ:List aA}{act:eR Unit}{acc:aa}{g:TG}{tt:TT}{tm:TM}{pins:List (ae×aI)}{Z:St}{H:Hp}{s:ag}{J:It}{fp:List ae}{it:ae}{tn:Nat->ao->Prop}{F:St->Hp->Prop}{R:ng->ag->Prop}
def Xcq(cm:Cm e)(hx:Y.xe=λ_ _=>False)(hc:Y.calm=true)(eq:ci e d (.ref it) acc Y.env=Dp e d tg iter bQ act (.ref it) acc Y.env)(hg:PG Y tg g)(ht:PIfs Y bQ tt)(hm:PM Y act tm)
  (I:Inv Y pins Z H s) (T:Turn Y.prog Y.w Y.K tg J fp it tn) (h0:tn 0 s.heap) (hf:∀b∈fp,FpOk Y pins H b) (hb:tLp g tt tm J Z H F) (fin:∀Z' H' s',Inv Y pins Z' H' s'->F Z' H'->R (.ok .next) s'):
  bi (aj Y.prog Y.w) Y.A (.compLoop e d (.ref it) acc Y.env) R s:=by
 obtain⟨W,⟨m0,w0⟩,turn⟩:=hb;have fW:∀{H':Hp},(∀b∈fp,H' b=none)->∀b∈fp,FpOk Y pins H' b:=λhn b hb=>⟨hn b hb,(hf b hb).2⟩;refine codeAny_loop rfl (λn s'=>∃i Z1 H2,Inv Y pins Z1 H2 s'/\tn i s'.heap/\(∀b∈fp,H2 b=none)/\W i n Z1 H2) (λn s' hI=>?_) m0 ⟨0, Z,H,I,h0,λb hb=>(hf b hb).1,w0⟩;obtain⟨i, Z1,H2,I',bT,vn,w'⟩:=hI;rw[cm.den1,cm.und1];refine wpAny_noted ?_;rw[eq];have no:∀{α : Type} {t:eR α} {Q : α->ag->Prop} {E':Zb} {s₁ : ag},ai (aj Y.prog Y.w) Y.A t Q Y.xe s₁->ai (aj Y.prog Y.w) Y.A t Q E' s₁:=λh=>aK h (λ_ _ q=>q) λ_ _ z=>by rw[hx] at z;exact z.elim
 unfold Dp;rcases turn i n Z1 H2 w' with ⟨stop,q⟩ | ⟨go,step⟩
 ·refine Qm (aT (Qm (thn (T.done Y rfl rfl rfl hc i pins s' Z1 H2 _ I' (fW vn) bT stop) λr s1 ⟨hr,I1⟩=>?_)));subst hr;exact Qn (fin Z1 H2 s1 I1 q)
 ·refine Qm (aT (Qm (thn (T.item Y rfl rfl rfl hc i pins s' Z1 H2 _ I' (fW vn) bT go) λr s1 ⟨u,hr,h4⟩=>?_)));subst hr;refine Qm (thn h4 λ_ s5 ⟨x,H5,I5,r5,y5,kR,rN⟩=>?_);have rO:=I5.pinned (fW rN) (T.obj _ _ kR);refine Qm (thn (no (hg _ s5 Z1 H5 x u _ rO r5 (step x H5 y5))) λ_ s6 ⟨Z6,H6,I6,q6⟩=>?_);refine Qm (thn (no (ht _ s6 Z6 H6 _ I6 q6)) λb s7 ⟨H7,I7,q7⟩=>?_);have again:∀{s8:ag} {Z8:St} {H8:Hp},Inv Y (pins++Fu fp s5.heap) Z8 H8 s8->(∃m',m'<n/\W (i+1) m' Z8 H8)->∃m,m<n/\∃i Z1 H2,Inv Y pins Z1 H2 s8/\tn i s8.heap/\(∀b∈fp,H2 b=none)/\W i m Z1 H2:=λ{s8 Z8 H8} I8 ⟨m',hm,w8⟩=>by
   refine⟨m',hm,i+1, Z8,H8,I8.unpinned,T.keep _ _ _ kR λb hb o e=>(I8.pin (b,o) (Mx _ (Mx _ (G3 hb e)))).1,λb hb=>?_,w8⟩;obtain⟨o,e,d⟩:=T.obj _ _ kR b hb;exact(I8.pin (b,o) (Mx _ (Mx _ (G3 hb e)))).2.1
  cases b with
  | false=>
   rw[Qp Mr] at q7;exact Qn ⟨rfl,again I7 q7⟩
  | true=>
   rw[Qq rfl] at q7;exact Qm (thn (no (hm _ s7 Z6 H7 _ I7 q7)) λ_ s8 ⟨Z8,H8,I8,q8⟩=>Qn ⟨rfl,again I8 q8⟩)
def Xcr      (cm:Cm e) (dY:(cX e)[d]? = some cl) (has:cl.is_async=0)
  (h0:bi (aj prog w) A (.compLoop e d jS acc env) R s)
  (h:ai (aj prog w) A (eT jS) (λsq s'=>bi (aj prog w) A (.compLoop e d sq acc env) R s') (notedBy (aj prog w) A env λx s'=>R (.error x) s') s):
  bi (aj prog w) A (.compStart e d jS acc env) R s:=by
 refine eA ?_;rw[cm.den2,cm.und2];refine wpAny_notedAt ?_;unfold BG;rw[dY];have e1:(Option.elim (some cl) false λx=>x.is_async != 0)=false:=by
  show (cl.is_async != 0)=false;rw[has];rfl
 rw[e1,Qp Mr];show ai _ A (ask >>= _) _ _ s;refine Qm (aJ (wpAny_ite ?_));split
 ·first
   | exact Qm (Qn (Qn (And.intro rfl h0)))
   | exact Qn (And.intro rfl h0)
 ·first
   | exact Qm (b8 (Qm (aT (Qm (aK h (λsq s' h'=>Qn (And.intro rfl h')) λ_ _ x=>x)))))
   | (refine Qm (b8 ?_);show ai _ _ (cr cl.iter.pos >>= _) _ _ s;exact Qm (aT (Qm (aK h (λsq s' h'=>Qn (And.intro rfl h')) λ_ _ x=>x))))
end
def Gi (te:TE) (D:ae):TM:=fun Z H Q=>te Z H λy H6=>∃ys,H6 D=some (.lst ys)/\ys.length<sizeLine/\Q Z (upd H6 D (.lst (ys++[y])))
def Hr    (he:PE Y cY te):PM Y (do  let _ <-call (.builtin "list.append") [.ref D,<-eval cY Y.env]) (Gi te D):=by
 intro pins s Z H Q I h;refine Qm (thn (he pins s Z H _ I h) λyv s8 ⟨y,H8,I8,r8,ys,hD,aR,q8⟩=>?_);exact Qm (thn (Xbh (X:=Y) _ s8 Z H8 (.ref D) [y] (.ref D) [yv] (λ_ H9=>Q Z H9) I8 rfl (.cons r8 .nil) ⟨_,ys,y,rfl,rfl,hD,aR,q8⟩) λ_ s9 ⟨_,H9,I9,_,q9⟩=>Qn ⟨Z,H9,I9,q9⟩)
def Xcs (tk tv:TE) (D:ae):TM:=fun Z H Q=>tk Z H λk H1=>tv Z H1 λv H2=>∃kvs ky,k=kV ky/\H2 D=some (.dK kvs)/\kvs.length<sizeLine/\Q Z (upd H2 D (.dK (A9 kvs ky v)))
def Xkc    (hk:PE Y kx tk) (hv:PE Y vx tv):PM Y (do
  let kv <-eval kx Y.env
  let vv <-holding [kv] (eval vx Y.env)
  cr {kx.pos with endLine:=vx.pos.endLine,endCol:=vx.pos.endCol}
  holding [kv,vv] (dictSet D kv vv)) (Xcs tk tv D):=by
 intro pins s Z H Q I h;refine Qm (thn (hk pins s Z H _ I h) λkv s1 ⟨k,H1,I1,rk,q1⟩=>Qm (a7 (thn (hv pins s1 Z H1 _ I1 q1) λvv s2 ⟨v,H2,I2,rv,kvs,ky,ek,hD,hl,q⟩=>Qm (aT (a7 ?_)))));subst ek;obtain⟨z,hd,vs,c9,dd⟩:=F2 I2.hok hD;have hz:vs.length<=sizeLine:=by rw[<-c9.length];exact z
 have m8:(A9 kvs ky v).length<=sizeLine:=by have:=Fz kvs ky v;lia
 refine wpAny_dictSet_pairs (knd:=Bb Y.prog Y.w) (hsz:=hz) (Em rk) dd λh' ib hs=>⟨Z,_,?_,q⟩;have he:∃q,h'.get? D=some q:=let ⟨q,_,_,hq,_⟩:=ib; ⟨q,hq⟩;exact F3 I2 (by rw[hD];exact True.intro) hs he (J6 m8 hd (c9.put ky rv) ib)
def Xct (wi:TI) (g:TG) (tt:TT) (tm:TM):TM:=fun Z H Q=>wi Z H λJ H1=>tLp g tt tm J Z H1 Q
def Xkd{Y:Cx}{e tg iter:aA}  {d:Nat}      (cm:Cm e)(hx:Y.xe=λ_ _=>False)(hc:Y.calm=true)(dY:(cX e)[d]? = some ⟨tg,iter,bQ,0⟩)
  (eq:∀it,ci e d it (.ref D) Y.env=Dp e d tg iter bQ act it (.ref D) Y.env) (hi:PI Y tg iter wi) (hg:PG Y tg g) (ht:PIfs Y bQ tt) (hm:PM Y act tm)
  (hs:∀x,aC iter Y.env x=pure x:=by intro _;rfl):PM Y (do
   let x <-eval iter Y.env
   cr iter.pos
   let x <-aC iter Y.env x
   let _ <-runOwn (.compStart e d (<-holding [x] (eT x)) (.ref D) Y.env) Y.env) (Xct wi g tt tm):=by
 intro pins s Z H Q I h;refine Qm (thn (hi pins s Z H _ I h) λv s1 h1=>Qm (aT (Qm (ed (hs v) (Qm (a7 (thn h1 λjS s2 h2=>?_)))))));obtain⟨it,fp,tn,J,H2,ei,I2,T,jU,f2,lp⟩:=h2;subst ei;refine Qm (wpAny_runOwn ?_);have go:∀s3,s3=s2->bi (aj Y.prog Y.w) Y.A (.compLoop e d (.ref it) (.ref D) Y.env) (λr s'=>match r with | .ok _=>∃Z' H',Inv Y pins Z' H' s'/\Q Z' H' | .error e=>False) s3:=by
  rintro s3 rfl;exact Xcq cm hx hc (eq _) hg ht hm I2 T jU f2 lp fun Z' H' s' I' q=>⟨Z',H',I',q⟩
 have st:=Xcr (s:=s2) (R:=λr s'=>match r with | .ok _=>∃Z' H',Inv Y pins Z' H' s'/\Q Z' H' | .error e=>False) cm dY rfl (go s2 rfl) (T.self Y.A 0 s2 _ _ jU (go s2 rfl));refine bv st λr s' hr=>?_;cases r with
 | ok f=>exact Qn hr
 | error e=>exact hr.elim
def Xcu (cap:List (Option Nat)) (o0:ae->HO) (g:TG) (tt:TT) (tm:ae->TM) (J:It) (Z:St) (H1:Hp) (F:ae->Hp->Prop):Prop:=
 ∀D,H1 D=none->tLp g tt (tm D) J (Bu cap Z) (upd H1 D (o0 D)) λ_ H2=>F D H2
def Xcv (cap:List (Option Nat)) (o0:HO) (g:TG) (tt:TT) (tm:ae->TM) (J:It) (Z:St) (H1:Hp) (F:ae->Hp->Prop):Prop:=
 ∀D,H1 D=none->tLp g tt (tm D) J (Bu cap Z) (upd H1 D o0) λ_ H2=>F D H2
section
variable {X:Cx}{N:Za}{cap:List (Option Nat)}{scope:bj}{e tg iter:aA}{bQ:List aA}{g:TG}{tt:TT}{tm:ae->TM}{E:Zb}{bO:eR aa}{ob:aI}{o0:HO}{o1:ae->HO}{act:ae->dm->eR Unit}
def Xcw(C:CompScope X N cap scope)(bq:X.calm=true)(cm:Cm e)(dY:(cX e)[0]? = some ⟨tg,iter,bQ,0⟩)
  (sr:∀(s:ag) (Q:Zb) (E':Zb),Q (.ref s.heap.objs.size) {s with heap:=s.heap.push ob}->ai (aj X.prog X.w) X.A bO Q E' s)
  (nE:∀pins Z H s,Inv X pins Z H s->Inv X pins Z (upd H s.heap.objs.size (o1 s.heap.objs.size)) {s with heap:=s.heap.push ob})
  (j7:∀it D env,ci e 0 it (.ref D) env=Dp e 0 tg iter bQ (act D env) it (.ref D) env)
  (hg:∀s0 H0 ex,PG (X.comp N scope s0 H0 ex) tg g) (ht:∀s0 H0 ex,PIfs (X.comp N scope s0 H0 ex) bQ tt) (hm:∀D s0 H0 ex,PM (X.comp N scope s0 H0 ex) (act D (X.comp N scope s0 H0 ex).env) (tm D))         {RR:aa->ae->ng->ag->Prop}
  (I:Inv X pins Z H s) (T:Turn X.prog X.w X.K tg J fp it tn) (h0:tn 0 s.heap) (hf:∀b∈fp,FpOk X pins H b) (hb:Xcu cap o1 g tt tm J Z H F)
  (fin:∀D L H' s' m,Inv X pins Z H' s'->FpOk X pins H' L->s'.heap.Ns L m->F D H'->RR (.ref D) L (.ok .next) s'):
  ai (aj X.prog X.w) X.A bO (λacc s₃=>ai (aj X.prog X.w) X.A (fi scope X.env.globals (Bv X.env scope.names []) [] X.env.qual none .none (some X.env)) (λox s₄=>
   bi (aj X.prog X.w) X.A (.compStart e 0 (.ref it) acc {ox with scope:=relabel scope X.env}) (RR acc ox.locals) s₄) E s₃) E s:=by
 have gR:H s.heap.objs.size=none:=I.hok.fresh (L7 _);have lp:=hb s.heap.objs.size gR;have flt:∀b∈fp,b<s.heap.objs.size:=λb hb=>by
  obtain⟨o,e,_⟩:=T.obj _ _ h0 b hb;exact Qv e
 refine sr s _ _ (Xit ?_);have I3:Inv X pins Z (upd H s.heap.objs.size (o1 s.heap.objs.size)) {s with heap:=s.heap.push ob}:=nE pins Z H s I;generalize e3:({s with heap:=s.heap.push ob}:ag)=s3 at I3;have qG:s3.heap=s.heap.push ob:=by rw[<-e3]
 have hsz:s3.heap.objs.size=s.heap.objs.size+1:=by rw[qG,ao.size_push]
 have qL:∀b∈fp,FpOk X pins (upd H s.heap.objs.size (o1 s.heap.objs.size)) b:=λb hb=>by
  obtain⟨f0,f⟩:=hf b hb;exact⟨by rw[Ad (L9 (flt b hb))];exact f0,f⟩
 have lm:∀b∈fp,b<s3.heap.objs.size:=λb hb=>by rw[hsz];exact Nc (flt b hb)
 have hk:∀b o,s3.heap.get? b=some o->(bG (s3.heap.push {cls:=.type "dict",data:=.dict #[]}) scope.names).get? b=some o:=λb o e=>cL _ _ b o (Qw _ e);have IY:=Xiu (tk:=s3.toks) C I3 qL lm;generalize eY:X.comp N scope s3 (upd H s.heap.objs.size (o1 s.heap.objs.size)) fp=Y at IY;have vo:(s3.heap.push {cls:=.type "dict",data:=.dict #[]}).objs.size=s3.heap.objs.size+1:=ao.size_push ..;have j6:tn 0 (bG (s3.heap.push {cls:=.type "dict",data:=.dict #[]}) scope.names):=T.keep _ _ _ h0 λb hb o e=>hk b o (by rw[qG];exact Qw _ e);have fY:∀{H':Hp},(∀b∈fp,H' b=none)->∀b∈fp,FpOk Y [] H' b:=λ{H'} hn b hb=>by
  subst eY;obtain⟨_,f1,f2,_,f4,_⟩:=qL b hb;refine⟨hn b hb,L9 (lm b hb),λz=>?_,.inl hb,λx c h=>?_,λp hp=>absurd (show p∈([]:List (ae×aI)) from hp) (by simp)⟩
  ·rcases Mb.mp (I3.stkSub b z) with e | e
   ·exact f1 e
   ·exact f2 e
  ·rcases Xb0 (s:=s3) C I3.ok vo h with ⟨a,_⟩ | ⟨_,a⟩
   ·exact λz=>Na _ (Oi a (by rw[z];exact lm b hb))
   ·exact f4 x c a
 have su:∀s4:ag,s4 = {s3 with heap:=bG (s3.heap.push {cls:=.type "dict",data:=.dict #[]}) scope.names} ->
   bi (aj X.prog X.w) X.A (.compLoop e 0 (.ref it) (.ref s.heap.objs.size) (nG scope (F4 X scope s3) s3.heap.objs.size X.env))
    (RR (.ref s.heap.objs.size) s3.heap.objs.size) s4:=by
  rintro s4 rfl;have pP:Y.prog=X.prog:=by subst eY;rfl
  have pW:Y.w=X.w:=by subst eY;rfl
  have pK:Y.K=X.K:=by subst eY;rfl
  have pC:Y.calm=true:=by subst eY;exact bq
  have pA:Y.A=X.A:=by subst eY;rfl
  have pE:Y.env=nG scope (F4 X scope s3) s3.heap.objs.size X.env:=by subst eY;rfl
  have pX:Y.xe=λ_ _=>False:=by subst eY;rfl
  have T':Turn Y.prog Y.w Y.K tg J fp it tn:=by rw[pP,pW,pK];exact T
  have go:=Xcq (Y:=Y) (acc:=.ref s.heap.objs.size) (pins:=[]) (R:=RR (.ref s.heap.objs.size) s3.heap.objs.size) cm pX pC (j7 _ _ _) (by subst eY;exact hg _ _ _) (by subst eY;exact ht _ _ _) (show PM Y (act s.heap.objs.size Y.env) (tm s.heap.objs.size) by subst eY;exact hm _ _ _ _)
   IY T' j6 (fY λb hb=>(qL b hb).1) lp ?_
  ·rw[pP,pW,pA,pE] at go;exact go
  ·intro Z' H2 s1 I1 q;have IX:Inv X pins Z H2 s1:=by
    subst eY;refine I3.call' (ch:=fp) I1.os I1.base I1.hok I1.bare λb hb=>?_;obtain⟨_,f1,_,f3,f4,f5⟩:=qL b hb;exact⟨f3,f1,f4,f5⟩
   have hL:H2 s3.heap.objs.size=none:=by
    have z:=I1.free;rw[pE] at z;exact z
   obtain⟨m,hm,_⟩:=I1.loc;rw[pE] at hm;exact fin s.heap.objs.size s3.heap.objs.size H2 s1 m IX (I3.fpOk (L7 _) hL) hm q
 have lp:=su _ rfl;have T1:=T.self;subst e3;exact Xcr cm dY rfl lp (T1 X.A 0 _ _ _ j6 lp)
structure AccA (X:Cx) (bO:eR aa) (ob:aI) (o1:ae->HO):Prop where
 new:∀(s:ag) (Q:Zb) (E':Zb),Q (.ref s.heap.objs.size) {s with heap:=s.heap.push ob}->ai (aj X.prog X.w) X.A bO Q E' s
 lay:∀pins Z H s,Inv X pins Z H s->Inv X pins Z (upd H s.heap.objs.size (o1 s.heap.objs.size)) {s with heap:=s.heap.push ob}
structure Acc (X:Cx) (bO:eR aa) (ob:aI) (o0:HO):Prop where
 new:∀(s:ag) (Q:Zb) (E':Zb),Q (.ref s.heap.objs.size) {s with heap:=s.heap.push ob}->ai (aj X.prog X.w) X.A bO Q E' s
 lay:∀pins Z H s,Inv X pins Z H s->Inv X pins Z (upd H s.heap.objs.size o0) {s with heap:=s.heap.push ob}
def Hs:Acc X (newList []) {cls:=.type "list",data:=.seq ([]:List aa).toArray} (.lst []):=⟨λs Q E' h=>bz h,λpins Z H s I=>I.lnew (t':=s.toks) .nil (M3 _)⟩
def Xke:Acc X newDict {cls:=.type "dict",data:=.dict #[]} (.dK []):=⟨λs Q E' h=>bz h,λpins Z H s I=>I.laid (a:=s.heap.objs.size) (o:=.dK []) (t':=s.toks) (λ_ _ q=>Qw _ q) (L7 _) (Xbq s.heap I.big)⟩
def Xkf (cap:List (Option Nat)) (o0:ae->HO) (wi:TI) (g:TG) (tt:TT) (tm:ae->TM):TE:=fun Z H Q=>wi Z H λJ H1=>Xcu cap o0 g tt tm J Z H1 λD H2=>Q (.ref D) H2
def Xkg   (ac:AccA X bO ob o1) (he:eval e X.env=comprehension e scope X.env pos bO false (eval iter X.env)) (er:cX e=⟨tg,iter,bQ,0⟩::gens)
  (C:CompScope X N cap scope) (bq:X.calm=true) (cm:Cm e) (hi:PI X tg iter wi)
  (j7:∀it D env,ci e 0 it (.ref D) env=Dp e 0 tg iter bQ (act D env) it (.ref D) env)
  (hg:∀s0 H0 ex,PG (X.comp N scope s0 H0 ex) tg g) (ht:∀s0 H0 ex,PIfs (X.comp N scope s0 H0 ex) bQ tt) (hm:∀D s0 H0 ex,PM (X.comp N scope s0 H0 ex) (act D (X.comp N scope s0 H0 ex).env) (tm D))
  (hs:∀x,aC iter X.env x=pure x):PE X e (Xkf cap o1 wi g tt tm):=by
 intro pins s Z H Q I h;rw[he];refine gk (use:=none) er hs (Xbw (Ke C I.ok)) C.kind (λx hx hl=>by rw[C.uniq x hx,hl]) (thn (hi pins s Z H _ I h) λv s1 h1=>thn h1 λjS s2 h2=>?_);obtain⟨it,fp,tn,J,H2,ei,I2,T,jU,f2,R⟩:=h2;subst ei;refine Xcw (RR:=λacc L=>compPost (aj X.prog X.w) X.A X.xe none (EP X pins Z Q) acc L) C bq cm (by rw[er];rfl) ac.new ac.lay j7 hg ht hm I2 T jU f2 R ?_;intro D L H' s' m I' fL hm q;refine⟨m,hm,λh' sw=>?_⟩;obtain⟨f0,f1,_,f3,f4,f5⟩:=fL;exact⟨.ref D,H',I'.turned (t':=s'.toks) (λb o hb e=>(sw.2 b hb).trans e) f0 f1 f3 f4 f5,rfl,q⟩
def Km (cap:List (Option Nat)) (o0:HO) (wi:TI) (g:TG) (tt:TT) (tm:ae->TM):TE:=fun Z H Q=>wi Z H λJ H1=>Xcv cap o0 g tt tm J Z H1 λD H2=>Q (.ref D) H2
def Kn   (ac:Acc X bO ob o0) (he:eval e X.env=comprehension e scope X.env pos bO false (eval iter X.env)) (er:cX e=⟨tg,iter,bQ,0⟩::gens)
  (C:CompScope X N cap scope) (bq:X.calm=true) (cm:Cm e) (hi:PI X tg iter wi)
  (j7:∀it D env,ci e 0 it (.ref D) env=Dp e 0 tg iter bQ (act D env) it (.ref D) env)
  (hg:∀s0 H0 ex,PG (X.comp N scope s0 H0 ex) tg g) (ht:∀s0 H0 ex,PIfs (X.comp N scope s0 H0 ex) bQ tt) (hm:∀D s0 H0 ex,PM (X.comp N scope s0 H0 ex) (act D (X.comp N scope s0 H0 ex).env) (tm D))
  (hs:∀x,aC iter X.env x=pure x):PE X e (Km cap o0 wi g tt tm):=
 Xkg (o1:=λ_=>o0) ⟨ac.new,ac.lay⟩ he er C bq cm hi j7 hg ht hm hs
def Xcx (i:Nat) (cap:List (Option Nat)) (o0:HO) (wi:TI) (g:TG) (tt:TT) (tm:ae->TM):TS:=λD Z H=>wi Z H λJ H1=>Xcv cap o0 g tt tm J Z H1 λl H2=>D.nx (Z.set i (some (.ref l))) H2
def Xcy     (ac:Acc X bO ob o0) (he:∀use,evalThenUse e X.env use=(do     let _ <-comprehension e scope X.env bB bO false (eval iter X.env) (some use))) (er:cX e=⟨tg,iter,bQ,0⟩::gens)
  (C:CompScope X N cap scope) (bq:X.calm=true) (cm:Cm e) (hN:X.N.Nodup) (oy:X.N[i]? = some y) (hy:X.env.scope.names.lookup y=some .local) (hi:PI X tg iter wi)
  (j7:∀it D env,ci e 0 it (.ref D) env=Dp e 0 tg iter bQ (act D env) it (.ref D) env)
  (hg:∀s0 H0 ex,PG (X.comp N scope s0 H0 ex) tg g) (ht:∀s0 H0 ex,PIfs (X.comp N scope s0 H0 ex) bQ tt) (hm:∀D s0 H0 ex,PM (X.comp N scope s0 H0 ex) (act D (X.comp N scope s0 H0 ex).env) (tm D))
  (oz:cV e (some (.Name y py)) gT.line X.env=pure true) (hs:∀x,aC iter X.env x=pure x):PS X (.Assign [.Name y py] e gT) (Xcx i cap o0 wi g tt tm):=by
 intro pins s Z H D I h;rw[exec_Assign_Name_used _ _ _ _ oz];refine Qm (aT (Qm ?_));rw[he];refine Qm (thn (gk (use:=some (assign (.Name y py) X.env)) (Q:=λ_ s'=>SP X pins D .next s') er hs (Xbw (Ke C I.ok)) C.kind (λx hx hl=>by rw[C.uniq x hx,hl])
  (thn (hi pins s Z H _ I h) λv s1 h1=>thn h1 λjS s2 h2=>?_)) (λ_ s' hq=>Qn (Qn hq)))
 obtain⟨it,fp,tn,J,H2,ei,I2,T,jU,f2,R⟩:=h2;subst ei;refine Xcw (o1:=λ_=>o0) (RR:=λacc L=>compPost (aj X.prog X.w) X.A X.xe (some (assign (.Name y py) X.env)) (λ_ s'=>SP X pins D .next s') acc L) C bq cm (by rw[er];rfl) ac.new ac.lay j7 hg ht hm I2 T jU f2 R ?_;intro l L H' s' m I' fL hm q;obtain⟨f0,f1,_,f3,f4,f5⟩:=fL;show ai _ X.A (assign (.Name y py) X.env (.ref l)) _ _ s';refine jR (Xab I' hN oy (.inl hy) (show Aj (.ref l) (.ref l) from rfl) (λs3 I3 ⟨a,sb,ha⟩=>?_) (.inr hy));have xN:L≠a:=by
  rcases ha with rfl | ha
  ·exact f1
  ·exact λz=>f4 y a ha z.symm
 refine⟨m,hm.sameBut sb xN,λh' sw=>?_⟩;exact⟨_,H',I3.turned (t':=s3.toks) (λb o hb e=>(sw.2 b hb).trans e) f0 f1 f3 f4 f5,q⟩
end
def act2 (cY tg iter i8 bZ:aA) (bQ dQ:List aA) (scope:bj) (pos:bw) (D:ae) (env:dm):eR Unit:=do
      let x <-eval bZ env
      cr bZ.pos
      let x <-aC bZ env x
      let _ <-runOwn (.compStart (.ListComp cY [⟨tg,iter,bQ,0⟩,⟨i8,bZ,dQ,0⟩] scope pos) 1 (<-holding [x] (eT x)) (.ref D) env) env
def Xkh(cY tg iter i8 bZ)(bQ dQ)(scope)(pos)(it)(D)(env):
  ci (.ListComp cY [⟨tg,iter,bQ,0⟩,⟨i8,bZ,dQ,0⟩] scope pos) 0 it (.ref D) env=Dp (.ListComp cY [⟨tg,iter,bQ,0⟩,⟨i8,bZ,dQ,0⟩] scope pos) 0 tg iter bQ (act2 cY tg iter i8 bZ bQ dQ scope pos D env) it (.ref D) env:=by
 unfold ci Dp act2;dsimp only;simp only[List.getElem?_cons_zero,List.getElem?_cons_succ,bind_assoc,pure_bind];simp;rfl
section
variable {X:Cx}{N:Za}{cap:List (Option Nat)}{scope:bj}{tg iter i8 bZ cY kx vx:aA}{bQ dQ:List aA}{g g2:TG}{tt vp:TT}{te tk tv:TE}{wi vq:TI}{pos:bw}
def Gj(C:CompScope X N cap scope)(bq:X.calm=true)(hi:PI X tg iter wi)
  (hg:∀s0 H0 ex,PG (X.comp N scope s0 H0 ex) tg g) (ht:∀s0 H0 ex,PIfs (X.comp N scope s0 H0 ex) bQ tt) (he:∀s0 H0 ex,PE (X.comp N scope s0 H0 ex) cY te)
  (hs:∀x,aC iter X.env x=pure x:=by intro _;rfl):PE X (.ListComp cY [⟨tg,iter,bQ,0⟩] scope pos) (Xiv cap wi g tt te):=
 Kn (act := fun D env => do let _ <- call (.builtin "list.append") [.ref D, <- eval cY env]) Hs rfl rfl C bq Gh hi (fun it D env => rfl) hg ht (fun D s0 H0 ex => Hr (he s0 H0 ex)) hs
def Ht{i:Nat}  (C:CompScope X N cap scope)(bq:X.calm=true)(hN:X.N.Nodup)(oy:X.N[i]? = some y)(hy:X.env.scope.names.lookup y=some .local)(hi:PI X tg iter wi)
  (hg:∀s0 H0 ex,PG (X.comp N scope s0 H0 ex) tg g) (ht:∀s0 H0 ex,PIfs (X.comp N scope s0 H0 ex) bQ tt) (he:∀s0 H0 ex,PE (X.comp N scope s0 H0 ex) cY te)
  (oz:cV (.ListComp cY [⟨tg,iter,bQ,0⟩] scope pos) (some (.Name y py)) gT.line X.env=pure true:=by rfl)
  (hs:∀x,aC iter X.env x=pure x:=by intro _;rfl):PS X (.Assign [.Name y py] (.ListComp cY [⟨tg,iter,bQ,0⟩] scope pos) gT) (Xiw i cap wi g tt te):=
 Xcy (act := fun D env => do let _ <- call (.builtin "list.append") [.ref D, <- eval cY env]) Hs (fun use => rfl) rfl C bq Gh hN oy hy hi (fun it D env => rfl) hg ht (fun D s0 H0 ex => Hr (he s0 H0 ex)) oz hs
def Xcz(C:CompScope X N cap scope)(bq:X.calm=true)(hi:PI X tg iter wi)
  (hg:∀s0 H0 ex,PG (X.comp N scope s0 H0 ex) tg g) (ht:∀s0 H0 ex,PIfs (X.comp N scope s0 H0 ex) bQ tt) (hk:∀s0 H0 ex,PE (X.comp N scope s0 H0 ex) kx tk) (hv:∀s0 H0 ex,PE (X.comp N scope s0 H0 ex) vx tv)
  (hs:∀x,aC iter X.env x=pure x:=by intro _;rfl):PE X (.DictComp kx vx [⟨tg,iter,bQ,0⟩] scope pos) (Km cap (.dK []) wi g tt (Xcs tk tv)):=
 Kn Xke rfl rfl C bq Xkb hi (λit D env=>compTurn_dict kx vx tg iter bQ scope pos it D env) hg ht (λD s0 H0 ex=>Xkc (hk s0 H0 ex) (hv s0 H0 ex)) hs
def Xc0(C:CompScope X N cap scope)(bq:X.calm=true)(hi:PI X tg iter wi)
  (hg:∀s0 H0 ex,PG (X.comp N scope s0 H0 ex) tg g) (ht:∀s0 H0 ex,PIfs (X.comp N scope s0 H0 ex) bQ tt)
  (dP:∀s0 H0 ex,PI (X.comp N scope s0 H0 ex) i8 bZ vq) (o4:∀s0 H0 ex,PG (X.comp N scope s0 H0 ex) i8 g2) (o5:∀s0 H0 ex,PIfs (X.comp N scope s0 H0 ex) dQ vp) (he:∀s0 H0 ex,PE (X.comp N scope s0 H0 ex) cY te)
  (hs:∀x,aC iter X.env x=pure x:=by intro _;rfl) (xO:∀s0 H0 ex x,aC bZ (X.comp N scope s0 H0 ex).env x=pure x:=by intro _ _ _ _;rfl):
  PE X (.ListComp cY [⟨tg,iter,bQ,0⟩,⟨i8,bZ,dQ,0⟩] scope pos) (Km cap (.lst []) wi g tt λD=>Xct vq g2 vp (Gi te D)):=
 Kn (act:=λD env=>act2 cY tg iter i8 bZ bQ dQ scope pos D env) Hs rfl rfl C bq Gh hi (λit D env=>Xkh ..) hg ht (λD s0 H0 ex=>Xkd (Y:=X.comp N scope s0 H0 ex) (e:=.ListComp cY [⟨tg,iter,bQ,0⟩,⟨i8,bZ,dQ,0⟩] scope pos) (d:=1) Gh rfl bq rfl (λit=>rfl) (dP s0 H0 ex) (o4 s0 H0 ex) (o5 s0 H0 ex) (Hr (he s0 H0 ex)) (xO s0 H0 ex)) hs
end
mutual
def DAt (H:Hp):ak->V->Prop
 | .none,v=>v = .non
 | .bool b,v=>v = .bl b
 | .int i,v=>v = .int i
 | .str x,v=>v = .str x
 | .list ds,v=>∃p xs,v = .ref p/\H p=some (.lst xs)/\DAll H ds xs
 | .tuple ds,v=>∃p xs,v = .ref p/\H p=some (.tup xs)/\DAll H ds xs
 | .dict _,_=>False
def DAll (H:Hp):List ak->List V->Prop
 | [],vs=>vs=[]
 | d::ds,vs=>∃v r,vs=v::r/\DAt H d v/\DAll H ds r
end
mutual
theorem DAt.same{H H':Hp}(s:Same H H'):∀(d:ak) (v:V),DAt H d v->DAt H' d v
 | .none,v,h=>by unfold DAt at h ⊢; exact h
 | .bool b,v,h=>by unfold DAt at h ⊢; exact h
 | .int i,v,h=>by unfold DAt at h ⊢; exact h
 | .str x,v,h=>by unfold DAt at h ⊢; exact h
 | .list ds,v,h=>by
  unfold DAt at h ⊢;obtain⟨p,xs,h1,h2,h3⟩:=h;exact⟨p,xs,h1,s _ _ h2,DAll.same s ds xs h3⟩
 | .tuple ds,v,h=>by
  unfold DAt at h ⊢;obtain⟨p,xs,h1,h2,h3⟩:=h;exact⟨p,xs,h1,s _ _ h2,DAll.same s ds xs h3⟩
 | .dict _,v,h=>by unfold DAt at h;exact h.elim
theorem DAll.same{H H':Hp}(s:Same H H'):∀(ds:List ak) (vs:List V),DAll H ds vs->DAll H' ds vs
 | [],vs,h=>by unfold DAll at h ⊢; exact h
 | d::ds,vs,h=>by
  unfold DAll at h ⊢;obtain⟨v,r,h1,h2,h3⟩:=h;exact⟨v,r,h1,DAt.same s d v h2,DAll.same s ds r h3⟩
end
def Dq:DAll H [] []:=by unfold DAll;rfl
def D6     (h:DAt H d v) (hs:DAll H ds vs):DAll H (d::ds) (v::vs):=by unfold DAll;exact⟨v,vs,rfl,h,hs⟩
theorem Xc1   : ∀{ds:List ak} {vs:List V},DAll H ds vs->DAt H d v->DAll H (ds++[d]) (vs++[v])
 | [],vs,h,hd=>by
  unfold DAll at h;subst h;exact D6 hd Dq
 | e::ds,vs,h,hd=>by
  unfold DAll at h;obtain⟨u,r,rfl,h2,h3⟩:=h;exact D6 h2 (Xc1 h3 hd)
theorem Ko:∀{ds:List ak} {vs:List V},DAll H ds vs->vs.length=ds.length
 | [],vs,h=>by unfold DAll at h;subst h;rfl
 | e::ds,vs,h=>by
  unfold DAll at h;obtain⟨u,r,rfl,h2,h3⟩:=h;rw[Ml,Ml,Ko h3]
theorem Xc2:∀{ds:List ak} {vs:List V} {i:Nat} {d:ak},DAll H ds vs->ds[i]? = some d->∃v,vs[i]? = some v/\DAt H d v
 | [],vs,i,d,h,e=>by simp at e
 | c::ds,vs,0,d,h,e=>by
  unfold DAll at h;obtain⟨u,r,rfl,h2,h3⟩:=h;simp at e;subst e;exact⟨u,rfl,h2⟩
 | c::ds,vs,i+1,d,h,e=>by
  unfold DAll at h;obtain⟨u,r,rfl,h2,h3⟩:=h;simpa using Xc2 h3 (by simpa using e)
def Xc3(row:Za):DAll H (row.map ak.str) (row.map V.str):=by
 induction row with
 | nil=>exact Dq
 | cons x r ih=>exact D6 (by unfold DAt;rfl) ih
def Xki(row:List Int):DAll H (row.map ak.int) (row.map V.int):=by
 induction row with
 | nil=>exact Dq
 | cons x r ih=>exact D6 (by unfold DAt;rfl) ih
def Kp    (h:H p=some (.tup xs)) (hs:DAll H ds xs):DAt H (.tuple ds) (.ref p):=by unfold DAt;exact⟨p,xs,rfl,h,hs⟩
def Xc4    (h:H p=some (.lst xs)) (hs:DAll H ds xs):DAt H (.list ds) (.ref p):=by unfold DAt;exact⟨p,xs,rfl,h,hs⟩
def Xkj   (h:DAt H (.tuple ds) v):∃p xs,v = .ref p/\H p=some (.tup xs)/\DAll H ds xs:=by unfold DAt at h;exact h
section
variable {X:Cx}{pins:List (ae×aI)}{Z:St}{H:Hp}{s:ag}
mutual
theorem Ex(I:Inv X pins Z H s):∀(d:ak) (v:V) (u:aa),DAt H d v->Aj v u->∃as,Reads s.heap u d as
 | .none,v,u,h,r=>by unfold DAt at h;subst h;cases r;exact⟨_,.none⟩
 | .bool b,v,u,h,r=>by unfold DAt at h;subst h;cases r;exact⟨_,.bool b⟩
 | .int i,v,u,h,r=>by unfold DAt at h;subst h;obtain⟨t,rfl⟩:=r;exact⟨_,.int i t⟩
 | .str x,v,u,h,r=>by unfold DAt at h;subst h;obtain⟨t,rfl⟩:=r;exact⟨_,.str x t⟩
 | .list ds,v,u,h,r=>by
  unfold DAt at h;obtain⟨p,xs,rfl,hp,hs⟩:=h;cases r;obtain⟨a8,rv,pl,hz⟩:=I.list (SqL.of (K:=X.K) hp);obtain⟨as,ra⟩:=Kq I ds xs a8 hs rv;obtain⟨o,ho,hc,n,hd⟩:=pl.isList;exact⟨_,.list ho hc hd (by simpa using ra)⟩
 | .tuple ds,v,u,h,r=>by
  unfold DAt at h;obtain⟨p,xs,rfl,hp,hs⟩:=h;cases r;obtain⟨a8,rv,pl,hz⟩:=I.tuple (SqT.of (K:=X.K) hp);obtain⟨as,ra⟩:=Kq I ds xs a8 hs rv;obtain⟨o,ho,hc,n,hd⟩:=pl;exact⟨_,.tuple ho hc hd (by simpa using ra)⟩
 | .dict _,v,u,h,r=>by unfold DAt at h;exact h.elim
theorem Kq(I:Inv X pins Z H s):∀(ds:List ak) (vs:List V) (us:List aa),DAll H ds vs->Vals vs us->∃as,ReadsAll s.heap us ds as
 | [],vs,us,h,r=>by unfold DAll at h;subst h;cases r;exact⟨_,.nil⟩
 | d::ds,vs,us,h,r=>by
  unfold DAll at h;obtain⟨v,vr,rfl,h1,h2⟩:=h;cases r with
  | cons r1 r2=>
   obtain⟨a1,q1⟩:=Ex I d v _ h1 r1;obtain⟨a2,q2⟩:=Kq I ds vr _ h2 r2;exact⟨_,.cons q1 q2⟩
end
def Xc5(hu:X.A.units+3<bx):OpR X (aE .Eq) (λx y H Q=>∃d d',DAt H d x/\DAt H d' y/\d.canLay0=true/\d'.canLay0=true/\min d.depth d'.depth<=3/\Q (.bl (ak.eqv d d')) H):=by
 intro pins s Z H x y v u Q I rx ry h;obtain⟨d,d',h1,h2,c1,c2,hd,q⟩:=h;obtain⟨as,ra⟩:=Ex I d x v h1 rx;obtain⟨bs,rb⟩:=Ex I d' y u h2 ry;exact SeqAt.compareEq_reads ra rb c1 c2 (by lia) ⟨.bl _,H,I,rfl,q⟩
def Hu(hu:X.A.units+3<bx):OpR X (aE .NotEq) (λx y H Q=>∃d d',DAt H d x/\DAt H d' y/\d.canLay0=true/\d'.canLay0=true/\min d.depth d'.depth<=3/\Q (.bl (!ak.eqv d d')) H):=by
 intro pins s Z H x y v u Q I rx ry h;obtain⟨d,d',h1,h2,c1,c2,hd,q⟩:=h;obtain⟨as,ra⟩:=Ex I d x v h1 rx;obtain⟨bs,rb⟩:=Ex I d' y u h2 ry;exact SeqAt.compareNe_reads ra rb c1 c2 (by lia) ⟨.bl _,H,I,rfl,q⟩
def Xkk(hu:X.A.units+4<bx):OpR X (aE .In) (λx y H Q=>∃d ds,DAt H d x/\DAt H (.list ds) y/\d.canLay0=true/\ak.canLayAll0 ds=true/\d.depth<=3/\Q (.bl (ds.any λe=>ak.eqv e d)) H):=by
 intro pins s Z H x y v u Q I rx ry h;obtain⟨d,ds,h1,h2,c1,c2,hd,q⟩:=h;obtain⟨as,ra⟩:=Ex I d x v h1 rx;obtain⟨bs,rb⟩:=Ex I (.list ds) y u h2 ry;exact SeqAt.in_list_reads rb ra c2 c1 (by lia) ⟨.bl _,H,I,rfl,q⟩
end
mutual
def Bn:ak->Bool
 | .none | .int _=>true
 | .str x=>ak.strOk x
 | .list xs | .tuple xs=>Cn xs
 | .bool _ | .dict _=>false
def Cn:List ak->Bool
 | []=>true
 | x::xs=>Bn x&&Cn xs
end
mutual
theorem Co:∀d:ak,Bn d=true->d.canLay0=true
 | .none,_=>rfl
 | .int _,_=>rfl
 | .str x,h=>h
 | .list xs,h=>Hv xs h
 | .tuple xs,h=>Hv xs h
 | .bool _,h=>nomatch h
 | .dict _,h=>nomatch h
theorem Hv:∀ds:List ak,Cn ds=true->ak.canLayAll0 ds=true
 | [],_=>rfl
 | d::ds,h=>by
  have h':(Bn d&&Cn ds)=true:=h;rw[Mp] at h';show (d.canLay0&&ak.canLayAll0 ds)=true;rw[Co d h'.1,Hv ds h'.2];rfl
end
mutual
theorem Hw:∀(d d':ak),Bn d=true->Bn d'=true->(ak.eqv d d'=true↔d=d')
 | .none,d',_,h=>by cases d'<;>simp[ak.eqv]
 | .int i,d',_,h=>by cases d'<;>simp_all [ak.eqv,Bn]
 | .str x,d',_,h=>by cases d'<;>simp_all [ak.eqv,Bn]
 | .list xs,d',g,h=>by
  cases d' with
  | list ys=>
   have:=Kr xs ys g h;simp only[ak.eqv,this,ak.list.injEq]
  | _=>simp[ak.eqv]
 | .tuple xs,d',g,h=>by
  cases d' with
  | tuple ys=>
   have:=Kr xs ys g h;simp only[ak.eqv,this,ak.tuple.injEq]
  | _=>simp[ak.eqv]
 | .bool _,_,g,_=>nomatch g
 | .dict _,_,g,_=>nomatch g
theorem Kr:∀(xs ys:List ak),Cn xs=true->Cn ys=true->(ak.eqvAll xs ys=true↔xs=ys)
 | [],[],_,_=>by simp[ak.eqvAll]
 | [],_::_,_,_=>by simp[ak.eqvAll]
 | _::_,[],_,_=>by simp[ak.eqvAll]
 | x::xs,y::ys,g,h=>by
  have g':(Bn x&&Cn xs)=true:=g;have h':(Bn y&&Cn ys)=true:=h;rw[Mp] at g' h';have e1:=Hw x y g'.1 h'.1;have e2:=Kr xs ys g'.2 h'.2;simp only[ak.eqvAll,Mp,e1,e2,List.cons.injEq]
end
def Xc6{α : Type}[DecidableEq α](f : α->ak)(inj:∀a b,f a=f b->a=b)(a b)(ha:Bn (f a)=true)(hb:Bn (f b)=true):ak.eqv (f a) (f b)=decide (a=b):=by
 rw[N6,Hw _ _ ha hb,decide_eq_true_eq];exact⟨inj a b,λe=>by rw[e]⟩
theorem plainAll_map{α : Type}(f):∀(xs:List α),(∀x∈xs,Bn (f x)=true)->Cn (xs.map f)=true
 | [],_=>rfl
 | x::xs,h=>by
  show (Bn (f x)&&Cn (xs.map f))=true;rw[h x Mf,plainAll_map f xs λy hy=>h y (L8 _ hy)];rfl
section
variable {X:Cx}{tg:aA}
def Xkl (tl:TE):TI:=fun Z H R=>tl Z H λx H1=>∃d kvs,x = .ref d/\((H1 d=some (.dK kvs)/\∀o,R (Itd d o kvs) (upd H1 d (.frz o (.dK kvs)))) \/ ∃o,H1 d=some (.frz o (.dK kvs))/\R (Itd d o kvs) H1)
def Fj  (hl:PE X l tl):PI X tg l (Xkl tl):=by
 intro pins s Z H R I h;refine thn (hl pins s Z H _ I h) λv s1 ⟨x,H1,I1,r1,q1⟩=>?_;obtain⟨d,kvs,e,q⟩:=q1;subst e;cases r1;rcases q with ⟨hH,q⟩ | ⟨o,hH,q⟩
 ·obtain⟨hz,hm,vs,rv,o,es,ep,ho,hex,hd,r⟩:=I1.hok d _ hH;have aG:kvs.length=vs.length:=Paired.length rv;refine dF (knd:=Bb X.prog X.w) hm ⟨o,es,ho,hex,hd,r⟩ ?_;have I2:=I1.freeze hH ho;refine⟨s1.heap.objs.size,[s1.heap.objs.size],_,_,_,rfl,I2.kept (t':=s1.toks) λb o e=>Qw _ e,Kg d _ o es ep hd kvs (L9 (Qv ho)),⟨_,ao.get?_push_size _ rfl,rfl,by rw[aG];rfl⟩,λb hb=>?_,q o⟩;have e:b=s1.heap.objs.size:=by simpa using hb
  subst e;exact I2.fpOk (L7 _) (I2.hok.fresh (L7 _))
 ·obtain⟨dO,hok⟩:=(show A3 X.prog X.w H1 s1.heap d (.frz o (.dK kvs)) from I1.hok d _ hH);obtain⟨hz,hm,vs,rv,o',es,ep,ho,hex,hd,r⟩:=hok;have eo:o'=o:=by rw[dO] at ho;exact(Mj ho).symm
  subst eo;have aG:kvs.length=vs.length:=Paired.length rv;refine dF (knd:=Bb X.prog X.w) hm ⟨o',es,ho,hex,hd,r⟩ ?_;refine⟨s1.heap.objs.size,[s1.heap.objs.size],_,_,_,rfl,I1.kept (t':=s1.toks) λb o e=>Qw _ e,Kg d _ o' es ep hd kvs (L9 (Qv ho)),⟨_,ao.get?_push_size _ rfl,rfl,by rw[aG];rfl⟩,λb hb=>?_,q⟩;have e:b=s1.heap.objs.size:=by simpa using hb
  subst e;exact I1.fpOk (L7 _) (I1.hok.fresh (L7 _))
end
def hid (D:ae) (H:Hp):Hp:=λb=>if b=D then none else H b
def Hy(D)(H):Same (hid D H) H:=λb o e=>by
 unfold hid at e;split at e
 ·cases e
 ·exact e
def Xkm(D)(H)(o):hid D (upd H D o)=hid D H:=by
 funext b;unfold hid;split
 ·rfl
 ·rename_i h;rw[Ad h]
def Xc7{D}(s:Same H H'):Same (hid D H) (hid D H'):=λb o e=>by
 unfold hid at e ⊢;split at e
 ·cases e
 ·rename_i h;rw[Qp h];exact s b o e
def D7   (h:H b=some o) (n:b≠D):hid D H b=some o:=by
 unfold hid;rw[Qp n];exact h
def Xkn     (hD:H D=some o) (np:H p=none) (h:DAll (hid D (upd H p (.tup xs))) ds xs):DAt (hid D (upd H p (.tup xs))) (.tuple ds) (.ref p):=
 Kp (D7 Ab (Aw hD np).symm) h
section
variable {tt:TT}{te:TE}{J:It}{Z:St}{H0 H1:Hp}{D:ae}{F:St->Hp->Prop}{j:Nat}{xs0:List V}
def Ks(n)(vs:Nat->V)(ok)(m9)(acc)(hH:H0 D=none)(s0:Same H0 H1)(f8:H1 D=some (.lst xs0))(bN:DAll (hid D H1) acc xs0)(BH:acc.length+n<sizeLine)
  (gN:∀i H2,i<n->Same H0 H2->J.go i H2/\∀x H3,J.yld i H2 x H3->H3=H2/\x=vs i)
  (cu:∀H2,Same H0 H2->J.stop n H2)
  (ot:∀(i:Nat) H2 Q,i<n->Same H0 H2->(∀H',Same H2 H'->Q (ok i) H')->tt (Z.set j (some (vs i))) H2 Q)
  (step:∀(i:Nat) xs H2 Q,i<n->ok i=true->Same H0 H2->H2 D=some (.lst xs)->(∀v H',Same H2 H'->DAt (hid D H') (m9 i) v->Q v H')->te (Z.set j (some (vs i))) H2 Q)
  (fin:∀Z' H2 xs,(∀v, Z'.set j v = Z.set j v)->Same H0 H2->H2 D=some (.lst xs)->DAll (hid D H2) (acc++((List.range n).filter ok).map m9) xs->F Z' H2):
  tLp (Bi j) tt (Gi te D) J Z H1 F:=by
 refine⟨wN n λi Z2 H2=>(∀v, Z2.set j v = Z.set j v)/\Same H0 H2/\∃xs,H2 D=some (.lst xs)/\DAll (hid D H2) (acc++((List.range i).filter ok).map m9) xs,⟨n,by simp,M3 _,λ_=>rfl,s0,xs0,f8,by simpa using bN⟩,?_⟩;rintro i m Z1 H2 ⟨rfl,hi,e,s2,xs,hD,cT⟩;by_cases aR:i<n
 ·obtain⟨h1,h2⟩:=gN i H2 aR s2;refine .inr ⟨h1,λx H3 y=>?_⟩;obtain⟨e1,e2⟩:=h2 x H3 y;subst e1 e2;show tt (Z1.set j (some (vs i))) H3 _;rw[e];refine ot i H3 _ aR s2 λH4 s4=>?_;have ln:=s2.trans s4;have dt:=s4 _ _ hD;have j8:=DAll.same (Xc7 (D:=D) s4) _ _ cT;have ki:∀v,(Z.set j (some (vs i))).set j v = Z.set j v:=λv=>by rw[Qi]
  have hl:xs.length<=acc.length+i:=by
   rw[Ko cT,Mg,L5];have:((List.range i).filter ok).length<=i:=M8 (Ni ..) (by rw[N4];lia)
   lia
  refine Av (λhk=>?_) (λhk=>?_)
  ·show te (Z.set j (some (vs i))) H4 _;refine step i xs H4 _ aR hk ln dt λv H5 s5 hv=>?_;refine⟨xs,s5 _ _ dt,by lia,?_⟩;refine wskip aR ⟨ki,λb u e'=>?_,xs++[v],Ab,?_⟩
   ·rw[Ad (Aw e' hH)];exact s5 _ _ (ln b u e')
   ·rw[Xkm,Ng,Ms,Mn,<-Pq];simp only[M7,hk,if_true,P5,Mw,Qa];exact Xc1 (DAll.same (Xc7 (D:=D) s5) _ _ j8) hv
  ·refine wskip aR ⟨ki,ln,xs,dt,?_⟩;rw[Ng,Ms];simpa [hk] using j8
 ·have ei:i=n:=by lia
  subst ei;exact .inl ⟨cu H2 s2,fin Z1 H2 xs e s2 hD cT⟩
def Xko(n:Nat)(vs:Nat->V)(acc:Nat->List ak)(hH:H0 D=none)(s0:Same H0 H1)(f8:H1 D=some (.lst xs0))(bN:DAll (hid D H1) (acc 0) xs0)(EZ:St->Prop)(hE:EZ Z)
  (gN:∀i H2,i<n->Same H0 H2->J.go i H2/\∀x H3,J.yld i H2 x H3->H3=H2/\x=vs i)
  (cu:∀H2,Same H0 H2->J.stop n H2)
  (step:∀(i:Nat) Z1 xs H2 (Q:St->Hp->Prop),i<n->EZ Z1->Same H0 H2->H2 D=some (.lst xs)->DAll (hid D H2) (acc i) xs->(∀Z' H' eO,EZ Z'->Same H0 H'->H' D=some (.lst eO)->DAll (hid D H') (acc (i+1)) eO->Q Z' H')->tm (Z1.set j (some (vs i))) H2 Q)
  (fin:∀Z' H2 xs,Same H0 H2->H2 D=some (.lst xs)->DAll (hid D H2) (acc n) xs->F Z' H2):
  tLp (Bi j) D1 tm J Z H1 F:=by
 refine⟨wN n λi Z2 H2=>EZ Z2/\Same H0 H2/\∃xs,H2 D=some (.lst xs)/\DAll (hid D H2) (acc i) xs,⟨n,by simp,M3 _,hE,s0,xs0,f8,bN⟩,?_⟩;rintro i m Z1 H2 ⟨rfl,hi,e,s2,xs,hD,cT⟩;by_cases aR:i<n
 ·obtain⟨h1,h2⟩:=gN i H2 aR s2;refine .inr ⟨h1,λx H3 y=>?_⟩;obtain⟨e1,e2⟩:=h2 x H3 y;subst e1 e2;unfold Bi D1;dsimp only;rw[Qq rfl];exact step i Z1 xs H3 _ aR e s2 hD cT fun Z' H' eO e' s' gF lq=>wskip aR ⟨e',s',eO,gF,lq⟩
 ·have ei:i=n:=by lia
  subst ei;exact .inl ⟨cu H2 s2,fin Z1 H2 xs s2 hD cT⟩
def Xkp(n:Nat)(vs:Nat->V)(acc:Nat->List ak)(G:Hp->Prop)(hH:H0 D=none)(s0:Same H0 H1)(g0:G H1)(f8:H1 D=some (.lst xs0))(bN:DAll (hid D H1) (acc 0) xs0)(EZ:St->Prop)(hE:EZ Z)
  (gN:∀i H2,i<n->Same H0 H2->J.go i H2/\∀x H3,J.yld i H2 x H3->H3=H2/\x=vs i)
  (cu:∀H2,Same H0 H2->J.stop n H2)
  (step:∀(i:Nat) Z1 xs H2 (Q:St->Hp->Prop),i<n->EZ Z1->Same H0 H2->G H2->H2 D=some (.lst xs)->DAll (hid D H2) (acc i) xs->(∀Z' H' eO,EZ Z'->Same H0 H'->G H'->H' D=some (.lst eO)->DAll (hid D H') (acc (i+1)) eO->Q Z' H')->tm (Z1.set j (some (vs i))) H2 Q)
  (fin:∀Z' H2 xs,Same H0 H2->G H2->H2 D=some (.lst xs)->DAll (hid D H2) (acc n) xs->F Z' H2):
  tLp (Bi j) D1 tm J Z H1 F:=by
 refine⟨wN n λi Z2 H2=>EZ Z2/\Same H0 H2/\G H2/\∃xs,H2 D=some (.lst xs)/\DAll (hid D H2) (acc i) xs,⟨n,by simp,M3 _,hE,s0,g0,xs0,f8,bN⟩,?_⟩;rintro i m Z1 H2 ⟨rfl,hi,e,s2,g2,xs,hD,cT⟩;by_cases aR:i<n
 ·obtain⟨h1,h2⟩:=gN i H2 aR s2;refine .inr ⟨h1,λx H3 y=>?_⟩;obtain⟨e1,e2⟩:=h2 x H3 y;subst e1 e2;unfold Bi D1;dsimp only;rw[Qq rfl];exact step i Z1 xs H3 _ aR e s2 g2 hD cT fun Z' H' eO e' s' g' gF lq=>wskip aR ⟨e',s',g',eO,gF,lq⟩
 ·have ei:i=n:=by lia
  subst ei;exact .inl ⟨cu H2 s2,fin Z1 H2 xs s2 g2 hD cT⟩
end
section
variable {X:Cx}{pos np rT:bw}{body:List aO}{b0:aO}{suite:List aO}{x:ah}{Cc:ae}{tb:(ae->St->Hp->Prop)->TS}{th:TS}
end
section
variable {X:Cx}
def Xc8:X.calm=true->Cf X (.builtin "any") (λxs H Q=>∃(a:ae) (bs:List Bool),xs=[.ref a]/\H a=some (.lst (bs.map V.bl))/\Q (.bl (bs.any id)) H):=by
 intro hc pins s Z H xs us Q I r h;obtain⟨a,bs,rfl,ha,q⟩:=h;obtain⟨u,rfl,ru⟩:=B2 r;cases ru;obtain⟨a8,rv,p,hz⟩:=I.list (SqL.of ha);have hl:=rv.length;rw[L5] at hl;refine call_any_walk (cw p.isList ?_);have aR:a≠s.heap.objs.size:=by
  obtain⟨o,ho,_⟩:=p.isList;exact L9 (Qv ho)
 refine⟨s.heap.objs.size,_,_,_,_,_,λj=>bs.getD j false,rfl,jT.list (A:=X.A.in1) (show X.A.in1.handled=none from I.ok.hd hc) s.heap.objs.size a aR a8.toArray,⟨⟨_,ao.get?_push_size _ rfl,rfl,rfl⟩,p.isList.push _⟩,λi v s' Q' E' hP hQ=>?_,λh' tk k=>?_⟩
 ·have hv:a8[i]? = some v:=by simpa using hP
  have hi:i<a8.length:=(Mc.mp hv).1;have g:(bs.map V.bl)[i]? = some (.bl (bs[i]'(by lia))):=by
   rw[Mt,L6 (by lia)];rfl
  obtain⟨u,hu,ru⟩:=rv.get g;rw[hv] at hu;cases hu;cases ru;have e:bs.getD i false=bs[i]'(by lia):=by simp[List.getD,(by lia:i<bs.length)]
  have nU:Q' (bs.getD i false) s':=hQ;rw[e] at nU;exact aM nU
 ·refine⟨.bl (bs.any id),H,I.kept (t':=tk) λb o e=>k b o (λz=>?_) (Qw _ e),?_,q⟩
  ·have z':b=s.heap.objs.size:=by simpa using z
   exact absurd (Qv e) (by rw[z'];exact Na _)
  ·show aa.bool _=aa.bool _;congr 1;rw[Md,<-hl];rw[N6,Od,Od];constructor
   ·rintro ⟨j,hj,e⟩;have eM:=Nr.mp hj;refine⟨_,Mz eM,?_⟩;simpa [List.getD,eM] using e
   ·rintro ⟨b,hb,e⟩;obtain⟨j,hj,rfl⟩:=M4.mp hb;exact⟨j,Nr.mpr hj,by simpa [List.getD,hj] using e⟩
end
end L2
namespace HT
open PySem.Calls L2
section
variable {prog:au}{w:ay}{A:ax}{E:Zb}{s:ag}
end
end HT
namespace L2
section
variable {X:Cx}{pos p2:bw}{e:aA}{te:TE}
def tRevT (te:TE):TE:=fun Z H Q=>te Z H λx H1=>∃a xs,x = .ref a/\H1 a=some (.tup xs)/\∀p,H1 p=none->Q (.ref p) (upd H1 p (.tup xs.reverse))
end
section
variable {X:Cx}{es:List aA}{t:L2.St->Hp->(Hp->Prop)->Prop}{e:aA}{te:TE}{pos:bw}
def Xkq (te:TE) (t:L2.St->Hp->(Hp->Prop)->Prop):L2.St->Hp->(Hp->Prop)->Prop:=fun Z H Q=>te Z H λx H1=>∃(a:ae) (ss:Za),x = .ref a/\H1 a=some (.tup (ss.map V.str))/\ss.length<=24/\(∀z∈ss,z.length<=20/\∀c∈z.cps.toList,c<16 ^ 8)/\t Z H1 Q
theorem Xc9:∀(ss:Za),(∀z∈ss,z.length<=20/\∀c∈z.cps.toList,c<16 ^ 8)->piled (ss.map dJ)<=204 * ss.length
 | [],_=>by simp[piled]
 | z::ss,h=>by
  obtain⟨h1,h2⟩:=h z Mf;have:=StrLaws.reprText_len z h2;have ih:=Xc9 ss λy hy=>h y (L8 _ hy);rw[Mw,piled_cons,Ml]
  lia
def Xkr(ts):(gG ts).length<=piled ts+3:=by
 unfold gG;rw[gh,gh];have e1:((("(" : String):ah)).length=1:=rfl;have e3:(((if ts.length==1 then ",)" else ")" : String):ah)).length<=2:=by split<;>decide
 rw[e1];by_cases h:ts=[]
 ·subst h;have:(ah.join ", " []).length=0:=rfl
  lia
 ·have:=join_length_add ts h
  lia
theorem Xda  : ∀{ss:Za} {us:List aa},(∀z∈ss,z.length<=20/\∀c∈z.cps.toList,c<16 ^ 8)->Vals (ss.map V.str) us->ReprAll P w us (ss.map dJ)
 | [],_,_,r=>by cases r;exact .nil
 | z::ss,_,h,r=>by
  cases r with
  | cons r1 r2=>
   obtain⟨tk,rfl⟩:=r1;obtain⟨h1,h2⟩:=h z Mf;have:=StrLaws.reprText_len z h2;exact .cons (ReprIs.str z tk (by rw[Qo];lia)) (Xda (λy hy=>h y (L8 _ hy)) r2)
def Xks  (hr:Room k X.A) (ha:PE X e te) (h:PJ X es t) (he:ce (.FormattedValue e 114 none p::es) X.env=eval (.FormattedValue e 114 none p) X.env::ce es X.env:=by rfl):PJ X (.FormattedValue e 114 none p::es) (Xkq te t):=by
 intro out pins s Z H Q I hw hl;rw[he];rw[Ml] at hl;refine fj (fS (thn (ha pins s Z H _ I hw) λv s1 ⟨x,H1,I1,r1,q1⟩=>?_));obtain⟨a,ss,ez,hp,h1,h2,q⟩:=q1;subst ez;cases r1;obtain⟨a8,rv,pl,hz⟩:=I1.tuple (SqT.of (K:=X.K) hp);obtain⟨o,ho,hc,n,hd⟩:=pl;have nR:=Xkr (ss.map dJ);have m6:=Xc9 ss h2;have vo:(gG (ss.map dJ)).length<=5000:=by lia
 have qF:(gG (ss.map dJ)).length<=sizeLine:=by rw[Qo];lia
 refine wpAny_pyReprObj_tuple (g:=[]) ⟨o,ho,hc⟩ hr.gd (by simp) hr.units0 ho hd (Xda h2 (by simpa using rv)) (λu tk=>?_) qF;refine m7 (λt' k=>⟨by rw[Eo];lia,?_⟩) qF;exact h _ pins _ Z H1 Q ((I1.tok _).tok _) q (by rw[Eo];lia)
end
end L2
namespace SH
open L2
structure Bl (mg:ah->Option aa):Prop where
 len:mg "len" = none
 range:mg "range" = none
 list:mg "list" = none
 min:mg "min" = none
 BI:mg "isinstance" = none
 all:mg "all" = none
 str:mg "str" = none
 val:mg "ValueError" = none
 sorted:mg "sorted" = none
 set:mg "set" = none
 enum:mg "enumerate" = none
 int:mg "int" = none
 bool:mg "bool" = none
 tuple:mg "tuple" = none
 any:mg "any" = none
 dict:mg "dict" = none
 sum:mg "sum" = none
 max:mg "max" = none
structure DrawOk (H:Hp) (dr sc:ae):Prop where
 ex:∃(ns:List Int) (p:Nat) (c m k:Int),H dr=some (.lst [.ref sc,.int p,.int c,.int m,.int k])/\H sc=some (.lst (ns.map V.int))/\p<=ns.length/\ns.length<=63/\0<=m/\m<1000000007
def Xdb (K:DK):Sp:=λvs H Q _=>∃(a:ae) (ns:List Int),vs=[.ref a]/\SqL K H a (ns.map V.int)/\ns.length<=63/\∀dr sc H',H dr=none->H sc=none->DrawOk H' dr sc->Same H H'->Q (.ref dr) H'
def Xdc:Sp:=λvs H Q _=>∃(dr sc:ae) (n:Int),vs=[.ref dr,.int n]/\0<n/\n<=1000/\DrawOk H dr sc /\
 ∀r H',0<=r->r<n->DrawOk H' dr sc->(∀b o,H b=some o->b≠dr->H' b=some o)->Q (.int r) H'
abbrev NP:Za:=["_law_draw", "_law_many", "_law_cell", "_law_got"]
def D5 (H:Hp) (dr sc:ae) (ns:List Int) (p:Nat) (c m k:Int):Prop:=H dr=some (.lst [.ref sc,.int p,.int c,.int m,.int k])/\H sc=some (.lst (ns.map V.int))
def cpow3(h0:0<=m)(h1:m<1000000007):CPow m 3:=⟨by decide,by decide,by lia⟩
def D8 (row:Za) (x:ah) (a b:Nat):Za:=row.take a++[x]++(row.drop a).take (b - a)++[x]++row.drop b
def Xdd(row)(x)(a b)(jd:a<=b):(D8 row x a b).Perm (x::x::row):=by
 unfold D8;have e:row=row.take a++((row.drop a).take (b - a)++row.drop b):=by
  have e1:row.drop b=(row.drop a).drop (b - a):=by rw[List.drop_drop];congr 1;lia
  rw[e1,Nb,Nb]
 generalize hA:row.take a=A at *;generalize hB:(row.drop a).take (b - a)=B at *;generalize hC:row.drop b=C at *;rw[e];have p1:(A++[x]++B++[x]++C).Perm (x::(A++B++[x]++C)):=by
  have:A++[x]++B++[x]++C=A++x::(B++[x]++C):=by simp
  rw[this];refine O4.trans ?_;simp
 refine p1.trans (List.Perm.cons x ?_);have:A++B++[x]++C=(A++B)++x::C:=by simp
 rw[this];refine O4.trans ?_;simp
def Xde:Sp:=λvs H Q _=>∃(r:ae) (row:Za) (x:ah) (a b:Nat),vs=[.ref r,.str x,.int a,.int b]/\H r=some (.lst (row.map V.str))/\row.length<=1000/\a<=b/\b<=row.length /\
 ∀l H',H l=none->H' l=some (.lst ((D8 row x a b).map V.str))->Same H H'->Q (.ref l) H'
abbrev NPut:Za:=["_law_row_here", "_law_name", "_law_at", "_law_to", "_law_told"]
def A0 (x:ah):Nat->Za->List Int
 | _,[]=>[]
 | n,y::r=>if y=x then (n:Int)::A0 x (n+1) r else A0 x (n+1) r
def plc (row:Za) (x:ah):List Int:=A0 x 0 row
theorem Xdf(x y):∀n r,A0 x n (r++[y])=A0 x n r++(if y=x then [((n+r.length:Nat):Int)] else [])
 | n,[]=>by
  show (if y=x then ((n:Nat):Int)::A0 x (n+1) [] else A0 x (n+1) [])=_;split<;>simp[A0]
 | n,z::r=>by
  have ih:=Xdf x y (n+1) r;show (if z=x then (n:Int)::A0 x (n+1) (r++[y]) else A0 x (n+1) (r++[y]))=(if z=x then (n:Int)::A0 x (n+1) r else A0 x (n+1) r)++_;rw[ih,Ml,show n+1+r.length=n+(r.length+1) by lia];split<;>simp
theorem Hz(x):∀n r,(A0 x n r).length=r.count x
 | _,[]=>rfl
 | n,z::r=>by
  show (if z=x then (n:Int)::A0 x (n+1) r else A0 x (n+1) r).length=_;rw[List.count_cons];split
  ·rename_i e;rw[Ml,Hz,Qq (by simpa using e)]
  ·rename_i e;rw[Hz,Qp (by simpa using e)];rfl
def Kt(row)(x):(plc row x).length=row.count x:=Hz x 0 row
def Ku(r)(x y):plc (r++[y]) x=plc r x++(if y=x then [(r.length:Int)] else []):=by
 have e:=Xdf x y 0 r;rw[Pa] at e;exact e
structure Wh (H:Hp) (kvs:List (Key×V)) (row:Za):Prop where
 keys:∀k∈kvs.map (·.1),∃x,k=Sum.inr x/\x∈row
 val:∀x∈row,∃l,An kvs (Sum.inr x:Key)=some (.ref l)/\H l=some (.lst ((plc row x).map V.int))
 none:∀x,x∉row->An kvs (Sum.inr x:Key)=none
 nd:(kvs.map (·.1)).Nodup
 len:kvs.length<=row.length
def Xdg  {k:Key}  (h:An kvs k=some l):(A9 kvs k v).map (·.1)=kvs.map (·.1):=by
 unfold A9;rw[D0,h,Qq P9,M5];refine M6 λp _=>?_;show (if p.1=k then (p.1,v) else p).1=p.1;split<;>rfl
def Wh.snoc   (w:Wh H kvs row) (y) (l) (hl:H' l=some (.lst ((plc (row++[y]) y).map V.int)))
  (s:∀b xs,H b=some (.lst xs)->H' b=some (.lst xs)):Wh H' (A9 kvs (Sum.inr y) (.ref l)) (row++[y]):=by
 refine⟨λk hk=>?_,λx hx=>?_,λx hx=>?_,?_,?_⟩
 ·by_cases hy:y∈row
  ·obtain⟨l0,e,_⟩:=w.val y hy;rw[Xdg e] at hk;obtain⟨x,e1,e2⟩:=w.keys k hk;exact⟨x,e1,Nz _ e2⟩
  ·rw[F0 _ (w.none y hy),Mn] at hk;rcases Mm.mp hk with hk | hk
   ·obtain⟨x,e1,e2⟩:=w.keys k hk;exact⟨x,e1,Nz _ e2⟩
   ·exact⟨y,by simpa using hk,by simp⟩
 ·rw[G5];by_cases e:x=y
  ·subst e;exact⟨l,Qq rfl,hl⟩
  ·have fR:x∈row:=by
    rcases Mm.mp hx with z | z
    ·exact z
    ·exact absurd (Mi.mp z) e
   obtain⟨l0,e1,e2⟩:=w.val x fR;refine⟨l0,by rw[Qp (λz=>e (O3 z))];exact e1,?_⟩;rw[Ku,Qp (λz=>e z.symm),Np];exact s _ _ e2
 ·rw[G5];have h1:x∉row:=λz=>hx (Nz _ z);have h2:x≠y:=λz=>hx (by rw[z];simp);rw[Qp (λz=>h2 (O3 z))];exact w.none x h1
 ·by_cases hy:y∈row
  ·obtain⟨l0,e,_⟩:=w.val y hy;rw[Xdg e];exact w.nd
  ·exact Xis _ w.nd (w.none y hy)
 ·have:=Fz kvs (Sum.inr y:Key) (.ref l);have:=w.len;rw[Mg,Nh]
  lia
def Xdh:Sp:=λvs H Q _=>∃(r:ae) (row:Za),vs=[.ref r]/\H r=some (.lst (row.map V.str))/\row.length<=1000 /\
 ∀d kvs H',H d=none->H' d=some (.dK kvs)->Wh H' kvs row->Same H H'->Q (.ref d) H'
abbrev NWh:Za:=["_law_row_here", "_law_told", "_law_at"]
def inn (a b:Int) (ys:List Int):List Int:=ys.filter λt=>decide (a<t)&&decide (t<b)
def Kv(a b)(ys):(inn a b ys).length<=ys.length:=Ni ..
def words3:Za:=["same", "cross", "around"]
def Db (a b c e:Int) (same:Bool):ah:=
 if (same||decide (0<(inn a b [c,e]).length))=true then words3.getD (inn a b [c,e]).length "apart" else if c<a/\b<e then "within" else "apart"
def spWord:Sp:=λvs H Q _=>∃(d l1 l2:ae) (kvs:List (Key×V)) (x y:ah) (a b c e:Int),vs=[.ref d,.str x,.str y]/\Rd H d (.dK kvs)/\An kvs (Sum.inr x:Key)=some (.ref l1)/\An kvs (Sum.inr y:Key)=some (.ref l2) /\
 H l1=some (.lst [.int a,.int b])/\H l2=some (.lst [.int c,.int e])/\∀H',Same H H'->Q (.str (Db a b c e (decide (x=y)))) H'
abbrev NWo:Za:=["_law_where_here", "_law_one", "_law_other", "_law_low", "_law_high", "_law_inner"]
def Rd.same   (r:Rd H d o) (s:Same H H'):Rd H' d o:=by
 rcases r with r | ⟨u,r⟩
 ·exact .inl (s _ _ r)
 ·exact .inr ⟨u,s _ _ r⟩
def DGet.rd     (e:Rd H a (.dK kvs)) (h:An kvs (Sum.inr x:Key)=some v):DGet H a (.str x) (some v):=.inl ⟨kvs,Sum.inr x,e,rfl,h.symm⟩
def Xkt  (h:row.count x=2):∃a b,plc row x=[a,b]:=by
 have e:=Kt row x;rw[h] at e
 match q:plc row x,e with
 | [a,b],_=>exact⟨a,b,rfl⟩
abbrev NBa:Za:=["_law_row_here", "_law_name", "_law_where_here", "_law_met", "_law_at", "_law_other"]
abbrev NBc:Za:=["_law_one", "_law_name", "_law_where_here"]
abbrev Ey:ah := "kqvzbdgmprtxhnjfwlycsaeiou"
def signOf (i:Nat):ah:=⟨#[(Ey.cps.toList).getD i 0]⟩
def Gk (st:Nat) (aV:Bool) (k:Nat):ah:=
 if aV=true then (repS "m" ((st+k * k) % 7)++signOf ((st+k) % 26)) ++ "y" else signOf ((st+k) % 26)++repS "m" ((st+k * k) % 7)
def Bh (st:Nat) (aV:Bool) (n:Nat):Za:=(List.range n).map (Gk st aV)
def Xku:∀st<26,∀aV:Bool,(Bh st aV 14).Nodup:=by decide +kernel
def Kw{st}  (hs:st<26)(hn:n<=14):(Bh st aV n).Nodup:=by
 refine(Xku st hs aV).sublist ?_;unfold Bh;refine List.Sublist.map _ ?_;have e:List.range 14=List.range n++(List.range (14 - n)).map (n + ·):=by
  rw[<-List.range_add];congr 1
  lia
 rw[e];exact List.sublist_append_left ..
def But (dr:ae) (H H':Hp):Prop:=∀b o,H b=some o->b≠dr->H' b=some o
def But.refl(dr)(H):But dr H H:=λ_ _ e _=>e
def But.trans  (a:But dr H H1) (b:But dr H1 H2):But dr H H2:=λc o e h=>b c o (a c o e h) h
def But.same  (a:But dr H H1) (b:Same H1 H2):But dr H H2:=λc o e h=>b c o (a c o e h)
def But.free   (a:But dr H H') (hd:H' dr=some o) (h:H' b=none):H b=none:=by
 cases q:H b with
 | none=>rfl
 | some u=>
  by_cases e:b=dr
  ·rw[e,hd] at h;cases h
  ·rw[a b u q e] at h;cases h
def But.upd{dr a}{o}(x:But dr H H')(h:H a=none):But dr H (L2.upd H' a o):=λb u e hb=>by
 rw[Ad (Aw e h)];exact x b u e hb
def DrawOk.at{H}(d:DrawOk H dr sc):∃xs,H dr=some (.lst xs):=let ⟨_,_,_,_,_,h,_⟩:=d.ex; ⟨_,h⟩
def DrawOk.same  (d:DrawOk H dr sc) (s:Same H H'):DrawOk H' dr sc:=
 let ⟨ns,p,c,m,k,h1,h2,r⟩:=d.ex; ⟨ns,p,c,m,k,s _ _ h1,s _ _ h2,r⟩
def DrawOk.upd{dr sc a}{o}(d:DrawOk H dr sc)(h1:a≠dr)(h2:a≠sc):DrawOk (L2.upd H a o) dr sc:=
 let ⟨ns,p,c,m,k,e1,e2,r⟩:=d.ex; ⟨ns,p,c,m,k,by rw[Ad h1.symm];exact e1,by rw[Ad h2.symm];exact e2,r⟩
def DrawOk.ne  (d:DrawOk H dr sc) (h:H a=none):a≠dr/\a≠sc:=by
 obtain⟨ns,p,c,m,k,e1,e2,r⟩:=d.ex;exact⟨(Aw e1 h).symm,(Aw e2 h).symm⟩
def Xdi:Sp:=λvs H Q _=>∃(dr sc:ae) (n:Nat),vs=[.ref dr,.int n]/\n<=14/\DrawOk H dr sc /\
 ∀l st aV H',H l=none->st<26->H' l=some (.lst ((Bh st aV n).map V.str))->l≠sc->DrawOk H' dr sc->But dr H H'->Q (.ref l) H'
abbrev FnPick (P:au) (w:ay) (K:DK) (mg:ah->Option aa) (base:ao):Prop:=Fn P w K mg base CX0 1 "_law_pick" ["_law_draw", "_law_many"] Xdc
abbrev NNa:Za:=["_law_draw", "_law_many", "_law_base", "_law_start", "_law_late", "_law_told", "_law_k", "_law_sign", "_law_hum"]
def Xkv{i:Nat}(h:i<26):atI Ey.cps.toList (i:Int)=some ((Ey.cps.toList).getD i 0):=by
 have hl:i<Ey.cps.toList.length:=h;refine Dy ?_;rw[L6 hl];simp[List.getD,L6 hl]
def Ez(h:l.Nodup){row:Za}(p:row.Perm (l++l)):∀y∈row,row.count y=2:=λy hy=>by
 rw[p.count_eq,Ol];have je:y∈l:=by
  rcases Mm.mp (p.mem_iff.mp hy) with z | z
  ·exact z
  ·exact z
 have e1:l.count y<=1:=List.nodup_iff_count.mp h y;have e2:0<l.count y:=Qc.mpr je
 lia
def Xdj{A row bL:Za}(p:row.Perm (A++A))(q:bL.Perm (x::x::row)):bL.Perm ((A++[x])++(A++[x])):=by
 refine q.trans (((p.cons x).cons x).trans ?_);have e:(A++[x])++(A++[x])=A++x::(A++x::[]):=by simp
 rw[e];refine List.Perm.trans ?_ O4.symm;refine List.Perm.cons x ?_;have e2:A++(A++x::[])=(A++A)++x::[]:=by simp
 rw[e2];refine List.Perm.trans ?_ O4.symm;simp
abbrev NRo:Za:=["_law_draw", "_law_names_here", "_law_cut", "_law_row_here", "_law_name", "_law_at", "_law_to", "_law_more"]
def Xqz:Sp:=λvs H Q _=>∃(dr sc:ae) (m:Nat),vs=[.ref dr,.int m]/\m<=14/\DrawOk H dr sc /\
 ∀(l:ae) (row:Za) (n st:Nat) (aV:Bool) (H':Hp),H l=none->n<=m->st<26->H' l=some (.lst (row.map V.str))->row.Perm (Bh st aV n++Bh st aV n)->DrawOk H' dr sc->But dr H H'->Q (.ref l) H'
abbrev NIs:Za:=["_law_draw", "_law_most", "_law_few", "_law_many"]
def Kx(row)(x):((List.range row.length).filter λi=>decide (row.getD i ah.empty=x)).map (λi:Nat=>(i:Int))=plc row x:=by
 have go:∀n,n<=row.length->((List.range n).filter λi=>decide (row.getD i ah.empty=x)).map (λi:Nat=>(i:Int))=plc (row.take n) x:=by
  intro n
  induction n with
  | zero=>intro _;rfl
  | succ n ih=>
   intro h;have hn:n<row.length:=by lia
   have e:row.getD n ah.empty=row[n]:=by simp[List.getD,hn]
   rw[Ng,Ms,Mn,ih (by lia),Mv hn,Ku,M7,e,Nd,O8 (by lia)];by_cases q:row[n]=x
   ·rw[Qq q,Qq (Qr q)];rfl
   ·rw[Qp q,Qp (by simpa using q)];rfl
 rw[go _ (L7 _),Oe]
def okN (x:ah):Prop:=x.length<=20/\∀c∈x.cps.toList,c<0x110000
def Xdk (C:ae):Sp:=λvs H Q E=>∃(r:ae) (row:Za) (x:ah),vs=[.ref r,.str x]/\H r=some (.lst (row.map V.str))/\okN x /\
 (x∈row->∀H',Same H H'->Q .non H')/\(x∉row->∀H',Same H H'->E (.ref C) none H')
def spDitches:Sp:=λvs H Q _=>∃(r:ae) (row:Za),vs=[.ref r]/\H r=some (.lst (row.map V.str))/\row.length<=60 /\
 ∀l H',H l=none->H' l=some (.lst ((dit row).map V.str))->Same H H'->Q (.ref l) H'
def spEnds (C:ae):Sp:=λvs H Q E=>∃(r:ae) (row:Za) (x:ah),vs=[.ref r,.str x]/\H r=some (.lst (row.map V.str))/\okN x/\row.length<=1000 /\
 (x∈row->∃a b,plc row x=[a,b]/\∀l H',H l=none->H' l=some (.tup [.int a,.int b])->Same H H'->Q (.ref l) H')/\(x∉row->∀H',Same H H'->E (.ref C) none H')
abbrev NEn:Za:=["row", "name", "found"]
abbrev NEc:Za:=["at", "end", "name"]
end SH
namespace L2
def Ky(x y):decide (V.str x=V.str y)=decide (x=y):=by
 by_cases z:x=y
 ·rw[z];simp
 ·rw[Qs z,Qs (λq=>z (by injection q))]
def Cz{α : Type}(f : α->V)(d : α)(xs:List α)(hi:i<xs.length):(xs.map f).getD i .non=f (xs.getD i d):=by simp[List.getD,hi]
end L2
namespace SH
open L2
structure Isl (row:Za):Prop where
 ex:∃n st aV,n<=14/\st<26/\row.Perm (Bh st aV n++Bh st aV n)
def Xkw{st n}  (hn:n<=14)(h:x∈Bh st aV n):x∈Bh st aV 14:=by
 unfold Bh at h ⊢;obtain⟨i,hi,rfl⟩:=Mo.mp h;exact Mo.mpr ⟨i,Nr.mpr (by have:=Nr.mp hi;lia),rfl⟩
instance (x:ah):Decidable (okN x):=inferInstanceAs (Decidable (_/\_))
def Xkx:∀st<26,∀aV:Bool,∀x∈Bh st aV 14,okN x:=by decide +kernel
def Isl.two(h:Isl row):∀y∈row,row.count y=2:=by
 obtain⟨n,st,aV,hn,hs,p⟩:=h.ex;exact Ez (Kw hs hn) p
def Isl.len(h:Isl row):row.length<=28:=by
 obtain⟨n,st,aV,hn,hs,p⟩:=h.ex;have:=p.length_eq;unfold Bh at this;simp at this
 lia
def Isl.ok(h:Isl row):∀y∈row,okN y:=λy hy=>by
 obtain⟨n,st,aV,hn,hs,p⟩:=h.ex;refine Xkx st hs aV y (Xkw hn ?_);rcases Mm.mp (p.mem_iff.mp hy) with z | z<;>exact z
def Xq0:Za->ah
 | [] => "noneatal"
 | y::_=>Txt.slice y none (some 7)++ah.ofString "q"
def Xky(h:okN x):Bn (.str x)=true:=by
 show ak.strOk x=true;unfold ak.strOk;rw[<-Array.all_toList,M0];intro c hc;exact Qr (h.2 c hc)
def D9   : i∈plc row x ↔ ∃k:Nat,i=k/\row[k]? = some x:=by
 rw[<-Kx,Mo];constructor
 ·rintro ⟨k,hk,rfl⟩;obtain⟨h1,h2⟩:=Mh.mp hk;have iZ:=Nr.mp h1;refine⟨k,rfl,?_⟩;have:=Qt h2;rw[L6 iZ];simpa [List.getD,iZ] using this
 ·rintro ⟨k,rfl,hk⟩;have iZ:k<row.length:=(Mc.mp hk).1;refine⟨k,Mh.mpr ⟨Nr.mpr iZ,Qr ?_⟩,rfl⟩;simp[List.getD,hk]
def Xkz(row)(x):(plc row x).Pairwise (· < ·):=by
 rw[<-Kx,N5];refine List.Pairwise.imp ?_ (List.Pairwise.filter _ (List.pairwise_lt_range (n:=row.length)));intro a b h
 lia
def pl (row:Za) (x:ah):Int×Int:=((plc row x).getD 0 0,(plc row x).getD 1 0)
def Xdl   (h:plc row x=[a,b]):pl row x=(a,b):=by
 unfold pl;rw[h];rfl
def B7  (h:row.count x=2):plc row x=[(pl row x).1,(pl row x).2]:=by
 obtain⟨a,b,e⟩:=Xkt h;rw[Xdl e,e]
def Bk  (h:row.count x=2):(pl row x).1<(pl row x).2:=by
 have h1:=Xkz row x;rw[B7 h] at h1;simpa using h1
def Dd  (hx:row.count x=2) (hy:row.count y=2) (n:x≠y):(pl row x).1≠(pl row y).1/\(pl row x).1≠(pl row y).2/\(pl row x).2≠(pl row y).1/\(pl row x).2≠(pl row y).2:=by
 have bX:∀i,i∈plc row x->i∈plc row y->False:=λi h1 h2=>by
  obtain⟨k,e1,g1⟩:=D9.mp h1;obtain⟨m,e2,g2⟩:=D9.mp h2;have:k=m:=by lia
  subst this;rw[g1] at g2;exact n (Mj g2)
 rw[B7 hx,B7 hy] at bX;refine⟨λe=>bX (pl row x).1 (by simp) (by rw[e];simp),λe=>bX (pl row x).1 (by simp) (by rw[e];simp),λe=>bX (pl row x).2 (by simp) (by rw[e];simp),λe=>bX (pl row x).2 (by simp) (by rw[e];simp)⟩
def Xdm  (h:row.count x=2):0<=(pl row x).1/\(pl row x).2<row.length:=by
 have h1:(pl row x).1∈plc row x:=by rw[B7 h];simp
 have h2:(pl row x).2∈plc row x:=by rw[B7 h];simp
 obtain⟨k,e1,g1⟩:=D9.mp h1;obtain⟨m,e2,g2⟩:=D9.mp h2;have:m<row.length:=(Mc.mp g2).1
 lia
def nIn (a b:Int) (ys:List Int):Nat:=(inn a b ys).length
def Bd(a b c e):nIn a b [c,e]=(if a<c/\c<b then 1 else 0)+(if a<e/\e<b then 1 else 0):=by
 unfold nIn inn;simp only[M7,P5,Mp,decide_eq_true_eq];split<;>split<;>rfl
def lieT (a b c e:Int):ah:=if a=c/\b=e then "same" else if nIn c e [a,b]=1 then "cross" else if nIn c e [a,b]=2 then "within" else if nIn a b [c,e]=2 then "around" else "apart"
def Xk0(h1:a<b)(h2:c<e)(n1:a≠c)(n2:a≠e)(n3:b≠c)(n4:b≠e):lieT a b c e=Db a b c e false:=by
  unfold lieT Db;rw[Qp (λz=>n1 z.1)];have e1:=Bd a b c e;have e2:=Bd c e a b;have e3:(inn a b [c,e]).length=nIn a b [c,e]:=rfl;rw[e3];generalize nIn a b [c,e]=p at *;generalize nIn c e [a,b]=q at *;by_cases p1:a<c/\c<b<;>by_cases p2:a<e/\e<b<;>by_cases q1:c<a/\a<e<;>by_cases q2:c<b/\b<e <;>
    (first | rw[Qq p1] at e1 | rw[Qp p1] at e1)<;>(first | rw[Qq p2] at e1 | rw[Qp p2] at e1) <;>
    (first | rw[Qq q1] at e2 | rw[Qp q1] at e2)<;>(first | rw[Qq q2] at e2 | rw[Qp q2] at e2)<;>subst e1 e2<;>first
    | (exfalso;lia)
    | rfl
    | (have hw:(c<a/\b<e):=by lia
       rw[Qq hw];rfl)
    | (have hw:¬(c<a/\b<e):=by lia
       rw[Qp hw];rfl)
def Xk1:lieT a b a b=Db a b a b true:=by
 unfold lieT Db;rw[Qq ⟨rfl,rfl⟩,Bool.true_or,Qq rfl];have e1:=Bd a b a b;have e3:(inn a b [a,b]).length=nIn a b [a,b]:=rfl;rw[e3,e1,Qp (by lia),Qp (by lia)];rfl
def lieR (row:Za) (x y:ah):ah:=lieT (pl row x).1 (pl row x).2 (pl row y).1 (pl row y).2
def Gm  (hx:row.count x=2) (hy:row.count y=2):lieR row x y=Db (pl row x).1 (pl row x).2 (pl row y).1 (pl row y).2 (decide (x=y)):=by
 unfold lieR;by_cases n:x=y
 ·subst n;rw[Qr rfl];exact Xk1
 ·rw[Qs n];obtain⟨n1,n2,n3,n4⟩:=Dd hx hy n;exact Xk0 (Bk hx) (Bk hy) n1 n2 n3 n4
def crs (row:Za):List (ah×ah):=(dit row).flatMap λx=>((dit row).filter λy=>decide (ltS x y)&&decide (lieR row x y = "cross")).map λy=>(x,y)
def prD (p:ah×ah):ak:=.tuple [.str p.1,.str p.2]
structure Spn (H:Hp) (kvs:List (Key×V)) (row:Za) (ns:Za):Prop where
 keys:kvs.map (·.1)=ns.map (λx=>(Sum.inr x:Key))
 val:∀x∈ns,∃l,An kvs (Sum.inr x:Key)=some (.ref l)/\H l=some (.tup [.int (pl row x).1,.int (pl row x).2])
def Spn.mono   (s:Spn H kvs row ns) (h:Same H H'):Spn H' kvs row ns:=⟨s.keys,λx hx=>let ⟨l,h1,h2⟩:=s.val x hx; ⟨l,h1,h _ _ h2⟩⟩
end SH
namespace L2
open PySem
def hu3  (hr:Room k A):A.units+3<bx:=by have:=hr.units;lia
def hu4  (hr:Room k A):A.units+4<bx:=by have:=hr.units;lia
end L2
namespace SH
open L2
structure Row2 (row:Za):Prop where
 two:∀y∈row,row.count y=2
 ok:∀y∈row,okN y
 len:row.length<=60
def Isl.row2(h:Isl row):Row2 row:=⟨h.two,h.ok,by have:=h.len;lia⟩
def spSpans:Sp:=λvs H Q _=>∃(r:ae) (row:Za),vs=[.ref r]/\H r=some (.lst (row.map V.str))/\Row2 row /\
 ∀d kvs H',H d=none->H' d=some (.dK kvs)->Spn H' kvs row (dit row)->Same H H'->Q (.ref d) H'
def Lie4 (a b c e:Int):Prop:=c<=e/\(b=e->a=c)
def lie4  (hx:row.count x=2) (hy:row.count y=2):Lie4 (pl row x).1 (pl row x).2 (pl row y).1 (pl row y).2:=
 ⟨Int.le_of_lt (Bk hy),λe=>by
  by_cases n:x=y
  ·rw[n]
  ·exact absurd e (Dd hx hy n).2.2.2⟩
def Xk2(n:¬(a=c/\b=e))(h:((decide (c<a)&&decide (a<e))==(decide (c<b)&&decide (b<e)))=false):lieT a b c e = "cross" := by
 unfold lieT;rw[Qp n,Qq];rw[Bd];rw[<-Bool.decide_and,<-Bool.decide_and] at h;by_cases q1:c<a/\a<e<;>by_cases q2:c<b/\b<e<;>simp[q1,q2] at h ⊢
def Xk3(n:¬(a=c/\b=e))(h:((decide (c<a)&&decide (a<e))==(decide (c<b)&&decide (b<e)))=true)(h2:(decide (c<a)&&decide (a<e))=true):lieT a b c e = "within" := by
 unfold lieT;rw[h2,beq_iff_eq] at h;simp only[Mp,decide_eq_true_eq] at h2;have h3:c<b/\b<e:=by simpa using h.symm
 rw[Qp n,Bd,Qq h2,Qq h3,Qp (by decide),Qq rfl]
def Xk4(l:Lie4 a b c e)(n:¬(a=c/\b=e))(h:((decide (c<a)&&decide (a<e))==(decide (c<b)&&decide (b<e)))=true)(h2:(decide (c<a)&&decide (a<e))=false):lieT a b c e=if (decide (a<c)&&decide (c<b))=true then "around" else "apart" := by
 unfold lieT;rw[h2,beq_iff_eq] at h;have h2:¬(c<a/\a<e):=λz=>by rw[Qr z.1,Qr z.2] at h2;cases h2
 have h3:¬(c<b/\b<e):=λz=>by rw[Qr z.1,Qr z.2] at h;cases h
 rw[Qp n,Bd,Qp h2,Qp h3,Qp (by decide),Qp (by decide),Bd];obtain⟨l1,l2⟩:=l;have bX:a<c/\c<b->a<e/\e<b:=λz=>by
  have:b≠e:=λq=>n ⟨l2 q,q⟩
  lia
 by_cases q:a<c/\c<b
 ·rw[Qq q,Qq (bX q),Qq rfl,Qq (by simp[q])]
 ·rw[Qp q,Qp (by split<;>decide),Qp (by simpa using q)]
def spLieOf:Sp:=λvs H Q _=>∃(p q:ae) (a b c e:Int),vs=[.ref p,.ref q]/\H p=some (.tup [.int a,.int b])/\H q=some (.tup [.int c,.int e])/\Lie4 a b c e/\∀H',Same H H'->Q (.str (lieT a b c e)) H'
def Kz    {x y z} (ha:∀Q':VK,Q' (.int x) H->ta Z H Q') (hb:∀Q':VK,Q' (.int y) H->tb Z H Q') (hc:∀Q':VK,Q' (.int z) H->tc Z H Q') (h:Q (.bl (decide (x<y)&&decide (y<z))) H):
  Ju (rI0 λi j=>.bl (decide (i<j))) (rI0 λi j=>.bl (decide (i<j))) ta tb tc Z H Q:=by
 refine ha _ (hb _ ⟨x,y,rfl,rfl,_,rfl,?_⟩);refine Av (λq=>hc _ ⟨y,z,rfl,rfl,?_⟩) (λq=>?_)
 ·rw[q,Oh] at h;exact h
 ·rw[q,N1] at h;exact h
def spLie (C:ae):Sp:=λvs H Q E=>∃(r:ae) (row:Za) (x y:ah),vs=[.ref r,.str x,.str y]/\H r=some (.lst (row.map V.str))/\Row2 row/\okN x/\okN y /\
 (x∈row->y∈row->∀H',Same H H'->Q (.str (lieR row x y)) H')/\(¬(x∈row/\y∈row)->∀H',Same H H'->E (.ref C) none H')
def Xdn:Sp:=λvs H Q _=>∃(r:ae) (row:Za),vs=[.ref r]/\H r=some (.lst (row.map V.str))/\Row2 row /\
 ∀l xs H',H l=none->H' l=some (.lst xs)->DAll (hid l H') ((crs row).map prD) xs->Same H H'->Q (.ref l) H'
abbrev NSp:Za:=["name", "row"]
abbrev NLo:Za:=["here", "there", "first", "last"]
abbrev NCr:Za:=["row", "span"]
abbrev NCc:Za:=["one", "other", "span"]
def Spn.snoc     (s:Spn H kvs row ns) (nx:x∉ns) (h:H' l=some (.tup [.int (pl row x).1,.int (pl row x).2])) (k:∀b xs,H b=some (.tup xs)->H' b=some (.tup xs)):
  Spn H' (A9 kvs (Sum.inr x) (.ref l)) row (ns++[x]):=by
 have hn:An kvs (Sum.inr x:Key)=none:=by
  cases e:An kvs (Sum.inr x:Key) with
  | none=>rfl
  | some v=>
   exfalso;have:=G6 e;rw[s.keys] at this;obtain⟨y,hy,e2⟩:=Mo.mp this;rw[O3 e2] at hy;exact nx hy
 refine⟨by rw[F0 _ hn,Mn,Mn,s.keys];rfl,λy hy=>?_⟩;rw[G5];by_cases e:y=x
 ·subst e;exact⟨l,Qq rfl,h⟩
 ·have je:y∈ns:=by
   rcases Mm.mp hy with z | z
   ·exact z
   ·exact absurd (Mi.mp z) e
  obtain⟨l0,h1,h2⟩:=s.val y je;exact⟨l0,by rw[Qp (λz=>e (O3 z))];exact h1,k _ _ h2⟩
def Spn.get    {x} (s:Spn H kvs row ns) (hd:Rd H d (.dK kvs)) (hx:x∈ns):∃l,DGet H d (.str x) (some (.ref l))/\H l=some (.tup [.int (pl row x).1,.int (pl row x).2]):=by
 obtain⟨l,h1,h2⟩:=s.val x hx;exact⟨l,DGet.rd hd h1,h2⟩
def Spn.at{H}{kvs}(s:Spn H kvs row ns)(i)(hi:i<ns.length):(kvs.map λp=>kV p.1).getD i .non = .str (ns.getD i ah.empty):=by
 have e:(kvs.map λp=>kV p.1)=ns.map V.str:=by
  have:(kvs.map λp=>kV p.1)=(kvs.map (·.1)).map kV:=by rw[M5];rfl
  rw[this,s.keys,M5];rfl
 rw[e];exact Cz V.str ah.empty ns hi
def Spn.len   (s:Spn H kvs row ns):kvs.length=ns.length:=by
 have:=congrArg List.length s.keys;simpa using this
def B8{ns:Za}(hi:i<ns.length):ns.getD i ah.empty∈ns:=by
 have:ns.getD i ah.empty=ns[i]:=by simp[List.getD,hi]
 rw[this];exact Mz hi
theorem K0:∀{ss:Za} {xs:List V},DAll H (ss.map ak.str) xs->xs=ss.map V.str
 | [],xs,h=>by unfold List.map DAll at h;exact h
 | s::ss,xs,h=>by
  rw[Mw] at h;unfold DAll at h;obtain⟨v,r,rfl,h1,h2⟩:=h;unfold DAt at h1;rw[h1,K0 h2];rfl
def Bp (fT:ah) (jf:Bool):Bool:=if fT = "within" then jf else (!decide (fT = "apart") || !jf)
def told (ss:Za):Za:=srt (ddup ss)
def isPlotB (row plot:Za):Bool:=decide (plot=told plot)&&plot.all (λx=>decide (x∈row))&&plot.all λx=>(dit row).all λy=>Bp (lieR row x y) (decide (y∈plot))
def trD (t:ah×ah×ah):ak:=.tuple [.str t.1,.str t.2.1,.str t.2.2]
def E1 (row:Za) (x y:ah):Bool:=decide (lieR row x y = "within")||(decide (lieR row x y = "apart")&&decide (ltS x y))
def bars (row:Za):List (ah×ah×ah):=(dit row).flatMap λx=>((dit row).filter (E1 row x)).map λy=>(x,y,lieR row x y)
def K1 (bs:List (ah×ah×ah)) (plot:Za):Bool:=bs.all λt => !(decide (t.1∈plot) && !decide (decide (t.2.1∈plot)=decide (t.2.2 = "within")))
def K2 (row plot:Za):Bool:=decide (plot=(dit row).filter λy=>decide (y∈plot))&&K1 (bars row) plot
def Xk5(h1:a<b)(h2:c<e)(n1:a≠c)(n2:a≠e)(n3:b≠c)(n4:b≠e)(h:lieT a b c e = "apart"):lieT c e a b = "apart" := by
 unfold lieT at h ⊢;rw[Qp (λz=>n1 z.1)] at h;rw[Qp (λz=>n1 z.1.symm)];have e1:=Bd a b c e;have e2:=Bd c e a b;generalize nIn a b [c,e]=p at *;generalize nIn c e [a,b]=q at *;by_cases p1:a<c/\c<b<;>by_cases p2:a<e/\e<b<;>by_cases q1:c<a/\a<e<;>by_cases q2:c<b/\b<e <;>
  (first | rw[Qq p1] at e1 | rw[Qp p1] at e1)<;>(first | rw[Qq p2] at e1 | rw[Qp p2] at e1) <;>
  (first | rw[Qq q1] at e2 | rw[Qp q1] at e2)<;>(first | rw[Qq q2] at e2 | rw[Qp q2] at e2)<;>subst e1 e2<;>first
  | (exfalso;lia)
  | rfl
  | (exfalso;revert h;decide +kernel)
def Xk6  (hx:row.count x=2) (hy:row.count y=2) (h:lieR row x y = "apart"):lieR row y x = "apart" := by
 by_cases n:x=y
 ·subst n;exact h
 ·obtain⟨n1,n2,n3,n4⟩:=Dd hx hy n;exact Xk5 (Bk hx) (Bk hy) n1 n2 n3 n4 h
def Ia(row)(x):lieR row x x = "same" := by
 unfold lieR lieT;rw[Qq ⟨rfl,rfl⟩]
def K3{l:Za}(h:l.Pairwise ltS):l.Pairwise leS:=h.imp λh=>Xj4 h
def C0{l:Za}(h:l.Pairwise ltS):l.Nodup:=h.imp λh=>Eu h
def K4(h:l.Nodup):(ddup l).Perm l:=Gf (Fh l) h (Hi l)
def Ib(h:l.Pairwise ltS):told l=l:=Gb ((Cy _).trans (K4 (C0 h))) (Ev _) (K3 h)
def K5(l):(told l).Pairwise ltS:=B6 l
def Xdo  : x∈told l↔x∈l:=Ae
def Xdp:(plot=(dit row).filter λy=>decide (y∈plot))↔(plot=told plot/\∀x∈plot,x∈row):=by
 constructor
 ·intro h;have hp:plot.Pairwise ltS:=by
   rw[h];exact(B6 row).filter _
  refine⟨(Ib hp).symm,λx hx=>?_⟩;rw[h] at hx;exact Ae.mp (Mh.mp hx).1
 ·rintro ⟨h1,h2⟩;have hp:plot.Pairwise ltS:=by rw[h1];exact K5 plot
  have hq:((dit row).filter λy=>decide (y∈plot)).Pairwise ltS:=(B6 row).filter _;refine Gb (Gf (C0 hp) (C0 hq) λx=>?_) (K3 hp) (K3 hq);rw[Mh,decide_eq_true_eq,Ae];exact⟨λh=>⟨h2 x h,h⟩,λh=>h.2⟩
def Ic  : t∈bars row↔t.1∈row/\t.2.1∈row/\E1 row t.1 t.2.1=true/\t.2.2=lieR row t.1 t.2.1:=by
 unfold bars;rw[Pw];constructor
 ·rintro ⟨x,hx,h⟩;obtain⟨y,hy,rfl⟩:=Mo.mp h;obtain⟨h1,h2⟩:=Mh.mp hy;exact⟨Ae.mp hx,Ae.mp h1,h2,rfl⟩
 ·rintro ⟨h1,h2,h3,h4⟩;refine⟨t.1,Ae.mpr h1,Mo.mpr ⟨t.2.1,Mh.mpr ⟨Ae.mpr h2,h3⟩,?_⟩⟩;rw[<-h4]
def Xk7(h:∀y∈row,row.count y=2):K2 row plot=isPlotB row plot:=by
 unfold K2 isPlotB;by_cases hp:plot=(dit row).filter λy=>decide (y∈plot)
 ·obtain⟨p1,p2⟩:=Xdp.mp hp;have e1:plot.all (λx=>decide (x∈row))=true:=M0.mpr λx hx=>Qr (p2 x hx);rw[Qr hp,Qr p1,e1,Oh,Oh];show K1 (bars row) plot=(true&&_);rw[Oh,N6];unfold K1;rw[M0,M0];constructor
  ·intro hf x hx;rw[M0];intro y hy;have kj:=Ae.mp hy;unfold Bp;by_cases hw:lieR row x y = "within"
   ·rw[Qq hw];have:=hf (x,y,lieR row x y) (Ic.mpr ⟨p2 x hx,kj,by unfold E1;rw[Qr hw];rfl,rfl⟩);simpa [hx,hw] using this
   ·rw[Qp hw];by_cases ha:lieR row x y = "apart"
    ·have dZ:x≠y:=λz=>by
      rw[z,Ia] at ha
      revert ha
      decide
     have vt:=Xk6 (h x (p2 x hx)) (h y kj) ha;have bX:y∉plot:=λjg=>by
      rcases Hk x y with hle | hle
      ·have aR:=ltS_of hle dZ;have:=hf (x,y,lieR row x y) (Ic.mpr ⟨p2 x hx,kj,by unfold E1;rw[Qr ha,Qr aR,P1,Bool.or_true],rfl⟩);rw[ha] at this;simp[hx,jg] at this
       revert this
       decide
      ·have aR:=ltS_of hle (λz=>dZ z.symm);have:=hf (y,x,lieR row y x) (Ic.mpr ⟨kj,p2 x hx,by unfold E1;rw[Qr vt,Qr aR,P1,Bool.or_true],rfl⟩);rw[vt] at this;simp[hx,jg] at this
       revert this
       decide
     rw[Qs bX];simp
    ·rw[Qs ha];rfl
  ·intro hf t ht;obtain⟨h1,h2,h3,h4⟩:=Ic.mp ht;by_cases hx:t.1∈plot
   ·have:=hf t.1 hx;rw[M0] at this;have:=this t.2.1 (Ae.mpr h2);rw[h4];unfold Bp at this;by_cases hw:lieR row t.1 t.2.1 = "within"
    ·rw[Qq hw] at this;simp[hw,Qt this]
    ·rw[Qp hw] at this;have ha:lieR row t.1 t.2.1 = "apart" := by
      unfold E1 at h3;rw[Qs hw,Bool.false_or,Mp] at h3;exact Qt h3.1
     rw[ha] at this;have hn:t.2.1∉plot:=by simpa using this
     have dZ:¬(("apart" : ah) = "within"):=by decide
     simp[hn,ha,dZ]
   ·simp[hx]
 ·rw[Qs hp,N1];by_cases p1:plot=told plot
  ·have:¬ ∀x∈plot,x∈row:=λp2=>hp (Xdp.mpr ⟨p1,p2⟩);have e1:plot.all (λx=>decide (x∈row))=false:=by
    rw[Pr];intro z;rw[M0] at z;exact this λx hx=>Qt (z x hx)
   rw[e1,Bool.and_false,N1]
  ·rw[Qs p1,N1,N1]
theorem K6:∀{bs:List Bool} {xs:List V},DAll H (bs.map ak.bool) xs->xs=bs.map V.bl
 | [],xs,h=>by unfold List.map DAll at h;exact h
 | s::ss,xs,h=>by
  rw[Mw] at h;unfold DAll at h;obtain⟨v,r,rfl,h1,h2⟩:=h;unfold DAt at h1;rw[h1,K6 h2];rfl
def Xdq(a b:Za)(h:ak.tuple (a.map ak.str)=ak.tuple (b.map ak.str)):a=b:=by
 injection h with h
 exact(Pk (λx y e=>by injection e)).mp h
def Xdr{ss:Za}(h:∀y∈ss,okN y):Cn (ss.map ak.str)=true:=plainAll_map ak.str ss λx hx=>Xky (h x hx)
def Dr{ss:Za}(h:∀y∈ss,okN y):Bn (.tuple (ss.map ak.str))=true:=Xdr h
def Xk8{ss:Za}(h:∀y∈ss,okN y):Bn (.list (ss.map ak.str))=true:=Xdr h
theorem Gn:∀(ss:Za),ak.depthAll (ss.map ak.str)=0
 | []=>rfl
 | s::ss=>by
  rw[Mw];unfold ak.depthAll;rw[Gn ss];rfl
def Xds(a b:Za):min (ak.depth (.tuple (a.map ak.str))) (ak.depth (.tuple (b.map ak.str)))<=3:=by
 have e:ak.depth (.tuple (a.map ak.str))=ak.depthAll (a.map ak.str)+1:=rfl;rw[e,Gn]
 lia
def Ie{a b:Za}(ha:∀y∈a,okN y)(hb:∀y∈b,okN y):ak.eqv (.tuple (a.map ak.str)) (.tuple (b.map ak.str))=decide (a=b):=
 Xc6 (λl:Za=>ak.tuple (l.map ak.str)) Xdq a b (Dr ha) (Dr hb)
def Ea  {ss:Za} (h:H p=some (.tup (ss.map V.str))):DAt H (.tuple (ss.map ak.str)) (.ref p):=Kp h (Xc3 ss)
def spTold (K:DK):Sp:=λvs H Q _=>∃(p:ae) (ss:Za),vs=[.ref p]/\(SqL K H p (ss.map V.str)\/SqT K H p (ss.map V.str))/\ss.length<=60 /\
 ∀l H',H l=none->H' l=some (.tup ((told ss).map V.str))->Same H H'->Q (.ref l) H'
def spAllows:Sp:=λvs H Q _=>∃(fT:ah) (jf:Bool),vs=[.str fT,.bl jf]/\Q (.bl (Bp fT jf)) H
def Xdt:Sp:=λvs H Q _=>∃(r p:ae) (row ss:Za),vs=[.ref r,.ref p]/\H r=some (.lst (row.map V.str))/\Row2 row/\H p=some (.tup (ss.map V.str))/\(∀y∈ss,okN y)/\ss.length<=60 /\
 ∀H',Same H H'->Q (.bl (isPlotB row ss)) H'
abbrev NIp:Za:=["row", "plot", "span"]
abbrev NI1:Za:=["name", "span"]
abbrev NI2:Za:=["name", "other", "plot", "span"]
def Spn.has    (s:Spn H kvs row (dit row)):(An kvs (Sum.inr x:Key)).isSome=decide (x∈row):=by
 by_cases hx:x∈row
 ·obtain⟨l,h1,_⟩:=s.val x (Ae.mpr hx);rw[h1,Qr hx];rfl
 ·rw[Qs hx];cases e:An kvs (Sum.inr x:Key) with
  | none=>rfl
  | some v=>
   exfalso;have:=G6 e;rw[s.keys] at this;obtain⟨y,hy,e2⟩:=Mo.mp this;rw[O3 e2] at hy;exact hx (Ae.mp hy)
def Xdu(h:∀y∈ss,okN y):∀y∈told ss,okN y:=λy hy=>h y (Xdo.mp hy)
def Xk9{α : Type}(d)(p)(xs:List α):((List.range xs.length).map λi=>p (xs.getD i d)).any id=xs.any p:=by
 have e:(List.range xs.length).map (λi=>p (xs.getD i d))=xs.map p:=by
  have:=Da d (λ_=>true) xs;rw[Mu.mpr (λ_ _=>rfl),Mu.mpr (λ_ _=>rfl)] at this
  conv=>rhs;rw[<-this]
  rw[M5];rfl
 rw[e,List.any_map];rfl
theorem Xdv{α : Type}(f):∀(xs:List α),(xs.flatMap f).all id=xs.all λx=>(f x).all id
 | []=>rfl
 | x::xs=>by
  rw[Pb,List.all_append,List.all_cons,Xdv f xs]
def Xla{α β : Type}(d)(f : α->List β)(xs:List α):(List.range xs.length).flatMap (λi=>f (xs.getD i d))=xs.flatMap f:=by
 have this:=Da d (λ_=>true) xs;rw[Mu.mpr (λ_ _=>rfl),Mu.mpr (λ_ _=>rfl)] at this
 conv=>rhs;rw[<-this]
 rw[List.flatMap_map]
end SH
namespace L2
def Xq1 (K:DK) (i:Nat):TE:=fun Z H Q=>∃v, Z[i]? = some (some v)/\∃p ss,v = .ref p/\(SqL K H p (ss.map V.str)\/SqT K H p (ss.map V.str))/\ss.length<=60/\∀l H',H l=none->H' l=some (.lst ((dit ss).map V.str))->Same H H'->Q (.ref l) H'
end L2
namespace SH
open L2
def Au (ss:Za) (x:ah):Za:=srt (ss.filter (λy=>decide (y≠x))++(if x∈ss then [] else [x]))
def Xq2 (row:Za) (x:ah) (ys:Za):List (ah×ah×ah):=(ys.filter (E1 row x)).map λy=>(x,y,lieR row x y)
abbrev NFl1:Za:=["_law_one", "_law_name"]
abbrev NFi:Za:=["_law_bars_here", "_law_plot", "_law_one", "_law_other", "_law_word_here"]
abbrev NBr:Za:=["_law_row_here", "_law_where_here", "_law_told", "_law_one", "_law_other", "_law_word_here"]
def spAskPlot (C:ae):Sp:=λvs H Q E=>∃(r p:ae) (row ss:Za),vs=[.ref r,.ref p]/\H r=some (.lst (row.map V.str))/\Row2 row/\H p=some (.tup (ss.map V.str))/\(∀y∈ss,okN y)/\ss.length<=24 /\
 (isPlotB row ss=true->∀H',Same H H'->Q .non H')/\(isPlotB row ss=false->∀H',Same H H'->E (.ref C) none H')
def Xlb{ss:Za}(h:∀y∈ss,okN y):∀z∈ss,z.length<=20/\∀c∈z.cps.toList,c<16 ^ 8:=λz hz=>⟨(h z hz).1,λc hc=>Oi ((h z hz).2 c hc) (by decide)⟩
def DrawOk.ntup  (d:DrawOk H dr sc):∀q ys,H q=some (.tup ys)->q≠dr:=λq ys e z=>by
 obtain⟨xs,h⟩:=d.at;rw[z,h] at e;cases e
def mid (row:Za) (x:ah):Za:=((row.dropWhile λy=>decide (y≠x)).tail).takeWhile λy=>decide (y≠x)
def Xdw{x y:ah}(h:x∉y::r):decide (y≠x)=true:=by
 have:y≠x:=λe=>h (by rw[e];exact Mf);simpa using this
def Xlc{x:ah}(h:x∉A):(A++x::R).dropWhile (λy=>decide (y≠x))=x::R:=by
 induction A with
 | nil=>rw[Pl,Op,Qp (by simp)]
 | cons y r ih=>
  rw[List.cons_append,Op,Qq (Xdw h)];exact ih λz=>h (L8 _ z)
def Xld{x:ah}(h:x∉A):(A++x::R).takeWhile (λy=>decide (y≠x))=A:=by
 induction A with
 | nil=>rw[Pl,Oq,Qp (by simp)]
 | cons y r ih=>
  rw[List.cons_append,Oq,Qq (Xdw h)];rw[ih λz=>h (L8 _ z)]
def K7  (hA:x∉A) (hB:x∉B):mid (A++x::(B++x::C)) x=B:=by
 unfold mid;rw[Xlc hA,List.tail_cons,Xld hB]
def split1:∀{row:Za},x∈row->∃A R,row=A++x::R/\x∉A:=by
 intro row
 induction row with
 | nil=>intro h;cases h
 | cons y r ih=>
  intro h;by_cases e:x=y
  ·exact⟨[],r,by rw[e];rfl,by simp⟩
  ·obtain⟨A,R,h1,h2⟩:=ih ((Mb.mp h).resolve_left e);exact⟨y::A,R,by rw[h1];rfl,λz=>(Mb.mp z).elim e h2⟩
def split2{x:ah}(h:row.count x=2):∃A B C,row=A++x::(B++x::C)/\x∉A/\x∉B/\x∉C:=by
 obtain⟨A,R,h1,h2⟩:=split1 (Qc.mp (by lia:0<row.count x));rw[h1,Ol,Ox.mpr h2,Pc] at h;have hR:R.count x=1:=by lia
 obtain⟨B,C,h3,h4⟩:=split1 (Qc.mp (by lia:0<R.count x));rw[h3,Ol,Ox.mpr h4,Pc] at hR;exact⟨A,B,C,by rw[h1,h3],h2,h4,Ox.mp (by lia)⟩
theorem Gp(x):∀n l r,A0 x n (l++r)=A0 x n l++A0 x (n+l.length) r
 | n,[],r=>rfl
 | n,y::l,r=>by
  have ih:=Gp x (n+1) l r;have e:n+(y::l).length=n+1+l.length:=by rw[Ml];lia
  rw[e];show (if y=x then (n:Int)::A0 x (n+1) (l++r) else A0 x (n+1) (l++r))=(if y=x then (n:Int)::A0 x (n+1) l else A0 x (n+1) l)++_;rw[ih];split<;>rfl
theorem Ig(x):∀n l,∀i∈A0 x n l,(n:Int)<=i/\i<n+l.length
 | n,[]=>λi h=>by cases h
 | n,y::l=>λi h=>by
  have ih:=Ig x (n+1) l;have h':i=n\/i∈A0 x (n+1) l:=by
   change i∈(if y=x then (n:Int)::A0 x (n+1) l else A0 x (n+1) l) at h;split at h
   ·exact Mb.mp h
   ·exact .inr h
  rw[Ml];rcases h' with rfl | h'
  ·lia
  ·have:=ih i h'
   lia
theorem Ih:∀n l,x∉l->A0 x n l=[]
 | _,[],_=>rfl
 | n,y::l,h=>by
  show (if y=x then (n:Int)::A0 x (n+1) l else A0 x (n+1) l)=[];rw[Qp (λe=>h (by rw[e];exact Mf))];exact Ih _ _ λz=>h (L8 _ z)
def Xle  (hx:row.count x=2) (n:x≠y):nIn (pl row x).1 (pl row x).2 (plc row y)=(mid row x).count y:=by
 obtain⟨A,B,C,e,hA,hB,hC⟩:=split2 hx;have ex:plc row x=[(A.length:Int),((A.length+1+B.length:Nat):Int)]:=by
  unfold plc;rw[e,Gp,Ih _ _ hA];show []++(if x=x then _ else _)=_;rw[Qq rfl,Gp,Ih _ _ hB];show []++(_::([]++(if x=x then _ else _)))=_;rw[Qq rfl,Ih _ _ hC];simp
 have ey:plc row y=A0 y 0 A++(A0 y (A.length+1) B++A0 y (A.length+1+B.length+1) C):=by
  unfold plc;rw[e,Gp];show _++(if x=y then _ else _)=_;rw[Qp n,Gp];show _++(_++(if x=y then _ else _))=_;rw[Qp n];simp
 rw[Xdl ex,ey];unfold nIn inn;rw[Ms,Ms];have e1:(A0 y 0 A).filter (λt=>decide ((A.length:Int)<t)&&decide (t<((A.length+1+B.length:Nat):Int)))=[]:=by
  rw[Ou];intro i hi;have:=Ig y 0 A i hi;simp;intro
  lia
 have e2:(A0 y (A.length+1) B).filter (λt=>decide ((A.length:Int)<t)&&decide (t<((A.length+1+B.length:Nat):Int)))=A0 y (A.length+1) B:=by
  rw[Mu];intro i hi;have:=Ig y (A.length+1) B i hi;simp
  lia
 have e3:(A0 y (A.length+1+B.length+1) C).filter (λt=>decide ((A.length:Int)<t)&&decide (t<((A.length+1+B.length:Nat):Int)))=[]:=by
  rw[Ou];intro i hi;have:=Ig y _ C i hi;simp;intro
  lia
 rw[e1,e2,e3,Pl,Np,Hz];rw[e,K7 hA hB]
def Ar (row:Za) (x y:ah):Prop:=lieR row x y = "cross"
instance (row:Za) (x y:ah):Decidable (Ar row x y):=inferInstanceAs (Decidable (_=_))
def K8:Db a b c e false = "cross" ↔ nIn a b [c,e]=1:=by
 unfold Db;have e3:(inn a b [c,e]).length=nIn a b [c,e]:=rfl;have h2:(inn a b [c,e]).length<=2:=Kv a b [c,e];rw[e3] at *;generalize nIn a b [c,e]=q at *
 match q,h2 with
 | 0,_=>
  rw[Qp (by decide)];split<;>decide
 | 1,_=>rw[Qq (by decide)];decide
 | 2,_=>rw[Qq (by decide)];decide
def Ii  (hx:row.count x=2) (hy:row.count y=2) (n:x≠y):Ar row x y↔(mid row x).count y=1:=by
 unfold Ar;rw[Gm hx hy,Qs n,K8,<-B7 hy,Xle hx n]
def Ds  (hx:row.count x=2):¬Ar row x x:=by
 unfold Ar lieR lieT;rw[Qq ⟨rfl,rfl⟩];decide
def B9  (hx:row.count x=2) (hy:row.count y=2) (h:Ar row x y):Ar row y x:=by
 by_cases n:x=y
 ·subst n;exact h
 ·obtain⟨n1,n2,n3,n4⟩:=Dd hx hy n;unfold Ar at *;rw[Gm hx hy,Qs n,K8,Bd] at h;rw[Gm hy hx,Qs (λe=>n e.symm),K8,Bd];have l1:=Bk hx;have l2:=Bk hy;generalize (pl row x).1=a at *;generalize (pl row x).2=b at *;generalize (pl row y).1=c at *;generalize (pl row y).2=e at *;by_cases p1:a<c/\c<b<;>by_cases p2:a<e/\e<b<;>by_cases q1:c<a/\a<e<;>by_cases q2:c<b/\b<e <;>
  (first | rw[Qq p1] at h | rw[Qp p1] at h)<;>(first | rw[Qq p2] at h | rw[Qp p2] at h) <;>
  (first | rw[Qq q1] | rw[Qp q1])<;>(first | rw[Qq q2] | rw[Qp q2])<;>lia
def Xdx  (h:p x=true):∀row:Za,mid (row.filter p) x=(mid row x).filter p:=by
 have tk:∀l:Za,(l.filter p).takeWhile (λy=>decide (y≠x))=(l.takeWhile λy=>decide (y≠x)).filter p:=by
  intro l
  induction l with
  | nil=>rfl
  | cons y r ih=>
   by_cases e:y=x
   ·subst e;rw[M7,Qq h,Oq,Qp (by simp),Oq,Qp (by simp)];rfl
   ·rw[Oq,Qq (Qr e),M7,M7];by_cases q:p y=true
    ·rw[Qq q,Qq q,Oq,Qq (Qr e),ih]
    ·rw[Qp q,Qp q,ih]
 intro row;unfold mid;rw[<-tk];congr 1
 induction row with
 | nil=>rfl
 | cons y r ih=>
  by_cases e:y=x
  ·subst e;rw[M7,Qq h,Op,Qp (by simp),Op,Qp (by simp)];rfl
  ·rw[Op,Qq (Qr e),<-ih,M7];by_cases q:p y=true
   ·rw[Qq q,Op,Qq (Qr e)]
   ·rw[Qp q]
def Xlf  (hx:row.count x=2) (hy:row.count y=2) (fR:j9.count x=2) (je:j9.count y=2)
  (e:row.filter (λz=>decide (z=x\/z=y))=j9.filter (λz=>decide (z=x\/z=y))):Ar row x y↔Ar j9 x y:=by
 by_cases n:x=y
 ·subst n;exact⟨λh=>absurd h (Ds hx),λh=>absurd h (Ds fR)⟩
 ·rw[Ii hx hy n,Ii fR je n];have h1:∀r:Za,(mid r x).count y=(mid (r.filter λz=>decide (z=x\/z=y)) x).count y:=λr=>by
   rw[Xdx (by simp),List.count_filter (by simp)]
  rw[h1 row,h1 j9,e]
def A6 (row:Za):Prop:=∀x∈row,∀y∈row,∀z∈row,Ar row x y->Ar row x z->¬Ar row y z
def Xlg:A6 []:=λx h=>by cases h
def Xdy{x}(h:A6 row)(h2:∀y∈row,row.count y=2)(eL:∀y∈bL,bL.count y=2)(cO:∀y∈bL,y=x\/y∈row)
  (hf:∀p:ah->Bool,p x=false->bL.filter p=row.filter p) (hb:∀y∈bL,∀z∈bL,Ar bL x y->Ar bL x z->¬Ar bL y z):A6 bL:=by
 intro a ha b dn c hc k1 k2 k3;have km:=B9 (eL a ha) (eL b dn) k1;have kh:=B9 (eL a ha) (eL c hc) k2;have xP:=B9 (eL b dn) (eL c hc) k3;by_cases ea:a=x
 ·subst ea;exact hb b dn c hc k1 k2 k3
 by_cases eb:b=x
 ·subst eb;exact hb a ha c hc km k3 k2
 by_cases ec:c=x
 ·subst ec;exact hb a ha b dn kh xP k1
 have ra:=(cO a ha).resolve_left ea;have rb:=(cO b dn).resolve_left eb;have rc:=(cO c hc).resolve_left ec;have go:∀u v:ah,u≠x->v≠x->u∈row->v∈row->u∈bL->v∈bL->Ar bL u v->Ar row u v:=λu v nu nv hu hv mu mv k=>
  (Xlf (eL u mu) (eL v mv) (h2 u hu) (h2 v hv) (hf _ (by
   rw[decide_eq_false_iff_not];rintro (e | e)
   ·exact nu e.symm
   ·exact nv e.symm))).mp k
 exact h a ra b rb c rc (go a b ea eb ra rb ha dn k1) (go a c ea ec ra rc ha hc k2) (go b c eb ec rb rc dn hc k3)
def Xlh    (jd:a<=b) (h:p x=false):(D8 row x a b).filter p=row.filter p:=by
 unfold D8;have e:row=row.take a++((row.drop a).take (b - a)++row.drop b):=by
  have e1:row.drop b=(row.drop a).drop (b - a):=by rw[List.drop_drop];congr 1;lia
  rw[e1,Nb,Nb]
 conv=>rhs;rw[e]
 simp[Ms,M7,h]
def Xli  (hx:(A++[x,x]++C).count x=2) (hy:(A++[x,x]++C).count y=2):¬Ar (A++[x,x]++C) x y:=by
 by_cases n:x=y
 ·subst n;exact Ds hx
 ·rw[Ii hx hy n];have hA:x∉A:=by
   rw[<-Ox];rw[Ol,Ol,Pc,Pc] at hx
   lia
  have e:A++[x,x]++C=A++x::([]++x::C):=by simp
  rw[e,K7 hA (by simp)];simp
def Xlj{row:Za}   (h:p x=false):(row.take a++[x,x]++row.drop a).filter p=row.filter p:=by
 simp[Ms,M7,h];rw[<-Ms,Nb]
def Xdz  (hF:F.Nodup) (hx:x∈F) (n:x≠y):(mid (F++F.reverse) x).count y≠1:=by
 obtain⟨A,B,rfl,hA⟩:=split1 hx;have hB:x∉B:=by
  have h1:=(N3.mp hF).2.1;exact(M9.mp h1).1
 have e:(A++x::B)++(A++x::B).reverse=A++x::((B++B.reverse)++x::A.reverse):=by simp
 rw[e,K7 hA (by simp[hB]),Ol,List.count_reverse]
 lia
def Eb  (hn:ns.Nodup) (c) (h2:∀z∈ns,(ns++(ns.take c).reverse++(ns.drop c).reverse).count z=2)
  (h:(x∈ns.take c/\y∈ns.take c)\/(x∈ns.drop c/\y∈ns.drop c)):¬Ar (ns++(ns.take c).reverse++(ns.drop c).reverse) x y:=by
 have sub:(∀z,z∈ns.take c->z∈ns)/\∀z,z∈ns.drop c->z∈ns:=⟨λz=>Pd,λz=>Pz⟩;have hx:x∈ns:=h.elim (λz=>sub.1 _ z.1) λz=>sub.2 _ z.1;have hy:y∈ns:=h.elim (λz=>sub.1 _ z.2) λz=>sub.2 _ z.2;by_cases n:x=y
 ·subst n;exact Ds (h2 x hx)
 rw[Ii (h2 x hx) (h2 y hy) n];have bX:(mid (ns++(ns.take c).reverse++(ns.drop c).reverse) x).count y=(mid ((ns++(ns.take c).reverse++(ns.drop c).reverse).filter λz=>decide (z=x\/z=y)) x).count y:=by
  rw[Xdx (by simp),List.count_filter (by simp)]
 rw[bX];have dj:∀z,z∈ns.take c->z∈ns.drop c->False:=by
  have:=hn;rw[<-Nb c ns] at this;intro z h1 h2;exact(N3.mp this).2.2 z h1 z h2 rfl
 have e0:ns.filter (λz=>decide (z=x\/z=y))=(ns.take c).filter (λz=>decide (z=x\/z=y))++(ns.drop c).filter (λz=>decide (z=x\/z=y)):=by
  rw[<-Ms,Nb]
 rw[Ms,Ms,e0,List.filter_reverse,List.filter_reverse];rcases h with ⟨h1,h2⟩ | ⟨h1,h2⟩
 ·have e:(ns.drop c).filter (λz=>decide (z=x\/z=y))=[]:=by
   rw[Ou];intro z hz q;rcases Qt q with q | q
   ·exact dj x h1 (q ▸ hz)
   ·exact dj y h2 (q ▸ hz)
  rw[e,Np,List.reverse_nil,Np];exact Xdz ((hn.sublist (Oj ..)).filter _) (Mh.mpr ⟨h1,by simp⟩) n
 ·have e:(ns.take c).filter (λz=>decide (z=x\/z=y))=[]:=by
   rw[Ou];intro z hz q;rcases Qt q with q | q
   ·exact dj x (q ▸ hz) h1
   ·exact dj y (q ▸ hz) h2
  rw[e,Pl,List.reverse_nil,Np];exact Xdz ((hn.sublist (List.drop_sublist ..)).filter _) (Mh.mpr ⟨h1,by simp⟩) n
def noThree_grid(hn:ns.Nodup)(c)(h2:∀z∈ns,(ns++(ns.take c).reverse++(ns.drop c).reverse).count z=2):A6 (ns++(ns.take c).reverse++(ns.drop c).reverse):=by
 have mem:∀z,z∈ns++(ns.take c).reverse++(ns.drop c).reverse->z∈ns.take c\/z∈ns.drop c:=by
  intro z hz;rw[<-Mm,Nb];simp only[Mm,Ow] at hz;rcases hz with (h | h) | h
  ·exact h
  ·exact Pd h
  ·exact Pz h
 intro x hx y hy z hz k1 k2 k3;rcases mem x hx with a | a<;>rcases mem y hy with b | b<;>rcases mem z hz with d | d
 ·exact Eb hn c h2 (.inl ⟨a,b⟩) k1
 ·exact Eb hn c h2 (.inl ⟨a,b⟩) k1
 ·exact Eb hn c h2 (.inl ⟨a,d⟩) k2
 ·exact Eb hn c h2 (.inr ⟨b,d⟩) k3
 ·exact Eb hn c h2 (.inl ⟨b,d⟩) k3
 ·exact Eb hn c h2 (.inr ⟨a,d⟩) k2
 ·exact Eb hn c h2 (.inr ⟨a,b⟩) k1
 ·exact Eb hn c h2 (.inr ⟨a,b⟩) k1
def spBarredN:Sp:=λvs H Q _=>∃(r:ae) (row:Za) (x:ah),vs=[.ref r,.str x]/\H r=some (.lst (row.map V.str))/\row.length<=1000/\(∀y∈row,row.count y=2)/\x∈row /\
 ∀b H',(b=false->∀y∈row,∀z∈row,Ar row x y->Ar row x z->¬Ar row y z)->Same H H'->Q (.bl b) H'
def spRowN:Sp:=λvs H Q _=>∃(dr sc nl:ae) (ns:Za),vs=[.ref dr,.ref nl]/\DrawOk H dr sc/\H nl=some (.lst (ns.map V.str))/\nl≠dr/\ns.Nodup/\ns.length<=14 /\
 ∀(l:ae) (row:Za) (H':Hp),H l=none->H' l=some (.lst (row.map V.str))->row.Perm (ns++ns)->A6 row->DrawOk H' dr sc->But dr H H'->Q (.ref l) H'
def spIslandN:Sp:=λvs H Q _=>∃(dr sc:ae) (m:Nat),vs=[.ref dr,.int m]/\m<=14/\DrawOk H dr sc /\
 ∀(l:ae) (row:Za) (n st:Nat) (aV:Bool) (H':Hp),H l=none->n<=m->st<26->H' l=some (.lst (row.map V.str))->row.Perm (Bh st aV n++Bh st aV n)->A6 row->DrawOk H' dr sc->But dr H H'->Q (.ref l) H'
def Xd0{_:Decidable p}(h:decide p=false):¬p:=Qu h
def Wh.pl{H:Hp}{kvs:List (Key×V)}{row:Za}{x:ah}(w:Wh H kvs row)(hx:x∈row)(h:row.count x=2):∃l,An kvs (Sum.inr x:Key)=some (.ref l)/\H l=some (.lst [.int (pl row x).1,.int (pl row x).2]):=by
 obtain⟨l,h1,h2⟩:=w.val x hx;rw[B7 h] at h2;exact⟨l,h1,h2⟩
def deg2 {α : Type} (R : α -> α->Bool) (l:List α):Nat:=(l.map λx=>l.countP (R x)).sum
def Xlk{a b:List Nat}(p:a.Perm b):a.sum=b.sum:=by
 induction p with
 | nil=>rfl
 | cons x _ ih=>simp[ih]
 | swap x y l=>simp;lia
 | trans _ _ h1 h2=>exact h1.trans h2
def Xd1{α : Type}{R}{a b:List α}(p:a.Perm b):deg2 R a=deg2 R b:=by
 unfold deg2;have e:(a.map λx=>a.countP (R x))=a.map λx=>b.countP (R x):=M6 λx _=>p.countP_eq _;rw[e];exact Xlk (p.map _)
theorem E2{α : Type}(f g : α->Nat):∀l:List α,(l.map λx=>f x+g x).sum=(l.map f).sum+(l.map g).sum
 | []=>rfl
 | x::r=>by simp[E2 f g r];lia
theorem Dt{α : Type}(p):∀l:List α,(l.map λx=>if p x=true then 1 else 0).sum=l.countP p
 | []=>rfl
 | x::r=>by
  rw[Mw,Oy,Dt p r,Nw]
  lia
theorem Xd2{α : Type}:∀l:List α,(l.map λ_=>0).sum=0
 | []=>rfl
 | _::r=>by rw[Mw,Oy,Xd2 r]
def mantel{α : Type}[DecidableEq α]{R}:∀(n:Nat) (l:List α),l.length=n->l.Nodup->(∀x∈l,R x x=false)->(∀x∈l,∀y∈l,R x y=R y x) ->
  (∀x∈l,∀y∈l,∀z∈l,R x y=true->R x z=true->R y z=false)->2 * deg2 R l<=n * n:=by
 intro n
 induction n using Nat.strongRecOn with
 | ind n ih=>
  intro l hl nd ig sy vy;by_cases h:∃u∈l,∃v∈l,R u v=true
  ·obtain⟨u,hu,v,hv,o6⟩:=h;have xQ:u≠v:=λe=>by subst e;rw[ig u hu] at o6;cases o6
   have p1:l.Perm (u::l.erase u):=List.perm_cons_erase hu;have sA:v∈l.erase u:=(List.mem_erase_of_ne xQ.symm).mpr hv;have p2:l.Perm (u::v::(l.erase u).erase v):=p1.trans (List.Perm.cons u (List.perm_cons_erase sA));generalize (l.erase u).erase v=r at p2;have aG:=p2.length_eq;simp only[Ml] at aG;have xR:=p2.nodup_iff.mp nd;have mr:∀x∈r,x∈l:=λx hx=>p2.mem_iff.mpr (L8 _ (L8 _ hx));have vz:r.Nodup:=(M9.mp (M9.mp xR).2).2;have BJ:=ih r.length (by lia) r rfl vz (λx hx=>ig x (mr x hx)) (λx hx y hy=>sy x (mr x hx) y (mr y hy)) (λx hx y hy z hz=>vy x (mr x hx) y (mr y hy) z (mr z hz));have e:deg2 R l=2+2 * (r.countP (R u)+r.countP (R v))+deg2 R r:=by
    rw[Xd1 p2];unfold deg2;rw[Mw,Mw,Oy,Oy];have ef:(r.map λx=>(u::v::r).countP (R x))=r.map λx=>((if R u x=true then 1 else 0)+(if R v x=true then 1 else 0))+r.countP (R x):=by
     refine M6 λx hx=>?_;rw[Nw,Nw,sy x (mr x hx) u hu,sy x (mr x hx) v hv]
     lia
    rw[ef,E2,E2,Dt,Dt,Nw,Nw,Nw,Nw,ig u hu,ig v hv,o6,sy v hv u hu,o6];simp
    lia
   have le:r.countP (R u)+r.countP (R v)<=r.length:=by
    rw[<-Dt (R u),<-Dt (R v),<-E2];have:∀m:List α,(∀x∈m,x∈l)->(m.map λx=>(if R u x=true then 1 else 0)+(if R v x=true then 1 else 0)).sum<=m.length:=by
     intro m
     induction m with
     | nil=>intro _;exact L7 _
     | cons x t xS=>
      intro hm;have h1:=xS λy hy=>hm y (L8 _ hy);have hx:=hm x Mf;have h2:(if R u x=true then 1 else 0)+(if R v x=true then 1 else 0)<=1:=by
       by_cases a:R u x=true
       ·have:=vy u hu v hv x hx o6 a;rw[this,Qq a];decide
       ·rw[Qp a];split<;>decide
      rw[Mw,Oy,Ml]
      lia
    exact this r mr
   have hn:n=r.length+2:=by lia
   rw[e,hn];have:(r.length+2) * (r.length+2)=r.length * r.length+4 * r.length+4:=by
    rw[Nat.add_mul,Nat.mul_add];lia
   rw[this]
   lia
  ·have z:deg2 R l=0:=by
    unfold deg2;have:(l.map λx=>l.countP (R x))=l.map λ_=>0:=by
     refine M6 λx hx=>?_;rw[List.countP_eq_zero];intro y hy q;exact h ⟨x,hx,y,hy,q⟩
    rw[this];exact Xd2 l
   rw[z];exact M3 _
theorem Xd3{α β : Type}(p : α -> β->Bool)(m:List β):∀l:List α,(l.map λx=>m.countP (p x)).sum=(m.map λy=>l.countP λx=>p x y).sum
 | []=>by
  show 0=_
  induction m with
  | nil=>rfl
  | cons y r ih=>rw[Mw,Oy,<-ih];rfl
 | x::l=>by
  rw[Mw,Oy,Xd3 p m l];have e:(m.map λy=>(x::l).countP λx=>p x y)=m.map λy=>(if p x y=true then 1 else 0)+l.countP λx=>p x y:=by
   refine M6 λy _=>?_;rw[Nw]
   lia
  rw[e,E2,Dt]
def Ij(h2:∀y∈row,row.count y=2):2 * (crs row).length=deg2 (λx y=>decide (Ar row x y)) (dit row):=by
 have e:(crs row).length=((dit row).map λx=>(dit row).countP λy=>decide (ltS x y)&&decide (Ar row x y)).sum:=by
  unfold crs;rw[List.length_flatMap];congr 1;refine M6 λx _=>?_;rw[L5,List.countP_eq_length_filter];rfl
 have e2:=Xd3 (λx y=>decide (ltS x y)&&decide (Ar row x y)) (dit row) (dit row);have e3:2 * (crs row).length=((dit row).map λx=>(dit row).countP λy=>decide (ltS x y)&&decide (Ar row x y)).sum+((dit row).map λy=>(dit row).countP λx=>decide (ltS x y)&&decide (Ar row x y)).sum:=by
  rw[<-e2,e];lia
 rw[e3,<-E2];unfold deg2;congr 1;refine M6 λx hx=>?_;rw[<-Dt,<-Dt,<-Dt,<-E2];congr 1;refine M6 λy hy=>?_;have fR:=Ae.mp hx;have je:=Ae.mp hy;by_cases c:Ar row x y
 ·have c':=B9 (h2 x fR) (h2 y je) c;have n:x≠y:=λe=>by subst e;exact Ds (h2 x fR) c
  by_cases l:ltS x y
  ·have l':¬ltS y x:=λq=>Fi x (Ga l q);simp[c,c',l,l']
  ·have l':ltS y x:=ltS_of (Kk.mp l) n.symm;simp[c,c',l,l']
 ·have c':¬Ar row y x:=λq=>c (B9 (h2 y je) (h2 x fR) q);simp[c,c']
def Xll(h2:∀y∈row,row.count y=2)(h3:A6 row)(hl:(dit row).length<=14):(crs row).length<=49:=by
 have m:=mantel (R:=λx y=>decide (Ar row x y)) (dit row).length (dit row) rfl (Ck row) (λx hx=>Qs (Ds (h2 x (Ae.mp hx))))
  (λx hx y hy=>by
   by_cases c:Ar row x y
   ·rw[Qr c,Qr (B9 (h2 x (Ae.mp hx)) (h2 y (Ae.mp hy)) c)]
   ·rw[Qs c,Qs λq=>c (B9 (h2 y (Ae.mp hy)) (h2 x (Ae.mp hx)) q)])
  (λx hx y hy z hz a b=>Qs (h3 x (Ae.mp hx) y (Ae.mp hy) z (Ae.mp hz) (Qt a) (Qt b)))
 rw[<-Ij h2] at m;have:(dit row).length * (dit row).length<=14 * 14:=Nat.mul_le_mul hl hl
 lia
def upB (row:Za) (x y:ah):Bool:=decide (y=x)||decide (lieR row x y = "within")
def span (row:Za) (x:ah):Nat:=((pl row x).2 - (pl row x).1).toNat
def Xd4(a b c e):lieT a b c e = "same" \/ lieT a b c e = "cross" \/ lieT a b c e = "within" \/ lieT a b c e = "around" \/ lieT a b c e = "apart" := by
 unfold lieT;split
 ·exact .inl rfl
 ·split
  ·exact .inr (.inl rfl)
  ·split
   ·exact .inr (.inr (.inl rfl))
   ·split
    ·exact .inr (.inr (.inr (.inl rfl)))
    ·exact .inr (.inr (.inr (.inr rfl)))
def Xlm  (hx:row.count x=2) (hy:row.count y=2) (n:x≠y) (h:lieR row x y = "around"):span row y<span row x:=by
 obtain⟨n1,n2,n3,n4⟩:=Dd hx hy n;have l1:=Bk hx;have l2:=Bk hy;unfold span;unfold lieR lieT at h;rw[Qp (λz=>n1 z.1)] at h;split at h
 ·exact absurd h (by decide)
 ·split at h
  ·exact absurd h (by decide)
  ·split at h
   ·rename_i q;rw[Bd] at q;generalize (pl row x).1=a at *;generalize (pl row x).2=b at *;generalize (pl row y).1=c at *;generalize (pl row y).2=e at *;by_cases p1:a<c/\c<b
    ·by_cases p2:a<e/\e<b
     ·lia
     ·rw[Qq p1,Qp p2] at q;lia
    ·rw[Qp p1] at q;split at q<;>lia
   ·exact absurd h (by decide)
def Xd5  (hx:row.count x=2) (hy:row.count y=2) (h:lieR row x y = "same"):x=y:=by
 refine Classical.byContradiction λn=>?_;obtain⟨n1,n2,n3,n4⟩:=Dd hx hy n;unfold lieR lieT at h;rw[Qp (λz=>n1 z.1)] at h;split at h
 ·exact absurd h (by decide)
 ·split at h
  ·exact absurd h (by decide)
  ·split at h
   ·exact absurd h (by decide)
   ·exact absurd h (by decide)
theorem least{α : Type}(f : α->Nat):∀l:List α,l≠[]->∃a∈l,∀b∈l,f a<=f b
 | [],h=>absurd rfl h
 | [a],_=>⟨a,Mf,λb hb=>by rw[Mi.mp hb];exact L7 _⟩
 | a::c::r,_=>by
  obtain⟨m,hm,hl⟩:=least f (c::r) (by simp);by_cases q:f a<=f m
  ·exact⟨a,Mf,λb hb=>by
    rcases Mb.mp hb with e | e
    ·rw[e];exact L7 _
    ·exact M8 q (hl b e)⟩
  ·exact⟨m,L8 _ hm,λb hb=>by
    rcases Mb.mp hb with e | e
    ·rw[e];lia
    ·exact hl b e⟩
def cands (row:Za):List (Za):=(dit row).map (λa=>(dit row).filter (upB row a))++(crs row).map λp=>(dit row).filter λy=>upB row p.1 y||upB row p.2 y
def Xln(h2:∀y∈row,row.count y=2)(h3:A6 row)(dZ:S≠[])(hg:isPlotB row S=true):S∈cands row:=by
 have qM:=hg;rw[<-Xk7 h2] at qM;unfold K2 at qM;rw[Mp] at qM;have hS:=Qt qM.1;unfold isPlotB at hg;rw[Mp,Mp] at hg;obtain⟨⟨_,o8⟩,cT⟩:=hg;have inr:∀x∈S,x∈row:=λx hx=>Qt (M0.mp o8 x hx);have al:∀x∈S,∀y∈row,Bp (lieR row x y) (decide (y∈S))=true:=λx hx y hy=>M0.mp (M0.mp cT x hx) y (Ae.mpr hy);have within:∀x∈S,∀y∈row,lieR row x y = "within" -> y∈S:=λx hx y hy e=>by
  have:=al x hx y hy;unfold Bp at this;rw[Qq e] at this;exact Qt this
 have apart:∀x∈S,∀y∈S,lieR row x y ≠ "apart" := λx hx y hy e=>by
  have:=al x hx y (inr y hy);unfold Bp at this;rw[Qp (by rw[e];decide),e,Qr hy] at this;exact absurd this (by decide)
 have fT:∀a∈S,∀c∈S,upB row a c=false->¬span row c<span row a->Ar row a c:=λa ha c hc hu hs=>by
  have v8:=Bool.or_eq_false_iff.mp hu;have n1:c≠a:=Qu v8.1;have n2:=Qu v8.2;rcases Xd4 (pl row a).1 (pl row a).2 (pl row c).1 (pl row c).2 with q | q | q | q | q
  ·exact absurd (Xd5 (h2 a (inr a ha)) (h2 c (inr c hc)) q).symm n1
  ·exact q
  ·exact absurd q n2
  ·exact absurd (Xlm (h2 a (inr a ha)) (h2 c (inr c hc)) (λe=>n1 e.symm) q) hs
  ·exact absurd q (apart a ha c hc)
 have lu:∀a∈S,∀y∈row,upB row a y=true->y∈S:=λa ha y hy q=>by
  rcases P4.mp q with q | q
  ·rw[Qt q];exact ha
  ·exact within a ha y hy (Qt q)
 obtain⟨a,ha,la⟩:=least (span row) S dZ;unfold cands;rw[Mm];by_cases bN:∀c∈S,upB row a c=true
 ·left;rw[Mo];refine⟨a,Ae.mpr (inr a ha),?_⟩;rw[hS];refine Qh λy hy=>?_;by_cases q:y∈S
  ·rw[bN y q,Qr q]
  ·rw[Qs q,Pr];exact λz=>q (lu a ha y (Ae.mp hy) z)
 ·right;have sB:S.filter (λc => !upB row a c)≠[]:=λe=>bN λc hc=>by
   rw[Ou] at e;have:=e c hc;simpa using this
  obtain⟨b,hb,lb⟩:=least (span row) _ sB;obtain⟨jA,sC⟩:=Mh.mp hb;have sC:upB row a b=false:=by simpa using sC
  have cab:=fT a ha b jA sC (by have:=la b jA;lia);have all2:∀c∈S,upB row a c=true\/upB row b c=true:=λc hc=>by
   refine Classical.byContradiction λz=>?_;have z1:upB row a c=false:=by
    cases q:upB row a c with
    | false=>rfl
    | true=>exact absurd (.inl q) z
   have z2:upB row b c=false:=by
    cases q:upB row b c with
    | false=>rfl
    | true=>exact absurd (.inr q) z
   have k1:=fT a ha c hc z1 (by have:=la c hc;lia);have k2:=fT b jA c hc z2 (by have:=lb c (Mh.mpr ⟨hc,by simp[z1]⟩);lia);exact h3 a (inr a ha) b (inr b jA) c (inr c hc) cab k1 k2
  have bX:∀p q:ah,p∈S->q∈S->(∀c∈S,upB row p c=true\/upB row q c=true)->(dit row).filter (λy=>upB row p y||upB row q y)=S:=λp q hp hq h=>by
   conv=>rhs;rw[hS]
   refine Qh λy hy=>?_;by_cases m:y∈S
   ·rw[Qr m,P4];exact h y m
   ·rw[Qs m,Bool.or_eq_false_iff];exact⟨Pr.mpr λz=>m (lu p hp y (Ae.mp hy) z),Pr.mpr λz=>m (lu q hq y (Ae.mp hy) z)⟩
  have xT:a≠b:=λe=>by subst e;exact Ds (h2 a (inr a ha)) cab
  have mk:∀p q:ah,p∈S->q∈S->ltS p q->Ar row p q->(p,q)∈crs row:=λp q hp hq l c=>by
   unfold crs;rw[Pw];refine⟨p,Ae.mpr (inr p hp),Mo.mpr ⟨q,Mh.mpr ⟨Ae.mpr (inr q hq),?_⟩,rfl⟩⟩;rw[Mp];exact⟨Qr l,Qr c⟩
  rw[Mo];by_cases l:ltS a b
  ·exact⟨(a,b),mk a b ha jA l cab,bX a b ha jA all2⟩
  ·have l':=ltS_of (Kk.mp l) xT.symm;exact⟨(b,a),mk b a jA ha l' (B9 (h2 a (inr a ha)) (h2 b (inr b jA)) cab),bX b a jA ha λc hc=>(all2 c hc).symm⟩
theorem Xd6{α : Type}[DecidableEq α]:∀{a b:List α},a.Nodup->(∀x∈a,x∈b)->a.length<=b.length
 | [],_,_,_=>M3 _
 | x::r,b,h,s=>by
  obtain⟨h1,h2⟩:=M9.mp h;have hx:=s x Mf;have:=Xd6 (a:=r) (b:=b.erase x) h2 λy hy=>(List.mem_erase_of_ne (show y≠x from λe=>h1 (e ▸ hy))).mpr (s y (L8 _ hy));rw[List.length_erase_of_mem hx] at this;have:0<b.length:=Pp hx;rw[Ml]
  lia
end SH
namespace L2
open PySem.W (KasT kas_asc kas_desc kas_rev kas_tail3 kas_descPart kas_count kas_place kas_bin kas_sort kas_ask kas_item kat_run kat_snds kat_kind kat_lt KatLex kat_cons kat_go kat_yes kat_no kat_one kat_nil KatTups)
def KAll {α : Type} (n:Nat) (P : α->Prop):KasT α->Prop
 | .ret a=>P a
 | .ask i j k=>i<n/\j<n/\∀b,KAll n P (k b)
theorem KAll.bind{α β : Type}{P}{Q : β->Prop}{f}(hf:∀a,P a->KAll n Q (f a)):∀{t:KasT α},KAll n P t->KAll n Q (t.bind f)
 | .ret a,h=>hf a h
 | .ask i j k,h=>⟨h.1,h.2.1,λb=>KAll.bind hf (h.2.2 b)⟩
def Gd (n:Nat) (p:Array Nat):Prop:=p.Perm (List.toArray (List.range n))
def Gd.lt{n}{p}(h:Gd n p)(hn:0<n)(i):p.getD i 0<n:=by
 by_cases hi:i<p.size
 ·have e:p.getD i 0=p[i]:=by simp[Array.getD,hi]
  rw[e];have:p[i]∈p:=Array.getElem_mem hi;have:=h.mem_iff.mp this;simpa using this
 ·have e:p.getD i 0=0:=by simp[Array.getD,hi]
  rw[e];exact hn
def Gd.rev  (h:Gd n p) (i j):Gd n (kas_rev p i j):=(mirror_perm p i j _).trans h
theorem K9  (hn:0<n) (h:Gd n p):∀f m,KAll n (λ_=>True) (kas_asc p f m)
 | 0,_=>trivial
 | f+1,m=>⟨h.lt hn _,h.lt hn _,λb=>by
  cases b with
  | true=>exact trivial
  | false=>exact K9 hn h f (m+1)⟩
theorem Ik(hn:0<n):∀f (p:Array Nat) m q,Gd n p->KAll n (λr=>Gd n r.1) (kas_desc f p m q)
 | 0,p,m,q,h=>h
 | f+1,p,m,q,h=>⟨h.lt hn _,h.lt hn _,λb=>by
  cases b with
  | true=>
   show KAll n _ (if q > 0 then kas_desc f (kas_rev p (m - (q+1)) m) (m+1) 0 else kas_desc f p (m+1) 0);split
   ·exact Ik hn f _ _ _ (h.rev _ _)
   ·exact Ik hn f _ _ _ h
  | false=>
   refine⟨h.lt hn _,h.lt hn _,λd=>?_⟩;cases d with
   | true=>exact h
   | false=>exact Ik hn f _ _ _ h⟩
def Xd7  (hn:0<n) (h:Gd n p) (m r):KAll n (λr=>Gd n r.2) (kas_tail3 m r p):=by
 unfold kas_tail3;refine KAll.bind (P:=λ_=>True) (Q:=λ(r:Nat×Array Nat)=>Gd n r.2) (λa _=>?_) (K9 hn (h.rev 0 m) _ _);exact h.rev 0 m
def Xd8  (hn:0<n) (h:Gd n p) (m r):KAll n (λr=>Gd n r.2) (kas_descPart m r p):=by
 refine KAll.bind (P:=λr=>Gd n r.1) (λa ha=>?_) (Ik hn _ _ _ _ h);split
 ·exact Xd7 hn (ha.rev _ _) _ _
 ·exact Xd7 hn ha _ _
def Xlo  (hn:0<n) (h:Gd n p) (r):KAll n (λr=>Gd n r.2) (kas_count r p):=by
 refine KAll.bind (P:=λ_=>True) (λa _=>?_) (K9 hn h _ _);split
 ·exact h
 ·split
  ·refine⟨h.lt hn _,h.lt hn _,λb=>?_⟩;cases b with
   | true=>exact h
   | false=>exact Xd8 hn (h.rev _ _) _ _
  ·exact Xd8 hn h _ _
theorem Lb  (hn:0<n) (h:Gd n p) (k):∀f l r,KAll n (λ_=>True) (kas_place p k f l r)
 | 0,_,_=>trivial
 | f+1,l,r=>by
  show KAll n _ (if l ≥ r then _ else _);split
  ·exact trivial
  ·refine⟨h.lt hn _,h.lt hn _,λb=>?_⟩;cases b with
   | true=>exact Lb hn h k f _ _
   | false=>exact Lb hn h k f _ _
theorem Xd9(hn:0<n):∀f (p:Array Nat) k,Gd n p->KAll n (Gd n) (kas_bin f p k)
 | 0,p,_,h=>h
 | f+1,p,k,h=>KAll.bind (P:=λ_=>True) (λl _=>Xd9 hn f _ _ ((v9 p k _).trans h)) (Lb hn h k _ _ _)
def Il{n}(hn:0<n):KAll n (Gd n) (kas_sort n):=by
 refine KAll.bind (P:=λr=>Gd n r.2) (λa ha=>?_) (Xlo hn (Pm _) n);split
 ·exact Xd9 hn _ _ _ ha
 ·exact ha
section
variable {prog:au}{w:ay}{A:ax}{E:Zb}{s:ag}
def Xea (h:ao) (v:aa):Prop:=∃a o xs n ss,v = .ref a/\h.get? a=some o/\o.cls = .type "tuple" /\ o.data = .seq xs n/\aB xs.toList ss/\ss≠[]
theorem Xeb:∀{vs:List aa},(∀v∈vs,Xea s.heap v)->∃fs,KatTups s.heap vs fs/\fs.length=vs.length/\∀f∈fs,∃x t,f = .str x t
 | [],_=>⟨[],KatTups.nil,rfl,λ_ h=>by cases h⟩
 | v::vs,h=>by
  obtain⟨fs,h1,h2,h3⟩:=Xeb (vs:=vs) λu hu=>h u (L8 _ hu);obtain⟨a,o,xs,n,ss,rfl,g1,g2,g3,g4,g5⟩:=h v Mf;obtain⟨f,x,t,hf,rfl⟩:∃f x t,xs[0]? = some f/\f = .str x t:=by
   have e:xs[0]? = xs.toList[0]?:=by simp
   rw[e];generalize xs.toList=l at g4;cases g4 with
   | nil=>exact absurd rfl g5
   | cons x t r=>exact⟨_,x,t,rfl,rfl⟩
  exact⟨_::fs,KatTups.cons g1 g2 g3 hf h1,by simp[h2],λf hf=>by
   rcases Mb.mp hf with e | e
   ·exact⟨x,t,e⟩
   ·exact h3 f e⟩
end
section
variable {X:Cx}
end
section
variable {X:Cx}
end
end L2
namespace SH
open L2
def Ba (ss:Za):ak:=.tuple (ss.map ak.str)
def Plts (row:Za) (H:Hp) (ps:List ae):Prop:=∀p∈ps,∃ss:Za,H p=some (.tup (ss.map V.str))/\isPlotB row ss=true
def Bw(h:isPlotB row ss=true):(∀x∈ss,x∈row)/\ss.Pairwise ltS:=by
 unfold isPlotB at h;rw[Mp,Mp] at h;refine⟨λx hx=>Qt (M0.mp h.1.2 x hx),?_⟩;rw[Qt h.1.1];exact K5 ss
def Im(h:isPlotB row ss=true):ss.length<=(dit row).length:=
 Xd6 (C0 (Bw h).2) λx hx=>Ae.mpr ((Bw h).1 x hx)
def Xec(row):isPlotB row []=true:=by
 unfold isPlotB;rw[Ib .nil];rfl
structure Fresh (row:Za) (H:Hp) (f:ae) (xs:List V) (Ts:List (Za)):Prop where
 BK:H f=some (.lst xs)
 all:DAll H (Ts.map Ba) xs
 nd:Ts.Nodup
 ok:∀T∈Ts,T≠[]/\isPlotB row T=true
end SH
namespace L2
def Tups (H:Hp) (ps:List ae) (Ts:List (Za)):Prop:=ps.length=Ts.length/\∀i,i<ps.length->H (ps.getD i 0)=some (.tup ((Ts.getD i []).map V.str))
def Tups.same   (h:Tups H ps Ts) (s:Same H H'):Tups H' ps Ts:=⟨h.1,λi hi=>s _ _ (h.2 i hi)⟩
def Tups.nil(H):Tups H [] []:=⟨rfl,λi hi=>absurd hi (Nj _)⟩
def Tups.cons{H}{p}{T}{ps}{Ts}(h:H p=some (.tup (T.map V.str)))(r:Tups H ps Ts):Tups H (p::ps) (T::Ts):=by
 refine⟨by simp[r.1],λi hi=>?_⟩;cases i with
 | zero=>exact h
 | succ i=>exact r.2 i (by simpa using hi)
theorem Tups.app:∀{ps qs:List ae} {Ts Us:List (Za)},Tups H ps Ts->Tups H qs Us->Tups H (ps++qs) (Ts++Us)
 | [],qs,Ts,Us,h,g=>by
  have:Ts=[]:=Nn.mp h.1.symm;rw[this];exact g
 | p::ps,qs,[],Us,h,g=>by have:=h.1;simp at this
 | p::ps,qs,T::Ts,Us,h,g=>by
  have r:Tups H ps Ts:=⟨by simpa using h.1,λi hi=>by simpa using h.2 (i+1) (by simpa using hi)⟩;exact Tups.cons (h.2 0 (by simp)) (Tups.app r g)
open PySem.W (KasT kas_asc kas_desc kas_rev kas_tail3 kas_descPart kas_count kas_place kas_bin kas_sort kas_ask kas_item kat_run kat_snds kat_kind kat_lt KatLex kat_cons kat_go kat_yes kat_no kat_one kat_nil KatTups)
def A7 {α : Type} (lt:Nat->Nat->Bool):KasT α -> α
 | .ret a=>a
 | .ask i j k=>A7 lt (k (lt i j))
theorem Fk{α β : Type}{lt}{f : α->KasT β}:∀t:KasT α,A7 lt (t.bind f)=A7 lt (f (A7 lt t))
 | .ret _=>rfl
 | .ask i j k=>Fk (k (lt i j))
theorem Lc{α : Type}{n}{lt}{P}{G}  (hc:∀i j C,i<n->j<n->C (lt i j) s->xU i j C s):
  ∀{t:KasT α},KAll n P t->G (A7 lt t) s->t.kasWp xU G s
 | .ret a,_,h=>h
 | .ask i j k,h,g=>hc i j _ h.1 h.2.1 (Lc hc (h.2.2 _) g)
theorem KAll.run{α : Type}  {P}:∀{t:KasT α},KAll n P t->P (A7 lt t)
 | .ret a,h=>h
 | .ask i j k,h=>KAll.run (t:=k (lt i j)) (h.2.2 (lt i j))
structure Lin (n:Nat) (lt:Nat->Nat->Bool):Prop where
 ig:∀i,lt i i=false
 tr:∀i j k,lt i j=true->lt j k=true->lt i k=true
 tot:∀i j,i<n->j<n->i≠j->lt i j=true\/lt j i=true
section
variable {n:Nat}{lt:Nat->Nat->Bool}{p:Array Nat}
def Bq (lt:Nat->Nat->Bool) (p:Array Nat) (m:Nat):Prop:=∀i j,i<j->j<m->lt (p.getD i 0) (p.getD j 0)=true
def Xed (lt:Nat->Nat->Bool) (p:Array Nat) (m:Nat):Prop:=∀i j,i<j->j<m->lt (p.getD j 0) (p.getD i 0)=true
def Gd.size(h:Gd n p):p.size=n:=by
 have:=h.size_eq;simpa using this
def Gd.inj  (h:Gd n p) (hi:i<n) (hj:j<n) (ne:i≠j):p.getD i 0≠p.getD j 0:=λe=>by
 have sz:=h.size;have nd:p.toList.Nodup:=by
  have q:p.toList.Perm (List.range n):=by simpa using h.toList
  exact q.nodup_iff.mpr List.nodup_range
 have dR:i<p.toList.length:=by rw[Ma,sz];exact hi
 have eM:j<p.toList.length:=by rw[Ma,sz];exact hj
 have e1:p.getD i 0=p.toList[i]:=by simp[Array.getD,sz,hi]
 have e2:p.getD j 0=p.toList[j]:=by simp[Array.getD,sz,hj]
 rw[e1,e2] at e;exact ne ((Pt nd).mp e)
def Lin.flip(L:Lin n lt)(h:Gd n p)(hi:i<n)(hj:j<n)(ne:i≠j)(e:lt (p.getD i 0) (p.getD j 0)=false):lt (p.getD j 0) (p.getD i 0)=true:=by
 have hn:0<n:=by lia
 rcases L.tot _ _ (h.lt hn i) (h.lt hn j) (h.inj hi hj ne) with z | z
 ·rw[z] at e;cases e
 ·exact z
theorem Ld(L:Lin n lt)(h:Gd n p):∀f m,1<=m->m+f<=n->Bq lt p m->m<=A7 lt (kas_asc p f m)/\A7 lt (kas_asc p f m)<=m+f/\Bq lt p (A7 lt (kas_asc p f m)) /\
  (A7 lt (kas_asc p f m)<m+f->lt (p.getD (A7 lt (kas_asc p f m)) 0) (p.getD (A7 lt (kas_asc p f m) - 1) 0)=true)
 | 0,m,_,_,so=>⟨L7 _,L7 _,so,λz=>absurd z (by show ¬m<m+0;lia)⟩
 | f+1,m,h1,hn,so=>by
  have e:A7 lt (kas_asc p (f+1) m)=A7 lt (if lt (p.getD m 0) (p.getD (m - 1) 0)=true then KasT.ret m else kas_asc p f (m+1)):=rfl;cases c:lt (p.getD m 0) (p.getD (m - 1) 0) with
  | true=>
   rw[e,c,Qq rfl];exact⟨L7 _,by show m<=_;lia,so,λ_=>c⟩
  | false=>
   rw[e,c,Qp (by decide)];have c':=L.flip h (by lia) (by lia) (by lia) c;obtain⟨a1,a2,a3,a4⟩:=Ld L h f (m+1) (by lia) (by lia) (λi j f9 hj=>by
    by_cases sD:j<m
    ·exact so i j f9 sD
    ·have:j=m:=by lia
     subst this;by_cases hi:i=j - 1
     ·subst hi;exact c'
     ·exact L.tr _ _ _ (so i (j - 1) (by lia) (by lia)) c')
   exact⟨by lia,by lia,a3,λz=>a4 (by lia)⟩
theorem Xee(L:Lin n lt)(h:Gd n p):∀f m,1<=m->m+f<=n->Xed lt p m->∃r,A7 lt (kas_desc f p m 0)=(p,r,0)/\m<=r/\r<=m+f/\Xed lt p r
 | 0,m,_,_,so=>⟨m,rfl,L7 _,L7 _,so⟩
 | f+1,m,h1,hn,so=>by
  have e:A7 lt (kas_desc (f+1) p m 0)=A7 lt (if lt (p.getD m 0) (p.getD (m - 1) 0)=true then (if 0 > 0 then kas_desc f (kas_rev p (m - (0+1)) m) (m+1) 0 else kas_desc f p (m+1) 0)
   else .ask (p.getD (m - 1) 0) (p.getD m 0) λd=>if d=true then .ret (p,m,0) else kas_desc f p (m+1) (0+1)):=rfl
  cases c:lt (p.getD m 0) (p.getD (m - 1) 0) with
  | true=>
   rw[e,c,Qq rfl,Qp (by lia)];obtain⟨r,a1,a2,a3,a4⟩:=Xee L h f (m+1) (by lia) (by lia) (λi j f9 hj=>by
    by_cases sD:j<m
    ·exact so i j f9 sD
    ·have:j=m:=by lia
     subst this;by_cases hi:i=j - 1
     ·subst hi;exact c
     ·exact L.tr _ _ _ c (so i (j - 1) (by lia) (by lia)))
   exact⟨r,a1,by lia,by lia,a4⟩
  | false=>
   rw[e,c,Qp (by decide)];have c':=L.flip h (by lia) (by lia) (by lia) c;refine⟨m,?_,L7 _,by lia,so⟩;show A7 lt (if lt (p.getD (m - 1) 0) (p.getD m 0)=true then _ else _)=_;rw[Qq c'];rfl
def Lf(p:Array Nat)(i):p.getD i 0=(p[i]?).getD 0:=by simp
def Xef  (hm:m<=p.size) (hi:i<m):(kas_rev p 0 m).getD i 0=p.getD (m - 1 - i) 0:=by
 rw[Lf,Lf];show ((mirror p 0 m ((m - 0) / 2))[i]?).getD 0=_;rw[getElem?_mirror_all hm,Qq (by lia)];congr 2
 lia
def Xlp(L:Lin n lt)(h:Gd n p)(hn:1<=n):∃m p',A7 lt (kas_count n p)=(m,p')/\1<=m/\m<=n/\Gd n p'/\Bq lt p' m:=by
 have sz:=h.size;unfold kas_count;rw[Fk];obtain⟨a1,a2,a3,a4⟩:=Ld (lt:=lt) L h (n - 1) 1 (L7 _) (by lia) (λi j f9 hj=>by lia);generalize A7 lt (kas_asc p (n - 1) 1)=r at *;by_cases e1:(r==n)=true
 ·rw[Qq e1];exact⟨r,p,rfl,a1,by lia,h,a3⟩
 ·rw[Qp e1];have rn:r≠n:=λz=>e1 (by rw[z];exact beq_self_eq_true _);by_cases e2:r > 1
  ·rw[Qq e2];refine⟨r,p,?_,a1,by lia,h,a3⟩;show A7 lt (if lt (p.getD 0 0) (p.getD (r - 1) 0)=true then _ else _)=_;rw[Qq (a3 0 (r - 1) (by lia) (by lia))];rfl
  ·rw[Qp e2];obtain rfl:r=1:=by lia
   have a4:=a4 (by lia);unfold kas_descPart;rw[Fk];obtain⟨r2,b1,b2,b3,b4⟩:=Xee (lt:=lt) L h (n - (1+1)) (1+1) (by lia) (by lia) (λi j f9 hj=>by
    have:j=1:=by lia
    subst this;have:i=0:=by lia
    subst this;exact a4)
   rw[b1];dsimp only;rw[Qp (by lia)];unfold kas_tail3;rw[Fk];have vA:=h.rev 0 r2;obtain⟨c1,c2,c3,_⟩:=Ld (lt:=lt) L vA (n - r2) r2 (by lia) (by lia) (λi j f9 hj=>by
    rw[Xef (by lia) (by lia),Xef (by lia) (by lia)];exact b4 _ _ (by lia) (by lia))
   exact⟨_,_,rfl,by lia,by lia,vA,c3⟩
theorem Lg(L:Lin n lt)(h:Gd n p){k}(hk:k<n)(so:Bq lt p k):∀f l r,r - l<=f->l<=r->r<=k->(∀i,i<l->lt (p.getD i 0) (p.getD k 0)=true)->(∀i,r<=i->i<k->lt (p.getD k 0) (p.getD i 0)=true) ->
  A7 lt (kas_place p k f l r)<=k/\(∀i,i<A7 lt (kas_place p k f l r)->lt (p.getD i 0) (p.getD k 0)=true)/\(∀i,A7 lt (kas_place p k f l r)<=i->i<k->lt (p.getD k 0) (p.getD i 0)=true)
 | 0,l,r,hf,xV,hr,hl,hg=>by
  have:l=r:=by lia
  subst this;exact⟨hr,hl,hg⟩
 | f+1,l,r,hf,xV,hr,hl,hg=>by
  unfold kas_place;by_cases e:l ≥ r
  ·rw[Qq e];have:l=r:=by lia
   subst this;exact⟨hr,hl,hg⟩
  ·rw[Qp e];have e2:A7 lt (KasT.ask (p.getD k 0) (p.getD ((l+r) / 2) 0) λc=>if c=true then kas_place p k f l ((l+r) / 2) else kas_place p k f ((l+r) / 2+1) r)=A7 lt (if lt (p.getD k 0) (p.getD ((l+r) / 2) 0)=true then kas_place p k f l ((l+r) / 2) else kas_place p k f ((l+r) / 2+1) r):=rfl;rw[e2];have lv:l<=(l+r) / 2:=by lia
   have mB:(l+r) / 2<r:=by lia
   generalize (l+r) / 2=md at *;cases c:lt (p.getD k 0) (p.getD md 0) with
   | true=>
    rw[Qq rfl];refine Lg L h hk so f l md (by lia) (by lia) (by lia) hl λi h1 h2=>?_;by_cases e3:i=md
    ·rw[e3];exact c
    ·exact L.tr _ _ _ c (so md i (by lia) h2)
   | false=>
    rw[Qp (by decide)];have c':=L.flip h hk (by lia) (by lia) c;refine Lg L h hk so f (md+1) r (by lia) (by lia) hr (λi hi=>?_) hg;by_cases e3:i=md
    ·rw[e3];exact c'
    ·exact L.tr _ _ _ (so i md (by lia) (by lia)) c'
def Xeg(hk:k<p.size)(hl:l<=k)(i):(bubble p k (k - l)).getD i 0=if i=l then p.getD k 0 else if l<i/\i<=k then p.getD (i - 1) 0 else p.getD i 0:=by
 simp only[Lf];rw[getElem?_bubble hk _ (by lia),show k - (k - l)=l by lia];by_cases h1:i=l
 ·rw[Qq h1,Qq h1]
 ·rw[Qp h1,Qp h1];by_cases h2:l<i/\i<=k
  ·rw[Qq h2,Qq h2]
  ·rw[Qp h2,Qp h2]
theorem Xeh(L:Lin n lt):∀f (p:Array Nat) k,Gd n p->k+f<=n->Bq lt p k->Bq lt (A7 lt (kas_bin f p k)) (k+f)
 | 0,p,k,_,_,so=>so
 | f+1,p,k,h,hk,so=>by
  have sz:=h.size;have e:A7 lt (kas_bin (f+1) p k)=A7 lt ((kas_place p k k 0 k).bind λl=>kas_bin f (bubble p k (k - l)) (k+1)):=rfl;rw[e,Fk];obtain⟨a1,a2,a3⟩:=Lg (lt:=lt) L h (k:=k) (by lia) so k 0 k (by lia) (by lia) (L7 _) (λi z=>absurd z (Nj _)) (λi h1 h2=>by lia);generalize A7 lt (kas_place p k k 0 k)=l at *;have:=Xeh L f (bubble p k (k - l)) (k+1) ((v9 p k _).trans h) (by lia) (λi j f9 hj=>by
   rw[Xeg (by lia) a1,Xeg (by lia) a1];by_cases i1:i=l
   ·rw[Qq i1,Qp (by lia),Qq (by lia)];exact a3 _ (by lia) (by lia)
   ·rw[Qp i1];by_cases i2:l<i/\i<=k
    ·rw[Qq i2,Qp (by lia),Qq (by lia)];exact so _ _ (by lia) (by lia)
    ·rw[Qp i2];by_cases j1:j=l
     ·rw[Qq j1];exact a2 i (by lia)
     ·rw[Qp j1];by_cases j2:l<j/\j<=k
      ·rw[Qq j2];by_cases z:i=j - 1
       ·lia
       ·exact so _ _ (by lia) (by lia)
      ·rw[Qp j2];exact so _ _ f9 (by lia))
  rw[show k+(f+1)=k+1+f by lia];exact this
def Xei(L:Lin n lt)(hn:0<n):Bq lt (A7 lt (kas_sort n)) n:=by
 unfold kas_sort;rw[Fk];obtain⟨m,p',e,h1,h2,h3,h4⟩:=Xlp (lt:=lt) L (p:=List.toArray (List.range n)) (Pm _) hn;rw[e];dsimp only;by_cases hm:m<n
 ·rw[Qq hm];have:=Xeh L (n - max m 1) p' (max m 1) h3 (by lia) (by rw[show max m 1=m by lia];exact h4)
  rwa [show max m 1+(n - max m 1)=n by lia] at this
 ·rw[Qp hm];have:m=n:=by lia
  subst this;exact h4
end
open PySem.W (KasT kas_asc kas_desc kas_rev kas_tail3 kas_descPart kas_count kas_place kas_bin kas_sort kas_ask kas_item kat_run kat_snds kat_kind kat_lt KatLex kat_cons kat_go kat_yes kat_no kat_one kat_nil KatTups)
def ltL:Za->Za->Bool
 | [],[]=>false
 | [],_::_=>true
 | _::_,[]=>false
 | x::a,y::b=>if x=y then ltL a b else decide (ltS x y)
theorem Io:∀a,ltL a a=false
 | []=>rfl
 | x::a=>by
  show (if x=x then ltL a a else _)=false;rw[Qq rfl];exact Io a
theorem Lh:∀a b c,ltL a b=true->ltL b c=true->ltL a c=true
 | [],[],c,h,_=>by cases h
 | [],_::_,[],_,g=>by cases g
 | [],_::_,_::_,_,_=>rfl
 | _::_,[],_,h,_=>by cases h
 | _::_,_::_,[],_,g=>by cases g
 | x::a,y::b,z::c,h,g=>by
  have h:(if x=y then ltL a b else decide (ltS x y))=true:=h;have g:(if y=z then ltL b c else decide (ltS y z))=true:=g;show (if x=z then ltL a c else decide (ltS x z))=true;by_cases e1:x=y
  ·subst e1;rw[Qq rfl] at h;by_cases e2:x=z
   ·rw[Qq e2] at g ⊢;exact Lh a b c h g
   ·rw[Qp e2] at g ⊢;exact g
  ·rw[Qp e1] at h;by_cases e2:y=z
   ·subst e2;rw[Qp e1];exact h
   ·rw[Qp e2] at g;have q:=Ga (Qt h) (Qt g);rw[Qp (Eu q)];exact Qr q
theorem Li:∀a b,a≠b->ltL a b=true\/ltL b a=true
 | [],[],n=>absurd rfl n
 | [],_::_,_=>.inl rfl
 | _::_,[],_=>.inr rfl
 | x::a,y::b,n=>by
  show (if x=y then ltL a b else decide (ltS x y))=true\/(if y=x then ltL b a else decide (ltS y x))=true;by_cases e:x=y
  ·subst e;rw[Qq rfl,Qq rfl];exact Li a b λz=>n (by rw[z])
  ·rw[Qp e,Qp (λz=>e z.symm)];rcases Hk x y with z | z
   ·exact .inl (Qr (ltS_of z e))
   ·exact .inr (Qr (ltS_of z λq=>e q.symm))
def Xlq{Ts:List (Za)}(nd:Ts.Nodup):Lin Ts.length λi j=>ltL (Ts.getD i []) (Ts.getD j []) where
 ig i:=Io _
 tr i j k:=Lh _ _ _
 tot i j hi hj ne:=Li _ _ λe=>ne (by
  have e1:Ts.getD i []=Ts[i]:=by simp[List.getD,hi]
  have e2:Ts.getD j []=Ts[j]:=by simp[List.getD,hj]
  rw[e1,e2] at e;exact(Pt nd).mp e)
def Xlr{Ts}(g:Gd Ts.length p)(so:Bq (λi j=>ltL (Ts.getD i []) (Ts.getD j [])) p Ts.length):
  (p.toList.map λi=>Ts.getD i []).Perm Ts/\(p.toList.map λi=>Ts.getD i []).Pairwise λa b=>ltL a b=true:=by
 constructor
 ·have e:((List.range Ts.length).map λi=>Ts.getD i [])=Ts:=by
   refine O5 (by simp) λi h1 h2=>?_;simp[Nx,List.getElem_range,List.getD,h2]
  have q:p.toList.Perm (List.range Ts.length):=by
   have:=g.toList;simpa using this
  have:=q.map λi=>Ts.getD i [];rw[e] at this;exact this
 ·rw[N2];intro i j hi hj f9;have sz:=g.size;rw[L5,Ma,sz] at hi hj;have:=so i j f9 hj;rw[Nx,Nx];have e1:p.getD i 0=p.toList[i]'(by rw[Ma,sz];exact hi):=by simp[Array.getD,sz,hi]
  have e2:p.getD j 0=p.toList[j]'(by rw[Ma,sz];exact hj):=by simp[Array.getD,sz,hj]
  rw[e1,e2] at this;exact this
section
variable {prog:au}{w:ay}{A:ax}{E:Zb}{s:ag}
theorem Xej  : ∀{us vs:List aa} {as bs:Za} (i:Nat),aB us as->aB vs bs->fin=decide (as.length<bs.length)->C (ltL as bs) s->KatLex prog w A b fin C (us.zip vs) i s
 | _,_,_,_,_,.nil,.nil,hf,h=>kat_nil (by rw[hf];exact h)
 | _,_,_,_,_,.nil,.cons _ _ _,hf,h=>kat_nil (by rw[hf];exact h)
 | _,_,_,_,_,.cons _ _ _,.nil,hf,h=>kat_nil (by rw[hf];exact h)
 | _,_,_,_,i,.cons x t r,.cons y u r',hf,h=>by
  have h:C (if x=y then ltL _ _ else decide (ltS x y)) s:=h;refine kat_cons (eqBool_str ?_);refine kat_go (λe=>kat_yes (Xej (i+1) r r' ?_ ?_)) (λe=>kat_no ?_)
  ·rw[hf];simp
  ·rw[Qq (by simpa using e)] at h;exact h
  ·have e:¬x=y:=by simpa using e
   rw[Qp e] at h;cases (b&&i==0) with
   | true=>exact oneLt_str h
   | false=>exact kat_one _ _ (PyProof.Rows.lt_str h)
def C1 (h:ao) (v:aa) (ss:Za):Prop:=∃a o xs n,v = .ref a/\h.get? a=some o/\o.cls = .type "tuple" /\ o.data = .seq xs n/\aB xs.toList ss
def Xls    (hx:C1 s.heap x as) (hy:C1 s.heap y bs) (h:C (ltL as bs) s):ai (aj prog w) A (o9 (tuples' b) x y) C E s:=by
 obtain⟨a,o,xs,n,rfl,h1,_,h2,h3⟩:=hx;obtain⟨b,o',ys,n',rfl,g1,_,g2,g3⟩:=hy;refine kat_lt h1 h2 g1 g2 (Xej 0 h3 g3 ?_ h);have e1:=h3.length;have e2:=g3.length;rw[Ma] at e1 e2;rw[e1,e2]
def C1.toS   (t:C1 h v ss) (n:ss≠[]):Xea h v:=by
 obtain⟨a,o,xs,k,e,h1,h2,h3,h4⟩:=t;exact⟨a,o,xs,k,ss,e,h1,h2,h3,h4,n⟩
def C1.kept{h h'}  (t:C1 h v ss)(k:∀b o,o.cls = .type "tuple" -> h.get? b=some o->h'.get? b=some o):C1 h' v ss:=by
 obtain⟨a,o,xs,n,e,h1,h2,h3,h4⟩:=t;exact⟨a,o,xs,n,e,k a o h2 h1,h2,h3,h4⟩
def Xek (h:ao) (vs:List aa) (Ts:List (Za)):Prop:=vs.length=Ts.length/\∀i,i<vs.length->C1 h (vs.getD i .none) (Ts.getD i [])
def Xlt     (ho:s.heap.get? a=some (aq "list" vs.toArray n)) (hv:Xek s.heap vs Ts) (dZ:[]∉Ts) (nd:Ts.Nodup) (cB:vs.length<64)
  (h:∀p:Array Nat,Gd vs.length p->Bq (λi j=>ltL (Ts.getD i []) (Ts.getD j [])) p vs.length->P (.done (.ret .none)) {s with heap:=f7 s.heap a vs (p.toList.map λi=>vs.getD i aa.none).toArray}):
  ai (aj prog w) A (av.«list.sort» ⟨[.ref a],[]⟩) P E s:=by
 rw[list_sort_plain];have ha:a<s.heap.objs.size:=Qv ho;have L:=Xlq nd;rw[<-hv.1] at L;have mem:∀i,i<vs.length->Ts.getD i []∈Ts:=λi hi=>by
  have dR:i<Ts.length:=by rw[<-hv.1];exact hi
  have:Ts.getD i []=Ts[i]:=by simp[List.getD,dR]
  rw[this];exact Mz dR
 refine Qm (cJ ho rfl ?_);refine Qm (bh ho rfl ?_);obtain⟨e1,eP⟩:∃e1,(s.heap.update a (aI.mapSeq λ_ => #[])).get? a=some (aq "list" #[] e1):=⟨_,cN ho (λ_ => #[])⟩;refine Qm (c7 eP rfl ?_);refine Qm (cR ?_);refine Qm (bD ?_);refine a7 ?_;have kr:(((s.heap.update a (aI.mapSeq λ_ => #[])).push (aq "tuple" vs.toArray 0)).push (aq "list" #[] 0)).get? a=some (aq "list" #[] e1):=by
  rw[ao.get?_push_ne _ _ _ (by rw[bd,ao.size_update];exact L9 (Nc ha)),ao.get?_push_ne _ _ _ (by rw[ao.size_update];exact L9 ha)];exact eP
 have oA:∀b o,o.cls = .type "tuple" -> s.heap.get? b=some o->(((s.heap.update a (aI.mapSeq λ_ => #[])).push (aq "tuple" vs.toArray 0)).push (aq "list" #[] 0)).get? b=some o:=λb o g2 g1=>by
  have dZ:b≠a:=λe=>by
   rw[e,ho] at g1;have e1:=Mj g1;rw[<-e1] at g2;exact absurd (show aa.type "list" = aa.type "tuple" from g2) (by decide)
  exact Qw _ (Qw _ (by rw[ao.get?_update_ne _ _ _ _ dZ];exact g1))
 have sE:∀i,i<vs.length->C1 (((s.heap.update a (aI.mapSeq λ_ => #[])).push (aq "tuple" vs.toArray 0)).push (aq "list" #[] 0)) (vs.getD i .none) (Ts.getD i []):=λi hi=>(hv.2 i hi).kept oA;show ai (aj prog w) A _ P E {s with heap:=((s.heap.update a (aI.mapSeq λ_ => #[])).push (aq "tuple" vs.toArray 0)).push (aq "list" #[] 0)};dsimp only;have hsz:vs.toArray.size=vs.length:=by simp
 by_cases h2:vs.toArray.size<2
 ·rw[Qq h2,Qq h2];refine Qm (Qn ?_);rw[StateT.run_pure];refine Qm (Qn ?_);dsimp only;refine Qm (c7 kr rfl ?_);refine Qm (bh kr rfl ?_ (hsz2:=by rw[Array.size_map];show (pairsOf vs).size<=_;rw[pairsOf_size,Qo];lia));simp only[bne_self_eq_false,My,if_false];have q:=h (List.toArray (List.range vs.length)) (Pm _) (λi j f9 hj=>by lia);refine Qn ?_;have e:(eh (fA.mk' general' (vs.toArray.zip vs.toArray) #[] 7 none)).map (·.2)=(((List.range vs.length).toArray).toList.map λi=>vs.getD i aa.none).toArray:=by
   show ((vs.toArray.zip vs.toArray).map (·.2))=_;apply Px.mp;simp only[Array.toList_map,List.zip_toArray];rw[Pe (L7 _)];refine O5 (by simp) λi h1 h2=>?_;simp[List.getD,h1]
  rw[e];exact q
 ·rw[Qp h2,Qp h2];obtain⟨fs,t1,t2,t3⟩:=Xeb (s:={s with heap:=((s.heap.update a (aI.mapSeq λ_ => #[])).push (aq "tuple" vs.toArray 0)).push (aq "list" #[] 0)}) (vs:=vs) λv hm=>by
   obtain⟨i,hi,rfl⟩:=M4.mp hm;have e:vs.getD i .none=vs[i]:=by simp[List.getD,hi]
   have:=sE i hi;rw[e] at this;exact C1.toS this λz=>dZ (z ▸ mem i hi)
  refine Qm (kat_kind (T:=.type "str") t1 (by lia) (λv hm=>?_) (by decide) ?_)
  ·obtain⟨x,t,rfl⟩:=t3 v hm;exact .now
  have eb:((aa.type "str") != aa.type "tuple")=true:=by decide
  rw[eb];refine Qm (aK (kat_run (κ:=tuples' true) (ks:=vs) (vs:=vs) (Q:=λbT s'=>s' = {s with heap:=((s.heap.update a (aI.mapSeq λ_ => #[])).push (aq "tuple" vs.toArray 0)).push (aq "list" #[] 0)}/\fB bT=none/\∃p,Gd vs.length p/\Bq (λi j=>ltL (Ts.getD i []) (Ts.getD j [])) p vs.length/\(eh bT).map (·.2)=(p.toList.map λi=>vs.getD i aa.none).toArray)
   (G:=λp s'=>s' = {s with heap:=((s.heap.update a (aI.mapSeq λ_ => #[])).push (aq "tuple" vs.toArray 0)).push (aq "list" #[] 0)}/\Gd vs.length p/\Bq (λi j=>ltL (Ts.getD i []) (Ts.getD j [])) p vs.length) rfl (by lia) cB (λp bT s' a1 a2 a3 a4=>⟨a4.1,a3,p,a4.2.1,a4.2.2,kat_snds rfl a2⟩) ?_) ?_ λ_ _ e=>e)
  ·refine Lc (n:=vs.length) (lt:=λi j=>ltL (Ts.getD i []) (Ts.getD j [])) (λi j C hi hj hC=>?_) (Il (n:=vs.length) (by lia)) ⟨rfl,(Il (n:=vs.length) (by lia)).run,Xei L (by lia)⟩;show ai _ _ (o9 (tuples' true) (vs.getD i aa.none) (vs.getD j aa.none)) C _ _;exact Xls (sE i hi) (sE j hj) hC
  rintro ⟨⟨⟩,bT⟩ s' ⟨rfl,hf,p,hp,so,ea⟩;dsimp only;refine Qm (c7 kr rfl ?_);have gE:=hp.size;refine Qm (bh kr rfl ?_ (hsz2:=by
   rw[ea,Md,L5,Ma,gE,Qo];lia))
  rw[hf];simp only[bne_self_eq_false,My,if_false];rw[ea];exact Qn (h p hp so)
end
section
variable {X:Cx}
end
end L2
namespace SH
open L2
def Lj  : Bp fT jf=true↔(fT = "within" -> jf=true)/\(fT = "apart" -> jf=false):=by
 unfold Bp;by_cases h:fT = "within"
 ·rw[Qq h];have n:fT ≠ "apart" := by rw[h];decide
  exact⟨λz=>⟨λ_=>z,λz=>absurd z n⟩,λz=>z.1 h⟩
 ·rw[Qp h];by_cases g:fT = "apart"
  ·rw[Qr g];constructor
   ·exact λz=>⟨λq=>absurd q h,λ_=>by simpa using z⟩
   ·intro z;rw[z.2 g];rfl
  ·rw[Qs g];exact⟨λ_=>⟨λq=>absurd q h,λq=>absurd q g⟩,λ_=>rfl⟩
def Gq:isPlotB row S=true↔S.Pairwise ltS/\(∀x∈S,x∈row)/\(∀x∈S,∀y∈row,lieR row x y = "within" -> y∈S)/\(∀x∈S,∀y∈S,lieR row x y ≠ "apart"):=by
 constructor
 ·intro h;obtain⟨h1,h2⟩:=Bw h;unfold isPlotB at h;rw[Mp] at h;have al:∀x∈S,∀y∈row,Bp (lieR row x y) (decide (y∈S))=true:=λx hx y hy=>M0.mp (M0.mp h.2 x hx) y (Ae.mpr hy);refine⟨h2,h1,λx hx y hy e=>Qt ((Lj.mp (al x hx y hy)).1 e),λx hx y hy e=>?_⟩;have:=(Lj.mp (al x hx y (h1 y hy))).2 e;rw[Qr hy] at this;cases this
 ·rintro ⟨h1,h2,h3,h4⟩;unfold isPlotB;rw[Mp,Mp];refine⟨⟨Qr (Ib h1).symm,M0.mpr λx hx=>Qr (h2 x hx)⟩,M0.mpr λx hx=>M0.mpr λy hy=>Lj.mpr ⟨λe=>Qr (h3 x hx y (Ae.mp hy) e),λe=>Qs λz=>h4 x hx y z e⟩⟩
def Lk(h:lieT a b c e = "within"):c<a/\a<e/\c<b/\b<e:=by
 unfold lieT at h;split at h
 ·exact absurd h (by decide)
 ·split at h
  ·exact absurd h (by decide)
  ·split at h
   ·rename_i q;rw[Bd] at q;by_cases p1:c<a/\a<e
    ·by_cases p2:c<b/\b<e
     ·exact⟨p1.1,p1.2,p2.1,p2.2⟩
     ·rw[Qq p1,Qp p2] at q;lia
    ·rw[Qp p1] at q;split at q<;>lia
   ·split at h
    ·exact absurd h (by decide)
    ·exact absurd h (by decide)
theorem Xel:∀{Ts:List (Za)} {xs:List V},DAll H (Ts.map Ba) xs->∃ps:List ae,xs=ps.map V.ref/\Tups H ps Ts
 | [],xs,h=>by unfold List.map DAll at h;exact⟨[],h,Tups.nil H⟩
 | T::Ts,xs,h=>by
  rw[Mw] at h;unfold DAll at h;obtain⟨v,vr,rfl,h1,h2⟩:=h;obtain⟨p,ys,rfl,hp,hy⟩:=Xkj h1;rw[K0 hy] at hp;obtain⟨ps,rfl,hq⟩:=Xel h2;exact⟨p::ps,rfl,Tups.cons hp hq⟩
theorem Xem:∀{ps:List ae} {Ts:List (Za)},Tups H ps Ts->DAll H (Ts.map Ba) (ps.map V.ref)
 | [],Ts,h=>by
  have:Ts=[]:=Nn.mp h.1.symm;rw[this];unfold List.map DAll;rfl
 | p::ps,[],h=>by have:=h.1;simp at this
 | p::ps,T::Ts,h=>by
  rw[Mw,Mw];unfold DAll;exact⟨.ref p,ps.map V.ref,rfl,Ea (h.2 0 (by simp)),Xem ⟨by simpa using h.1,λi hi=>by simpa using h.2 (i+1) (by simpa using hi)⟩⟩
def Cov (row:Za) (Us:List (Za)) (j:Nat) (Ts:List (Za)):Prop:=∀i,i<j->∀x∈row,x∉Us.getD i []->isPlotB row (srt (Us.getD i []++[x]))=true->srt (Us.getD i []++[x])∈Ts
theorem Ll{α : Type}{R}(ig:∀a,¬R a a)(tr:∀a b c,R a b->R b c->R a c):∀{A B:List α},A.Pairwise R->B.Pairwise R->(∀x,x∈A↔x∈B)->A=B
 | [],[],_,_,_=>rfl
 | [],b::_,_,_,h=>absurd ((h b).mpr Mf) (by simp)
 | a::_,[],_,_,h=>absurd ((h a).mp Mf) (by simp)
 | a::A,b::B,hA,hB,h=>by
  obtain⟨a1,a2⟩:=Oc.mp hA;obtain⟨b1,b2⟩:=Oc.mp hB;have e:a=b:=by
   rcases Mb.mp ((h a).mp Mf) with z | z
   ·exact z
   ·rcases Mb.mp ((h b).mpr Mf) with u | u
    ·exact u.symm
    ·exact absurd (tr _ _ _ (a1 b u) (b1 a z)) (ig a)
  subst e;rw[Ll ig tr a2 b2 λx=>?_];constructor
  ·intro hx;rcases Mb.mp ((h x).mp (L8 _ hx)) with z | z
   ·exact absurd (z ▸ a1 x hx) (ig a)
   ·exact z
  ·intro hx;rcases Mb.mp ((h x).mpr (L8 _ hx)) with z | z
   ·exact absurd (z ▸ b1 x hx) (ig a)
   ·exact z
def LayC (row:Za) (n:Nat) (Us:List (Za)):Prop:=∀T,T∈Us↔isPlotB row T=true/\T.length=n
def ltP (a b:Za):Prop:=a.length<b.length\/(a.length=b.length/\ltL a b=true)
structure IsPL (row:List ah) (Ts:List (List ah)):Prop where
 pw:Ts.Pairwise ltP
 mem:∀T,T∈Ts↔isPlotB row T=true
structure Lay (row:Za) (n:Nat) (Us:List (Za)):Prop where
 pw:Us.Pairwise λa b=>ltL a b=true
 mem:∀T,T∈Us↔isPlotB row T=true/\T.length=n
structure Upto (row:Za) (n:Nat) (Ts:List (Za)):Prop where
 pw:Ts.Pairwise ltP
 mem:∀T,T∈Ts↔isPlotB row T=true/\T.length<=n
end SH
namespace L2
end L2
namespace SH
open L2
def spOne:Sp:=λvs H Q _=>∃(dr sc l:ae) (xs:List V),vs=[.ref dr,.ref l]/\DrawOk H dr sc/\H l=some (.lst xs)/\l≠dr/\0<xs.length/\xs.length<=1000 /\
 ∀(i:Nat) (H':Hp),i<xs.length->DrawOk H' dr sc->But dr H H'->Q (xs.getD i .non) H'
def mostL (a b c:Za):Za:=srt ((a.filter λx=>decide (x∈b)||decide (x∈c))++(b.filter λx=>decide (x∈c) && !decide (x∈a)))
def Gr{a b:Za}(ha:a.Pairwise ltS)(hb:b.Pairwise ltS)(h:∀x,x∈a↔x∈b):a=b:=Ll Fi (λ_ _ _=>Ga) ha hb h
end SH
set_option maxHeartbeats 3200000
namespace L2
open PySem.Calls
def it5 (mask:Nat):Nat->Nat->Nat
 | 0,i=>i
 | m+1,i=>it5 mask m ((i * 5+1) % (mask+1))
def Xlu:∀i<8,∀j<8,∃m<8,it5 7 m i=j:=by decide +kernel
def Xlv:∀i<16,∀j<16,∃m<16,it5 15 m i=j:=by decide +kernel
def Xlw:∀i<32,∀j<32,∃m<32,it5 31 m i=j:=by decide +kernel
def Mask (mask:Nat):Prop:=mask=7\/mask=15\/mask=31
def Xlx(h:Mask mask):∀i<mask+1,∀j<mask+1,∃m<mask+1,it5 mask m i=j:=by
 rcases h with rfl | rfl | rfl
 ·exact Xlu
 ·exact Xlv
 ·exact Xlw
section
variable {mask:Nat}{owner:Array (Option Nat)}
abbrev Free (owner:Array (Option Nat)) (j:Nat):Prop:=owner.getD j (some 0)=none
def Xen(fuel i p):(∃j,af.layClean.free mask owner (fuel+1) i p=some j/\Free owner j) \/
  (¬Free owner i/\af.layClean.free mask owner (fuel+1) i p=af.layClean.free mask owner fuel ((i * 5+1+p / 32) % (mask+1)) (p / 32)):=by
 rw[af.layClean.free];cases hf:(List.range (af.runEnd mask i+1 - i)).find? λk=>(owner.getD (i+k) (some 0)).isNone with
 | some k=>
  left;refine⟨i+k,rfl,?_⟩;have:=List.find?_some hf;exact Option.isNone_iff_eq_none.mp this
 | none=>
  right;refine⟨λz=>?_,rfl⟩;rw[List.find?_eq_none] at hf;have hr:0<af.runEnd mask i+1 - i:=by
   unfold af.runEnd;split<;>lia
  have:=hf 0 (Nr.mpr hr);rw[Nat.add_zero] at this;have z:owner.getD i (some 0)=none:=z;rw[z] at this;exact this rfl
theorem Xeo:∀fuel i,(∃m,m<fuel/\Free owner (it5 mask m i))->∃j,af.layClean.free mask owner fuel i 0=some j/\Free owner j
 | 0,_,⟨_,h,_⟩=>absurd h (Nj _)
 | fuel+1,i,⟨m,hm,hf⟩=>by
  rcases Xen (mask:=mask) (owner:=owner) fuel i 0 with h | ⟨h1,h2⟩
  ·exact h
  ·rw[h2];cases m with
   | zero=>exact absurd hf h1
   | succ m=>exact Xeo fuel _ ⟨m,by lia,hf⟩
theorem Xep:∀c fuel i p,p<32 ^ c->i<mask+1->(∀i,i<mask+1->∃m,m<fuel/\Free owner (it5 mask m i))->∃j,af.layClean.free mask owner (fuel+c) i p=some j/\Free owner j
 | 0,fuel,i,p,hp,hi,h=>by
  have:p=0:=by lia
  subst this;exact Xeo fuel i (h i hi)
 | c+1,fuel,i,p,hp,hi,h=>by
  rcases Xen (mask:=mask) (owner:=owner) (fuel+c) i p with h' | ⟨_,h2⟩
  ·exact h'
  ·rw[<-Nat.add_assoc,h2];exact Xep c fuel _ _ (by rw[Nat.pow_succ] at hp;lia) (Qg _ (by lia)) h
def Cp (owner:Array (Option Nat)):List Nat:=owner.toList.filterMap id
def Xly(h:Free owner j):(Cp (owner.setIfInBounds j (some k))).Perm (k::Cp owner):=by
 have hj:j<owner.size:=by
  by_cases q:j<owner.size
  ·exact q
  ·have h:owner.getD j (some 0)=none:=h;simp[Array.getD,q] at h
 have h':owner.toList[j]'(by simpa using hj)=none:=by
  have h:owner.getD j (some 0)=none:=h;simpa [Array.getD,hj] using h
 unfold Cp;rw[Array.toList_setIfInBounds];have e:∀(l:List (Option Nat)) (j:Nat) (hj:j<l.length),l[j]=none->((l.set j (some k)).filterMap id).Perm (k::l.filterMap id):=by
  intro l
  induction l with
  | nil=>intro j hj;exact absurd hj (Nj _)
  | cons o l ih=>
   intro j hj hn;cases j with
   | zero=>
    have:o=none:=hn;subst this;simp
   | succ j=>
    have:=ih j (by simpa using hj) (by simpa using hn);cases o with
    | none=>simpa using this
    | some v=>
     simp only[Qd,N8,id];exact(this.cons v).trans (List.Perm.swap k v _)
 exact e _ j (by simpa using hj) h'
def Xlz(hn:(Cp owner).length<owner.size):∃j,j<owner.size/\Free owner j:=by
 refine Classical.byContradiction λz=>?_;have all:∀o∈owner.toList,o≠none:=λo ho e=>by
  obtain⟨j,hj,e2⟩:=M4.mp ho;have eM:j<owner.size:=by simpa using hj
  refine z ⟨j,eM,?_⟩;show owner.getD j (some 0)=none;rw[<-e,<-e2];simp[Array.getD,eM]
 have:(Cp owner).length=owner.toList.length:=by
  unfold Cp;generalize owner.toList=l at all;clear hn z
  induction l with
  | nil=>rfl
  | cons o l ih=>
   cases o with
   | none=>exact absurd rfl (all none Mf)
   | some v=>
    have:=ih λo ho=>all o (L8 _ ho);simp only[N8,id,Ml,this]
 exact absurd hn (by rw[this,Ma];exact Na _)
end
def Xl0(h):af.bits h<32 ^ 14:=by
 unfold af.bits;have h1:h % (2 ^ 64:Int)<2 ^ 64:=O6 _ (by decide);have h2:0<=h % (2 ^ 64:Int):=Pn _ (by decide);have:(h % (2 ^ 64:Int)).toNat<2 ^ 64:=by lia
 exact Mq this (by decide)
def Lm (mask:Nat) (acc:Option (Array (Option Nat)×Nat)) (h:Int):Option (Array (Option Nat)×Nat):=do
 let (owner,k) <-acc
 let j <-af.layClean.free mask owner (af.turns mask) (af.bits h % (mask+1)) (af.bits h)
 pure (owner.setIfInBounds j (some k),k+1)
theorem Xeq(hm:Mask mask):∀(hs:List Int) (owner:Array (Option Nat)) (k:Nat),owner.size=mask+1->(Cp owner).Perm (List.range k)->k+hs.length<=mask ->
  ∃gl,hs.foldl (Lm mask) (some (owner,k))=some (gl,k+hs.length)/\gl.size=mask+1/\(Cp gl).Perm (List.range (k+hs.length))
 | [],owner,k,h1,h2,_=>⟨owner,rfl,h1,h2⟩
 | h::hs,owner,k,h1,h2,h3=>by
  have hl:(Cp owner).length=k:=by rw[h2.length_eq,N4]
  rw[Ml] at h3;obtain⟨j0,sF,xW⟩:=Xlz (owner:=owner) (by lia);obtain⟨j,e,hf⟩:=Xep (mask:=mask) (owner:=owner) 14 (mask+1) (af.bits h % (mask+1)) (af.bits h) (Xl0 h) (Qg _ (by lia)) λi hi=>by
   obtain⟨m,lv,mB⟩:=Xlx hm i hi j0 (by lia);exact⟨m,lv,by rw[mB];exact xW⟩
  have e1:Lm mask (some (owner,k)) h=some (owner.setIfInBounds j (some k),k+1):=by
   show (do let j <-af.layClean.free mask owner (af.turns mask) (af.bits h % (mask+1)) (af.bits h);pure (owner.setIfInBounds j (some k),k+1))=_;have:af.turns mask=mask+1+14:=by unfold af.turns;lia
   rw[this,e];rfl
  rw[P3,e1];obtain⟨o',a1,a2,a3⟩:=Xeq hm hs (owner.setIfInBounds j (some k)) (k+1) (by simpa using h1) (by
   refine(Xly hf).trans ((h2.cons k).trans ?_);rw[Ng];exact(List.perm_append_singleton k (List.range k)).symm) (by lia)
  rw[show k+(h::hs).length=k+1+hs.length by rw[Ml];lia];exact⟨o',a1,a2,a3⟩
def Xl1(mask)(hs):af.layClean mask hs=(hs.toList.foldl (Lm mask) (some (Array.replicate (mask+1) none,0))).map (·.1):=by
 unfold af.layClean;rw[<-Array.foldl_toList];rfl
def Xer:∀owner,((List.range owner.size).filterMap λj=>(owner.getD j none).map (j, ·)).map (·.2)=Cp owner:=by
 intro owner;unfold Cp;rw[List.map_filterMap];have e:owner.toList=(List.range owner.size).map λj=>owner.getD j none:=by
  refine O5 (by simp) λi h1 h2=>?_;have:i<owner.size:=by simpa using h1
  simp[Array.getD,this]
 rw[e,List.filterMap_map];congr 1;funext j;show Option.map _ (Option.map _ (owner.getD j none))=owner.getD j none;cases owner.getD j none<;>rfl
def Xl2{mask finger moves}{led plain}{hs}(hm:Mask mask)(hn:hs.size<=mask):
  ∃t o,af.laid mask finger moves led plain hs=some (t,o)/\o.toList.Perm (List.range hs.size)/\t.fits hs.size=true/\t.led=led/\t.plain=plain:=by
 obtain⟨owner,e1,e2,e3⟩:=Xeq hm hs.toList (Array.replicate (mask+1) none) 0 (by simp) (by
  unfold Cp;rw[Array.toList_replicate];have:∀n,(List.replicate n (none:Option Nat)).filterMap id=[]:=λn=>by
   induction n with
   | zero=>rfl
   | succ n ih=>rw[List.replicate_succ];simpa using ih
  rw[this];exact Nv _) (by simpa using hn)
 rw[Ma,Pa] at e1 e3;have ec:af.layClean mask hs=some owner:=by rw[Xl1,e1];rfl
 unfold af.laid;rw[ec];refine⟨_,_,rfl,?_,?_,rfl,rfl⟩
 ·show (((List.range (mask+1)).filterMap λj=>(owner.getD j none).map (j, ·)).map (·.2)).Perm _;rw[<-e2,Xer];exact e3
 ·have l1:(((List.range (mask+1)).filterMap λj=>(owner.getD j none).map (j, ·))).length=hs.size:=by
   have:=congrArg List.length (Xer owner);rw[L5,e2,e3.length_eq,N4] at this;exact this
  simp only[af.fits,af.fill,Mp,beq_iff_eq,decide_eq_true_eq,Md,L5,l1];exact⟨trivial,by simpa using hn⟩
def Xl3{mask finger moves}{led plain}(hm:Mask mask):∃t,af.laid mask finger moves led plain #[]=some (t, #[])/\t.mask=mask/\t.place = #[]/\t.dummies = #[]/\t.led=led/\t.plain=plain:=by
 have ec:af.layClean mask #[]=some (Array.replicate (mask+1) none):=rfl;unfold af.laid;rw[ec];have l0:((List.range (mask+1)).filterMap λj=>((Array.replicate (mask+1) (none:Option Nat)).getD j none).map (j, ·))=[]:=by
  rw[List.filterMap_eq_nil_iff];intro j hj;have:j<mask+1:=Nr.mp hj;simp[Array.getD,this]
 refine⟨⟨mask, #[], #[],finger,led,moves,plain⟩,?_,rfl,rfl,rfl,rfl,rfl⟩;show some (_,_)=_;rw[l0];rfl
def reord (es:Array (Int×aa)) (laid:Option (af×Array Nat)):eR (Array (Int×aa)×af):=do
 let some (t,oB):=laid | unsupported "internal:set-table-without-room"
 let cj:=oB.filterMap (es[·]?)
 if cj.size != es.size then unsupported "internal:set-table-lost-an-element"
 pure (cj,t)
def Xl4(a:ae)(gm:Nat):setRelay a gm=(do
  let (es,_,t) <-fC a
  if af.sizeAbove gm > sizeLine then unsupported "set:memory"
  let (es,t) <-reord es (t.relaid (es.map (·.1)) gm)
  fm a es t):=rfl
def Xl5(s o:ae)(oC:eR Unit):setMerge s o oC=(do
  if s==o then return
  let (eo,i9,to) <-fC o
  if eo.isEmpty then return
  jB s eo.size
  let (_,_,ts) <-fC s
  match ts.road to with
  | .slotForSlot=>fm s eo {to with finger:=ts.finger,led:=ts.led&&to.led,moves:=ts.moves,plain:=ts.plain&&to.plain}
  | .clean=>
   let (es,t) <-reord eo (af.laid ts.mask ts.finger ts.moves (led:=ts.led&&to.led) (plain:=ts.plain&&to.plain) (eo.map (·.1)))
   fm s es t
  | .oneByOne=>
   for (h,x) in <-gp o [s] (some s) do
    let _ <-holding [x] (cH s x h)
    oC
    if (<-fC o).2.1 != i9 then unsupported "set.changed-during-merge"):=rfl
def Ln (es:Array (Int×aa)) (t:af):eR Unit:=do
 if !t.led&&es.size > 1 then unsupported "set:maker-not-led"
def Xl6(a:ae):jY a=(do
  let (es,i9,t) <-fC a
  if <-bP then return bI ((<-ask).params.setOrder a i9) es
  if !t.plain&&decide (es.size > 1) then return (<-gC es.size es.toList).toArray
  Ln es t
  return es):=rfl
def Xl7:∀m<16,5<=m->(af.sizeAbove (m * 2) - 1=15\/af.sizeAbove (m * 2) - 1=31)/\m<=af.sizeAbove (m * 2) - 1/\¬af.sizeAbove (m * 2) > sizeLine:=by decide +kernel
section
variable {P:au}{w:ay}{A:ax}{E:Zb}{s:ag}{a b c:ae}{ks ls:Za}
def wp_reord{es}   (h:o.toList.Perm (List.range es.size))(q:∀cj:Array (Int×aa),cj.toList.Perm es.toList->cj.size=es.size->Q (cj,t) s):
  ai (aj P w) A (reord es (some (t,o))) Q E s:=by
 have p:(o.filterMap (es[·]?)).toList.Perm es.toList:=by
  rw[Array.toList_filterMap];have:=h.filterMap (λi=>es[i]?)
  rwa [filterMap_getElem?_range] at this
 have z:(o.filterMap (es[·]?)).size=es.size:=by rw[<-Ma,p.length_eq,Ma]
 unfold reord;dsimp only;rw[z];simp only[bne_self_eq_false,My,if_false];exact Qn (q _ p z)
def Ip(hT:s.TypeIs (.ref a) "set")(h:Q true s):ai (aj P w) A (av.Frozenset.isAnySet (.ref a)) Q E s:=by
 unfold av.Frozenset.isAnySet;show ai _ _ (j5 (.ref a) (.type "set") >>= λb=>_) _ _ s;refine Qm (cE hT gP ?_);exact Qn h
def Xl8(hT:s.TypeIs (.ref a) "set")(h:Q (.type "set") s):ai (aj P w) A (av.Frozenset.baseOf a) Q E s:=by
 unfold av.Frozenset.baseOf;refine Qm (cE hT gP ?_);exact Qn h
def SSet.typeIs(S:SSet P w s.heap a ks):s.TypeIs (.ref a) "set" := by
 obtain⟨o,_,_,_,_,ho,hex,_⟩:=S;exact⟨o,ho,hex.1⟩
structure Nu (w:ay) (h:ao) (a:ae) (n:Nat):Prop where
 ex:∃o ep t,h.get? a=some o/\o.ExactSet/\o.data = .set #[] ep t/\t.place = #[]/\t.dummies = #[]/\Mask t.mask/\n<=t.mask/\t.led = !A4 w/\t.plain=true
def Xl9{t:af}(h1:t.place = #[])(h2:t.dummies = #[]):t.fits 0=true:=by
 simp[af.fits,af.fill,h1,h2]
def Xma    (ho:s.heap.get? a=some o) (hex:o.ExactSet) (hd:o.data = .set #[] ep (.fresh 0 0 (!A4 w))) (hn:n<16)
  (h:∀h',ao.SameBut a s.heap h'->Nu w h' a n->Q () {s with heap:=h'}):ai (aj P w) A (jB a n) Q E s:=by
 have hf:(af.fresh 0 0 (!A4 w)).fits (#[]:Array (Int×aa)).size=true:=rfl;unfold jB;refine Qm (a9 ho hd hf ?_);dsimp only;by_cases hr:n * 5 ≥ 21
 ·have e:(af.fresh 0 0 (!A4 w)).roomFor n=some (n * 2):=by
   unfold af.roomFor;rw[Qq (by show (0+0+n) * 5 ≥ 7 * 3;lia)];show some ((0+n) * 2)=_;rw[Pa]
  rw[e];dsimp only;rw[Xl4];refine Qm (a9 ho hd hf ?_);dsimp only;obtain⟨m1,m2,m3⟩:=Xl7 n hn (by lia);have hM:Mask (af.sizeAbove (n * 2) - 1):=.inr m1;rw[Qp m3];obtain⟨t,e1,t1,t2,t3,t4,t5⟩:=Xl3 (finger:=(af.fresh 0 0 (!A4 w)).finger) (moves:=(af.fresh 0 0 (!A4 w)).movedTo (af.sizeAbove (n * 2) - 1)) (led := !A4 w) (plain:=true) hM;have e2:(af.fresh 0 0 (!A4 w)).relaid ((#[]:Array (Int×aa)).map (·.1)) (n * 2)=some (t, #[]):=by
   unfold af.relaid;rw[Array.map_empty];exact e1
  rw[e2];refine Qm (wp_reord (es := #[]) (by simp) λcj p z=>?_);have:cj = #[]:=Array.eq_empty_of_size_eq_zero z;subst this;refine aX ho hd ?_ (M3 _);have g:=ao.get?_update_self (aI.putSet #[] t) ho (by rw[bH #[] t hd];rfl);rw[bH #[] t hd] at g;exact h _ (Qx _ a _) ⟨_,ep+1,t,g,hex,rfl,t2,t3,by rw[t1];exact hM,by rw[t1];exact m2,t4,t5⟩
 ·have e:(af.fresh 0 0 (!A4 w)).roomFor n=none:=by
   unfold af.roomFor;rw[Qp (by show ¬(0+0+n) * 5 ≥ 7 * 3;lia)]
  rw[e];exact Qn (h _ (ao.SameBut.refl a _) ⟨o,ep,_,ho,hex,hd,rfl,rfl,.inl rfl,by show n<=7;lia,rfl,rfl⟩)
def Xmb{id}  {ep}(ho:s.heap.get? c=some o)(hex:o.ExactSet)(hd:o.data = .set #[] ep (.fresh 0 0 (!A4 w)))(S:SSet P w s.heap b ls)(hl:ls.length<16)(xX:c≠b)
  (h:∀h',ao.SameBut c s.heap h'->SSet P w h' c ls->Q () {s with heap:=h'}):ai (aj P w) A (av.Frozenset.merge id c b) Q E s:=by
 obtain⟨ob,eo,BL,to,BM,vB,xY,sG,sH,oD,vC,sI,sJ,qA,oE⟩:=S;have hz:eo.size=ls.length:=by
  have:=oD.length;rw[L5,Ma] at this;rw[this,vC.length_eq]
 unfold av.Frozenset.merge;refine Qm (bK vB sG sJ ?_);rw[Xl5];rw[Qp (by simpa using xX)];refine Qm (a9 vB sG sJ ?_);dsimp only;by_cases he:eo.isEmpty=true
 ·rw[Qq he];have e0:eo = #[]:=by simpa using he
  have:ls=[]:=Nn.mp (by rw[<-hz,e0];rfl);subst this;exact Qn (h _ (ao.SameBut.refl c _) ⟨o, #[],ep,_,[],ho,hex,hd,λe he=>by simp at he,.nil,Nv _,by decide,rfl,rfl,λ_=>rfl⟩)
 ·rw[Qp he];refine Qm (Xma ho hex hd (by rw[hz];exact hl) λh1 jC nu=>?_);obtain⟨o1,oF,t1,eP,sK,iA,p1,p2,hM,vD,l1,kt⟩:=nu.ex;have lg:t1.fits (#[]:Array (Int×aa)).size=true:=Xl9 p1 p2;refine Qm (a9 (s:={s with heap:=h1}) eP iA lg ?_);dsimp only;have fin:∀(cj:Array (Int×aa)) (t':af),cj.toList.Perm eo.toList->t'.fits cj.size=true->t'.led = !A4 w->(t'.plain=true->cj.size=0)->Q () {s with heap:=h1.update c (aI.putSet cj t')}:=λcj t' pp ff fl fp=>by
   obtain⟨mq,bT,q'⟩:=Hh pp oD;have z':cj.size=eo.size:=by rw[<-Ma,pp.length_eq,Ma]
   have g:=ao.get?_update_self (aI.putSet cj t') eP (by rw[bH cj t' iA];rfl);rw[bH cj t' iA] at g;exact h _ (jC.trans (Qx _ c _)) ⟨_,cj,oF+1,t',mq,g,sK,rfl,sH.perm pp,bT,q'.trans vC,by rw[z'];exact sI,ff,fl,fp⟩
  have oG:t1.road to=if (t1.mask==to.mask&&to.dummies.isEmpty)=true then af.Road.slotForSlot else af.Road.clean:=by
   unfold af.road;have:(t1.fill != 0)=false:=by simp[af.fill,p1,p2]
   rw[this,Qp (by decide)]
  rw[oG];by_cases hr:(t1.mask==to.mask&&to.dummies.isEmpty)=true
  ·rw[Qq hr];dsimp only;refine aX (s:={s with heap:=h1}) eP iA ?_ (aS sI);exact fin eo _ (Nv _) sJ (by show (t1.led&&to.led)=_;rw[l1,qA,P1]) (by show (t1.plain&&to.plain)=true->_;rw[kt,Oh];exact oE)
  ·rw[Qp hr];dsimp only;obtain⟨t2,od,e1,e2,e3,e4,e5⟩:=Xl2 (finger:=t1.finger) (moves:=t1.moves) (led:=t1.led&&to.led) (plain:=t1.plain&&to.plain) (hs:=eo.map (·.1)) hM (by rw[Array.size_map];exact vD);rw[e1];rw[Array.size_map] at e2 e3;refine Qm (wp_reord e2 λcj pp zz=>?_);refine aX (s:={s with heap:=h1}) eP iA ?_ (aS (by rw[zz];exact sI));exact fin cj t2 pp (by rw[zz];exact e3) (by rw[e4,l1,qA,P1]) (by rw[e5,kt,Oh,zz];exact oE)
def Wl (P:au) (w:ay) (wl:Array (Int×aa)) (ks:Za):Prop:=dG (PySem.strKind P w) wl.toList/\∃zs,aB (wl.toList.map (·.2)) zs/\zs.Perm ks
def Xmc{es wl:Array (Int×aa)}(dq:dG (PySem.strKind P w) es.toList)(hs:aB (es.toList.map (·.2)) vi)(hp:vi.Perm ks)(pp:wl.toList.Perm es.toList):Wl P w wl ks:=by
 obtain⟨zs,st,q⟩:=Hh pp hs;exact⟨dq.perm pp,zs,st,q.trans hp⟩
theorem Xes  (hf:∀(x:Int×aa) (r:Option Bool×Unit),(∀p,x.2 ≠ .ref p)->f x r=pure (.yield (none,()))):
  ∀(l:List (Int×aa)),(∀e∈l,∀p,e.2 ≠ .ref p)->Q (none,()) s->ai (aj P w) A (forIn l (none,()) f) Q E s
 | [],_,h=>by rw[Ps];exact Qn h
 | x::l,hn,h=>by
  rw[Ph,hf x _ (hn x Mf)];exact Qm (Qn (Xes hf l (λe he=>hn e (L8 _ he)) h))
end
section
variable {P:au}{w:ay}{A:ax}{E:Zb}{s:ag}{a b c:ae}{ks ls:Za}
def Xet(h:dG (PySem.strKind P w) l):∀e∈l,∀p,e.2 ≠ .ref p:=λe he p z=>by
 have:=(h e he).2;rw[z] at this;cases this
def Xeu  (hf:∀(x:Int×aa) (r:Option Bool×Unit),(∀p,x.2 ≠ .ref p)->f x r=pure (.yield (none,())))
  {es:Array (Int×aa)} (hn:∀e∈es.toList,∀p,e.2 ≠ .ref p) (h:Q (none,()) s):ai (aj P w) A (forIn es (none,()) f) Q E s:=by
 rw[<-Oz];exact Xes hf _ hn h
def Xmd(S:SSet P w s.heap a ks)(F:SSet P w s.heap b ls)(h:Q true s):ai (aj P w) A (BN [a,b]) Q E s:=by
 obtain⟨o,es,ep,t,l0,ho,hex,hd,dq,cu,hp,hb,hf,hl,bM⟩:=S;obtain⟨o',cj,iY,t',BO,dO,xZ,fO,sL,ya,kZ,dn,yb,m8,yc⟩:=F;have hq:∀(x:Int×aa) (r:Option Bool×Unit),(∀p,x.2 ≠ .ref p)->(match x.2 with
   | aa.ref a=>do
    let gU <-specialOf x.2 (ah.ofString "__eq__")
    if (gU != some (aa.builtin "object.__eq__"))=true then pure (ForInStep.done (some false,())) else pure (ForInStep.yield (none,()))
   | x=>pure (ForInStep.yield (none,())):eR (ForInStep (Option Bool×Unit)))=pure (.yield (none,())):=λx r hx=>by
  split
  ·rename_i e;exact absurd e (hx _)
  ·rfl
 unfold BN;simp only[Ph,Ps];refine Qm (Qm (Qm (bY ho hd hf (Qm (Xeu hq (Xet dq) (Qn ?_))))));refine Qm (Qm (bY dO fO yb (Qm (Xeu hq (Xet sL) (Qn ?_)))));exact Qn (Qn h)
def wp_unseen(S:SSet P w s.heap a ks)(F:SSet P w s.heap c ls)(jh:a≠c)
  (h:∀wl h' d,Wl P w wl ks->ao.SameBut c s.heap h'->SSet P w h' c ls->Q wl {s with heap:=h',drawn:=d}):ai (aj P w) A (gp a [c] (some c)) Q E s:=by
 obtain⟨o,es,ep,t,l0,ho,hex,hd,dq,cu,hp,hb,hf,hl,bM⟩:=id S;have oH:∀wl:Array (Int×aa),wl.toList.Perm es.toList->Wl P w wl ks:=λwl pp=>Xmc dq cu hp pp;have walk:ai (aj P w) A (jY a) Q E s:=by
  rw[Xl6];refine Qm (a9 ho hd hf ?_);dsimp only;unfold bP;refine Qm (Qm (aJ (Qn ?_)));show ai _ _ (if A4 w=true then _ else _) _ _ s;cases hw:A4 w with
  | true=>
   rw[Qq rfl];refine Qm (aJ (Qn ?_));exact h _ s.heap s.drawn (oH _ (Xcd _ es)) (ao.SameBut.refl c _) F
  | false=>
   rw[Qp (by decide)];by_cases hc:(!t.plain&&decide (es.size > 1))=true
   ·rw[Qq hc];refine Qm (Xce _ _ _ _ (Ma) λos d po=>Qn ?_);exact h _ s.heap d (oH _ (by simpa using po)) (ao.SameBut.refl c _) F
   ·rw[Qp hc];have hm:Ln es t=pure ():=by
     unfold Ln;rw[hl,hw];rfl
    refine Qm (ed hm (Qn ?_));exact h _ s.heap s.drawn (oH _ (Nv _)) (ao.SameBut.refl c _) F
 unfold gp;refine Qm (a9 ho hd hf ?_);dsimp only;unfold bP;refine Qm (Qm (aJ (Qn ?_)));show ai _ _ (if (A4 w||(t.led&&t.plain)||decide (es.size<=1))=true then jY a else _) _ _ s;by_cases hc:(A4 w||(t.led&&t.plain)||decide (es.size<=1))=true
 ·rw[Qq hc];exact walk
 ·rw[Qp hc];refine Qm (Xmd S F ?_);simp only[Pj,My,if_false];refine Qm (b8 ?_);obtain⟨oc,ec,yd,tc,lc,jo,sM,qN,sN,sO,ye,vE,vF,yf,sP⟩:=id F;refine Qm (a9 jo qN vF ?_);dsimp only;by_cases hs:((tc.led && !t.led)||(tc.plain && !t.plain))=true
  ·rw[Qq hs];refine Qm (aX jo qN (Qn ?_) (aS vE));obtain⟨g,S1⟩:_/\SSet P w (s.heap.update c (aI.putSet ec {tc with led:=tc.led&&t.led,plain:=tc.plain&&t.plain})) c ls:=by
    have g:=ao.get?_update_self (aI.putSet ec {tc with led:=tc.led&&t.led,plain:=tc.plain&&t.plain}) jo (by rw[bH ec _ qN];rfl);rw[bH ec _ qN] at g;exact⟨g,_,ec,yd+1,_,lc,g,sM,rfl,sN,sO,ye,vE,vF,by show (tc.led&&t.led)=_;rw[yf,hl,P1],by
     show (tc.plain&&t.plain)=true->_;intro z;rw[Mp] at z;exact sP z.1⟩
   exact h _ _ s.drawn (oH _ (Nv _)) (Qx _ c _) S1
  ·rw[Qp hs];exact Qn (h _ s.heap s.drawn (oH _ (Nv _)) (ao.SameBut.refl c _) F)
def xor1 (ks:Za) (x:ah):Za:=if x∈ks then ks.erase x else ks++[x]
def Iq{α : Type}(xs:Array α)(i):(af.eraseAt xs i).toList=xs.toList.eraseIdx i:=by
 unfold af.eraseAt;rw[Array.toList_append,Array.toList_extract,Array.toList_extract,List.eraseIdx_eq_take_drop_succ];simp[List.extract];exact N0 (by simp)
theorem Xev:∀(l:Za),l.Nodup->∀(j:Nat) (hj:j<l.length),l.erase l[j]=l.eraseIdx j
 | x::l,nd,0,_=>by simp
 | x::l,nd,j+1,hj=>by
  obtain⟨h1,h2⟩:=M9.mp nd;have eM:j<l.length:=by simpa using hj
  have ne:x≠l[j]:=λe=>h1 (e ▸ Mz eM);rw[List.getElem_cons_succ,List.eraseIdx_cons_succ,List.erase_cons_tail (by simpa using ne),Xev l h2 j eM]
theorem Xew{α β : Type}(f : α -> β):∀(l:List α) (j:Nat),(l.eraseIdx j).map f=(l.map f).eraseIdx j
 | [],_=>rfl
 | x::l,0=>rfl
 | x::l,j+1=>by simp[Xew f l j]
theorem Xex:∀{vs:List aa} {ls:Za} (i:Nat),aB vs ls->aB (vs.eraseIdx i) (ls.eraseIdx i)
 | _,_,_,.nil=>by simp;exact .nil
 | _,_,0,.cons x t h=>h
 | _,_,i+1,.cons x t h=>.cons x t (Xex i h)
def Xme  (h:aB vs ls) {i} (hi:i<vs.length):∃t,vs[i] = .str (ls.getD i ah.empty) t:=by
 induction h generalizing i with
 | nil=>exact absurd hi (Nj _)
 | cons x t _ ih=>
  cases i with
  | zero=>exact⟨t,rfl⟩
  | succ i=>exact ih (by simpa using hi)
def Xmf   (S:SSet P w s.heap a ks) (nd:ks.Nodup) (hr:ks.length+1<aN)
  (h:∀h',ao.SameBut a s.heap h'->SSet P w h' a (xor1 ks x)->Q () {s with heap:=h'}):
  ai (aj P w) A (holding [.str x tk] do
   if !(<-dS a (.str x tk) ((PySem.strKind P w).hash x)) then
    let _ <-cH a (.str x tk) ((PySem.strKind P w).hash x)) Q E s:=by
 obtain⟨o,es,ep,t,l0,ho,hex,hd,dq,hs,hp,hb,hf,hl,bM⟩:=id S;have fq:(PySem.strKind P w).is x (.str x tk)=true:=fk P w x tk;have cO:x∈ks ↔ ∃e∈es.toList,(PySem.strKind P w).is x e.2=true:=hp.mem_iff.symm.trans (Xb8 hs);have aG:es.size=ks.length:=by
  have:=hs.length;rw[L5,Ma] at this;rw[this,hp.length_eq]
 refine a7 (Qm ?_);unfold dS setFind setFindIn;refine Qm (Qm (a9 ho hd hf ?_));dsimp only;rw[BC (knd:=PySem.strKind P w) rfl hb dq];simp only[↓reduceIte];refine Qm (b8 (Qm (lf fq ho hd hf dq ?_)));cases lg:List.findIdx? (λe=>(PySem.strKind P w).is x e.2) es.toList with
 | none=>
  dsimp only;have hx:x∉ks:=λz=>by
   obtain⟨e,he,q⟩:=cO.mp z;have:=List.findIdx?_eq_none_iff.mp lg e he;rw[q] at this;cases this
  refine Qn (Qn ?_);simp only[Bool.not_false,if_true];refine Qm (sset_add S hr λb h' sb S'=>Qn ?_);refine h h' sb ?_;unfold xor1;rw[Qp hx];rw[Qp hx] at S';exact S'
 | some j=>
  dsimp only;obtain⟨hj,nW,_⟩:=Pi.mp lg;have hx:x∈ks:=cO.mpr ⟨es.toList[j],Mz hj,nW⟩;rw[Pa];refine Qn ?_;dsimp only;refine Qm (a9 ho hd hf ?_);dsimp only;have yg:j<es.size:=by simpa using hj
  have zE:(af.eraseAt es j).size=es.size - 1:=by
   rw[<-Ma,Iq,Ov hj,Ma]
  refine Qm (aX ho hd ?_ (aS (by rw[zE];lia)));refine Qm (wpAny_point (Qn ?_));simp only[Pj,My,if_false];refine Qn ?_;have g:=ao.get?_update_self (aI.putSet (af.eraseAt es j) (t.drop j)) ho (by rw[bH _ _ hd];rfl);rw[bH _ _ hd] at g;have vG:t.place.size=es.size/\t.fill<=t.mask:=by
   simpa [af.fits,Mp] using hf
  have iB:(t.drop j).fits (es.size - 1)=true/\(t.drop j).led=t.led/\(t.drop j).plain=t.plain:=by
   unfold af.drop;have vH:j<t.place.size:=by rw[vG.1];exact yg
   rw[getElem?_pos t.place j vH];dsimp only;refine⟨?_,rfl,rfl⟩;have z1:(af.eraseAt t.place j).size=t.place.size - 1:=by
    rw[<-Ma,Iq,Ov (by simpa using vH),Ma]
   have z2:∀p v,(af.insertAt t.dummies p v).size=t.dummies.size+1:=λp v=>by
    have:=(af.insertAt_perm t.dummies p v).length_eq;simpa using this
   simp only[af.fits,af.fill,Mp,beq_iff_eq,decide_eq_true_eq,z1,z2];have:=vG.2;unfold af.fill at this
   lia
  have sQ:l0.getD j ah.empty=x:=by
   obtain⟨tt,e⟩:=Xme hs (i:=j) (by simpa using hj);rw[Nx] at e;rw[e] at nW;obtain⟨t3,e3⟩:=aa.isStrOf_shape (x:=x) (v:=.str (l0.getD j ah.empty) tt) nW;injection e3
  have BP:l0.length=es.size:=by
   have:=hs.length;rw[L5,Ma] at this;exact this.symm
  have yh:l0.Nodup:=hp.nodup_iff.mpr nd;have yi:l0.eraseIdx j=l0.erase x:=by
   have sF:j<l0.length:=by lia
   have e:l0[j]=x:=by rw[<-sQ];simp[List.getD,sF]
   rw[<-e];exact(Xev l0 yh j sF).symm
  refine h _ (Qx _ a _) ⟨_,_,ep+1,_,l0.eraseIdx j,g,hex,rfl,?_,?_,?_,by rw[zE];lia,by rw[zE];exact iB.1,iB.2.1.trans hl,?_⟩
  ·intro e he;rw[Iq] at he;exact dq e (List.mem_of_mem_eraseIdx he)
  ·rw[Iq];have:(es.toList.eraseIdx j).map (·.2)=(es.toList.map (·.2)).eraseIdx j:=by
    exact Xew _ _ _
   rw[this];exact Xex j hs
  ·rw[yi];unfold xor1;rw[Qq hx];exact hp.erase x
  ·rw[iB.2.2,zE];intro z;rw[bM z]
end
def Xmg (a:ae) (h:Int) (x:aa):eR Unit:=holding [x] do
 if !(<-dS a x h) then
  let _ <-cH a x h
def Xey(ks)(x):(xor1 ks x).length<=ks.length+1:=by
 unfold xor1;split
 ·exact Nat.le_succ_of_le (List.length_erase_le ..)
 ·rw[Mg];exact L7 _
def Xez  (h:ks.Nodup):(xor1 ks x).Nodup:=by
 unfold xor1;split
 ·exact h.erase x
 ·rename_i hx;exact N3.mpr ⟨h,by simp,λa ha b hb e=>hx (by rw[Mi.mp hb] at e;exact e ▸ ha)⟩
def Xmh  (h:ks.Nodup):y∈xor1 ks x↔(y∈ks/\y≠x)\/(y=x/\x∉ks):=by
 unfold xor1;split
 ·rename_i hx;rw[h.mem_erase_iff];constructor
  ·exact λz=>.inl ⟨z.2,z.1⟩
  ·rintro (z | z)
   ·exact⟨z.2,z.1⟩
   ·exact absurd hx z.2
 ·rename_i hx;rw[Mm,Mi];constructor
  ·rintro (z | z)
   ·exact .inl ⟨z,λe=>hx (e ▸ z)⟩
   ·exact .inr ⟨z,hx⟩
  ·rintro (z | z)
   ·exact .inl z.1
   ·exact .inr z.1
theorem Xe0:∀(zs ms:Za),ms.Nodup->zs.Nodup->(zs.foldl xor1 ms).Nodup/\(zs.foldl xor1 ms).length<=ms.length+zs.length/\∀y,y∈zs.foldl xor1 ms↔(y∈ms/\y∉zs)\/(y∉ms/\y∈zs)
 | [],ms,h,_=>⟨h,L7 _,λy=>by simp⟩
 | z::zs,ms,h,hz=>by
  obtain⟨n1,n2⟩:=M9.mp hz;obtain⟨a1,a2,a3⟩:=Xe0 zs (xor1 ms z) (Xez h) n2;refine⟨a1,?_,λy=>?_⟩
  ·have:=Xey ms z;rw[Ml];rw[P3]
   lia
  ·rw[P3,a3,Xmh h,Mb];by_cases e:y=z
   ·subst e;by_cases g:y∈ms<;>simp[g,n1]
   ·by_cases g:y∈ms<;>simp[g,e]
section
variable {P:au}{w:ay}{A:ax}{E:Zb}{s:ag}{a b c:ae}{ks ls:Za}
theorem Xe1{id}   (hf:∀x u,f x u=(do Xmg c x.1 x.2; av.Frozenset.unchanged id a ep;pure (.yield ⟨⟩)))   (hd:o.data = .set es ep t)(jc:t.fits es.size=true)(jh:a≠c):
  ∀l zs ms s Q,s.heap.get? a=some o->dG (PySem.strKind P w) l->aB (l.map (·.2)) zs->SSet P w s.heap c ms->ms.Nodup->ms.length+l.length<aN ->
   (∀h',ao.SameBut c s.heap h'->SSet P w h' c (zs.foldl xor1 ms)->Q ⟨⟩ {s with heap:=h'})->ai (aj P w) A (forIn l PUnit.unit f) Q E s
 | [],zs,ms,s,Q,_,_,hz,hS,_,_,h=>by
  rw[Ps];cases hz;exact Qn (h s.heap (ao.SameBut.refl c _) hS)
 | (hh,x)::l,zs,ms,s,Q,ho,dq,hz,hS,nd,hb,h=>by
  have yj:aB (x::l.map (·.2)) zs:=hz;clear hz;cases yj with
  | cons y t' hz=>
   obtain⟨⟨k,hk,he⟩,_⟩:=dq.head;have hk:(PySem.strKind P w).is k (.str y t')=true:=hk;obtain⟨t3,e3⟩:=aa.isStrOf_shape (x:=k) (v:=.str y t') hk;injection e3 with e3 _
   subst e3;have he:hh=(PySem.strKind P w).hash y:=he;subst he;rw[Ml] at hb;rw[Ph,hf];refine Qm (Qm (Xmf hS nd (by lia) λh1 jC S1=>?_));have eP:h1.get? a=some o:=(jC.2 a jh).trans ho;refine Qm ?_;unfold av.Frozenset.unchanged;refine Qm (bK (s:={s with heap:=h1}) eP hd jc ?_);simp only[bne_self_eq_false,My,if_false];refine Qn (Qn ?_);have hl:=Xey ms y;exact Xe1 hf hd jc jh l _ (xor1 ms y) {s with heap:=h1} Q eP dq.tail hz S1 (Xez nd) (by lia) λh2 oI S2=>h h2 (jC.trans oI) S2
def Xe2 (i:String) (l:ae) (r:aa):eR aa:=do
 let gq <-av.Frozenset.newFrom i (<-av.Frozenset.baseOf l) r
 holding [gq] (av.Frozenset.symmetricDifferenceUpdate i (<-av.Frozenset.addrOf gq) (.ref l))
 return gq
def Xmi(x y:aa):av.«frozenset.__xor__» ⟨[x,y],[]⟩=(do
  let (self,aF) <-av.Frozenset.slot1 "__xor__" ⟨[x,y],[]⟩
  let (l,r):=if false then (aF,self) else (self,aF)
  if !(<-av.Frozenset.isAnySet l <&&> av.Frozenset.isAnySet r) then rule s!"frozenset.{"__xor__"}.declined"; return <-ret .notImplemented
  ret (<-Xe2 s!"frozenset.{"__xor__"}" (<-av.Frozenset.addrOf l) r)):=rfl
def Xmj   (S:SSet P w s.heap a ks) (F:SSet P w s.heap c ms) (jh:a≠c) (hk:ks.Nodup) (hm:ms.Nodup) (l1:ks.length<16) (l2:ms.length<16)
  (h:∀h' d zs,ao.SameBut c s.heap h'->SSet P w h' c zs->zs.Nodup->zs.length<=32->(∀y,y∈zs↔(y∈ms/\y∉ks)\/(y∉ms/\y∈ks))->Q () {s with heap:=h',drawn:=d}):
  ai (aj P w) A (av.Frozenset.symmetricDifferenceUpdate i c (.ref a)) Q E s:=by
 obtain⟨o,es,ep,t,l0,ho,hex,hd,dq,cu,hp,hb,hf,hl,bM⟩:=id S;unfold av.Frozenset.symmetricDifferenceUpdate;rw[Qp (by simpa using jh)];refine Qm (cI (T := "set") S.typeIs ?_);rw[Qp (by decide)];refine Qm (Ip S.typeIs ?_);rw[Qq rfl];refine Qm (Qn ?_);refine Qm (Qn ?_);refine Qm (bK ho hd hf ?_);refine a7 (Qm (wp_unseen S F jh λwl h1 d W jC S1=>?_));obtain⟨sR,zs,nX,q1⟩:=W;rw[<-Oz];have eP:h1.get? a=some o:=(jC.2 a jh).trans ho;have nA:wl.toList.length=ks.length:=by
  have:=nX.length;rw[L5] at this;rw[this,q1.length_eq]
 have oJ:zs.Nodup:=q1.nodup_iff.mpr hk;obtain⟨x1,x2,x3⟩:=Xe0 zs ms hm oJ;refine Qm (Xe1 (id:=i) (c:=c) (a:=a) (s:={s with heap:=h1,drawn:=d}) (λx u=>rfl) hd hf jh wl.toList zs ms _ eP sR nX S1 hm (by rw[nA];unfold aN;lia) λh2 oI S2=>Qn ?_);refine h h2 d _ (jC.trans oI) S2 x1 ?_ λy=>?_
 ·have:=q1.length_eq
  lia
 ·rw[x3,q1.mem_iff]
def Xmk(S:SSet P w s.heap a ks)(F:SSet P w s.heap b ls)(hk:ks.Nodup)(hl:ls.Nodup)(l1:ks.length<16)(l2:ls.length<16)
  (h:∀h' d zs,(∀e o,s.heap.get? e=some o->h'.get? e=some o)->SSet P w h' s.heap.objs.size zs->zs.Nodup->zs.length<=32->(∀y,y∈zs↔(y∈ls/\y∉ks)\/(y∉ls/\y∈ks))->Q (.ref s.heap.objs.size) {s with heap:=h',drawn:=d}):
  ai (aj P w) A (bC .BitXor (.ref a) (.ref b)) Q E s:=by
 have ha:=S.typeIs;have hb:=F.typeIs;have la:a<s.heap.objs.size:=by obtain⟨o,_,_,_,_,g,_⟩:=S;exact Qv g
 have lb:b<s.heap.objs.size:=by obtain⟨o,_,_,_,_,g,_⟩:=F;exact Qv g
 have eX:i4 table "set.__xor__" = some av.«frozenset.__xor__»:=fu (id' := "frozenset.__xor__") (by kernel_rfl) rfl (by decide +kernel) (by kernel_rfl);refine wpAny_binaryOp_same (T := "set") (id := "set.__xor__") ha hb PySem.F.fills_set_xor PySem.F.slot_set_xor (aU PySem.F.slot_set_xor ha eX ?_ (PySem.F.args_set_xor_2 _ _));rw[Xmi];unfold av.Frozenset.slot1 og;simp only[List.isEmpty_nil,Pj,My, ↓reduceIte,bind_assoc,Oo,Ml,bne_self_eq_false,pure_bind];refine Qm ?_;show ai _ _ (av.Frozenset.isAnySet (.ref a) >>= λb1=>_) _ _ s;refine Qm (Ip ha ?_);show ai _ _ (av.Frozenset.isAnySet (.ref b)) _ _ s;refine Ip hb ?_;simp only[Pj,My, ↓reduceIte];refine Qm ?_;show ai _ _ (pure a) _ _ s;refine Qn ?_;refine Qm ?_;unfold Xe2;refine Qm (Xl8 ha ?_);refine Qm ?_;unfold av.Frozenset.newFrom newSet bP;refine Qm (Qm (Qm (aJ (Qn ?_))));dsimp only;simp only[newObj];refine Qm (iy (Qn ?_));have keep:∀e o,s.heap.get? e=some o->(s.heap.push {cls:=.type "set",dict:=none,data:=.set #[] 0 (.fresh 0 0 (!A4 w))}).get? e=some o:=λe o q=>Qw _ q;refine Qm ?_;show ai _ _ (pure s.heap.objs.size) _ _ _;refine Qn ?_;refine Qm (a7 ?_);unfold av.Frozenset.updateFrom;have F1:SSet P w (s.heap.push {cls:=.type "set",dict:=none,data:=.set #[] 0 (.fresh 0 0 (!A4 w))}) b ls:=F.stay λo q=>keep b o q;refine Qm (Ip (s:={s with heap:=s.heap.push {cls:=.type "set",dict:=none,data:=.set #[] 0 (.fresh 0 0 (!A4 w))} }) F1.typeIs ?_);rw[Qq rfl];unfold av.Frozenset.addrOf;refine Qm (Qn ?_);refine Xmb (s:={s with heap:=s.heap.push {cls:=.type "set",dict:=none,data:=.set #[] 0 (.fresh 0 0 (!A4 w))} }) (c:=s.heap.objs.size) (ep:=0) (ao.get?_push_size _ rfl) ⟨rfl,rfl,rfl⟩ rfl F1 l2 (P7 lb) λh1 jC S1=>?_;refine Qn ?_;have k1:∀e o,s.heap.get? e=some o->h1.get? e=some o:=λe o q=>(jC.2 e (L9 (Qv q))).trans (keep e o q);refine Qm (Qn ?_);refine Qm (a7 (Xmj (s:={s with heap:=h1}) (S.stay λo q=>k1 a o q) S1 (L9 la) hk hl l1 l2 λh2 d zs oI S2 n2 z2 m2=>?_));refine Qn (Qn ⟨_,rfl,by simp,?_⟩);exact h h2 d zs (λe o q=>(oI.2 e (L9 (Qv q))).trans (k1 e o q)) S2 n2 z2 m2
end
section
variable {X:Cx}
def Xe3:OpR X (bC .BitXor) (λx y H Q=>∃a b ks ls,x = .ref a/\y = .ref b/\H a=some (D4 X.prog X.w a ks)/\H b=some (D4 X.prog X.w b ls)/\ks.Nodup/\ls.Nodup/\ks.length<16/\ls.length<16 /\
  ∀c zs,H c=none->zs.Nodup->zs.length<=32->(∀y,y∈zs↔(y∈ls/\y∉ks)\/(y∉ls/\y∈ks))->Q (.ref c) (upd H c (D4 X.prog X.w c zs))):=by
 intro pins s Z H x y v u Q I rx ry h;obtain⟨a,b,ks,ls,rfl,rfl,ha,hb,nk,nl,l1,l2,q⟩:=h;cases rx;cases ry;obtain⟨S,_⟩:=(show A3 X.prog X.w H s.heap a (.ext λh=>SSet X.prog X.w h a ks) from I.hok a _ ha);obtain⟨F,_⟩:=(show A3 X.prog X.w H s.heap b (.ext λh=>SSet X.prog X.w h b ls) from I.hok b _ hb);refine Xmk S F nk nl l1 l2 λh' d zs k S' n' z' m'=>?_;refine⟨.ref s.heap.objs.size,_,I.laidM (s':={s with heap:=h',drawn:=d}) k rfl rfl (L7 _) ?_,rfl,q _ zs (I.hok.fresh (L7 _)) n' z' m'⟩;exact⟨S',by obtain⟨o,_,_,_,_,g,_⟩:=S';exact⟨o,g⟩,λh1 h2 S1 kk=>S1.stay kk⟩
end
end L2
set_option maxHeartbeats 4000000
namespace SH
open L2
def Ap (a b:Za):Za:=srt ((a.filter λx => !decide (x∈b))++(b.filter λx => !decide (x∈a)))
def Fl  : x∈Ap a b↔(x∈a/\x∉b)\/(x∈b/\x∉a):=by
 unfold Ap;rw[Hl,Mm,Mh,Mh];simp
def Xe4{a b:Za}(ha:a.Nodup)(hb:b.Nodup):((a.filter λx => !decide (x∈b))++(b.filter λx => !decide (x∈a))).Nodup:=by
 rw[N3];refine⟨ha.filter _,hb.filter _,λx hx y hy e=>?_⟩;subst e;have h1:=(Mh.mp hx).1;have h2:=(Mh.mp hy).2;simp[h1] at h2
def Ir(ha:a.Nodup)(hb:b.Nodup):(Ap a b).Pairwise ltS:=by
 have yk:(Ap a b).Nodup:=(Cy _).nodup_iff.mpr (Xe4 ha hb);exact(List.pairwise_and_iff.mpr ⟨Ev _,yk⟩).imp λ{x y} (h:leS x y/\x≠y)=>ltS_of h.1 h.2
def Xml(a b):(Ap a b).length<=a.length+b.length:=by
 unfold Ap;rw[(Cy _).length_eq,Mg];have h1:=Ni (λx => !decide (x∈b)) a;have h2:=Ni (λx => !decide (x∈a)) b
 lia
def xor_srt(ha:a.Nodup)(hb:b.Nodup)(hz:zs.Nodup)(h:∀y,y∈zs↔(y∈b/\y∉a)\/(y∉b/\y∈a)):srt zs=Ap a b:=by
 refine Xj6 (Gf hz (Xe4 ha hb) λy=>?_);rw[h,Mm,Mh,Mh];simp;by_cases h1:y∈a<;>by_cases h2:y∈b<;>simp[h1,h2]
def spParting:Sp:=λvs H Q _=>∃(p q:ae) (a b:Za),vs=[.ref p,.ref q]/\H p=some (.tup (a.map V.str))/\H q=some (.tup (b.map V.str))/\a.Nodup/\b.Nodup/\a.length<16/\b.length<16 /\
 ∀l H',H l=none->H' l=some (.lst ((Ap a b).map V.str))->Same H H'->Q (.ref l) H'
structure Two (H:Hp) (r p q:ae) (row a b:Za):Prop where
 hr:H r=some (.lst (row.map V.str))
 r2:Row2 row
 hd:(dit row).length<=14
 hp:H p=some (.tup (a.map V.str))
 hq:H q=some (.tup (b.map V.str))
 oa:∀y∈a,okN y
 ob:∀y∈b,okN y
 la:a.length<=24
 lb:b.length<=24
def Two.same  {row a b} (t:Two H r p q row a b) (s:Same H H'):Two H' r p q row a b:=⟨s _ _ t.hr,t.r2,t.hd,s _ _ t.hp,s _ _ t.hq,t.oa,t.ob,t.la,t.lb⟩
def Xe5(h:isPlotB row a=true):a.Nodup:=C0 (Bw h).2
def Gs  (h:row.count x=2) {a b:Nat} (ha:row[a]? = some x) (hb:row[b]? = some x) (lt:a<b):pl row x=((a:Int),(b:Int)):=by
 have h1:(a:Int)∈plc row x:=D9.mpr ⟨a,rfl,ha⟩;have h2:(b:Int)∈plc row x:=D9.mpr ⟨b,rfl,hb⟩;have l:=Bk h;rw[B7 h] at h1 h2;simp only[Mb,Nt,or_false] at h1 h2;refine Prod.ext ?_ ?_<;>(show _=_)<;>rcases h1 with h1 | h1<;>rcases h2 with h2 | h2<;>lia
def Iu  (h:row.count x=2):∃a b:Nat,a<b/\row[a]? = some x/\row[b]? = some x/\pl row x=((a:Int),(b:Int)):=by
 have h1:(pl row x).1∈plc row x:=by rw[B7 h];simp
 have h2:(pl row x).2∈plc row x:=by rw[B7 h];simp
 obtain⟨a,e1,g1⟩:=D9.mp h1;obtain⟨b,e2,g2⟩:=D9.mp h2;have:=Bk h;exact⟨a,b,by lia,g1,g2,Prod.ext e1 e2⟩
def Xmm(h1:a<b)(h2:c<e)(n1:a≠c)(n2:a≠e)(n3:b≠c)(n4:b≠e):
  (lieT a b c e = "within" ↔ c<a/\b<e)/\(lieT a b c e = "apart" ↔ b<c\/e<a)/\(lieT a b c e = "cross" ↔ (c<a/\a<e/\e<b)\/(a<c/\c<b/\b<e)):=by
 have bX:∀v:ah,lieT a b c e=v->((v = "within" ↔ c<a/\b<e)/\(v = "apart" ↔ b<c\/e<a)/\(v = "cross" ↔ (c<a/\a<e/\e<b)\/(a<c/\c<b/\b<e)))->((lieT a b c e = "within" ↔ c<a/\b<e)/\(lieT a b c e = "apart" ↔ b<c\/e<a)/\(lieT a b c e = "cross" ↔ (c<a/\a<e/\e<b)\/(a<c/\c<b/\b<e))):=λv e h=>by rw[e];exact h
 have val:∀k1 k2:Nat,nIn c e [a,b]=k1->nIn a b [c,e]=k2->lieT a b c e=if k1=1 then (ah.ofString "cross") else if k1=2 then (ah.ofString "within") else if k2=2 then (ah.ofString "around") else (ah.ofString "apart"):=λk1 k2 e1 e2=>by
  unfold lieT;rw[e1,e2,Qp λz=>n1 z.1]
 have T:∀{p:Prop} {x y:ah},x=y->p->(x=y↔p):=λe h=>⟨λ_=>h,λ_=>e⟩;have N:∀{p:Prop} {x y:ah},x≠y->¬p->(x=y↔p):=λe h=>⟨λz=>absurd z e,λz=>absurd z h⟩;rcases (by lia:b<c\/e<a\/(c<a/\b<e)\/(a<c/\e<b)\/(a<c/\c<b/\b<e)\/(c<a/\a<e/\e<b)) with h | h | h | h | h | h
 ·exact bX "apart" (val 0 0 (by rw[Bd];repeat (first | rw[Qq (by lia)] | rw[Qp (by lia)])) (by rw[Bd];repeat (first | rw[Qq (by lia)] | rw[Qp (by lia)]))) ⟨N (by decide) (by lia),T rfl (by lia),N (by decide) (by lia)⟩
 ·exact bX "apart" (val 0 0 (by rw[Bd];repeat (first | rw[Qq (by lia)] | rw[Qp (by lia)])) (by rw[Bd];repeat (first | rw[Qq (by lia)] | rw[Qp (by lia)]))) ⟨N (by decide) (by lia),T rfl (by lia),N (by decide) (by lia)⟩
 ·exact bX "within" (val 2 0 (by rw[Bd];repeat (first | rw[Qq (by lia)] | rw[Qp (by lia)])) (by rw[Bd];repeat (first | rw[Qq (by lia)] | rw[Qp (by lia)]))) ⟨T rfl (by lia),N (by decide) (by lia),N (by decide) (by lia)⟩
 ·exact bX "around" (val 0 2 (by rw[Bd];repeat (first | rw[Qq (by lia)] | rw[Qp (by lia)])) (by rw[Bd];repeat (first | rw[Qq (by lia)] | rw[Qp (by lia)]))) ⟨N (by decide) (by lia),N (by decide) (by lia),N (by decide) (by lia)⟩
 ·exact bX "cross" (val 1 1 (by rw[Bd];repeat (first | rw[Qq (by lia)] | rw[Qp (by lia)])) (by rw[Bd];repeat (first | rw[Qq (by lia)] | rw[Qp (by lia)]))) ⟨N (by decide) (by lia),N (by decide) (by lia),T rfl (by lia)⟩
 ·exact bX "cross" (val 1 1 (by rw[Bd];repeat (first | rw[Qq (by lia)] | rw[Qp (by lia)])) (by rw[Bd];repeat (first | rw[Qq (by lia)] | rw[Qp (by lia)]))) ⟨N (by decide) (by lia),N (by decide) (by lia),T rfl (by lia)⟩
def Xe6(row)(x):lieR row x x = "same" := by
 unfold lieR lieT;rw[Qq ⟨rfl,rfl⟩]
def E3  (h:∀y∈row,row.count y=2) (hx:x∈row) (hy:y∈row) (n:x≠y):
  (lieR row x y = "within" ↔ (pl row y).1<(pl row x).1/\(pl row x).2<(pl row y).2)/\(lieR row x y = "apart" ↔ (pl row x).2<(pl row y).1\/(pl row y).2<(pl row x).1) /\
   (lieR row x y = "cross" ↔ ((pl row y).1<(pl row x).1/\(pl row x).1<(pl row y).2/\(pl row y).2<(pl row x).2)\/((pl row x).1<(pl row y).1/\(pl row y).1<(pl row x).2/\(pl row x).2<(pl row y).2)):=by
 obtain⟨n1,n2,n3,n4⟩:=Dd (h x hx) (h y hy) n;exact Xmm (Bk (h x hx)) (Bk (h y hy)) n1 n2 n3 n4
section
variable {z:ah}{t:Za}
def Ec:(t++[z]).Perm (z::t):=List.perm_append_singleton z t
def Iv(h:∀y∈z::t,(z::t).count y=2):∀y∈t++[z],(t++[z]).count y=2:=λy hy=>by rw[Ec.count_eq];exact h y (Ec.mem_iff.mp hy)
def Lo(h:∀y∈z::t,(z::t).count y=2)(hy:y∈z::t)(n:y≠z):pl (t++[z]) y=((pl (z::t) y).1 - 1,(pl (z::t) y).2 - 1)/\0<(pl (z::t) y).1:=by
 obtain⟨a,b,lt,ha,hb,e⟩:=Iu (h y hy);cases a with
 | zero=>exact absurd (Mj ha).symm n
 | succ a=>
  cases b with
  | zero=>lia
  | succ b=>
   have ha:t[a]? = some y:=ha;have hb:t[b]? = some y:=hb;have la:=(Mc.mp ha).1;have lb:=(Mc.mp hb).1;have:=Gs (Iv h y (Ec.mem_iff.mpr hy)) (a:=a) (b:=b) (by rw[Nl la];exact ha) (by rw[Nl lb];exact hb) (by lia);rw[this,e];refine⟨Prod.ext ?_ ?_,?_⟩
   ·show (a:Int)=((a+1:Nat):Int) - 1;lia
   ·show (b:Int)=((b+1:Nat):Int) - 1;lia
   ·show (0:Int)<((a+1:Nat):Int);lia
def Xmn(h:∀y∈z::t,(z::t).count y=2):(pl (z::t) z).1=0/\pl (t++[z]) z=((pl (z::t) z).2 - 1,(t.length:Int)):=by
 have hz:=h z Mf;obtain⟨a,b,lt,ha,hb,e⟩:=Iu hz;have a0:a=0:=by
  refine Classical.byContradiction λn=>?_;have e0:=Gs hz (a:=0) (b:=a) rfl ha (by lia);rw[e] at e0;have:=congrArg Prod.fst e0;simp at this
  lia
 subst a0;cases b with
 | zero=>lia
 | succ b=>
  have hb:t[b]? = some z:=hb;have lb:=(Mc.mp hb).1;have:=Gs (Iv h z (Ec.mem_iff.mpr Mf)) (a:=b) (b:=t.length) (by rw[Nl lb];exact hb) (by simp) lb;rw[this,e];refine⟨rfl,Prod.ext ?_ rfl⟩;show (b:Int)=((b+1:Nat):Int) - 1
  lia
def Xmo(h:∀y∈z::t,(z::t).count y=2)(hx:x∈z::t)(hy:y∈z::t)(n:x≠y):
  (x≠z->y≠z->(lieR (t++[z]) x y = "within" ↔ lieR (z::t) x y = "within")/\(lieR (t++[z]) x y = "apart" ↔ lieR (z::t) x y = "apart")) /\
  (y=z->(lieR (t++[z]) x y = "within" ↔ lieR (z::t) x y = "apart")/\(lieR (t++[z]) x y = "apart" ↔ lieR (z::t) x y = "within")) /\
  (x=z->¬lieR (t++[z]) x y = "within" /\ (lieR (t++[z]) x y = "apart" ↔ lieR (z::t) y x = "within"))/\(lieR (t++[z]) x y = "cross" ↔ lieR (z::t) x y = "cross"):=by
 have h':=Iv h;obtain⟨w,a,c⟩:=E3 h hx hy n;obtain⟨w',a',c'⟩:=E3 h' (Ec.mem_iff.mpr hx) (Ec.mem_iff.mpr hy) n;obtain⟨w2,_,_⟩:=E3 h hy hx n.symm;rw[w',a',c',w,a,c,w2];have lx:=Bk (h x hx);have ly:=Bk (h y hy);have nx:=Xdm (h x hx);have ny:=Xdm (h y hy);rw[Ml] at nx ny;obtain⟨n1,n2,n3,n4⟩:=Dd (h x hx) (h y hy) n;obtain⟨q1,q2⟩:=Xmn h;by_cases ex:x=z
 ·subst ex;obtain⟨p1,p2⟩:=Lo h hy n.symm;rw[p1,q2];dsimp only;refine⟨λz=>absurd rfl z,λz=>absurd z n.symm,λ_=>?_,?_⟩<;>lia
 ·obtain⟨p1,p2⟩:=Lo h hx ex;by_cases ey:y=z
  ·subst ey;rw[p1,q2];dsimp only;refine⟨λ_ z=>absurd rfl z,λ_=>?_,λz=>absurd z ex,?_⟩<;>lia
  ·obtain⟨p3,p4⟩:=Lo h hy ey;rw[p1,p3];dsimp only;refine⟨λ_ _=>?_,λz=>absurd z ey,λz=>absurd z ex,?_⟩<;>lia
end
end SH
set_option maxHeartbeats 3200000
namespace L2
open PySem.Calls
def Inv.turnedN{X:Cx}{pins:List (ae×aI)}{Z:St}{H:Hp}{s:ag}{h':ao}{t':Nat}{fs:List ae}(I:Inv X pins Z H s)(k:∀b o,b∉fs->s.heap.get? b=some o->h'.get? b=some o)(hf:∀b∈fs,FpOk X pins H b):Inv X pins Z H {s with heap:=h',toks:=t'}:=by
 have no:∀b u,H b=some u->b∉fs:=λb u q z=>by rw[(hf b z).1] at q;cases q
 refine I.step (g':=s.gens) (d':=s.drawn) (ch:=fs) (λb hb=>?_) (λb o _ _ hc q _=>k b o hc q) (λb o _ _ hc q _=>⟨o.slots,k b o hc q⟩) (λ_ _ _ _ n=>n) (λb o hc q=>⟨o,k b o hc q⟩) (λ_ _ q=>q) (λ_ _ _ q=>q) (λb ps q=>⟨#[],by rw[q];simp⟩) (λm hm=>?_) (λb u q=>?_) I.bare
 ·have f1:=hf b hb;exact⟨f1.2.2.2.1,f1.2.1,f1.2.2.2.2.1,f1.2.2.2.2.2⟩
 ·obtain⟨o,es,ep,ho,r⟩:=hm;exact⟨o,es,ep,k _ o (λz=>(hf _ z).2.1 rfl) ho,r⟩
 ·refine(I.hok b u q).stay (λc v hc z=>k c v ?_ z) (λ_ z=>z) λ_ _ z=>z;rcases hc with y | y
  ·rw[y];exact no b u q
  ·exact no c _ y
def Itz (a b:ae):It:=
 ⟨λi H=>∃xs ys x y,H a=some (.lst xs)/\H b=some (.lst ys)/\xs[i]? = some x/\ys[i]? = some y,λi H v H'=>∃tp,v = .ref tp/\H tp=none/\∀xs ys,H a=some (.lst xs)->H b=some (.lst ys)->∃x y,xs[i]? = some x/\ys[i]? = some y/\H'=upd H tp (.tup [x,y]),λi H=>∃xs ys,H a=some (.lst xs)/\H b=some (.lst ys)/\(xs.length<=i\/ys.length<=i)⟩
def Xe7{X:Cx}{pins:List (ae×aI)}{H:Hp}{a b z TI TO i1 i2:ae}{xs ys:List V}(nd:[z,TI,TO,i1,i2].Nodup)(hf:∀c∈[z,TI,TO,i1,i2],FpOk X pins H c)(ha:H a=some (.lst xs))(hb:H b=some (.lst ys)):ZipApart z TI TO i1 i2 a b:=by
 have na:∀c∈[z,TI,TO,i1,i2],a≠c/\b≠c:=λc hc=>by
  refine⟨λe=>?_,λe=>?_⟩
  ·have q:=(hf c hc).1;rw[<-e,ha] at q;cases q
  ·have q:=(hf c hc).1;rw[<-e,hb] at q;cases q
 have n1:=na z (by simp);have n3:=na TO (by simp);have n4:=na i1 (by simp);have n5:=na i2 (by simp);simp only[M9,Mb,Nt,or_false,not_or,Qe,not_false_eq_true,and_true] at nd;obtain⟨⟨d1,d2,d3,d4⟩,⟨d5,d6,d7⟩,⟨d8,d9⟩,yl⟩:=nd;exact⟨Ne.symm d1,Ne.symm d2,Ne.symm d3,Ne.symm d4,d5,d6,d7,d8,d9,yl,n1.1,n3.1,n4.1,n5.1,n1.2,n3.2,n4.2,n5.2⟩
def Xmp{P:au}{w:ay}{K:DK}{es:List aA}{k:Nat}{p:bw}(a b z TI TO i1 i2:ae)(nd:[z,TI,TO,i1,i2].Nodup):Turn P w K (.Tuple es k p) (Itz a b) [z,TI,TO,i1,i2] z
  (λi h=>IsZip h z TI TO .none/\IsPair h TI (.ref i1) (.ref i2)/\(∃u v,IsPair h TO u v)/\h.IsListIter i1 a i/\h.IsListIter i2 b i) where
 mem:=by simp
 obj:=λi h st c hc=>by
  obtain⟨h1,h2,⟨u,v,h3⟩,h4,h5⟩:=st;simp only[Mb,Nt,or_false] at hc;rcases hc with rfl | rfl | rfl | rfl | rfl
  ·exact⟨_,h1,λv z=>by cases z⟩
  ·exact⟨_,h2,λv z=>by cases z⟩
  ·exact⟨_,h3,λv z=>by cases z⟩
  ·obtain⟨o,q,_,d⟩:=h4;exact⟨o,q,λv z=>by rw[d] at z;cases z⟩
  ·obtain⟨o,q,_,d⟩:=h5;exact⟨o,q,λv z=>by rw[d] at z;cases z⟩
 keep:=λi h h' st kk=>by
  obtain⟨h1,h2,⟨u,v,h3⟩,h4,h5⟩:=st;exact⟨kk z (by simp) _ h1,kk TI (by simp) _ h2,⟨u,v,kk TO (by simp) _ h3⟩,h4.at λo q=>kk i1 (by simp) o q,h5.at λo q=>kk i2 (by simp) o q⟩
 item:=by
  intro X hP hw hK hc i pins s Z H E I hf st hg;subst hP hw hK;obtain⟨xs,ys,x,y,f8,ji,hx,hy⟩:=hg;obtain⟨vI,qO,kt,nR⟩:=I.list (SqL.of (K:=X.K) f8);obtain⟨vJ,qP,oK,m6⟩:=I.list (SqL.of (K:=X.K) ji);obtain⟨u,hu,ru⟩:=qO.get hx;obtain⟨v,hv,rv⟩:=qP.get hy;obtain⟨h1,h2,⟨u0,v0,h3⟩,h4,h5⟩:=st;have DD:=Xe7 nd hf f8 ji;refine wpAny_pyNext_zip_item DD h1 h2 h3 h4 h5 kt.isList oK.isList (x:=u) (y:=v) (by simpa using hu) (by simpa using hv) λh' a1 a2 a3 a4 a5 a6 kk=>?_;refine⟨_,rfl,?_⟩;refine wpAny_letOwnedTupleGo_zip a1 λjW b1 sb=>?_;have lt:∀{c o},s.heap.get? c=some o->c<s.heap.objs.size:=λe=>Qv e;have lz:=lt h1;have vK:∀c∈[z,TI,TO,i1,i2],c<s.heap.objs.size:=λc hc=>by
   simp only[Mb,Nt,or_false] at hc;rcases hc with rfl | rfl | rfl | rfl | rfl
   ·exact lt h1
   ·exact lt h2
   ·exact lt h3
   ·obtain⟨o,q,_⟩:=h4;exact lt q
   ·obtain⟨o,q,_⟩:=h5;exact lt q
  have J:=I.laid (a:=s.heap.objs.size) (o:=.tup [x,y]) (h':=s.heap.push {cls:=.type "tuple",data:=.seq #[u,v]}) (t':=s.toks) (λb o z=>Qw _ z) (L7 _) (show A3 X.prog X.w _ _ _ (.tup [x,y]) from ⟨by show 2<=sizeLine;decide,[u,v],.cons ru (.cons rv .nil),iq.new _ _⟩);have I2:Inv X pins Z (upd H s.heap.objs.size (.tup [x,y])) {s with heap:=jW}:=by
   refine Inv.turnedN (s:={s with heap:=s.heap.push {cls:=.type "tuple",data:=.seq #[u,v]} }) (h':=jW) (t':=s.toks) J (fs:=[z,TI,TO,i1,i2]) (λc o hc q=>?_) (λc hc=>⟨by rw[Ad (L9 (vK c hc))];exact(hf c hc).1,(hf c hc).2⟩);simp only[Mb,Nt,or_false,not_or] at hc;obtain⟨c1,c2,c3,c4,c5⟩:=hc;rw[sb.2 c c1];by_cases e:c=s.heap.objs.size
   ·subst e;have q':(s.heap.push {cls:=.type "tuple",data:=.seq #[u,v]}).get? s.heap.objs.size=some o:=q;rw[ao.get?_push_size _ rfl] at q';cases q';exact a5
   ·have q':(s.heap.push {cls:=.type "tuple",data:=.seq #[u,v]}).get? c=some o:=q;rw[ao.get?_push_ne _ _ _ e] at q';exact kk c o c1 c3 c4 c5 q'
  refine⟨.ref s.heap.objs.size,_,I2,rfl,⟨_,rfl,I.hok.fresh (L7 _),λeO BQ qB eL=>⟨x,y,?_,?_,rfl⟩⟩,⟨b1,?_,⟨u,v,?_⟩,a3.at λo q=>?_,a4.at λo q=>?_⟩,λc hc=>by rw[Ad (L9 (vK c hc))];exact(hf c hc).1⟩
  ·rw[f8] at qB;cases qB;exact hx
  ·rw[ji] at eL;cases eL;exact hy
  ·show jW.get? TI=_;rw[sb.2 TI DD.TIz];exact kk TI _ DD.TIz DD.TITO DD.TIi1 DD.TIi2 h2
  ·show jW.get? TO=_;rw[sb.2 TO DD.TOz];exact a2
  ·show jW.get? i1=_;rw[sb.2 i1 DD.i1z];exact q
  ·show jW.get? i2=_;rw[sb.2 i2 DD.i2z];exact q
 done:=by
  intro X hP hw hK hc i pins s Z H E I hf st hg;subst hP hw hK;obtain⟨xs,ys,f8,ji,hx⟩:=hg;obtain⟨vI,qO,kt,nR⟩:=I.list (SqL.of (K:=X.K) f8);obtain⟨vJ,qP,oK,m6⟩:=I.list (SqL.of (K:=X.K) ji);have l1:=qO.length;have l2:=qP.length;obtain⟨h1,h2,⟨u0,v0,h3⟩,h4,h5⟩:=st;refine wpAny_pyNext_zip_end (I.ok.hd hc) (Xe7 nd hf f8 ji) h1 h2 h3 h4 h5 kt.isList oK.isList ?_ λh' kk=>⟨rfl,I.turnedN (t':=s.toks) (fs:=[z,TI,TO,i1,i2]) (λc o hc q=>?_) hf⟩
  ·rcases hx with e | e
   ·exact .inl (by simp;omega)
   ·exact .inr (by simp;omega)
  ·simp only[Mb,Nt,or_false,not_or] at hc;obtain⟨c1,c2,c3,c4,c5⟩:=hc;exact kk c o c1 c3 c4 c5 q
 self:=λ_ _ _ _ _ st h=>lw st.1 h
def iZip (ta:TA):TI:=fun Z H R=>ta Z H λvs H1=>∃a b,vs=[.ref a,.ref b]/\(∃xs,H1 a=some (.lst xs))/\(∃ys,H1 b=some (.lst ys))/\R (Itz a b) H1
def Xmq{X:Cx}{es:List aA}{k:Nat}{p2:bw}{l m:aA}{ta:TA}{p pos:bw}(hg:Gl X "zip")(hm:X.mg "zip" = none)(ha:PA X [l,m] ta)(hs:az [l,m] X.env=(false,eval l X.env)::az [m] X.env:=by rfl)(bM:(bn pos (az [m] X.env)).any (·.1)=false:=by rfl):PI X (.Tuple es k p2) (.Call (.Name "zip" p) [l,m] [] pos) (iZip ta):=by
 intro pins s Z H R I h;refine Call_ (Ek I hg hm (show br "zip" = some (.type "zip") by decide +kernel) (PyProof.Rows.callWith_type1 (thn (ha pos pins s Z H _ I h) λus s1 ⟨vs,H1,I1,r1,q1⟩=>?_) hs bM));obtain⟨a,b,e,⟨xs,f8⟩,⟨ys,ji⟩,q⟩:=q1;subst e;cases r1 with
 | cons r rr=>
 cases rr with
 | cons r' rr=>
  cases rr;cases r;cases r';obtain⟨vI,qO,kt,nR⟩:=I1.list (SqL.of (K:=X.K) f8);obtain⟨vJ,qP,oK,m6⟩:=I1.list (SqL.of (K:=X.K) ji);refine call_zip_2 kt.isList oK.isList λh' q1 q2 q3 q4 q5 sz kk=>?_;refine lw q1 ?_;have I2:Inv X pins Z H1 {s1 with heap:=h'}:=I1.kept (t':=s1.toks) kk;refine⟨_,[s1.heap.objs.size+4,s1.heap.objs.size+2,s1.heap.objs.size+3,s1.heap.objs.size,s1.heap.objs.size+1],_,_,H1,rfl,I2,Xmp a b _ _ _ _ _ ?_,⟨q1,q2,⟨_,_,q3⟩,q4,q5⟩,λc hc=>?_,q⟩
  ·simp<;>omega
  ·have jn:s1.heap.objs.size<=c:=by
    simp only[Mb,Nt,or_false] at hc;rcases hc with e | e | e | e | e<;>(rw[e];first | exact L7 _ | exact Nat.le_add_right _ _)
   exact I1.fpOk jn (I1.hok.fresh jn)
def tDSd (td ty tx:TE):TE:=fun Z H Q=>td Z H λx H1=>∃a,x = .ref a/\IsD H1 a/\ty Z H1 λy H2=>tx Z H2 λz H3=>∃kvs k,H3 a=some (.dK kvs)/\y=kV k/\kvs.length<sizeLine /\
 (∀v,An kvs k=some v->Q v H3)/\(An kvs k=none->Q z (upd H3 a (.dK (A9 kvs k z))))
section
variable {X:Cx}{o e f:aA}{cG bB:bw}{td ty tx:TE}
def Xmr(ho:PE X o td)(he:PE X e ty)(hf:PE X f tx)(m:M2 X o "setdefault" cG e f bB):PE X (.Call (.Attribute o "setdefault" cG) [e,f] [] bB) (tDSd td ty tx):=by
 intro pins s Z H Q I h;refine jV m.base m.few m.line PySem.F.plainAttrs_dict PySem.F.slot_dict_setdefault PySem.F.type_dict_setdefault (thn (ho pins s Z H _ I h) λu s1 ⟨x,H1,I1,rx,a,ex,d,q1⟩=>?_);subst ex;obtain rfl:u=aa.ref a:=rx;obtain⟨t1,t2,_⟩:=Xbs I1 d;refine⟨t1,t2,?_⟩;rw[m.trees];refine Calls.callWith_builtin rfl (Calls.evalArgs_plain (Calls.spliced_cons (thn (he pins s1 Z H1 _ I1 q1) λiv s2 ⟨y,H2,I2,ry,q2⟩=>
  Calls.spliced_cons (thn (hf pins s2 Z H2 _ I2 q2) λfv s3 ⟨z,H3,I3,rz,kvs,k,ea,ey,hl,q3,q4⟩=>Calls.spliced_nil ?_))))
 subst ey;obtain⟨zz,hd,vs,c9,dd⟩:=F2 I3.hok ea;refine dC PySem.F.slot_dict_setdefault dd.typeIs PySem.F.entry_dict_setdefault (PySem.F.args_dict_setdefault_3 _ _ _) (kt_meets_setdefault (Bb X.prog X.w) a (Em ry) hd fv) ⟨vs,dd,by rw[<-c9.length];exact zz,λv hv=>?_,λhn h' ib hs=>?_⟩
 ·cases l:An kvs k with
  | some v0=>
   obtain⟨w',hw,gB⟩:=Br.some_of (v:=v0) (o:=c6 vs k) (by rw[<-l];exact c9.val k);rw[hw] at hv;cases hv;exact⟨v0,H3,I3.tok _,gB,q3 v0 l⟩
  | none=>
   have hn:c6 vs k=none:=Br.none_of (by rw[<-l];exact c9.val k);rw[hn] at hv;cases hv
 ·cases l:An kvs k with
  | some v0=>
   obtain⟨w',hw,gB⟩:=Br.some_of (v:=v0) (o:=c6 vs k) (by rw[<-l];exact c9.val k);rw[hw] at hn;cases hn
  | none=>
   have he:∃q,h'.get? a=some q:=let ⟨q,_,_,hq,_⟩:=ib; ⟨q,hq⟩;have fe:(A9 kvs k z).length<=sizeLine:=by have:=Fz kvs k z;omega
   exact⟨z,_,F3 I3 (by rw[ea];exact True.intro) hs he (J6 fe hd (c9.put k rz) ib),rz,q4 l⟩
end
def Inv.laidS{X:Cx}{pins:List (ae×aI)}{Z:St}{H H':Hp}{s:ag}{h':ao}{t':Nat}(I:Inv X pins Z H s)(k:∀b u,s.heap.get? b=some u->h'.get? b=some u)(up:∀b u,H b=some u->H' b=some u)
  (nw:∀b u,H' b=some u->H b=none->s.heap.get? b=none/\A3 X.prog X.w H' h' b u):Inv X pins Z H' {s with heap:=h',toks:=t'}:=by
 refine I.un ⟨λb u q _ _ _=>k b u q,λb u q _ _ _=>⟨u.slots,k b u q⟩,λb u q n _=>?_,λb u q _=>⟨u,k b u q⟩,λb xs q=>up _ _ q,λb u xs q=>up _ _ q,λb ps q=>⟨#[],by rw[up _ _ q];simp⟩⟩ λb u e=>?_
 ·cases e:H' b with
  | none=>rfl
  | some v=>rw[(nw b v e n).1] at q;cases q
 ·cases q:H b with
  | none=>exact(nw b u e q).2
  | some v=>
   have z:=up b v q;rw[e] at z;cases z;exact(I.hok b u q).stay (λc v _ q=>k c v q) (λc q=>up _ _ q) λc xs q=>up _ _ q
def Xe8{α β : Type}(f : α -> β)(d : β)(l:List α){i:Nat}(h:i<l.length):(l.map f).getD i d=f l[i]:=by
 simp[List.getD,h]
def Iw (v d:ae):HO:=.ext λh=>h.IsItemsView v d
section
variable {X:Cx}
def Xms:MtR X "dict.items" (λx vs H Q=>∃d kvs,x = .ref d/\vs=[]/\H d=some (.dK kvs)/\∀v,H v=none->Q (.ref v) (upd H v (Iw v d))):=by
 intro pins s Z H x vs v us Q I rx rv h;obtain⟨d,kvs,rfl,rfl,hH,q⟩:=h;cases rx;cases rv;obtain⟨hz,hm,xs,rv,dd⟩:=F2 I.hok hH;refine dC PySem.F.slot_dict_items dd.typeIs PySem.F.entry_dict_items (PySem.F.args_dict_items_1 _) (meets_dict_items (Bb X.prog X.w) d hm) ⟨⟨_,dd⟩,?_⟩;refine⟨.ref s.heap.objs.size,_,I.laid (a:=s.heap.objs.size) (o:=Iw s.heap.objs.size d) (t':=s.toks) (λ_ _ q=>Qw _ q) (L7 _) ⟨⟨_,ao.get?_push_size _ rfl,rfl,rfl⟩,⟨_,ao.get?_push_size _ rfl⟩,λh1 h2 z k=>?_⟩,rfl,q _ (I.hok.fresh (L7 _))⟩;obtain⟨o,e,r⟩:=z;exact⟨o,k o e,r⟩
def Df:Hp->List ae->List (Za)->Hp
 | H,a::as,T::Ts=>Df (upd H a (.tup (T.map V.str))) as Ts
 | H,_,_=>H
theorem Ix:∀(as:List ae) (Ts:List (Za)) (H:Hp) {b:ae},b∉as->Df H as Ts b=H b
 | [],_,_,_,_=>by unfold Df;rfl
 | a::as,[],_,_,_=>by unfold Df;rfl
 | a::as,T::Ts,H,b,h=>by
  rw[Mb,not_or] at h;show Df (upd H a (.tup (T.map V.str))) as Ts b=H b;rw[Ix as Ts _ h.2,Ad h.1]
theorem Xe9:∀(as:List ae) (Ts:List (Za)) (H:Hp),as.Nodup->as.length=Ts.length->∀i,i<as.length->Df H as Ts (as.getD i 0)=some (.tup ((Ts.getD i []).map V.str))
 | [],_,_,_,_,i,hi=>absurd hi (Nj _)
 | a::as,[],_,_,e,_,_=>by cases e
 | a::as,T::Ts,H,nd,e,i,hi=>by
  rw[M9] at nd;show Df (upd H a (.tup (T.map V.str))) as Ts _=_;cases i with
  | zero=>
   show Df (upd H a (.tup (T.map V.str))) as Ts a=_;rw[Ix as Ts _ nd.1,Ab];rfl
  | succ i=>exact Xe9 as Ts _ nd.2 (Qj e) i (Nat.lt_of_succ_lt_succ hi)
theorem Xfa{α β : Type}{R : α -> β->Prop}:∀{xs:List α} {ys:List β},Paired R xs ys->∀{i:Nat} {y : β},ys[i]? = some y->∃x,xs[i]? = some x/\R x y
 | _,_,.nil,i,y,h=>by simp at h
 | _,_,.cons r t,0,y,h=>by simp at h;subst h;exact⟨_,rfl,r⟩
 | _,_,.cons r t,i+1,y,h=>by
  obtain⟨x,e,q⟩:=Xfa t (i:=i) (y:=y) (by simpa using h);exact⟨x,by simpa using e,q⟩
def Bx (bp:List (ah×ah)):List (Key×V):=bp.map λq=>((Sum.inr q.1:Key),V.str q.2)
def pr2L (q:ah×ah):Za:=[q.1,q.2]
def Xmt(hc:X.calm=true):Cf X (.builtin "sorted") (λxs H Q=>∃(v d:ae) (bp:List (ah×ah)),xs=[.ref v]/\H v=some (Iw v d)/\H d=some (.dK (Bx bp))/\(bp.map (·.1)).Nodup/\bp.length<64 /\
  ∀(l:ae) (jj:List ae) (iC:List (Za)) (H':Hp),H l=none->H' l=some (.lst (jj.map V.ref))->Tups H' jj iC->iC.Perm (bp.map pr2L)->(iC.Pairwise λa b=>ltL a b=true)->Same H H'->Q (.ref l) H'):=by
 intro pins s Z H xs us Q I r h;obtain⟨v,d,bp,rfl,hv,hd,nd,cB,q⟩:=h;obtain⟨u,rfl,rx⟩:=B2 r;cases rx;obtain⟨hz,hm,vs,rv,o,es,ep,ho,hex,ym,hr⟩:=F2 I.hok hd;obtain⟨vw,_,_⟩:=(show A3 X.prog X.w H s.heap v (.ext λh=>h.IsItemsView v d) from I.hok v _ hv);have i6:vs.length=bp.length:=by
  have:=Paired.length rv;unfold Bx at this;rw[L5] at this;exact this.symm
 refine Calls.call_function_entry eg dH dI (sh _) ?_;unfold av.«sorted»;refine Qm (m:=fz "sorted" 1 1 _) (Qn ?_);refine Qm (PySem.W.kdx_collect (knd:=Bb X.prog X.w) (kvs:=vs) (ep:=ep) (by show X.A.in1.handled=none;simp[I.ok.hd hc]) vw ⟨o,es,ho,hex,ym,hr⟩ (by rw[i6,Qo];omega) λh' tk as kk hl g=>?_);have cT:as.length=bp.length:=hl.trans i6;have sS:Xek h' (as.map aa.ref) (bp.map pr2L):=by
  refine⟨by rw[L5,L5,cT],λi hi=>?_⟩;rw[L5] at hi;have dR:i<bp.length:=by omega
  obtain⟨bX,k,x,e1,e2,e3⟩:=g.pairs i as[i] (L6 hi);obtain⟨p,oF,ek,rp⟩:=Xfa rv e1;unfold Bx at oF;rw[Mt,L6 dR] at oF;cases oF;have ek:(Sum.inr bp[i].1:Key)=k:=ek;subst ek;obtain⟨t1,yn⟩:=aa.isStrOf_shape e2;obtain⟨t2,yo⟩:=(show ∃t,x=aa.str bp[i].2 t from rp);rw[show (as.map aa.ref).getD i .none = .ref as[i] by simp[List.getD,hi],show (bp.map pr2L).getD i []=[bp[i].1,bp[i].2] by simp[List.getD,dR,pr2L]];exact⟨as[i],_, #[bX,x],0,rfl,e3,rfl,rfl,by rw[yn,yo];exact .cons _ _ (.cons _ _ .nil)⟩
 have kw:(bp.map pr2L).Nodup:=by
  refine(N5.mpr ?_);refine(N5.mp nd).imp λ{a b} n e=>n ?_;unfold pr2L at e;injection e
 have dZ:[]∉bp.map pr2L:=λz=>by
  obtain⟨q,_,e⟩:=Mo.mp z;unfold pr2L at e;cases e
 refine Qm (bD ?_ (by rw[L5,cT,Qo];omega));have fU:(h'.push (aq "list" (as.map aa.ref).toArray 0)).get? h'.objs.size=some (aq "list" (as.map aa.ref).toArray 0):=ao.get?_push_size _ rfl;refine Qm (a7 (aU cS ⟨_,fU,rfl⟩ cM (Xlt fU ⟨sS.1,λi hi=>(sS.2 i hi).kept λb o _ e=>Qw _ e⟩ dZ kw (by rw[L5];omega) λp a1 a2=>⟨_,rfl,?_⟩) (on _)));refine Qn ⟨_,rfl,?_⟩;rw[L5] at a1 a2;have gE:=a1.size;have lt:∀i∈p.toList,i<as.length:=λi hi=>by
  have q:p.toList.Perm (List.range as.length):=by
   have:=a1.toList;simpa using this
  simpa using q.mem_iff.mp hi
 have oM:∀i,i<as.length->(as.map aa.ref).getD i .none = .ref (as.getD i 0):=λi hi=>by simp[List.getD,hi]
 have eo:(p.toList.map λi=>(as.map aa.ref).getD i aa.none)=(p.toList.map λi=>as.getD i 0).map aa.ref:=by
  rw[M5];exact M6 λi hi=>oM i (lt i hi)
 have lT:as.length=(bp.map pr2L).length:=by rw[L5];exact cT
 have cu:=Xlr (Ts:=bp.map pr2L) (by rw[<-lT];exact a1) (by rw[<-lT];exact a2);have yp:as.Nodup:=g.rise.imp λh=>L9 h;have oO:∀a∈as,s.heap.get? a=none:=λa ha=>by
  cases q:s.heap.get? a with
  | none=>rfl
  | some o=>exact absurd (Qv q) (Nat.not_lt.mpr (O2 (g.above a ha)))
 have nL:s.heap.get? h'.objs.size=none:=by
  cases q:s.heap.get? h'.objs.size with
  | none=>rfl
  | some o=>exact absurd (Qv (kk _ _ q)) (Na _)
 have hN:∀b,s.heap.get? b=none->H b=none:=λb hb=>by
  cases q:H b with
  | none=>rfl
  | some u=>
   obtain⟨o,ho⟩:=(I.hok b u q).there;rw[hb] at ho;cases ho
 have aL:∀a∈as,a≠h'.objs.size:=λa ha=>L9 (g.there ha);obtain⟨e,he⟩:=qJ (out:=(p.toList.map λi=>(as.map aa.ref).getD i aa.none).toArray) fU;have kF:∀b o,h'.get? b=some o->(f7 (h'.push (aq "list" (as.map aa.ref).toArray 0)) h'.objs.size (as.map aa.ref) (p.toList.map λi=>(as.map aa.ref).getD i aa.none).toArray).get? b=some o:=λb o q=>by
  have l:=Qv q;rw[oo (L9 l) (by rw[bd];exact Nc l)];exact Qw _ q
 generalize f7 (h'.push (aq "list" (as.map aa.ref).toArray 0)) h'.objs.size (as.map aa.ref) (p.toList.map λi=>(as.map aa.ref).getD i aa.none).toArray=hF at he kF ⊢;have atT:∀{U:Hp} i,i<as.length->Df U as (bp.map pr2L) (as.getD i 0)=some (.tup (((bp.map pr2L).getD i []).map V.str)):=λ{U} i hi=>Xe9 as _ U yp lT i hi;have up:∀b u,H b=some u->upd (Df H as (bp.map pr2L)) h'.objs.size (.lst ((p.toList.map λi=>as.getD i 0).map V.ref)) b=some u:=λb u q=>by
  rw[Ad (λz=>by rw[z,hN _ nL] at q;cases q),Ix as _ H (λz=>by rw[hN _ (oO b z)] at q;cases q)];exact q
 have mem:∀i∈p.toList,as.getD i 0∈as:=λi hi=>by
  have:=lt i hi;rw[show as.getD i 0=as[i] by simp[List.getD,this]];exact Mz this
 refine⟨.ref h'.objs.size,_,Inv.laidS (s:=s) (h':=hF) (t':=tk) I (λb o q=>kF b o (kk b o q)) up (λb u eb nb=>?_),rfl,q _ (p.toList.map λi=>as.getD i 0) (p.toList.map λi=>(bp.map pr2L).getD i []) _ (hN _ nL) Ab ⟨by simp,λi hi=>?_⟩ cu.1 cu.2 (λb u q=>up b u q)⟩
 ·by_cases z:b=h'.objs.size
  ·subst z;rw[Ab] at eb;cases eb;refine⟨nL,by rw[L5,L5,Ma,gE,Qo];omega,(p.toList.map λi=>(as.map aa.ref).getD i aa.none),e,?_,he⟩;rw[eo];generalize (p.toList.map λi=>as.getD i 0)=z
   induction z with
   | nil=>exact .nil
   | cons p t ih=>exact .cons rfl ih
  ·rw[Ad z] at eb;by_cases m:b∈as
   ·obtain⟨i,hi,rfl⟩:=M4.mp m;have e1:as.getD i 0=as[i]:=by simp[List.getD,hi]
    have vL:=atT (U:=H) i hi;rw[e1,eb] at vL;cases vL;obtain⟨a',o',eO,n',z1,z2,z3,z4,z5⟩:=sS.2 i (by rw[L5];exact hi);rw[oM i hi,e1] at z1;cases z1;obtain⟨bX,kx,xx,BR,BS,vM⟩:=g.pairs i as[i] (L6 hi);have zo:=z2.symm.trans vM;cases zo;have yq:kQ.seq #[bX,xx] 0=kQ.seq eO n':=z4;cases yq;exact⟨oO _ m,by rw[L5,show (bp.map pr2L).getD i []=pr2L bp[i] by simp[List.getD,cT ▸ hi]];show 2<=sizeLine;decide,[bX,xx],Xck z5,⟨_,kF _ _ vM,rfl,_,rfl⟩⟩
   ·rw[Ix as _ H m,nb] at eb;cases eb
 ·rw[L5] at hi;have dP:i<p.toList.length:=hi;have hm:=mem _ (Mz dP);have l2:=lt _ (Mz dP);rw[Xe8 (λi=>as.getD i 0) 0 p.toList dP,Xe8 (λi=>(bp.map pr2L).getD i []) [] p.toList dP];rw[Ad (aL _ hm)];exact atT _ l2
end
section
variable {X:Cx}
end
end L2
set_option maxHeartbeats 4000000
namespace L2
def Xmu (K:DK) (te:TE):TE:=fun Z H Q=>te Z H λv H1=>∃p ss,v = .ref p/\(SqL K H1 p (ss.map V.str)\/SqT K H1 p (ss.map V.str))/\ss.length<=60/\∀l H',H1 l=none->H' l=some (.lst ((dit ss).map V.str))->Same H1 H'->Q (.ref l) H'
def Xfb    (hc:X.calm=true) (yr:Gl X "sorted") (lv:X.mg "sorted" = none) (o4:Gl X "set") (mB:X.mg "set" = none) (hv:PE X e te)
  (h1:az [.Call (.Name "set" p2) [e] [] q2] X.env=[(false,eval (.Call (.Name "set" p2) [e] [] q2) X.env)]:=by rfl) (h2:az [e] X.env=[(false,eval e X.env)]:=by rfl)
  :
  PE X (.Call (.Name "sorted" p1) [.Call (.Name "set" p2) [e] [] q2] [] q1) (Xmu X.K te):=by
 intro pins s Z H Q I h
 let Q0:VK:=λv H1=>∃p ss,v = .ref p/\(SqL X.K H1 p (ss.map V.str)\/SqT X.K H1 p (ss.map V.str))/\ss.length<=60/\∀l H',H1 l=none->H' l=some (.lst ((dit ss).map V.str))->Same H1 H'->Q (.ref l) H'
 have sA:PE X e (fun Z' H' Q'=>te Z' H' Q0/\∀v H1,Q0 v H1->Q' v H1):=λpins s Z H Q' I h=>thn (hv pins s Z H Q0 I h.1) λu s1 ⟨v,H1,I1,r1,q1⟩=>⟨v,H1,I1,r1,h.2 v H1 q1⟩;refine(A8 (F9 hc) yr lv (by rfl) (Aa (Ci (Et hc) o4 mB (by rfl) (Aa sA Ac h2) (by decide) (by decide) h2) Ac h1) (by decide) (by decide) h1) pins s Z H Q I ⟨h,λv H1 q0=>?_⟩;obtain⟨p,ss,ev,hq,hl,k⟩:=q0;refine⟨p,ss,by rw[ev],hq,by unfold aN;lia,λa na=>?_⟩;have l6:=F8 ss;refine⟨a,ddup ss,rfl,Ab,by lia,λl ls nl hp hs=>?_⟩;rw[Gc hp hs];have s1:Same H1 (upd H1 a (D4 X.prog X.w a (ddup ss))):=(Same.refl H1).step na;exact k l _ (s1.free nl) Ab (s1.step nl)
end L2
namespace SH
open L2
def Iy(x y):ltS x y\/x=y\/ltS y x:=by
 by_cases e:x=y
 ·exact .inr (.inl e)
 ·rcases Hk x y with h | h
  ·exact .inl (ltS_of h e)
  ·exact .inr (.inr (ltS_of h λz=>e z.symm))
def Du (a b:Za):Za:=(dit (a++b)).filter λx => !(decide (x∈a)&&decide (x∈b))
def Lp{a b}{x}:x∈Du a b↔(x∈a/\x∉b)\/(x∈b/\x∉a):=by
 unfold Du;rw[Mh,Ae,Mm];by_cases h1:x∈a<;>by_cases h2:x∈b<;>simp[h1,h2]
def Xfc(a b):(Du a b).Pairwise ltS:=(B6 _).filter _
def Xmv(nd:zs.Nodup):(srt zs).Pairwise ltS:=by
 have h1:=Ev zs;have h2:(srt zs).Pairwise (· ≠ ·):=(Cy zs).nodup_iff.mpr nd;exact(h1.and h2).imp λh=>ltS_of h.1 h.2
def Xmw(nd:zs.Nodup)(m:∀y,y∈zs↔(y∈ddup b/\y∉ddup a)\/(y∉ddup b/\y∈ddup a)):srt zs=Du a b:=by
 refine Gr (Xmv nd) (Xfc a b) λy=>?_;rw[Hl,m,Lp,Hi,Hi];by_cases h1:y∈a<;>by_cases h2:y∈b<;>simp[h1,h2]
def spPartL:Sp:=λvs H Q _=>∃(p q:ae) (a b:Za),vs=[.ref p,.ref q]/\H p=some (.lst (a.map V.str))/\H q=some (.lst (b.map V.str))/\a.length<=60/\b.length<=60/\(ddup a).length<16/\(ddup b).length<16 /\
 ∀l H',H l=none->H' l=some (.lst ((Du a b).map V.str))->Same H H'->Q (.ref l) H'
structure First (a b:Za) (x y:ah):Prop where
 hx:x∈a
 hy:y∈a
 lt:ltS x y
 df:lieR a x y≠lieR b x y
 fst:∀x' y',x'∈a->y'∈a->ltS x' y'->lieR a x' y'≠lieR b x' y'->ltS x x'\/(x'=x/\(y'=y\/ltS y y'))
inductive Due (a b:Za):Option (Za)->Prop
 | ditch (x:ah) (h:x∈Du a b) (f:∀y∈Du a b,y=x\/ltS x y):Due a b (some [ah.ofString "ditch",x])
 | lie (x y:ah) (h:∀z,z∈a↔z∈b) (f:First a b x y):Due a b (some [ah.ofString "lie",x,y])
 | none (h:∀z,z∈a↔z∈b) (f:∀x y,x∈a->y∈a->ltS x y->lieR a x y=lieR b x y):Due a b none
def Xmx  (h:∀z,z∈a↔z∈b) (hx:x∈Du a b):False:=by
 rw[Lp,h x] at hx;rcases hx with q | q<;>exact q.2 q.1
structure Two2 (H:Hp) (p q:ae) (a b:Za):Prop where
 hp:H p=some (.lst (a.map V.str))
 hq:H q=some (.lst (b.map V.str))
 ra:Row2 a
 rb:Row2 b
 la:a.length<=28
 lb:b.length<=28
 da:(ddup a).length<16
 db:(ddup b).length<16
def Two2.same  {a b} (t:Two2 H p q a b) (s:Same H H'):Two2 H' p q a b:=⟨s _ _ t.hp,s _ _ t.hq,t.ra,t.rb,t.la,t.lb,t.da,t.db⟩
def Xmy (H:Hp):Option (Za)->V->Prop
 | none,v=>v = .non
 | some ss,v=>∃l,v = .ref l/\H l=some (.tup (ss.map V.str))
def spUnl:Sp:=λvs H Q _=>∃(p q:ae) (a b:Za),vs=[.ref p,.ref q]/\Two2 H p q a b/\∀rr v H',Due a b rr->Xmy H' rr v->Same H H'->Q v H'
def Xfd{ss:Za}{i:Nat}(h:(ss.map V.str)[i]? = some x):∃y,x=V.str y/\ss[i]? = some y:=by
 rw[Mt] at h;cases q:ss[i]? with
 | none=>rw[q] at h;cases h
 | some z=>
  rw[q] at h;exact⟨z,(Mj h).symm,rfl⟩
def before{l:Za}{i:Nat}(h:l.Pairwise ltS)(hx:l[i]? = some x)(hy:y∈l)(lt:ltS y x):∃j,j<i/\l[j]? = some y:=by
 obtain⟨j,hj,e⟩:=M4.mp hy;obtain⟨hi,e2⟩:=Mc.mp hx;refine⟨j,?_,by rw[L6 hj,e]⟩;rcases Nat.lt_trichotomy j i with c | c | c
 ·exact c
 ·subst c;rw[e] at e2;exact absurd (e2 ▸ lt) (Fi _)
 ·have:=N2.mp h i j hi hj c;rw[e,e2] at this;exact absurd (Ga lt this) (Fi _)
theorem Xfe:∀(l:Za) (i:Nat) (a b:ah),l[i]? = some a->l[i+1]? = some b->((l.set i b).set (i+1) a).Perm l
 | [],i,a,b,h,_=>by simp at h
 | [x],i,a,b,_,h=>by simp at h
 | x::y::r,0,a,b,h1,h2=>by
  simp at h1 h2;subst h1 h2;exact List.Perm.swap ..
 | x::r,i+1,a,b,h1,h2=>by
  rw[Qd,Qd];exact(Xfe r i a b (by simpa using h1) (by simpa using h2)).cons x
def Xff:Sp:=λvs H Q _=>∃(dr sc r:ae) (row:Za),vs=[.ref dr,.ref r]/\DrawOk H dr sc/\H r=some (.lst (row.map V.str))/\r≠dr/\row.length<=60 /\
 ∀(l:ae) (t:Za) (H':Hp),H l=none->H' l=some (.lst (t.map V.str))->t.Perm row->DrawOk H' dr sc->But dr H H'->Q (.ref l) H'
abbrev NSw:Za:=["_law_draw", "_law_row_here", "_law_told", "_law_at", "_law_one_here"]
abbrev NTw:Za:=["_law_draw", "_law_row_here", "_law_names_here", "_law_other", "_law_k", "_law_more"]
abbrev NTw1:Za:=["_law_name", "_law_more"]
def Xfg(h:i<n):ixN n (i:Int)=some i:=by
 unfold ixN;rw[Qq (by lia),Qq (by lia)];simp
abbrev NUn:Za:=["row", "other", "strange", "names", "one", "last"]
def rot (b:Za) (k:Nat):Za:=b.drop k++b.take k
def Bj (a b:Za):Prop:=∀(i j:Nat) (x:ah),a[i]? = some x->a[j]? = some x->b[i]? = b[j]?
def Lq(b:Za)(k:Nat):(rot b k).length=b.length:=by
 unfold rot;rw[Mg,Pu,Nd];omega
def E4(b:Za)(k:Nat):(rot b k).Perm b:=by
 unfold rot;exact List.perm_append_comm.trans (by rw[Nb])
def Xmz(b:Za):rot b 0=b:=by
 unfold rot;rw[List.drop_zero,List.take_zero,Np]
def Ca (a:Za):Prop:=∀y∈a,a.count y=2
def Ca.perm{a b:Za}(h:Ca a)(p:b.Perm a):Ca b:=λy hy=>by rw[p.count_eq];exact h y (p.mem_iff.mp hy)
def Xfh{a b:Za}(l:a.length=b.length)(f:Bj a b){x y y':ah}(h:(x,y)∈a.zip b)(h':(x,y')∈a.zip b):y=y':=by
 obtain⟨i,hi⟩:=Oa.mp h;obtain⟨j,hj⟩:=Oa.mp h';obtain⟨a1,b1⟩:=Nq.mp hi;obtain⟨a2,b2⟩:=Nq.mp hj;have:=f i j x a1 a2;rw[b1,b2] at this;exact Mj this
def Xm0{a b:Za}(l:a.length=b.length)(ta:Ca a)(tb:Ca b)(f:Bj a b){x x' y:ah}(h:(x,y)∈a.zip b)(h':(x',y)∈a.zip b):x=x':=by
 refine Classical.byContradiction λne=>?_;have ea:(a.zip b).map (·.1)=a:=List.map_fst_zip (by omega);have eb:(a.zip b).map (·.2)=b:=Pe (by omega);have ma:x∈a:=by rw[<-ea];exact Os (f:=(·.1)) h
 have yt:x'∈a:=by rw[<-ea];exact Os (f:=(·.1)) h'
 have mb:y∈b:=by rw[<-eb];exact Os (f:=(·.2)) h
 have cx:(a.zip b).countP (λq=>q.1==x)=2:=by
  have:=ta x ma;rw[<-ea,List.count,P6] at this;exact this
 have BU:(a.zip b).countP (λq=>q.1==x')=2:=by
  have:=ta x' yt;rw[<-ea,List.count,P6] at this;exact this
 have cy:(a.zip b).countP (λq=>q.2==y)=2:=by
  have:=tb y mb;rw[<-eb,List.count,P6] at this;exact this
 have bX:∀z:List (ah×ah),(∀q∈z,q∈a.zip b)->z.countP (λq=>q.1==x)+z.countP (λq=>q.1==x')<=z.countP (λq=>q.2==y):=by
  intro z
  induction z with
  | nil=>intro _;exact L7 _
  | cons q r ih=>
   intro hz;have i:=ih λq' gW=>hz q' (L8 _ gW);have hq:=hz q Mf;rw[Nw,Nw,Nw];by_cases c1:q.1=x
   ·have e2:q.2=y:=Xfh l f (x:=x) (by rw[<-c1];exact hq) h;have n1:¬(q.1==x')=true:=λz=>ne (c1.symm.trans (beq_iff_eq.mp z));rw[Qq (beq_iff_eq.mpr c1),Qp n1,Qq (beq_iff_eq.mpr e2)];omega
   ·by_cases c2:q.1=x'
    ·have e2:q.2=y:=Xfh l f (x:=x') (by rw[<-c2];exact hq) h';rw[Qp (λz=>c1 (beq_iff_eq.mp z)),Qq (beq_iff_eq.mpr c2),Qq (beq_iff_eq.mpr e2)];omega
    ·rw[Qp (λz=>c1 (beq_iff_eq.mp z)),Qp (λz=>c2 (beq_iff_eq.mp z))];omega
 have:=bX _ λq hq=>hq;omega
def Res (a b:Za) (m:Nat) (r:Option (Za)):Prop:=
 (∃k,k<m/\(∀j,j<k->¬Bj a (rot b j))/\Bj a (rot b k)/\r=some (rot b k)) \/
 ((∀j,j<m->¬Bj a (rot b j))/\∃k,k<m/\(∀j,j<k->¬Bj a (rot b.reverse j))/\Bj a (rot b.reverse k)/\r=some (rot b.reverse k)) \/
 ((∀j,j<m->¬Bj a (rot b j))/\(∀j,j<m->¬Bj a (rot b.reverse j))/\r=none)
def Xfi (a b:Za) (Ts:List (Za)):Prop:=(Ts.Pairwise λs t=>ltL s t=true)/\∀T,T∈Ts ↔ ∃x y,(x,y)∈a.zip b/\T=[x,y]
end SH
namespace L2
section
variable {X:Cx}
end
def Xm1{st}:PS X st (λ_ _ _=>False):=λ_ _ _ _ _ _ h=>h.elim
end L2
namespace L2
open PySem
def Xm2{a b:ae}{xs ys:List V}{g:TG}{tb:TS}{D:Ends}{Z:St}{H:Hp}(yu:xs.length=ys.length)(Pv:Nat->St->Hp->Prop)(h0:Pv 0 Z H)(hl:∀i Z H,i<=xs.length->Pv i Z H->H a=some (.lst xs)/\H b=some (.lst ys))
  (hs:∀i x y tp Z H,xs[i]? = some x->ys[i]? = some y->Pv i Z H->H tp=none->g (.ref tp) Z (upd H tp (.tup [x,y])) fun Z2 H2=>tb {D with nx:=Pv (i+1),ct:=Pv (i+1),bk:=D.nx} Z2 H2) (hd:∀Z H,Pv xs.length Z H->D.nx Z H):
  ∃W:Nat->Nat->St->Hp->Prop,(∃m,W 0 m Z H)/\∀i m Z H,W i m Z H ->
   ((Itz a b).stop i H/\D.nx Z H)\/((Itz a b).go i H/\∃N:St->Hp->Prop,(∀Z' H',N Z' H'->∃m',m'<m/\W (i+1) m' Z' H')/\∀x H',(Itz a b).yld i H x H'->g x Z H' fun Z2 H2=>tb {D with nx:=N,ct:=N,bk:=D.nx} Z2 H2):=by
 refine⟨λi m Z H=>m=xs.length - i/\i<=xs.length/\Pv i Z H,⟨xs.length,by simp,M3 _,h0⟩,?_⟩;rintro i m Z H ⟨rfl,hi,p⟩;have q:=hl i Z H hi p;by_cases aR:i<xs.length
 ·refine .inr ⟨⟨xs,ys,xs[i],ys[i],q.1,q.2,by simp[aR],by simp[yu ▸ aR]⟩,Pv (i+1),fun Z' H' p'=>⟨xs.length - (i+1),by omega,rfl,aR,p'⟩,?_⟩;rintro x H' ⟨tp,rfl,ht,hy⟩;obtain⟨x,y,h1,h2,rfl⟩:=hy xs ys q.1 q.2;exact hs i x y tp Z _ h1 h2 p ht
 ·have e:i=xs.length:=by omega
  subst e;exact .inl ⟨⟨xs,ys,q.1,q.2,.inl (L7 _)⟩,hd Z H p⟩
end L2
namespace SH
open L2
structure Dz (a b:Za) (i:Nat) (bp:List (ah×ah)):Prop where
 nd:(bp.map (·.1)).Nodup
 mem:∀q,q∈bp↔q∈(a.zip b).take i
 len:bp.length<=i
def Dz.zero(a b:Za):Dz a b 0 []:=⟨Qe,λq=>by rw[List.take_zero],L7 _⟩
def Iz{bp:List (ah×ah)}(nd:(bp.map (·.1)).Nodup){x y:ah}(h:(x,y)∈bp):An (Bx bp) (Sum.inr x)=some (.str y):=by
 induction bp with
 | nil=>cases h
 | cons q r ih=>
  rw[Mw,M9] at nd;unfold Bx An;rw[Mw,Om];rcases Mb.mp h with e | h
  ·subst e;rw[Qr rfl];rfl
  ·have n:¬((Sum.inr q.1:Key)=Sum.inr x):=λz=>nd.1 (by injection z with z;rw[z];exact Os (f:=(·.1)) h);rw[Qs n];exact ih nd.2 h
def Xm3{bp:List (ah×ah)}{x:ah}(h:x∉bp.map (·.1)):An (Bx bp) (Sum.inr x)=none:=by
 unfold An;rw[Option.map_eq_none_iff,List.find?_eq_none];intro q hq;unfold Bx at hq;obtain⟨z,hz,rfl⟩:=Mo.mp hq;rw[decide_eq_true_eq];intro e;injection e with e
 exact h (e ▸ Os (f:=(·.1)) hz)
def Xm4{bp:List (ah×ah)}{x:ah}(y:ah)(h:x∉bp.map (·.1)):A9 (Bx bp) (Sum.inr x) (.str y)=Bx (bp++[(x,y)]):=by
 unfold A9;rw[Qp]
 ·unfold Bx;rw[Mn];rfl
 ·intro z;obtain⟨q,hq,e⟩:=Od.mp z;unfold Bx at hq;obtain⟨w,hw,rfl⟩:=Mo.mp hq;have e:=Qt e;injection e with e
  exact h (e ▸ Os (f:=(·.1)) hw)
def Xfj{a b:Za}{i:Nat}{x y:ah}(hx:a[i]? = some x)(hy:b[i]? = some y):(a.zip b).take (i+1)=(a.zip b).take i++[(x,y)]:=by
 have h:(a.zip b)[i]? = some (x,y):=Nq.mpr ⟨hx,hy⟩;obtain⟨hi,e⟩:=Mc.mp h;rw[Mv hi,e]
def Dz.new{a b:Za}{i:Nat}{bp:List (ah×ah)}{x y:ah}(d:Dz a b i bp)(hx:a[i]? = some x)(hy:b[i]? = some y)(n:x∉bp.map (·.1)):Dz a b (i+1) (bp++[(x,y)]):=by
 refine⟨?_,λq=>?_,by rw[Mg];have:=d.len;show bp.length+1<=_;omega⟩
 ·rw[Mn];exact N3.mpr ⟨d.nd,by simp,λu hu v hv e=>n (by
   rw[Mi.mp hv] at e;have e:u=x:=e;rw[<-e];exact hu)⟩
 ·rw[Xfj hx hy,Mm,Mm,d.mem]
def Dz.old{a b:Za}{i:Nat}{bp:List (ah×ah)}{x y:ah}(d:Dz a b i bp)(hx:a[i]? = some x)(hy:b[i]? = some y)(m:(x,y)∈bp):Dz a b (i+1) bp:=by
 refine⟨d.nd,λq=>?_,Nat.le_succ_of_le d.len⟩;rw[Xfj hx hy,Mm,<-d.mem,Mi];exact⟨.inl,λz=>z.elim id λe=>e ▸ m⟩
def Dz.bad{a b:Za}{i:Nat}{bp:List (ah×ah)}{x y y0:ah}(d:Dz a b i bp)(hx:a[i]? = some x)(hy:b[i]? = some y)(m:(x,y0)∈bp)(ne:y0≠y):¬Bj a b:=λf=>by
 obtain⟨j,hj⟩:=Oa.mp (Pd ((d.mem _).mp m));obtain⟨j1,j2⟩:=Nq.mp hj;have:=f j i x j1 hx;rw[j2,hy] at this;exact ne (Mj this)
def Dz.all{a b:Za}{n:Nat}{bp:List (ah×ah)}(l:a.length=b.length)(hn:n=a.length)(d:Dz a b n bp):Bj a b/\∀q,q∈bp↔q∈a.zip b:=by
 have e:(a.zip b).take n=a.zip b:=N0 (by rw[Po];omega);have mem:∀q,q∈bp↔q∈a.zip b:=λq=>by rw[d.mem,e]
 refine⟨λi j x hi hj=>?_,mem⟩;have i1:i<b.length:=by rw[<-l];exact(Mc.mp hi).1
 have j1:j<b.length:=by rw[<-l];exact(Mc.mp hj).1
 have m1:(x,b[i])∈bp:=(mem _).mpr (Nm (i:=i) (Nq.mpr ⟨hi,L6 i1⟩));have m2:(x,b[j])∈bp:=(mem _).mpr (Nm (i:=j) (Nq.mpr ⟨hj,L6 j1⟩));have v1:=Iz d.nd m1;rw[Iz d.nd m2] at v1;injection v1 with v1
 injection v1 with v1
 rw[L6 i1,L6 j1,v1]
def Xm5{a b:Za}{bp:List (ah×ah)}{Ts:List (Za)}(mem:∀q,q∈bp↔q∈a.zip b)(p:Ts.Perm (bp.map pr2L))(pw:Ts.Pairwise λs t=>ltL s t=true):Xfi a b Ts:=by
 refine⟨pw,λT=>?_⟩;rw[p.mem_iff,Mo];constructor
 ·rintro ⟨q,hq,rfl⟩;exact⟨q.1,q.2,(mem q).mp hq,rfl⟩
 ·rintro ⟨x,y,h,rfl⟩;exact⟨(x,y),(mem _).mpr h,rfl⟩
def spMir:Sp:=λvs H Q _=>∃(r:ae) (row:Za),vs=[.ref r]/\H r=some (.lst (row.map V.str))/\∀l H',H l=none->H' l=some (.lst (row.reverse.map V.str))->Same H H'->Q (.ref l) H'
def spTrn:Sp:=λvs H Q _=>∃(r:ae) (row:Za) (k:Nat),vs=[.ref r,.int k]/\H r=some (.lst (row.map V.str))/\k<=row.length/\row.length<=60/\∀l H',H l=none->H' l=some (.lst ((rot row k).map V.str))->Same H H'->Q (.ref l) H'
def PrQ (H:Hp) (Q:VK) (a b:Za):Prop:=∀(l:ae) (ps:List ae) (Ts:List (Za)) (H':Hp),H l=none->H' l=some (.lst (ps.map V.ref))->Tups H' ps Ts->Xfi a b Ts->ps.length<=60->Same H H'->Q (.ref l) H'
def Xfk:Sp:=λvs H Q _=>∃(r o:ae) (a b:Za),vs=[.ref r,.ref o]/\H r=some (.lst (a.map V.str))/\H o=some (.lst (b.map V.str))/\a.length=b.length/\a.length<=60/\(∀y∈a,okN y)/\(∀y∈b,okN y) /\
 (¬Bj a b->∀H',Same H H'->Q .non H')/\(Bj a b->PrQ H Q a b)
def spSame (f:Za->Nat):Sp:=λvs H Q _=>∃(r o:ae) (a b:Za),vs=[.ref r,.ref o]/\H r=some (.lst (a.map V.str))/\H o=some (.lst (b.map V.str))/\Row2 a/\Row2 b /\
 (a.length≠b.length->∀H',Same H H'->Q .non H')/\(a.length=b.length->(Res a b (f b) none->∀H',Same H H'->Q .non H')/\∀z,Res a b (f b) (some z)->PrQ H Q a z)
abbrev NPa:Za:=["row", "other", "there", "name", "partner"]
abbrev NSa:Za:=["row", "other", "there", "by", "pairs"]
end SH
namespace L2
def C2 (c:ae) (q:ah):ao->Prop:=λh=>h.CodeRec (.ref c) q
def C3 (f:ae) (fd:aw):ao->Prop:=λh=>∃o,h.get? f=some o/\o.data = .func fd
def Xm6  : ∀h1 h2:ao,C2 c q h1->(∀o,h1.get? c=some o->h2.get? c=some o)->C2 c q h2:=by
 rintro h1 h2 ⟨c1,o,vs,t,e,ho,r⟩ k;cases e;exact⟨c,o,vs,t,rfl,k _ ho,r⟩
def Xfl  : ∀h1 h2:ao,C3 f fd h1->(∀o,h1.get? f=some o->h2.get? f=some o)->C3 f fd h2:=by
 rintro h1 h2 ⟨o,ho,r⟩ k;exact⟨o,k _ ho,r⟩
def Xm7    {K}                 {Q}  (hf:H f=some (.ext (C3 f (DN name qual params body scope [] pm (.ref c) cP)))) (hc:H c=some (.ext (C2 c qual))) (S:FnScope N ps scope) (hr:Room (k+1) A) (e0:Env0 P w K mg base A outer s H)
  (hl:vs.length=ps.length) (r:Vals vs us) (hb:cD (DN name qual params body scope [] pm (.ref c) cP) ⟨us,[]⟩=pure (ps.zip us))
  (ht:PE (Bz CX P w K mg base N qual scope f (.ref c) A outer s H E) body t) (hq:t (start N vs) H Q):
  bi (aj P w) A (.call (.ref f) ⟨us,[]⟩) (CR CX outer P w H s Q E) s:=by
 obtain⟨⟨of,sT,sU⟩,_⟩:=e0.hok f _ hf;obtain⟨lA,_⟩:=e0.hok c _ hc;have nh:s.heap.NoLimit:=e0.mod.nolimit.keeps λb o e=>(e0.bs b o e).1;have dX:∀y∈ps.zip us,scope.names.lookup y.1=some .local\/(scope.names.lookup y.1=some .cell/\((bA (s.heap.objs.size+1) scope.names []).lookup y.1).isSome=true):=λ⟨n,v⟩ hy=>by
  rcases S.par n (P2 hy).1 with q | q
  ·exact .inl q
  ·exact .inr ⟨q,DP _ _ _ (.inl q)⟩
 refine EC hr.depth sT sU S.co S.gen rfl lA ?_;rw[hb];refine Qn ?_;refine fb S.kind dX λenv he s1 x=>?_;subst he;refine⟨nh.keeps x.toInCall.keep,ED ?_⟩;have I:Inv (Bz CX P w K mg base N qual scope f (.ref c) A outer s H E) [] (start N vs) H s1:=Xa9 S hr.hd e0 hl r x;refine aK (ht [] s1 (start N vs) H _ I hq) (λu s' hs=>?_) λe s' hs=>hs;obtain⟨v,H',J,rv,q⟩:=hs;exact⟨v,H',J.os,J.bare,J.base,J.hok,rv,q⟩
def BmOk (mg:ah->Option aa) (base:ao):Prop:=∃bm ob,mg "__builtins__" = some (.ref bm)/\bm≠cF/\base.get? bm=some ob/\ob.cls = .type "module" /\ ob.dict=some cF/\ob.data = .plain
def Ak (T:ae) (pos:bw) (q:ah) (H:Hp):Prop:=H T=some (.tbl #[]) \/ ∃c,H T=some (.tbl #[aP pos.line,aP pos.col,.ref c])/\H c=some (.ext (C2 c q))
def tLam (T:ae) (q:ah) (params:cb) (body:aA) (scope:bj) (pos:bw):TE:=λ_ H Q=>Ak T pos q H /\
 ∀(f c:ae) (pm cP:aa) (H':Hp),H f=none->H' f=some (.ext (C3 f (DN "<lambda>" q params body scope [] pm (.ref c) cP)))->H' c=some (.ext (C2 c q))->Ak T pos q H'->(∀b o,H b=some o->b≠T->H' b=some o)->Q (.ref f) H'
section
variable {X:Cx}{T c0:ae}{params:cb}{body:aA}{scope:bj}{pos:bw}{q:ah}
def Xfm    {h':ao} {tk} {fd} {o} (I:Inv X pins Z H s) (k:∀b o,s.heap.get? b=some o->h'.get? b=some o) (hsz:s.heap.objs.size<=h'.objs.size) (ho:o.data = .func fd) (ja:o.isFreed=false):
  Inv X pins Z (upd H h'.objs.size (.ext (C3 h'.objs.size fd))) {s with heap:=h'.push o,toks:=tk}:=by
 refine I.laid (t':=tk) (h':=h'.push o) (λb ob e=>Qw _ (k b ob e)) hsz ?_;exact⟨⟨o,ao.get?_push_size _ ja,ho⟩,⟨o,ao.get?_push_size _ ja⟩,Xfl⟩
def Xfn      {tk}  {o}  (I:Inv X pins Z H s) (hT:H T=some (.tbl #[])) (hx:ao.ExtBut T s.heap h') (jk:s.heap.objs.size<=c) (aR:c<h'.objs.size)
  (iD:h'.CodeRec (.ref c) q) (oP:h'.get? T=some (DS (#[]++ps))) (ho:o.data = .func fd) (ja:o.isFreed=false):
  Inv X pins Z (upd (upd (upd H T (.tbl ps)) c (.ext (C2 c q))) h'.objs.size (.ext (C3 h'.objs.size fd))) {s with heap:=h'.push o,toks:=tk}:=by
 have oQ:h'.get? T=some {cls:=.none,data:=.fields ps}:=by simpa using oP
 have nf:∀b u,s.heap.get? b=some u->b≠c/\b≠h'.objs.size:=λb u e=>by
  have z:=Mq (Qv e) jk;exact⟨L9 z,L9 (Oi z aR)⟩
 have nH:∀b u,H b=some u->b≠c/\b≠h'.objs.size:=λb u e=>by
  have z:=Mq (I.hok.lt e) jk;exact⟨L9 z,L9 (Oi z aR)⟩
 have nT:∀b,H b=none->b≠T:=λb n z=>by rw[z,hT] at n;cases n
 have kp:∀b u,b≠T->s.heap.get? b=some u->(h'.push o).get? b=some u:=λb u n e=>Qw _ (hx b u n e);have up:∀b u,H b=some u->b≠T->(upd (upd (upd H T (.tbl ps)) c (.ext (C2 c q))) h'.objs.size (.ext (C3 h'.objs.size fd))) b=some u:=λb u e n=>by
  rw[Ad (nH b u e).2,Ad (nH b u e).1,Ad n];exact e
 refine I.step (g':=s.gens) (d':=s.drawn) (t':=tk) (h':=h'.push o) (ch:=[]) (λ_ z=>nomatch z) (λb u _ _ _ e n=>kp b u (nT b n) e) (λb u _ _ _ e n=>⟨u.slots,kp b u (nT b n) e⟩) (λb u _ e n=>?_) (λb u _ e=>?_)
  (λb xs e=>up b _ e λz=>by rw[z,hT] at e;cases e) (λb u v e=>up b _ e λz=>by rw[z,hT] at e;cases e) (λb pz e=>?_) (λm hn=>(hn.extBut hx (nT _ I.free)).push _) ?_ I.bare
 ·rw[Ad (nf b u e).2,Ad (nf b u e).1,Ad (nT b n)];exact n
 ·by_cases z:b=T
  ·exact⟨_,z ▸ Qw _ oQ⟩
  ·exact⟨u,kp b u z e⟩
 ·by_cases z:b=T
  ·subst z;rw[hT] at e;cases e;refine⟨ps,?_⟩;rw[Ad (nH b _ hT).2,Ad (nH b _ hT).1,Ab];simp
  ·exact⟨#[],by rw[up b _ e z];simp⟩
 ·intro b u e;by_cases z1:b=h'.objs.size
  ·subst z1;rw[Ab] at e;cases e;exact⟨⟨o,ao.get?_push_size _ ja,ho⟩,⟨o,ao.get?_push_size _ ja⟩,Xfl⟩
  ·rw[Ad z1] at e;by_cases z2:b=c
   ·subst z2;rw[Ab] at e;cases e;obtain⟨c1,oc,vs,t,e1,jo,r⟩:=iD;cases e1;exact⟨⟨b,oc,vs,t,rfl,Qw _ jo,r⟩,⟨oc,Qw _ jo⟩,Xm6⟩
   ·rw[Ad z2] at e;by_cases z3:b=T
    ·subst z3;rw[Ab] at e;cases e;exact Qw _ oQ
    ·rw[Ad z3] at e;refine(I.hok b u e).stay (λd v hd g=>kp d v ?_ g) (λd g=>up d _ g λz=>by rw[z,hT] at g;cases g) λd xs g=>up d _ g λz=>by rw[z,hT] at g;cases g
     rcases hd with rfl | hd
     ·exact z3
     ·intro z;rw[z,hT] at hd;cases hd
def Xm8(ii:BmOk X.mg X.base)(lB:yw params X.env=([],[]))(dY:fh scope X.env=pure [])(fD:X.env.code = .ref c0)(hhd:DR X.K c0 T=true)(hq:X.env.qual ++ "<lambda>" = q):
  PE X (.Lambda params body scope pos) (tLam T q params body scope pos):=by
 intro pins s Z H Q I h;obtain⟨tab,k⟩:=h;obtain⟨bm,ob,b1,b2,b3,b4,b5,b6⟩:=ii;have hg:s.heap.Ns am X.mg:=I.mod.glob.keeps I.bk;have C:EQ s.heap c0 T:=DW I.kIn hhd;have nb:bm≠T:=λz=>by
  have n:=(I.bs bm ob b3).2;rw[z] at n;rcases tab with e | ⟨c,e,_⟩<;>(rw[e] at n;cases n)
 have sV:bm≠am:=λz=>by
  obtain⟨o,es,ep,e,hd,_⟩:=I.mod.glob;rw[z,e] at b3;cases b3;rw[hd] at b6;cases b6
 have hB:s.heap.BuiltinsAt X.mg T:=⟨bm,ob,b1,b2,sV,nb,I.bk _ _ b3,b4,b5,b6⟩;refine EJ lB ?_;rw[hq];rcases tab with e | ⟨c,e,ec⟩
 ·have hP:s.heap.get? T=some (DS #[]):=I.hok T _ e;have sW:am≠T:=λz=>by
   obtain⟨o,es,ep,e2,hd,_⟩:=hg;rw[z,hP] at e2;cases e2;cases hd
  refine DX (mg:=X.mg) (clos:=[]) dY I.ok.glob hg fD C hP trivial rfl sW hB λc' cP h' tk hx jk aR iD oP=>?_;have J:=Xfn (tk:=tk) (o:=EM "<lambda>" q params body scope [] ((X.mg "__name__").getD .none) c' cP) I e hx jk aR iD oP rfl rfl;have jD:∀b o,H b=some o->b<c':=λb o eb=>Mq (I.hok.lt eb) jk;have sX:c'≠T:=(L9 (jD _ _ e)).symm;have oR:c'≠h'.objs.size:=L9 aR;have sY:T≠h'.objs.size:=L9 (Oi (jD _ _ e) aR);refine⟨.ref h'.objs.size,_,J,rfl,k _ c' _ cP _ (I.hok.fresh (O2 (Qb jk aR))) Ab (by rw[Ad oR,Ab]) (.inr ⟨c',by rw[Ad sY,Ad sX.symm,Ab],by rw[Ad oR,Ab]⟩) λb o eb nb=>?_⟩;rw[Ad (L9 (Oi (jD _ _ eb) aR)),Ad (L9 (jD _ _ eb)),Ad nb];exact eb
 ·have hP:s.heap.get? T=some (DS #[aP pos.line,aP pos.col,.ref c]):=I.hok T _ e;refine DU (mg:=X.mg) (clos:=[]) (cv:=.ref c) dY I.ok.glob hg fD C hP trivial (by simp[BV,aP]) hB λcP h' tk hk hsz=>?_;have J:=Xfm (tk:=tk) (fd:=DN "<lambda>" q params body scope [] ((X.mg "__name__").getD .none) (.ref c) cP) (o:={cls:=.type "function",data:=.func (DN "<lambda>" q params body scope [] ((X.mg "__name__").getD .none) (.ref c) cP)}) I hk hsz rfl rfl;have nf:∀b o,H b=some o->b≠h'.objs.size:=λb o eb=>L9 (Mq (I.hok.lt eb) hsz);refine⟨.ref h'.objs.size,_,J,rfl,k _ c _ cP _ (I.hok.fresh hsz) Ab (by rw[Ad (nf _ _ ec)];exact ec) (.inr ⟨c,by rw[Ad (nf _ _ e)];exact e,by rw[Ad (nf _ _ ec)];exact ec⟩) λb o eb _=>?_⟩;rw[Ad (nf b o eb)];exact eb
end
def Xm9(x y)(xs ys):ltL (x::xs) (y::ys)=if x=y then ltL xs ys else decide (ltS x y):=rfl
def Xna:ltL [] []=false:=rfl
def Xnb(y)(ys):ltL [] (y::ys)=true:=rfl
def Xnc(x)(xs):ltL (x::xs) []=false:=rfl
def Xnd(A)(s)(a)(t)(c)(u):∃e,SeqAt.EqAt A s (.str a t) (.str c u) e/\(e=true↔a=c):=
 ⟨(a==c),SeqAt.EqAt.str_str a t c u,by simp⟩
def Xne(A)(s)(a)(t)(c)(u)(prog)(w)(E)(Q)(h:Q (.bool (decide (ltS a c))) s):
  ai (aj prog w) A (richCompare .Lt (.str a t) (.str c u)) Q E s:=
 (PyProof.Rows.lt_str h:ai (aj prog w) A (aE .Lt (.str a t) (.str c u)) Q E s)
section
open PySem.SeqAt
open PySem.AutoSeq1 (wpAny_loadPart')
open PySem.MeetsSeq PySem.MeetsSeq2 PySem.MeetsSeq3
def Xnf(l b)(aY cn)(n n2)(dd sZ)(sl tj)(ns ms)(hi:aB aY.toList ns)(hj:aB cn.toList ms):
  Meets (av.«tuple.__lt__» ⟨[.ref l,.ref b],[]⟩)
   (λ_ R s=>s.heap.get? l=some {cls:=.type "tuple",dict:=dd,data:=.seq aY n,slots:=sl}/\s.heap.get? b=some {cls:=.type "tuple",dict:=sZ,data:=.seq cn n2,slots:=tj} /\
    R (.ok (.ret (.bool (ltL ns ms)))) s):=
 .of_wp λprog w A R s h=>by
  obtain⟨hp,g,d,tk,os⟩:=s;obtain⟨hl,hb,h⟩:=h;have f2:=AutoSeq1.sub_tuple_tuple;have z1:aY.size=ns.length:=by rw[<-hi.length];simp
  have z2:cn.size=ms.length:=by rw[<-hj.length];simp
  wp_walk using wpAny_loadPart' hl,wpAny_loadPart' hb,wpAny_forIn_list _ (λrest b s'=>b.1=none/\s'=⟨hp,g,d,tk,os⟩/\∃(vs ws:List aa) (mC mD:Za),rest=vs.zip ws /\
   aB vs mC/\aB ws mD/\mC.length+cn.size=mD.length+aY.size/\R (.ok (.ret (.bool (ltL mC mD)))) ⟨hp,g,d,tk,os⟩) _
  case turn=>
   rintro ⟨y,x⟩ rest b s' ⟨dn,rfl,vs,ws,mC,mD,hz,tq,qQ,aG,hR⟩;cases tq with
   | nil=>rw[List.zip_nil_left] at hz;cases hz
   | cons a t tu=>
    cases qQ with
    | nil=>rw[List.zip_nil_right] at hz;cases hz
    | cons c u tw=>
     rw[List.zip_cons_cons] at hz;injection hz with yx oT
     injection yx with hy hx
     subst hy hx;rw[Xm9] at hR;simp only[Ml] at aG;obtain⟨e,he,oU⟩:=Xnd A.in1 ⟨hp,g,d,tk,os⟩ a t c u;refine Qm (he prog w _ _ ?_);cases e with
     | true=>
      rw[Qq (oU.mp rfl)] at hR
      wp_walk
      exact⟨rfl,rfl,_,_,_,_,oT,tu,tw,by lia,hR⟩
     | false=>
      rw[Qp (λq=>absurd (oU.mpr q) Mr)] at hR;have yy:=Xne A.in1 ⟨hp,g,d,tk,os⟩ a t c u prog w
      wp_walk using yy
      exact⟨_,rfl,by simpa using hR⟩
  case fin=>
   rintro ⟨b1,b2⟩ s' ⟨dn,rfl,vs,ws,mC,mD,hz,tq,qQ,aG,hR⟩;simp only at dn;subst dn;have hv:ltL mC mD=decide (aY.size<cn.size):=by
    cases tq with
    | nil=>
     cases qQ with
     | nil=>
      simp only[Oo] at aG;rw[Xna];exact(Qs (by lia)).symm
     | cons c u hw=>
      simp only[Oo,Ml] at aG;rw[Xnb];exact(Qr (by lia)).symm
    | cons a t hv=>
     cases qQ with
     | nil=>
      simp only[Oo,Ml] at aG;rw[Xnc];exact(Qs (by lia)).symm
     | cons c u hw=>
      rw[List.zip_cons_cons] at hz;cases hz
   rw[hv] at hR
   wp_walk
   exact⟨_,rfl,by simpa [av.Tuple.tupleCompareSizes] using hR⟩
  case h=>
   exact⟨rfl,rfl,aY.toList,cn.toList,ns,ms,rfl,hi,hj,by lia,h⟩
end
open PySem.W (KasT kas_sort kas_ask kas_item kat_run kat_snds kat_kind kat_lt KatLex kat_cons kat_go kat_yes kat_no kat_one kat_nil KatTups)
section
variable {prog:au}{w:ay}{A:ax}{E:Zb}{s:ag}
def Xng    (hl:iq s.heap l aY) (hb:iq s.heap b cn) (hi:aB aY.toList ns) (hj:aB cn.toList ms)
  (hu:A.units<bx) (h:Q (.bool (ltL ns ms)) s):ai (aj prog w) A (aE .Lt (.ref l) (.ref b)) Q E s:=by
 obtain⟨⟨cls,dd,data,sl⟩,ho,hc,n,hd⟩:=id hl;obtain⟨⟨yz,sZ,data2,tj⟩,qR,i3,n2,cU⟩:=id hb;simp only at hc hd i3 cU;subst hc hd i3 cU;exact richCompare_meets_room (op:=.Lt) ⟨_,ho,rfl⟩ ⟨_,qR,rfl⟩ PySem.F.slot_tuple_lt PySem.F.entry_tuple_lt (PySem.F.args_tuple_lt_2 _ _) (Xnf l b aY cn n n2 dd sZ sl tj ns ms hi hj)
  ⟨ho,qR,show aa.bool (ltL ns ms)≠aa.notImplemented/\Q (.bool (ltL ns ms)) s from ⟨(λx=>nomatch x),h⟩⟩ hu
def Cb (n:Nat) (a:Za) (m:Nat) (b:Za):Bool:=if n=m then ltL a b else decide (n<m)
def Xfo  (h:aB vs ss):ItemsAre (Bb prog w) (ss.map Sum.inr) vs:=by
 induction h with
 | nil=>exact .nil
 | cons x t r ih=>exact .cons (show Dg (.inr x) (.str x t)=true by simp[Dg,aa.isStrOf]) ih
def Gu (h:ao) (v:aa) (n:Nat) (ss:Za):Prop:=∃a o xs k t u,v = .ref a/\h.get? a=some o/\o.cls = .type "tuple" /\ o.data = .seq xs k/\xs.toList=[.int n t,u]/\C1 h u ss
def Xnh    (hu:A.units<bx) (hx:Gu s.heap x n as) (hy:Gu s.heap y m bs) (h:C (Cb n as m bs) s):ai (aj prog w) A (o9 (tuples' true) x y) C E s:=by
 obtain⟨a,o,xs,k,t,u,rfl,h1,h2,h3,h4,h5⟩:=hx;obtain⟨b,o',ys,k',t',u',rfl,g1,g2,g3,g4,g5⟩:=hy;refine kat_lt h1 h3 g1 g3 ?_;rw[h4,g4];have ef:decide (xs.size<ys.size)=false:=by
  have e1:xs.size=2:=by rw[<-Ma,h4];rfl
  have e2:ys.size=2:=by rw[<-Ma,g4];rfl
  rw[e1,e2];decide
 rw[ef];show KatLex prog w A true false C [(.int n t,.int m t'),(u,u')] 0 s;unfold Cb at h;refine kat_cons (kM ?_);refine kat_go (λe=>kat_yes ?_) (λe=>kat_no ?_)
 ·have e:n=m:=by have:=Qt e;lia
  rw[Qq e] at h;obtain⟨c,oc,cs,kc,rfl,c1,c2,c3,c4⟩:=h5;obtain⟨d,od,ds,kd,rfl,d1,d2,d3,d4⟩:=g5;refine kat_cons (wpAny_eqBool_tuple (knd:=Bb prog w) hu ⟨oc,cs,kc,c1,c2,c3,Xfo c4⟩ ⟨od,ds,kd,d1,d2,d3,Xfo d4⟩ ?_);refine kat_go (λe2=>kat_yes (kat_nil ?_)) (λe2=>kat_no ?_)
  ·have e2:as=bs:=by
    have:=Qt e2;exact Pk (λ_ _ q=>O3 q) |>.mp this
   rw[e2,Io] at h;exact h
  ·exact kat_one _ _ (Xng ⟨oc,c1,c2,kc,c3⟩ ⟨od,d1,d2,kd,d3⟩ c4 d4 hu h)
 ·have e:¬n=m:=λz=>by
   have:=Qu e
   lia
  rw[Qp e] at h;refine oneLt_int ?_;have:decide ((n:Int)<(m:Int))=decide (n<m):=by simp
  rw[this];exact h
end
open PySem.W (KasT kas_sort kas_ask kas_item kat_run kat_snds kat_kind KatTups)
section
variable {X:Cx}{pins:List (ae×aI)}{Z:List (Option V)}{H:Hp}{s:ag}
def Inv.unpin(I:Inv X (p::pins) Z H s):Inv X pins Z H s:=
 I.pins_of λq hq=>I.pin q (Mx _ (L8 _ hq))
def Xni    (I:Inv X ((D,aq "list" #[] e1)::pins) Z H s) (hD:X.s₀.heap.objs.size<=D) (fE:∀p∈X.pn++pins,p.1≠D) (hv:Vals ys out) (hz:ys.length<=sizeLine):
  Inv X pins Z (upd H D (.lst ys)) {s with heap:=s.heap.update D (aI.mapSeq λ_=>out.toArray)}:=by
 obtain⟨hg,hn,hl,hf,_⟩:=I.pin (D,aq "list" #[] e1) (Mx _ Mf);have J:=I.unpin;have sb:=Qx s.heap D (aI.mapSeq λ_=>out.toArray);obtain⟨c2,i3⟩:∃c2,(s.heap.update D (aI.mapSeq λ_=>out.toArray)).get? D=some (aq "list" out.toArray c2):=⟨_,cN hg λ_=>out.toArray⟩;have kp:∀b o,b≠D->s.heap.get? b=some o->(s.heap.update D (aI.mapSeq λ_=>out.toArray)).get? b=some o:=λb o n e=>(sb.2 b n).trans e;have nD:∀b u,H b=some u->b≠D:=λb u e z=>by rw[z,hn] at e;cases e
 have up:∀b u,H b=some u->(upd H D (.lst ys)) b=some u:=λb u e=>by rw[Ad (nD b u e)];exact e
 refine J.step (g':=s.gens) (d':=s.drawn) (t':=s.toks) (ch:=[D]) (λb hb=>?_) (λb o _ _ hc e _=>kp b o (λz=>hc (by rw[z];exact N7 _)) e) (λb o _ _ hc e _=>⟨o.slots,kp b o (λz=>hc (by rw[z];exact N7 _)) e⟩)
  (λb o hc e n=>?_) (λb o hc e=>⟨o,kp b o (λz=>hc (by rw[z];exact N7 _)) e⟩) (λb xs e=>up b _ e) (λb o u e=>up b _ e) (λb pz e=>⟨#[],by rw[up b _ e];simp⟩) (λm hm=>hm.sameBut sb (Ne.symm hl)) ?_ J.bare
 ·rw[Mi.mp hb];refine⟨.inr hD,hl,λx c e z=>?_,λp hp=>fE p hp⟩;obtain⟨v,o,ho,hd⟩:=J.cell x c e;rw[z,hg] at ho;cases ho;cases hd
 ·rw[Ad (λz=>hc (by rw[z];exact N7 _))];exact n
 ·intro b u e;by_cases z:b=D
  ·subst z;rw[Ab] at e;cases e;exact⟨hz,out,c2,hv,i3⟩
  ·rw[Ad z] at e;refine(J.hok b u e).stay (λd v hd g=>kp d v ?_ g) (λd g=>up d _ g) λd xs g=>up d _ g;rcases hd with rfl | hd
   ·exact z
   ·exact nD d _ hd
end
open PySem.W (KasT kas_sort kas_ask kas_item kat_run kat_snds kat_kind KatTups)
def Dv (Ts:List (Za)) (i j:Nat):Bool:=Cb (Ts.getD i []).length (Ts.getD i []) (Ts.getD j []).length (Ts.getD j [])
def Xfp(n:Nat)(a:Za):Cb n a n a=false:=by unfold Cb;rw[Qq rfl];exact Io a
def Xfq{n m k:Nat}{a b c:Za}(h:Cb n a m b=true)(g:Cb m b k c=true):Cb n a k c=true:=by
 unfold Cb at *;by_cases e1:n=m
 ·rw[Qq e1] at h;by_cases e2:m=k
  ·rw[Qq e2] at g;rw[Qq (e1.trans e2)];exact Lh _ _ _ h g
  ·rw[Qp e2] at g;rw[Qp (by omega)];have:=Qt g;exact Qr (by omega)
 ·rw[Qp e1] at h;have h:=Qt h;by_cases e2:m=k
  ·rw[Qp (by omega)];exact Qr (by omega)
  ·rw[Qp e2] at g;have g:=Qt g;rw[Qp (by omega)];exact Qr (by omega)
def Xnj{n m:Nat}{a b:Za}(h:a≠b):Cb n a m b=true\/Cb m b n a=true:=by
 unfold Cb;by_cases e:n=m
 ·rw[Qq e,Qq e.symm];exact Li _ _ h
 ·rw[Qp e,Qp (Ne.symm e)];rcases Nat.lt_or_ge n m with z | z
  ·exact .inl (Qr z)
  ·exact .inr (Qr (by omega))
def linP{Ts:List (Za)}(nd:Ts.Nodup):Lin Ts.length (Dv Ts) where
 ig i:=Xfp _ _
 tr i j k:=Xfq
 tot i j hi hj ne:=Xnj λe=>ne (by
  have e1:Ts.getD i []=Ts[i]:=by simp[List.getD,hi]
  have e2:Ts.getD j []=Ts[j]:=by simp[List.getD,hj]
  rw[e1,e2] at e;exact(Pt nd).mp e)
def Turns (X:Cx) (f:ae) (H:Hp) (ps:List ae) (Ts:List (Za)):Prop:=
 ∀(pins:List (ae×aI)) (Z:L2.St) (s1:ag) (H1:Hp) (i:Nat),i<ps.length->Same H H1->Inv X pins Z H1 s1 ->
  ai (aj X.prog X.w) X.A.in1.in1 (call (.ref f) [.ref (ps.getD i 0)]) (λu s'=>∃t H2,u = .ref t/\Inv X pins Z H2 s'/\H2 t=some (.tup [.int (Ts.getD i []).length,.ref (ps.getD i 0)])/\Same H1 H2) (λ_ _=>False) s1
section
variable {X:Cx}{pins:List (ae×aI)}{Z:L2.St}{H:Hp}{s:ag}
def Xnk{t p:ae}{n:Nat}{ss:Za}(I:Inv X pins Z H s)(ht:H t=some (.tup [.int n,.ref p]))(hp:H p=some (.tup (ss.map V.str))):Gu s.heap (.ref t) n ss:=by
 obtain⟨a8,r,⟨o,ho,hc,k,hd⟩,_⟩:=I.tuple (SqT.of (K:=X.K) ht);obtain⟨kT,r2,⟨o2,qR,i3,k2,cU⟩,_⟩:=I.tuple (SqT.of (K:=X.K) hp);cases r with
 | cons r1 r'=>
  cases r' with
  | cons y1 y3=>
   cases y3;obtain⟨tk,rfl⟩:∃tk,_=aa.int n tk:=r1;cases y1;exact⟨t,o,_,k,tk,.ref p,rfl,ho,hc,hd,rfl,p,o2,_,k2,rfl,qR,i3,cU,by simpa using Kj r2⟩
def I0{D kS:ae}{e1:Nat}{ks:List V}{st:fA}{out:List ae}{A:ax}{E:Zb}{P:PySem.Fin->ag->Prop}(I:Inv X ((D,aq "list" #[] e1)::pins) Z H s)(hD:X.s₀.heap.objs.size<=D)(fE:∀p∈X.pn++pins,p.1≠D)
  (hk:H kS=some (.lst ks)) (ho:(eh st).map (·.2)=(out.map aa.ref).toArray) (hf:fB st=none) (hz:out.length<64) (h:∀s',Inv X pins Z (upd (upd H kS (.lst [])) D (.lst (out.map V.ref))) s'->P (.done (.ret .none)) s'):
  ai (aj X.prog X.w) A (ksk_tail D false e1 (.ref kS) st) P E s:=by
 obtain⟨z,a8,n,r,hl,e⟩:=I.lstM hk;have J:=I.lset (its':=[]) (f:=λ_ => #[]) (ys:=[]) (t':=s.toks) hk e rfl .nil (by decide);unfold ksk_tail
 try dsimp only
 rw[ho];simp only[My,if_false];refine Qm (bh e rfl ?_ (by rw[Md,<-hl];exact z) (M3 _));refine Qm (wpAny_letGo ?_);obtain⟨hg,_⟩:=J.pin (D,aq "list" #[] e1) (Mx _ Mf);refine Qm (c7 hg rfl ?_);refine Qm (bh hg rfl ?_ (M3 _) (by rw[Md,L5,Qo];omega));rw[hf];simp only[bne_self_eq_false,My,if_false];refine Qn (h _ ?_);have vr:Vals (out.map V.ref) (out.map aa.ref):=by
  clear ho hz h
  induction out with
  | nil=>exact .nil
  | cons p t ih=>exact .cons rfl ih
 exact Xni J hD fE vr (by rw[L5,Qo];omega)
def Xnl{D kS:ae}{e1:Nat}{ks:List V}{ps:List ae}{Ts:List (Za)}{a8:List aa}{A:ax}{E:Zb}{P:PySem.Fin->ag->Prop}(I:Inv X ((D,aq "list" #[] e1)::pins) Z H s)(hu:A.units<bx)(hD:X.s₀.heap.objs.size<=D)(fE:∀p∈X.pn++pins,p.1≠D)
  (hk:H kS=some (.lst ks)) (aG:a8.length=ps.length) (hT:ps.length=Ts.length) (nd:Ts.Nodup) (hp:∀i,i<ps.length->Gu s.heap (a8.getD i .none) (Ts.getD i []).length (Ts.getD i [])) (cB:ps.length<64)
  (h:∀(p:Array Nat) s',Gd ps.length p->Bq (Dv Ts) p ps.length->Inv X pins Z (upd (upd H kS (.lst [])) D (.lst ((p.toList.map λi=>ps.getD i 0).map V.ref))) s'->P (.done (.ret .none)) s'):
  ai (aj X.prog X.w) A (k7 D false (ps.map aa.ref).toArray e1 (.ref kS) a8.toArray) P E s:=by
 have hsz:(ps.map aa.ref).toArray.size=ps.length:=by simp
 have L:=linP nd;rw[<-hT] at L;have oV:∀p:Array Nat,Gd ps.length p->(p.toList.map λi=>(ps.map aa.ref).getD i aa.none)=((p.toList.map λi=>ps.getD i 0).map aa.ref):=λp g=>by
  rw[M5];refine M6 λi hi=>?_;have dR:i<ps.length:=by
   have:=(Array.perm_iff_toList_perm.mp g).mem_iff.mp hi;simpa using this
  simp[List.getD,dR]
 unfold k7
 try dsimp only
 simp only[My,if_false];by_cases h2:(ps.map aa.ref).toArray.size<2
 ·rw[Qq h2,Qq h2];refine Qm (Qn ?_);rw[StateT.run_pure];refine Qm (Qn ?_)
  try dsimp only
  have g0:Gd ps.length (List.toArray (List.range ps.length)):=Pm _;refine I0 (st:=fA.mk' general' (a8.toArray.zip (ps.map aa.ref).toArray) #[] 7 none) (out:=(List.toArray (List.range ps.length)).toList.map λi=>ps.getD i 0) I hD fE hk ?_ rfl (by simpa using cB) λs' J=>h _ s' g0 (λi j f9 hj=>by omega) J;rw[<-oV _ g0];show ((a8.toArray.zip (ps.map aa.ref).toArray).map (·.2))=_;apply Px.mp;simp only[Array.toList_map,List.zip_toArray];rw[Pe (by simp[aG])];refine O5 (by simp) λi h1 h2=>?_;simp[List.getD] at h1 ⊢;simp[h1]
 ·rw[Qp h2,Qp h2];have fst:∀(l:List aa) (q:∀v∈l,∃n ss,Gu s.heap v n ss),∃fs,KatTups s.heap l fs/\fs.length=l.length/\∀f∈fs,∃(x:Int) (t:Tok),f = .int x t:=by
   intro l
   induction l with
   | nil=>exact λ_=>⟨[],KatTups.nil,rfl,λ_ h=>by cases h⟩
   | cons v l ih=>
    intro q;obtain⟨fs,t1,t2,t3⟩:=ih λu hm=>q u (L8 _ hm);obtain⟨n,ss,a,o,xs,k,t,u,rfl,g1,g2,g3,g4,_⟩:=q v Mf;refine⟨.int n t::fs,KatTups.cons g1 g2 g3 ?_ t1,by simp[t2],λf hf=>?_⟩
    ·have:xs[0]? = xs.toList[0]?:=by simp
     rw[this,g4];rfl
    ·rcases Mb.mp hf with e | e
     ·exact⟨_,_,e⟩
     ·exact t3 f e
  obtain⟨fs,t1,t2,t3⟩:=fst a8 λv hv=>by
   obtain⟨i,hi,rfl⟩:=M4.mp hv;have:=hp i (by omega);have e:a8.getD i .none=a8[i]:=by simp[List.getD,hi]
   rw[e] at this;exact⟨_,_,this⟩
  refine Qm (kat_kind (T:=.type "int") t1 (by omega) (λv hm=>?_) (by decide) ?_)
  ·obtain⟨x,t,rfl⟩:=t3 v hm;exact .now
  have eb:((aa.type "int") != aa.type "tuple")=true:=by decide
  rw[eb];refine Qm (aK (kat_run (κ:=tuples' true) (ks:=a8) (vs:=ps.map aa.ref) (Q:=λbT s'=>s'=s/\fB bT=none/\∃p,Gd ps.length p/\Bq (Dv Ts) p ps.length/\(eh bT).map (·.2)=(p.toList.map λi=>(ps.map aa.ref).getD i aa.none).toArray)
   (G:=λp s'=>s'=s/\Gd ps.length p/\Bq (Dv Ts) p ps.length) (by simp[aG]) (by rw[L5];omega) (by rw[L5];exact cB) (λp bT s' a1 a2 a3 a4=>⟨a4.1,a3,p,a4.2.1,a4.2.2,kat_snds (by simp[aG]) a2⟩) ?_) ?_ λ_ _ e=>e)
  ·rw[L5];refine Lc (n:=ps.length) (lt:=Dv Ts) (λi j C hi hj hC=>?_) (Il (n:=ps.length) (by omega)) ⟨rfl,(Il (n:=ps.length) (by omega)).run,Xei L (by omega)⟩;show ai _ _ (o9 (tuples' true) (a8.getD i aa.none) (a8.getD j aa.none)) C _ _;exact Xnh hu (hp i hi) (hp j hj) hC
  rintro ⟨⟨⟩,bT⟩ s' ⟨rfl,hf,p,g,so,ea⟩
  try dsimp only
  refine I0 (out:=p.toList.map λi=>ps.getD i 0) I hD fE hk (by rw[ea,oV p g]) hf (by rw[L5,Ma,g.size];exact cB) λs' J=>h p s' g so J
end
section
variable {X:Cx}{pins:List (ae×aI)}{Z:L2.St}{H:Hp}{s:ag}
def Xnm{D kS f:ae}{e1:Nat}{ps:List ae}{Ts:List (Za)}{A:ax}{E:Zb}{P:PySem.Fin->ag->Prop}(hA:A=X.A.in1.in1)(I:Inv X ((D,aq "list" #[] e1)::pins) Z (upd H kS (.lst [])) s)(gX:H kS=none)(hu:A.units<bx)(hD:X.s₀.heap.objs.size<=D)(fE:∀p∈X.pn++pins,p.1≠D)(gR:H D=none)
  (hT:Tups H ps Ts) (nd:Ts.Nodup) (cB:ps.length<64) (turn:Turns X f H ps Ts)
  (h:∀(p:Array Nat) (H':Hp) s',Gd ps.length p->Bq (Dv Ts) p ps.length->Same H H'->H' D=some (.lst ((p.toList.map λi=>ps.getD i 0).map V.ref))->Inv X pins Z H' s'->P (.done (.ret .none)) s'):
  ai (aj X.prog X.w) A (iE D (.ref f) false (ps.map aa.ref).toArray e1 (.ref kS)) P E s:=by
 subst hA;unfold iE;refine Qm (b8 ?_)
 first
  | rw[List.forIn_toArray]
  | (rw[<-Oz];simp only[List.toList_toArray])
  | rw[<-Oz]
 refine Qm (ksk_fold (λi s'=>∃(H':Hp) (ks:List V),Inv X ((D,aq "list" #[] e1)::pins) Z H' s'/\Same H H'/\H' kS=some (.lst ks)/\ks.length=i/\∀j,j<i->∃t,ks[j]? = some (.ref t)/\H' t=some (.tup [.int (Ts.getD j []).length,.ref (ps.getD j 0)])) (ps.map aa.ref) 0 s
  ⟨_,[],I,Same.upd0 gX,Ab,rfl,λj hj=>absurd hj (Nj _)⟩ ?step ?done)
 case step=>
  rintro j x s' hx ⟨H',ks,J,sm,hk,iF,jE⟩;simp only[Pa] at iF jE ⊢;obtain⟨hj,ex⟩:=Mc.mp hx;rw[L5] at hj;have qu:x = .ref (ps.getD j 0):=by rw[<-ex];simp[List.getD,hj]
  subst qu;refine Qm (dc (aK (turn _ Z s' H' j hj sm J) (λv js he=>?_) λ_ _ hF=>hF.elim));obtain⟨t,H2,rfl,J2,ht,mE⟩:=he
  try dsimp only
  have mF:=mE _ _ hk;obtain⟨z,a8,n,r,hl,e⟩:=J2.lstM mF;have y4:t≠kS:=λq=>by rw[q,mF] at ht;cases ht
  refine Qm (bh e rfl ?_ (by rw[Md,<-hl];exact z) (by rw[Array.size_push,Md,<-hl,iF,Qo];omega));refine Qn ⟨rfl,_,ks++[.ref t],J2.lset (ys:=ks++[.ref t]) (its':=a8++[.ref t]) (t':=js.toks) mF e (by simp) (r.append (.cons (show Aj (.ref t) (.ref t) from rfl) .nil)) (by rw[Mg,Nh,iF,Qo];omega),(sm.trans mE).upd gX,Ab,by simp[iF],λi hi=>?_⟩;by_cases q:i=j
  ·subst q;exact⟨t,by rw[Ny (by omega),iF];simp,by rw[Ad y4];exact ht⟩
  ·obtain⟨t',a1,a2⟩:=jE i (by omega);refine⟨t',by rw[Nl (by omega)];exact a1,?_⟩;rw[Ad λq=>by rw[q,hk] at a2;cases a2];exact mE _ _ a2
 case done=>
  rintro s' ⟨H',ks,J,sm,hk,iF,jE⟩;simp only[Pa,L5] at iF jE
  try dsimp only
  obtain⟨z,a8,n,r,hl,e⟩:=J.lstM hk;refine Qm (cJ e rfl ?_);have qS:=hT.same sm;have BW:kS≠D:=λq=>by
   obtain⟨_,hn,_⟩:=J.pin (D,aq "list" #[] e1) (Mx _ Mf);have hn:H' D=none:=hn;rw[<-q,hk] at hn;cases hn
  refine Xnl (ks:=ks) J hu hD fE hk (by omega) hT.1 nd (λi hi=>?_) cB λp s2 g so J2=>h p _ s2 g so ((sm.upd gX).upd gR) Ab J2;obtain⟨t,a1,a2⟩:=jE i hi;obtain⟨u,tz,oW⟩:=r.get a1;have oW:u=aa.ref t:=oW;have e2:a8.getD i .none = .ref t:=by simp[List.getD,tz,oW]
  rw[e2];exact Xnk J a2 (qS.2 i hi)
def Xnn{l f:ae}{ps:List ae}{Ts:List (Za)}{Q:VK}(I:Inv X pins Z H s)(hu:X.A.in1.in1.units<bx)(hl:H l=some (.lst (ps.map V.ref)))(hT:Tups H ps Ts)(nd:Ts.Nodup)(cB:ps.length<64)(turn:Turns X f H ps Ts)
  (h:∀(D:ae) (p:Array Nat) (H':Hp),H D=none->Gd ps.length p->Bq (Dv Ts) p ps.length->Same H H'->H' D=some (.lst ((p.toList.map λi=>ps.getD i 0).map V.ref))->Q (.ref D) H'):
  ai (aj X.prog X.w) X.A (call (.builtin "sorted") [.ref l] [(ah.ofString "key",.ref f)]) (EP X pins Z Q) X.xe s:=by
 obtain⟨a8,rv,pl,hz⟩:=I.list (SqL.of hl);have lC:a8=ps.map aa.ref:=by
  clear hT cB turn h pl hl hz
  induction ps generalizing a8 with
  | nil=>cases rv;rfl
  | cons p t ih=>
   cases rv with
   | cons r t'=>cases r;rw[ih _ t'];rfl
 subst lC;refine gY eg dH dI (ksk_s1 _ _) ?_;unfold av.«sorted»;refine Qm (m:=fz "sorted" 1 1 _) (Qn ?_);refine Qm (t0 pl.isList ?_ (by rw[L5,Qo];omega));refine Qm (bD ?_ (by rw[L5,Qo];omega));generalize oX:ps.map aa.ref=vs at *;have i6:vs.length=ps.length:=by rw[<-oX,L5]
 have hsz:((s.heap.push (aq "list" #[] 0)).update s.heap.objs.size (aI.mapSeq (· ++ vs.toArray))).objs.size=s.heap.objs.size+1:=by
  rw[ao.size_update,bd]
 have fU:(((s.heap.push (aq "list" #[] 0)).update s.heap.objs.size (aI.mapSeq (· ++ vs.toArray))).push (aq "list" vs.toArray 0)).get? (s.heap.objs.size+1)=some (aq "list" vs.toArray 0):=by
  rw[<-hsz];exact ao.get?_push_size _ rfl
 have keep:∀b o,s.heap.get? b=some o->(((s.heap.push (aq "list" #[] 0)).update s.heap.objs.size (aI.mapSeq (· ++ vs.toArray))).push (aq "list" vs.toArray 0)).get? b=some o:=λb o q=>by
  have aR:b<s.heap.objs.size:=Qv q;rw[ao.get?_push_ne _ _ _ (by rw[hsz];exact L9 (Nc aR)),ao.get?_update_ne _ _ _ _ (L9 aR),ao.get?_push_ne _ _ _ (L9 aR)];exact q
 have lD:(((s.heap.push (aq "list" #[] 0)).update s.heap.objs.size (aI.mapSeq (· ++ vs.toArray))).push (aq "list" vs.toArray 0)).objs.size=s.heap.objs.size+2:=by
  rw[bd,hsz]
 show ai _ _ _ _ _ {s with heap:=((s.heap.push (aq "list" #[] 0)).update s.heap.objs.size (aI.mapSeq (· ++ vs.toArray))).push (aq "list" vs.toArray 0)};rw[hsz];generalize y6:((s.heap.push (aq "list" #[] 0)).update s.heap.objs.size (aI.mapSeq (· ++ vs.toArray))).push (aq "list" vs.toArray 0)=hA at *;refine Qm (a7 (jl cS ⟨_,fU,rfl⟩ cM ?body (ksk_l1 _ _)))
 case body=>
  show ai (aj X.prog X.w) X.A.in1.in1 (av.«list.sort» ⟨[.ref (s.heap.objs.size+1)],[(ah.ofString "key",.ref f)]⟩) _ _ _;rw[ksk_t1];unfold ksk_tree;refine Qm (cJ fU rfl ?_);refine Qm (bh fU rfl ?_ (by rw[Md,i6,Qo];omega) (M3 _));obtain⟨e1,eP⟩:∃e1,(hA.update (s.heap.objs.size+1) (aI.mapSeq λ_=>(#[]:Array aa))).get? (s.heap.objs.size+1)=some (aq "list" #[] e1):=⟨_,cN fU λ_ => #[]⟩;refine Qm (c7 eP rfl ?_);refine Qm (cR ?_ (by show vs.length<=_;rw[i6,Qo];omega));refine Qm (bD ?_ (M3 _));refine a7 ?_;have gX:((hA.update (s.heap.objs.size+1) (aI.mapSeq λ_=>(#[]:Array aa))).push (aq "tuple" vs.toArray 0)).objs.size=s.heap.objs.size+3:=by rw[bd,ao.size_update,lD]
  have k6:∀b o,s.heap.get? b=some o->(((hA.update (s.heap.objs.size+1) (aI.mapSeq λ_=>(#[]:Array aa))).push (aq "tuple" vs.toArray 0)).push (aq "list" #[] 0)).get? b=some o:=λb o e=>by
   refine Qw _ (Qw _ ?_);rw[ao.get?_update_ne _ _ _ _ (L9 (Nc (Qv e)))];exact keep b o e
  have kr:(((hA.update (s.heap.objs.size+1) (aI.mapSeq λ_=>(#[]:Array aa))).push (aq "tuple" vs.toArray 0)).push (aq "list" #[] 0)).get? (s.heap.objs.size+1)=some (aq "list" #[] e1):=Qw _ (Qw _ eP);have oA:(((hA.update (s.heap.objs.size+1) (aI.mapSeq λ_=>(#[]:Array aa))).push (aq "tuple" vs.toArray 0)).push (aq "list" #[] 0)).get? (s.heap.objs.size+3)=some (aq "list" #[] 0):=by rw[<-gX];exact ao.get?_push_size _ rfl
  have J0:Inv X pins Z (upd H (s.heap.objs.size+3) (.lst [])) {s with heap:=((hA.update (s.heap.objs.size+1) (aI.mapSeq λ_=>(#[]:Array aa))).push (aq "tuple" vs.toArray 0)).push (aq "list" #[] 0)}:=
   I.laid (t':=s.toks) (o:=.lst []) k6 (by omega) ⟨by decide,[],0,.nil,oA⟩
  have gR:H (s.heap.objs.size+1)=none:=I.hok.fresh (Og _);have fE:∀p∈X.pn++pins,p.1≠s.heap.objs.size+1:=λp hp=>L9 (Nc (Qv (I.pin p hp).1));have J1:Inv X ((s.heap.objs.size+1,aq "list" #[] e1)::pins) Z (upd H (s.heap.objs.size+3) (.lst [])) {s with heap:=((hA.update (s.heap.objs.size+1) (aI.mapSeq λ_=>(#[]:Array aa))).push (aq "tuple" vs.toArray 0)).push (aq "list" #[] 0)}:=by
   refine J0.pins_of λp hp=>?_;rcases Mb.mp hp with rfl | hp
   ·exact⟨kr,by rw[Ad (by show s.heap.objs.size+1≠s.heap.objs.size+3;omega)];exact gR,P7 (Nc I.lt),I.nofs (Og _),λv q=>by cases q⟩
   ·exact J0.pin p (Mx _ hp)
  rw[gX];subst oX;refine Xnm (f:=f) rfl J1 (I.hok.fresh (by omega)) hu (M8 I.sz (Og _)) fE gR hT nd cB turn λp H' s' g so sm gF J=>⟨_,rfl,?_⟩;exact Qn ⟨_,rfl,⟨.ref (s.heap.objs.size+1),H',J,rfl,h _ p H' gR g so sm gF⟩⟩
end
structure FunT (K:DK) (x:ah) (st:aO) (f:ae) (fd:aw) (T:ae):Prop where
 ex:∃(oc:aa) (od:Option ae) (kV cK pm:aa) (an:Option ae) (c0:ae) (ct:aa) (fX:Array (Option aa)),
  fd=DT x x (Dl st) (B1 st) (defScope st) .none kV cK pm an (.ref c0) ct/\K.lookup f=some ⟨oc,od,.func fd,fX⟩/\DV K (.ref c0) x=true/\DR K c0 T=true
 kp:DQ K (.ref f)=true
structure DefT (K:DK) (x:ah) (st:aO) (T:ae):Prop where
 ex:∃f fd,DM K am x=some (some (.ref f))/\DQ K (.ref f)=true/\FunT K x st f fd T/\Fun K x x st f fd
def DefT.of{K:DK}{x:ah}{st:aO}{f c0 T:ae}{oc:aa}{od an:Option ae}{fX:Array (Option aa)}{kV cK pm ct:aa}(a:DM K am x=some (some (.ref f)))
  (l:K.lookup f=some ⟨oc,od,.func (DT x x (Dl st) (B1 st) (defScope st) .none kV cK pm an (.ref c0) ct),fX⟩) (c:DV K (.ref c0) x=true) (k:DQ K (.ref f)=true) (t:DR K c0 T=true):DefT K x st T:=
 ⟨⟨f,_,a,k,⟨⟨oc,od,kV,cK,pm,an,c0,ct,fX,rfl,l,c,t⟩,k⟩,Xbv l c k⟩⟩
section
variable {P:au}{w:ay}{K:DK}{mg:ah->Option aa}{base:ao}
def FunT.ok{x:ah}{st:aO}{f T:ae}{fd:aw}{N ps:Za}{k:Nat}{sp:Sp}(F:FunT K x st f fd T)(S:FnScope N ps (defScope st))(len:∀vs H Q E,sp vs H Q E->vs.length=ps.length)
  (dy:∀(c0:ae),DR K c0 T=true->∀(A:ax) (outer:List dm) (s:ag) (H:Hp) (vs:List V) (Q:VK) (E:XK),Room k (A.deeper (aH x (defScope st) s.heap.objs.size f (.ref c0)))->sp vs H Q E ->
   ∃t,PSs (Bz CX0 P w K mg base N x (defScope st) f (.ref c0) A outer s H E).nox (B1 st) t/\t {nx:=λ_ H'=>Q .non H',rt:=Q} (start N vs) H):FnOk P w K mg base CX0 (k+1) f fd ps sp:=by
 obtain⟨oc,od,kV,cK,pm,an,c0,ct,fX,rfl,lk,fP,hhd⟩:=F.ex;refine Jy lk fP S len λA outer s H vs Q E hr fQ=>?_;obtain⟨t,h,q⟩:=dy c0 hhd A outer s H vs Q E hr fQ;exact⟨t,h.nox,q⟩
end
section
variable {X:Cx}
def Xno (X:Cx) (ta tk:TA):TE:=fun Z H Q=>ta Z H λvs H1=>tk Z H1 λzs H2=>∃(l f:ae) (ps:List ae) (Ts:List (Za)),vs=[.ref l]/\zs=[.ref f]/\H2 l=some (.lst (ps.map V.ref))/\Tups H2 ps Ts/\Ts.Nodup/\ps.length<64/\Turns X f H2 ps Ts /\
 ∀(D:ae) (p:Array Nat) (H':Hp),H2 D=none->Gd ps.length p->Bq (Dv Ts) p ps.length->Same H2 H'->H' D=some (.lst ((p.toList.map λi=>ps.getD i 0).map V.ref))->Q (.ref D) H'
def Xnp{x:ah}{p pos:bw}{e:aA}{es:List aA}{eZ:List cz}{ta tk:TA}(hu:X.A.in1.in1.units<bx)(hg:Gl X x)(hm:X.mg x=none)(hv:br x=some (.builtin "sorted"))(ha:PA X (e::es) ta)(t6:PK X eZ tk)
  (jE:(bJ pos (aW eZ X.env)).filterMap (·.1)=[ah.ofString "key"]:=by rfl)
  (hn:x ≠ "__name__" := by decide) (gK:(x==("__debug__" : ah))=false:=by decide)
  (he:bn pos (az (e::es) X.env)=(false,eval e X.env)::bn pos (az es X.env):=by rfl)
  (dB:(bn pos (az (e::es) X.env)).any (·.1)=false:=by rfl)
  (bN:(bJ pos (aW eZ X.env)).all (·.1.isSome)=true:=by rfl)
  (eQ:(bJ pos (aW eZ X.env)).any (·.1.isNone)=false:=by rfl):PE X (.Call (.Name x p) (e::es) eZ pos) (Xno X ta tk):=by
 intro pins s Z H Q I h;refine bF (Ek I hg hm hv ?_ hn gK);refine vN (thn (ha pos pins s Z H _ I h) λus s1 ⟨vs,H1,I1,r1,q1⟩=>thn (t6 pos pins s1 Z H1 _ I1 q1) λws s2 ⟨zs,H2,I2,r2,q2⟩=>?_) he dB bN eQ;rw[jE];obtain⟨l,f,ps,Ts,rfl,rfl,hl,hT,nd,cB,turn,k⟩:=q2;obtain⟨u,rfl,rx⟩:=B2 r1;obtain⟨v,rfl,rf⟩:=B2 r2;cases rx;cases rf;exact Xnn I2 hu hl hT nd cB turn k
def Xnq{k:Nat}{f c:ae}{x qual:ah}{params:cb}{body:aA}{scope:bj}{pm cP:aa}{H:Hp}{ps:List ae}{Ts:List (Za)}(hf:H f=some (.ext (C3 f (DN "<lambda>" qual params body scope [] pm (.ref c) cP))))(hc:H c=some (.ext (C2 c qual)))
  (S:FnScope [x] [x] scope) (hr:Room (k+3) X.A) (hb:∀u,cD (DN "<lambda>" qual params body scope [] pm (.ref c) cP) ⟨[u],[]⟩=pure ([x].zip [u]))
  (fq:∀(A:ax) (outer:List dm) (s1:ag) (H1:Hp) (i:Nat),i<ps.length->Same H H1->Room k (A.deeper (aH qual scope s1.heap.objs.size f (.ref c)))->∃t,PE (Bz CX0 X.prog X.w X.K X.mg X.base [x] qual scope f (.ref c) A outer s1 H1 E0) body t /\
   ∀Q:VK,(∀t H2,H2 t=some (.tup [.int (Ts.getD i []).length,.ref (ps.getD i 0)])->Same H1 H2->Q (.ref t) H2)->t (start [x] [.ref (ps.getD i 0)]) H1 Q):Turns X f H ps Ts:=by
 intro pins Z s1 H1 i hi sm I;have ca:Room (k+1) X.A.in1.in1:=(Room.in1 (k:=k+2) hr).in1;obtain⟨t,ht,hq⟩:=fq X.A.in1.in1 X.stack s1 H1 i hi sm (ca.deeper _);refine eU (bv (Xm7 (Q:=λv H2=>∃t,v = .ref t/\H2 t=some (.tup [.int (Ts.getD i []).length,.ref (ps.getD i 0)])/\Same H1 H2) (sm _ _ hf) (sm _ _ hc) S ca I.env0.in1.in1 rfl (.cons (show Aj (.ref (ps.getD i 0)) (.ref (ps.getD i 0)) from rfl) .nil) (hb _) ht (hq _ λt H2 a b=>⟨t,rfl,a,b⟩)) λr s' gW=>?_);cases r with
 | error e=>exact gW.elim
 | ok fl=>
  cases fl with
  | next=>exact False.elim gW
  | brk=>exact False.elim gW
  | cont=>exact False.elim gW
  | ret u=>
   obtain⟨v,H2,J,rv,t,rfl,a,b⟩:=I.after gW;exact⟨t,H2,rv,J,a,b⟩
end
end L2
namespace SH
open L2
def Cq (a b:Za):Bool:=Cb a.length a b.length b
def Xnr{Ts:List (Za)}{p:Array Nat}(g:Gd Ts.length p)(so:Bq (Dv Ts) p Ts.length):
  (p.toList.map λi=>Ts.getD i []).Perm Ts/\(p.toList.map λi=>Ts.getD i []).Pairwise λa b=>Cq a b=true:=by
 constructor
 ·have e:((List.range Ts.length).map λi=>Ts.getD i [])=Ts:=by
   refine O5 (by simp) λi h1 h2=>?_;simp[Nx,List.getElem_range,List.getD,h2]
  have q:p.toList.Perm (List.range Ts.length):=by
   have:=g.toList;simpa using this
  have:=q.map λi=>Ts.getD i [];rw[e] at this;exact this
 ·rw[N2];intro i j hi hj f9;have sz:=g.size;rw[L5,Ma,sz] at hi hj;have:=so i j f9 hj;rw[Nx,Nx];have e1:p.getD i 0=p.toList[i]'(by rw[Ma,sz];exact hi):=by simp[Array.getD,sz,hi]
  have e2:p.getD j 0=p.toList[j]'(by rw[Ma,sz];exact hj):=by simp[Array.getD,sz,hj]
  rw[e1,e2] at this;exact this
def Xfr{α : Type}(f:Nat -> α)(d : α)(l:List Nat){i:Nat}(hi:i<l.length):(l.map f).getD i d=f l[i]:=by simp[List.getD,hi]
def Xns{H:Hp}{ps:List ae}{Ts:List (Za)}{p:Array Nat}(h:Tups H ps Ts)(g:Gd ps.length p):Tups H (p.toList.map λi=>ps.getD i 0) (p.toList.map λi=>Ts.getD i []):=by
 refine⟨by simp,λi hi=>?_⟩;rw[L5] at hi;have e1:(p.toList.map λi=>ps.getD i 0).getD i 0=ps.getD p.toList[i] 0:=Xfr _ _ _ hi;have e2:(p.toList.map λi=>Ts.getD i []).getD i []=Ts.getD p.toList[i] []:=Xfr _ _ _ hi;rw[e1,e2];refine h.2 _ ?_;have q:p.toList.Perm (List.range ps.length):=by
  have:=g.toList;simpa using this
 simpa using q.mem_iff.mp (Mz hi)
abbrev qIn:ah:=(ah.ofString "in_order" ++ ah.ofString ".<locals>.")++ah.ofString "<lambda>"
def spInOrder (T:ae) (pos:bw):Sp:=λvs H Q _=>∃(l:ae) (ps:List ae) (Ts:List (Za)),vs=[.ref l]/\H l=some (.lst (ps.map V.ref))/\Tups H ps Ts/\Ts.Nodup/\ps.length<64/\Ak T pos qIn H /\
 ∀(D:ae) (jj:List ae) (iC:List (Za)) (H':Hp),H D=none->H' D=some (.lst (jj.map V.ref))->Tups H' jj iC->iC.Perm Ts->(iC.Pairwise λa b=>Cq a b=true)->Ak T pos qIn H'->But T H H'->Q (.ref D) H'
def Ak.same{T:ae}{pos:bw}{q:ah}{H H':Hp}(h:Ak T pos q H)(s:Same H H'):Ak T pos q H':=by
 rcases h with e | ⟨c,e,ec⟩
 ·exact .inl (s _ _ e)
 ·exact .inr ⟨c,s _ _ e,s _ _ ec⟩
def Ak.but{T dr:ae}{pos:bw}{q:ah}{H H':Hp}{o':List V}(h:Ak T pos q H)(hd:H dr=some (.lst o'))(b:But dr H H'):Ak T pos q H':=by
 rcases h with e | ⟨c,e,ec⟩
 ·exact .inl (b _ _ e λz=>by rw[z,hd] at e;cases e)
 ·exact .inr ⟨c,b _ _ e (λz=>by rw[z,hd] at e;cases e),b _ _ ec λz=>by rw[z,hd] at ec;cases ec⟩
def lamPos (s:aO):bw:=match B1 s with
 | [.Return (some (.Call _ _ [⟨_,.Lambda _ _ _ p,_⟩] _)) _]=>p
 | _=>⟨0,0,0,0⟩
def Xnt{a b c e:Int}(h1:a<b)(h2:c<e)(n1:a≠c)(n2:a≠e)(n3:b≠c)(n4:b≠e)(h:lieT a b c e = "apart"):e<a\/b<c:=by
 unfold lieT at h;rw[Qp (by omega)] at h;split at h
 ·exact absurd h (by decide)
 ·split at h
  ·exact absurd h (by decide)
  ·split at h
   ·exact absurd h (by decide)
   ·rename_i q1 q2 q3;rw[Bd] at q1 q2 q3;by_cases p1:c<a/\a<e
    ·by_cases p2:c<b/\b<e
     ·rw[Qq p1,Qq p2] at q2;omega
     ·rw[Qq p1,Qp p2] at q1;omega
    ·by_cases p2:c<b/\b<e
     ·rw[Qp p1,Qq p2] at q1;omega
     ·by_cases p3:a<c/\c<b
      ·by_cases p4:a<e/\e<b
       ·rw[Qq p3,Qq p4] at q3;omega
       ·omega
      ·omega
def Xfs{a b c e:Int}(h1:a<b)(h:lieT a b c e = "cross"):a<e/\c<b:=by
 unfold lieT at h;split at h
 ·exact absurd h (by decide)
 ·split at h
  ·rename_i q;rw[Bd] at q;by_cases p1:c<a/\a<e
   ·omega
   ·by_cases p2:c<b/\b<e
    ·omega
    ·rw[Qp p1,Qp p2] at q;omega
  ·split at h
   ·exact absurd h (by decide)
   ·split at h
    ·exact absurd h (by decide)
    ·exact absurd h (by decide)
def Xnu{a b c e:Int}(h1:a<b)(h2:c<a)(h3:b<e):lieT a b c e = "within" := by
 unfold lieT;have q:nIn c e [a,b]=2:=by rw[Bd,Qq ⟨h2,by omega⟩,Qq ⟨by omega,h3⟩]
 rw[Qp (by omega),q,Qp (by decide),Qq rfl]
section
variable {row:Za}
def Xft{a y:ah}(h:upB row a y=true):(pl row y).1<=(pl row a).1/\(pl row a).2<=(pl row y).2:=by
 unfold upB at h;rw[O9] at h;rcases h with h | h
 ·rw[Qt h];exact⟨Int.le_refl _,Int.le_refl _⟩
 ·obtain⟨h1,h2,h3,h4⟩:=Lk (Qt h);exact⟨by omega,by omega⟩
def Xfu{x y z:ah}(hx:row.count x=2)(h:lieR row x y = "within")(g:lieR row y z = "within"):lieR row x z = "within" := by
 have l:=Bk hx;obtain⟨h1,h2,h3,h4⟩:=Lk h;obtain⟨g1,g2,g3,g4⟩:=Lk g;exact Xnu l (by omega) (by omega)
def Lr{x:ah}:lieR row x x ≠ "within" := by rw[Ia];decide
structure Core (row:Za) (cs:Za) (p:ah->Bool):Prop where
 inr:∀c∈cs,c∈row
 is:∀y,p y=true ↔ ∃c∈cs,upB row c y=true
 ov:∀c∈cs,∀d∈cs,(pl row c).1<(pl row d).2
 an:∀c∈cs,∀d∈cs,lieR row c d ≠ "within"
variable {cs vO:Za}{p p':ah->Bool}
def Core.plot(h2:∀y∈row,row.count y=2)(C:Core row cs p):isPlotB row ((dit row).filter p)=true:=by
 refine Gq.mpr ⟨(B6 row).filter p,λx hx=>Ae.mp (Mh.mp hx).1,λx hx y hy e=>?_,λx hx y hy e=>?_⟩
 ·obtain⟨c,hc,hu⟩:=(C.is x).mp (Mh.mp hx).2;refine Mh.mpr ⟨Ae.mpr hy,(C.is y).mpr ⟨c,hc,?_⟩⟩;unfold upB at hu ⊢;rw[O9] at hu ⊢;rcases hu with hu | hu
  ·rw[Qt hu] at e;exact .inr (Qr e)
  ·exact .inr (Qr (Xfu (h2 c (C.inr c hc)) (Qt hu) e))
 ·have mx:=Mh.mp hx;have my:=Mh.mp hy;obtain⟨c,hc,hu⟩:=(C.is x).mp mx.2;obtain⟨d,hd,hv⟩:=(C.is y).mp my.2;have qT:=h2 x (Ae.mp mx.1);have jg:=h2 y (Ae.mp my.1);have ne:x≠y:=λz=>by rw[z,Ia] at e;exact absurd e (by decide)
  obtain⟨n1,n2,n3,n4⟩:=Dd qT jg ne;have u1:=Xft hu;have u2:=Xft hv;have o1:=C.ov c hc d hd;have o2:=C.ov d hd c hc;rcases Xnt (Bk qT) (Bk jg) n1 n2 n3 n4 e with z | z
  ·omega
  ·omega
def Core.min(h2:∀y∈row,row.count y=2)(C:Core row cs p)(x:ah):x∈cs↔x∈(dit row).filter p/\∀y∈(dit row).filter p,lieR row y x ≠ "within" := by
 have self:∀c∈cs,c∈(dit row).filter p:=λc hc=>Mh.mpr ⟨Ae.mpr (C.inr c hc),(C.is c).mpr ⟨c,hc,by unfold upB;simp⟩⟩;constructor
 ·intro hx;refine⟨self x hx,λy hy e=>?_⟩;obtain⟨c,hc,hu⟩:=(C.is y).mp (Mh.mp hy).2;unfold upB at hu;rw[O9] at hu;rcases hu with hu | hu
  ·rw[Qt hu] at e;exact C.an c hc x hx e
  ·exact C.an c hc x hx (Xfu (h2 c (C.inr c hc)) (Qt hu) e)
 ·rintro ⟨hx,hm⟩;obtain⟨c,hc,hu⟩:=(C.is x).mp (Mh.mp hx).2;unfold upB at hu;rw[O9] at hu;rcases hu with hu | hu
  ·rw[Qt hu];exact hc
  ·exact absurd (Qt hu) (hm c (self c hc))
def Core.eq(h2:∀y∈row,row.count y=2)(C:Core row cs p)(C':Core row vO p')(e:(dit row).filter p=(dit row).filter p'):∀x,x∈cs↔x∈vO:=λx=>by
 rw[C.min h2,C'.min h2,e]
def core1(h2:∀y∈row,row.count y=2){a:ah}(ha:a∈row):Core row [a] (upB row a) where
 inr c hc:=by rw[Mi.mp hc];exact ha
 is y:=by simp
 ov c hc d hd:=by rw[Mi.mp hc,Mi.mp hd];exact Bk (h2 a ha)
 an c hc d hd:=by rw[Mi.mp hc,Mi.mp hd];exact Lr
def Gv{q:ah×ah}(h:q∈crs row):q.1∈row/\q.2∈row/\ltS q.1 q.2/\lieR row q.1 q.2 = "cross" := by
 unfold crs at h;obtain⟨x,hx,h⟩:=Pw.mp h;obtain⟨y,hy,rfl⟩:=Mo.mp h;obtain⟨h1,h3⟩:=Mh.mp hy;rw[Mp] at h3;exact⟨Ae.mp hx,Ae.mp h1,Qt h3.1,Qt h3.2⟩
def core2(h2:∀y∈row,row.count y=2){q:ah×ah}(h:q∈crs row):Core row [q.1,q.2] λy=>upB row q.1 y||upB row q.2 y:=by
 obtain⟨ha,hb,hl,hx⟩:=Gv h;have hy:lieR row q.2 q.1 = "cross" := B9 (h2 _ ha) (h2 _ hb) hx;have la:=Bk (h2 _ ha);have lb:=Bk (h2 _ hb);have c1:=Xfs la hx;have c2:=Xfs lb hy;refine⟨λc hc=>?_,λy=>by simp,λc hc d hd=>?_,λc hc d hd=>?_⟩
 ·simp at hc;rcases hc with rfl | rfl
  ·exact ha
  ·exact hb
 ·simp at hc hd;rcases hc with rfl | rfl<;>rcases hd with rfl | rfl
  ·exact la
  ·exact c1.1
  ·exact c2.1
  ·exact lb
 ·simp at hc hd;rcases hc with rfl | rfl<;>rcases hd with rfl | rfl
  ·exact Lr
  ·rw[hx];decide
  ·rw[hy];decide
  ·exact Lr
def Xnv(h2:∀y∈row,row.count y=2):∀S∈cands row,isPlotB row S=true:=λS hS=>by
 unfold cands at hS;rcases Mm.mp hS with h | h
 ·obtain⟨a,ha,rfl⟩:=Mo.mp h;exact(core1 h2 (Ae.mp ha)).plot h2
 ·obtain⟨q,hq,rfl⟩:=Mo.mp h;exact(core2 h2 hq).plot h2
def Xnw(row:Za):(crs row).Nodup:=by
 unfold crs;have nd:=C0 (B6 row);rw[List.Nodup,List.pairwise_flatMap];refine⟨λx hx=>?_,nd.imp λ{x y} ne a ha b hb e=>?_⟩
 ·rw[N5];exact(nd.filter _).imp λne e=>ne (Prod.mk.inj e).2
 ·obtain⟨u,_,rfl⟩:=Mo.mp ha;obtain⟨v,_,rfl⟩:=Mo.mp hb;exact ne (Prod.mk.inj e).1
def Xnx(h2:∀y∈row,row.count y=2):(cands row).Nodup:=by
 have nd:=C0 (B6 row);unfold cands;rw[List.Nodup,List.pairwise_append];refine⟨?_,?_,?_⟩
 ·rw[N5];refine nd.imp_of_mem λ{a b} ha hb ne e=>ne ?_;have:=(Core.eq h2 (core1 h2 (Ae.mp ha)) (core1 h2 (Ae.mp hb)) e a).mp (N7 _);exact Mi.mp this
 ·rw[N5];refine(Xnw row).imp_of_mem λ{q r} hq hr ne e=>ne ?_;have E:=Core.eq h2 (core2 h2 hq) (core2 h2 hr) e;obtain⟨_,_,l1,_⟩:=Gv hq;obtain⟨_,_,l2,_⟩:=Gv hr;have e1:=(E q.1).mp (by simp);have e2:=(E q.2).mp (by simp);have e3:=(E r.1).mpr (by simp);simp at e1 e2 e3;obtain⟨a,b⟩:=q;obtain⟨c,d⟩:=r;simp only at *;rcases e1 with e1 | e1
  ·rcases e2 with e2 | e2
   ·exact absurd (e1.trans e2.symm) (Eu l1)
   ·rw[e1,e2]
  ·rcases e2 with e2 | e2
   ·rw[e1,e2] at l1;exact absurd (Ga l1 l2) (Fi _)
   ·exact absurd (e1.trans e2.symm) (Eu l1)
 ·intro A hA B hB e;obtain⟨a,ha,rfl⟩:=Mo.mp hA;obtain⟨q,hq,rfl⟩:=Mo.mp hB;have E:=Core.eq h2 (core1 h2 (Ae.mp ha)) (core2 h2 hq) e;obtain⟨_,_,l1,_⟩:=Gv hq;have e1:=Mi.mp ((E q.1).mpr (by simp));have e2:=Mi.mp ((E q.2).mpr (by simp));exact Eu l1 (e1.trans e2.symm)
def Gw(h2:∀y∈row,row.count y=2)(h3:A6 row)(S:Za):S∈[]::cands row↔isPlotB row S=true:=by
 constructor
 ·intro h;rcases Mb.mp h with e | e
  ·rw[e];exact Xec row
  ·exact Xnv h2 S e
 ·intro h;by_cases e:S=[]
  ·rw[e];exact Mf
  ·exact L8 _ (Xln h2 h3 e h)
def Xny(h2:∀y∈row,row.count y=2):[]∉cands row:=λh=>by
 unfold cands at h;rcases Mm.mp h with h | h
 ·obtain⟨a,ha,e⟩:=Mo.mp h;have:=((core1 h2 (Ae.mp ha)).min h2 a).mp (N7 _);rw[e] at this;cases this.1
 ·obtain⟨q,hq,e⟩:=Mo.mp h;have:=((core2 h2 hq).min h2 q.1).mp (by simp);rw[e] at this;cases this.1
def Ls(h2:∀y∈row,row.count y=2):([]::cands row).Nodup:=M9.mpr ⟨Xny h2,Xnx h2⟩
end
end SH
namespace L2
def Xfv{X:Cx}{N:Za}{cap:List (Option Nat)}{scope:bj}{tg iter cY:aA}{bQ:List aA}{g:TG}{tt:TT}{te:TE}{wi:TI}{pos:bw}{i:Nat}{y:ah}{py gT:bw}(C:CompScope X N cap scope)(bq:X.calm=true)(hN:X.N.Nodup)(oy:X.N[i]? = some y)(hy:X.env.scope.names.lookup y=some .local)(hi:PI X tg iter wi)
  (hg:∀s0 H0 ex,PG (X.comp N scope s0 H0 ex) tg g) (ht:∀s0 H0 ex,PIfs (X.comp N scope s0 H0 ex) bQ tt) (he:∀s0 H0 ex,PE (X.comp N scope s0 H0 ex) cY te)
  (oz:cV (.ListComp cY [⟨tg,iter,bQ,0⟩] scope pos) (some (.Name y py)) gT.line X.env=pure true:=by rfl)
  (hs:∀x,aC iter X.env x=pure x:=by intro _;rfl):PS X (.Assign [.Name y py] (.ListComp cY [⟨tg,iter,bQ,0⟩] scope pos) gT) (Xcx i cap (.lst []) wi g tt (Gi te)):=
 Xcy (act := fun D env => do let _ <- call (.builtin "list.append") [.ref D, <- eval cY env]) Hs (fun use => rfl) rfl C bq Gh hN oy hy hi (fun it D env => rfl) hg ht (fun D s0 H0 ex => Hr (he s0 H0 ex)) oz hs
end L2
namespace SH
open L2
def spPlotsA (T:ae) (pos:bw):Sp:=λvs H Q _=>∃(r:ae) (row:Za),vs=[.ref r]/\H r=some (.lst (row.map V.str))/\Row2 row/\A6 row/\(dit row).length<=13/\Ak T pos qIn H /\
 ∀(D:ae) (ps:List ae) (Ts:List (Za)) (H':Hp),H D=none->H' D=some (.lst (ps.map V.ref))->Tups H' ps Ts->(∀S,S∈Ts↔isPlotB row S=true)->(Ts.Pairwise λa b=>Cq a b=true)->ps.length<=64->Ak T pos qIn H'->But T H H'->Q (.ref D) H'
abbrev NPp:Za:=["row", "span", "off", "single", "double"]
abbrev NPo:Za:=["name", "span"]
abbrev NPi:Za:=["other", "name", "span"]
abbrev NPs:Za:=["name", "off"]
abbrev NPd:Za:=["one", "other", "off"]
structure Offs (H:Hp) (kvs:List (Key×V)) (row:Za) (ns:Za):Prop where
 keys:kvs.map (·.1)=ns.map (λx=>(Sum.inr x:Key))
 val:∀x∈ns,∃l,An kvs (Sum.inr x:Key)=some (.ref l)/\H l=some (.lst (((dit row).filter (upB row x)).map V.str))
def Offs.mono{H H':Hp}{kvs:List (Key×V)}{row ns:Za}(s:Offs H kvs row ns)(h:Same H H'):Offs H' kvs row ns:=⟨s.keys,λx hx=>let ⟨l,h1,h2⟩:=s.val x hx; ⟨l,h1,h _ _ h2⟩⟩
def Offs.snoc{H H':Hp}{kvs:List (Key×V)}{row ns:Za}{x:ah}{l:ae}(s:Offs H kvs row ns)(nx:x∉ns)(h:H' l=some (.lst (((dit row).filter (upB row x)).map V.str)))(k:∀b xs,H b=some (.lst xs)->H' b=some (.lst xs)):
  Offs H' (A9 kvs (Sum.inr x) (.ref l)) row (ns++[x]):=by
 have hn:An kvs (Sum.inr x:Key)=none:=by
  cases e:An kvs (Sum.inr x:Key) with
  | none=>rfl
  | some v=>
   exfalso;have:=G6 e;rw[s.keys] at this;obtain⟨y,hy,e2⟩:=Mo.mp this;rw[O3 e2] at hy;exact nx hy
 refine⟨by rw[F0 _ hn,Mn,Mn,s.keys];rfl,λy hy=>?_⟩;rw[G5];by_cases e:y=x
 ·subst e;exact⟨l,Qq rfl,h⟩
 ·have je:y∈ns:=by
   rcases Mm.mp hy with z | z
   ·exact z
   ·exact absurd (Mi.mp z) e
  obtain⟨l0,h1,h2⟩:=s.val y je;exact⟨l0,by rw[Qp (λz=>e (O3 z))];exact h1,k _ _ h2⟩
def Offs.get{H:Hp}{kvs:List (Key×V)}{row ns:Za}{d:ae}{x:ah}(s:Offs H kvs row ns)(hd:Rd H d (.dK kvs))(hx:x∈ns):∃l,DGet H d (.str x) (some (.ref l))/\H l=some (.lst (((dit row).filter (upB row x)).map V.str)):=by
 obtain⟨l,h1,h2⟩:=s.val x hx;exact⟨l,DGet.rd hd h1,h2⟩
def Offs.at{H:Hp}{kvs:List (Key×V)}{row ns:Za}(s:Offs H kvs row ns)(i:Nat)(hi:i<ns.length):(kvs.map λp=>kV p.1).getD i .non = .str (ns.getD i ah.empty):=by
 have e:(kvs.map λp=>kV p.1)=ns.map V.str:=by
  have:(kvs.map λp=>kV p.1)=(kvs.map (·.1)).map kV:=by rw[M5];rfl
  rw[this,s.keys,M5];rfl
 rw[e];exact Cz V.str ah.empty ns hi
def Offs.len{H:Hp}{kvs:List (Key×V)}{row ns:Za}(s:Offs H kvs row ns):kvs.length=ns.length:=by
 have:=congrArg List.length s.keys;simpa using this
def Xnz{row:Za}{x y:ah}(hx:row.count x=2)(hy:row.count y=2):decide (lieR row x y∈[ah.ofString "same",ah.ofString "within"])=upB row x y:=by
 unfold upB;by_cases e:y=x
 ·subst e;rw[Ia];simp
 ·have n:lieR row x y ≠ "same" := λz=>e (Xd5 hx hy z).symm;simp[e,n]
end SH
namespace L2
def Xn0  (rv:Vals (ns.map V.int) a8):∃ps:List (Int×Tok),a8=ps.map (λp=>aa.int p.1 p.2)/\ps.map (·.1)=ns:=by
 induction ns generalizing a8 with
 | nil=>cases rv;exact⟨[],rfl,rfl⟩
 | cons n t ih=>
  cases rv with
  | cons r t'=>
   obtain⟨tk,rfl⟩:=r;obtain⟨ps,rfl,e⟩:=ih t';exact⟨(n,tk)::ps,rfl,by rw[Mw,e]⟩
theorem Xfw(ps:List (Int×Tok)):∀j,j<=ps.length->oY (k8 ps.toArray) j=((ps.map (·.1)).take j).sum
 | 0,_=>rfl
 | j+1,h=>by
  have e:oY (k8 ps.toArray) (j+1)=oY (k8 ps.toArray) j+k8 ps.toArray j:=rfl;have hj:j<(ps.map (·.1)).length:=by rw[L5];lia
  rw[e,Xfw ps j (by lia),Mv hj,List.sum_append];congr 1;unfold k8;rw[List.getElem?_toArray,L6 (by lia),Nx];simp
section
variable {X:Cx}
end
end L2
set_option maxHeartbeats 8000000
namespace SH
open L2
def isin{U:List (Za)}(h1:∀W∈U,∀y∈W,okN y)(h2:∀y∈S,okN y):((U.map Ba).any λe=>ak.eqv e (Ba S))=decide (S∈U):=by
 rw[List.any_map];by_cases hS:S∈U
 ·rw[Qr hS,Od];exact⟨S,hS,by show ak.eqv (.tuple _) (.tuple _)=true;rw[Ie h2 h2];exact Qr rfl⟩
 ·rw[Qs hS,List.any_eq_false];intro W hW;show ¬ak.eqv (.tuple _) (.tuple _)=true;rw[Ie (h1 W hW) h2];simp;exact λz=>hS (z ▸ hW)
theorem Xfx:∀(U:List (Za)),ak.depthAll (U.map Ba)<=1
 | []=>by show 0<=1;decide
 | S::U=>by
  have:=Xfx U;show max (ak.depthAll (S.map ak.str)+1) (ak.depthAll (U.map Ba))<=1;rw[Gn]
  lia
def Xfy{U:List (Za)}(h:∀S∈U,∀y∈S,okN y):Cn (U.map Ba)=true:=plainAll_map Ba U λS hS=>Dr (h S hS)
def Fm{U:List (Za)}(h:∀S∈U,∀y∈S,okN y):Bn (.list (U.map Ba))=true:=Xfy h
def Xfz{U W:List (Za)}(h1:∀S∈U,∀y∈S,okN y)(h2:∀S∈W,∀y∈S,okN y):ak.eqv (.list (U.map Ba)) (.list (W.map Ba))=decide (U=W):=
 Xc6 (λU=>ak.list (U.map Ba)) (λa b e=>by injection e with e;exact(Pk Xdq).mp e) U W (Fm h1) (Fm h2)
def Gx    (h:H l=some (.lst (ps.map V.ref))) (t:Tups H ps Ts):DAt H (.list (Ts.map Ba)) (.ref l):=Xc4 h (Xem t)
def Xf0(U W:List (Za)):min (ak.depth (.list (U.map Ba))) (ak.depth (.list (W.map Ba)))<=3:=by
 show min (ak.depthAll (U.map Ba)+1) _<=3;have:=Xfx U
 lia
end SH
set_option maxHeartbeats 4000000
namespace SH
open L2
def CrOk (Ts:List (Za)):Prop:=∀S∈Ts,(∀y∈S,okN y)/\S.length<=24
def Xf1 (Ts:List (Za)) (b:Za):Int:=(Ts.map λa=>((Ap a b).length:Int)).sum
def Tups.at{H:Hp}{ps:List ae}{Ts:List (Za)}{i:Nat}(h:Tups H ps Ts)(hi:i<ps.length):Ts.getD i []∈Ts:=by
 have dR:i<Ts.length:=by rw[<-h.1];exact hi
 have:Ts.getD i []=Ts[i]:=by simp[List.getD,dR]
 rw[this];exact Mz dR
def Xn1{ps:List ae}{i:Nat}{v:V}(h:(ps.map V.ref)[i]? = some v):i<ps.length/\v = .ref (ps.getD i 0):=by
 obtain⟨hi,e⟩:=Mc.mp h;rw[L5] at hi;exact⟨hi,by rw[<-e];simp[List.getD,hi]⟩
def Ak.ne{T b:ae}{pos:bw}{q:ah}{H:Hp}{o:HO}(tb:Ak T pos q H)(e:H b=some o)(n:∀z,o ≠ .tbl z):b≠T:=λz=>by
 rcases tb with q | ⟨_,q,_⟩<;>(rw[z,q] at e;cases e;exact n _ rfl)
end SH
namespace L2
def Recs (H:Hp) (ps:List ae) (rs:List (List V)):Prop:=ps.length=rs.length/\∀i,i<ps.length->H (ps.getD i 0)=some (.tup (rs.getD i []))
end L2
namespace SH
open L2
def offN (Ts:List (Za)) (x:ah):Nat:=(Ts.filter λS=>decide (x∈S)).length
def v3 (t:ah×Int×Int):List V:=[.str t.1,.int t.2.1,.int t.2.2]
def v2 (q:ah×Int):List V:=[.str q.1,.int q.2]
def d3 (t:ah×Int×Int):ak:=.tuple [.str t.1,.int t.2.1,.int t.2.2]
def d2 (q:ah×Int):ak:=.tuple [.str q.1,.int q.2]
structure CrAt (H:Hp) (T:ae) (pos:bw) (r c:ae) (row:Za) (ps:List ae) (Ts:List (Za)):Prop where
 hr:H r=some (.lst (row.map V.str))
 r2:Row2 row
 n3:A6 row
 d:(dit row).length<=13
 tab:Ak T pos qIn H
 hc:H c=some (.lst (ps.map V.ref))
 ht:Tups H ps Ts
 pl:ps.length<=200
 co:CrOk Ts
def kvN (ns:Za) (f:ah->Nat):List (Key×V):=ns.map λx=>((Sum.inr x:Key),V.int (f x:Int))
def cntOn (ns:Za) (Ts:List (Za)):List (ah×Int×Int):=ns.map λx=>(x,(Ts.length:Int) - offN Ts x,(offN Ts x:Int))
def ne2 (a b:Za) (x:ah):Bool:=xor (decide (x∈a)) (decide (x∈b))
def btw (a b c:Za):Bool:=decide ((Ap a c).length+(Ap c b).length=(Ap a b).length)
def Xq3:Sp:=λvs H Q _=>∃(r p q u:ae) (row a b c:Za),vs=[.ref r,.ref p,.ref q,.ref u]/\H r=some (.lst (row.map V.str))/\Row2 row/\(dit row).length<=14/\H p=some (.tup (a.map V.str))/\H q=some (.tup (b.map V.str))/\H u=some (.tup (c.map V.str)) /\
 isPlotB row a=true/\isPlotB row b=true/\isPlotB row c=true/\∀H',Same H H'->Q (.bl (btw a b c)) H'
def Xq4 (T:ae) (pos:bw):Sp:=λvs H Q _=>∃(r p q:ae) (row a b:Za),vs=[.ref r,.ref p,.ref q]/\H r=some (.lst (row.map V.str))/\Row2 row/\A6 row/\(dit row).length<=13/\H p=some (.tup (a.map V.str))/\H q=some (.tup (b.map V.str)) /\
 isPlotB row a=true/\isPlotB row b=true/\Ak T pos qIn H /\
 ∀(D:ae) (ps:List ae) (Ts:List (Za)) (H':Hp),H D=none->H' D=some (.lst (ps.map V.ref))->Tups H' ps Ts->(∀S,S∈Ts↔isPlotB row S=true/\btw a b S=true)->(Ts.Pairwise λx y=>Cq x y=true)->ps.length<=64->Ak T pos qIn H'->But T H H'->Q (.ref D) H'
def costX (Ts:List (Za)) (S:Za) (x:ah):Int:=if x∈S then (Ts.length:Int) - offN Ts x else (offN Ts x:Int)
def majB (Ts:List (Za)) (S:Za) (x:ah):Prop:=(x∈S->Ts.length<=2 * offN Ts x)/\(x∉S->2 * offN Ts x<=Ts.length)
def majP (row:Za) (Ts:List (Za)):Za:=(dit row).filter λx=>decide (Ts.length<2 * offN Ts x)
def Xq5 (row:Za) (Ts:List (Za)) (S:Za):Prop:=isPlotB row S=true/\∀S',isPlotB row S'=true->Xf1 Ts S<=Xf1 Ts S'
end SH
namespace L2
section
variable {P:au}{w:ay}{A:ax}{E:Zb}{s:ag}{it d v:ae}{i ep:Nat}{es:Array kY}
end
section
variable {X:Cx}{tg:aA}
end
section
variable {X:Cx}
end
end L2
namespace SH
open L2
def kOf (S:Za):List Key:=S.map λx=>(Sum.inr x:Key)
def Ja(S:Za):(kOf S).map kV=S.map V.str:=by unfold kOf;rw[M5];rfl
def Xn2{S S':Za}(h:kOf S=kOf S'):S=S':=by
 unfold kOf at h;exact Pk (λa b e=>O3 e) |>.mp h
def kvT (Us:List (Za)) (f:Za->Int):List (List Key×V):=Us.map λS=>(kOf S,V.int (f S))
theorem Jb(f:Za->Int)(S:Za):∀(Us:List (Za)),An (kvT Us f) (kOf S)=if S∈Us then some (.int (f S)) else none
 | []=>rfl
 | U::Us=>by
  have ih:=Jb f S Us;unfold kvT An at ih ⊢;rw[Mw,Om];by_cases e:U=S
  ·subst e;simp
  ·have e1:decide (kOf U=kOf S)=false:=Qs λz=>e (Xn2 z);rw[e1];dsimp only;rw[ih];by_cases m:S∈Us
   ·rw[Qq m,Qq (L8 _ m)]
   ·rw[Qp m,Qp (λz=>(Mb.mp z).elim (λq=>e q.symm) m)]
def Xn3(Us:List (Za))(f:Za->Int):(kvT Us f).length=Us.length:=by unfold kvT;rw[L5]
def Xf2(a:Za):¬Cq a a=true:=λh=>by unfold Cq at h;rw[Xfp] at h;cases h
def Xn4(a b c:Za)(h:Cq a b=true)(g:Cq b c=true):Cq a c=true:=Xfq h g
def Lu{Us:List (Za)}(h:Us.Pairwise λa b=>Cq a b=true):Us.Nodup:=h.imp (S:=λa b=>a≠b) λ{a b} q (e:a=b)=>Xf2 a (by rw[<-e] at q;exact q)
def Xn5{U W:List (Za)}(h:U.Pairwise λa b=>Cq a b=true)(g:W.Pairwise λa b=>Cq a b=true)(e:∀S,S∈U↔S∈W):U=W:=Ll Xf2 Xn4 h g e
end SH
namespace L2
open PySem.Calls
section
variable {P:au}{w:ay}{A:ax}{E:Zb}{s:ag}
def dictP (bp:List (Key×V)):List (Key×V):=bp.foldl (λm q=>A9 m q.1 q.2) []
end
section
variable {X:Cx}
end
section
variable {P:au}{w:ay}{A:ax}{E:Zb}{s:ag}
end
section
variable {X:Cx}
end
section
variable {P:au}{w:ay}{A:ax}{E:Zb}{s:ag}
end
section
variable {X:Cx}{N:Za}{cap:List (Option Nat)}{scope:bj}{tg iter cY:aA}{bQ:List aA}{g:TG}{tt:TT}{te:TE}{wi:TI}{pos:bw}
end
end L2
namespace L2
section
variable {X:Cx}{N:Za}{cap:List (Option Nat)}{scope:bj}{tg iter cY:aA}{bQ:List aA}{g:TG}{tt:TT}{te:TE}{wi:TI}{pos:bw}
end
end L2
namespace SH
open L2
def bk (S:Za) (x:ah):ah:=if x∈S then "off" else "home"
def Xf3 (Ts:List (Za)) (x:ah):Za:=srt (ddup (Ts.map λS=>bk S x))
def Xn6 (row:Za) (Ts:List (Za)):List (ah×ah):=((dit row).filter λx=>decide ((Xf3 Ts x).length=1)).map λx=>(x,(Xf3 Ts x).headD ah.empty)
def pr2 (q:ah×ah):Za:=[q.1,q.2]
def keeps (kept:List (ah×ah)) (S:Za):Bool:=kept.all λq=>decide (bk S q.1=q.2)
def Good (row:Za) (kept:List (ah×ah)):Prop:=∃Us,Us≠[]/\(∀S∈Us,isPlotB row S=true)/\kept=Xn6 row Us
structure Lsts (H:Hp) (kvs:List (Key×V)) (f:ah->Za) (ns:Za):Prop where
 keys:kvs.map (·.1)=ns.map (λx=>(Sum.inr x:Key))
 val:∀x∈ns,∃l,An kvs (Sum.inr x:Key)=some (.ref l)/\H l=some (.lst ((f x).map V.str))
end SH
namespace L2
def okR (z:ah):Prop:=z.length<=9/\∀c∈z.cps.toList,c<16 ^ 8
section
variable {X:Cx}{es:List aA}{t:L2.St->Hp->(Hp->Prop)->Prop}{e:aA}{te:TE}{pos:bw}
end
end L2
namespace SH
open L2
structure KpOk (kept:List (ah×ah)):Prop where
 len:kept.length<=16
 ok:∀q∈kept,okR q.1/\okR q.2/\okN q.1/\okN q.2
structure HeldAt (H:Hp) (T:ae) (pos:bw) (r k:ae) (row:Za) (kept:List (ah×ah)):Prop where
 hr:H r=some (.lst (row.map V.str))
 r2:Row2 row
 n3:A6 row
 d:(dit row).length<=13
 tab:Ak T pos qIn H
 kp:∃qs:List ae,H k=some (.lst (qs.map V.ref))/\Tups H qs (kept.map pr2)
 ok:KpOk kept
def kvK (kept:List (ah×ah)):List (Key×V):=kept.map λq=>((Sum.inr q.1:Key),V.str q.2)
section
variable {row:Za}{kept:List (ah×ah)}{S:Za}
end
end SH
namespace SH
open PySem L2
end SH
namespace SH
open L2
def Xq6:Sp:=λvs H Q _=>∃(dr sc r kp:ae) (row:Za) (qs:List ae) (kept:List (ah×ah)),vs=[.ref dr,.ref r,.ref kp]/\DrawOk H dr sc/\H r=some (.lst (row.map V.str))/\r≠dr/\Isl row/\H kp=some (.lst (qs.map V.ref))/\kp≠dr/\Tups H qs (kept.map pr2)/\Good row kept /\
 ∀(k':ae) (vP:List ae) (k9:List (ah×ah)) (H':Hp),k'≠dr->H' k'=some (.lst (vP.map V.ref))->Tups H' vP (k9.map pr2)->KpOk k9->DrawOk H' dr sc->But dr H H'->Q (.ref k') H'
end SH
namespace L2
open PySem
end L2
namespace SH
open L2
def Xn7 (Ts:List (Za)) (W:Za):Bool:=Ts.any λa=>Ts.any λb=>btw a b W
def Xn8 (Ts Us:List (Za)):Nat->Za->Bool
 | 0,S=>decide (S∈Us)
 | k+1,S=>Xn7 (Ts.filter (Xn8 Ts Us k)) S
section
variable {row:Za}{Ts Us:List (Za)}
end
def Xn9{S:Za}{x n:ah}:n∈Au S x↔(n∈S/\n≠x)\/(x∉S/\n=x):=by
 unfold Au;rw[Hl,Mm,Mh,decide_eq_true_eq];by_cases h:x∈S
 ·rw[Qq h];simp[h]
 ·rw[Qp h];simp[h]
def Lv(S:Za)(x:ah):Ap S [x]=Au S x:=by
 unfold Ap Au;have e1:(S.filter λy => !decide (y∈[x]))=S.filter λy=>decide (y≠x):=by
  congr 1;funext y;by_cases z:y=x<;>simp[z]
 have e2:([x].filter λy => !decide (y∈S))=if x∈S then [] else [x]:=by
  by_cases z:x∈S<;>simp[z]
 rw[e1,e2]
def Xoa{S:Za}(x:ah)(h:S.Nodup):(Au S x).Pairwise ltS:=by
 rw[<-Lv];exact Ir h (by simp)
def spAcross:Sp:=λvs H Q _=>∃(p:ae) (ss:Za) (x:ah),vs=[.ref p,.str x]/\H p=some (.tup (ss.map V.str))/\ss.Nodup/\ss.length<16 /\
 ∀q H',H q=none->H' q=some (.tup ((Au ss x).map V.str))->Same H H'->Q (.ref q) H'
def Xq7 (T:ae) (pos:bw):Sp:=λvs H Q _=>∃(r k:ae) (row:Za) (kept:List (ah×ah)) (v:V) (Ts:List (Za)),vs=[.ref r,.ref k,v]/\HeldAt H T pos r k row kept/\(∀S,S∈Ts↔isPlotB row S=true) /\
 ((v = .non/\¬Good row kept) \/ ∃(k2:ae) (aF:List (ah×ah)),v = .ref k2/\HeldAt H T pos r k2 row aF/\¬(Good row kept/\Good row aF)) /\
 ∀H',Ak T pos qIn H'->But T H H'->Q (.bl true) H'
def nbL (row S:Za):List (ah×Za):=((dit row).filter λx=>isPlotB row (Au S x)).map λx=>(x,Au S x)
abbrev dN:ah×Za:=(ah.empty,[])
def Nbs (H:Hp) (qs:List ae) (xs:List (ah×Za)):Prop:=qs.length=xs.length/\∀i,i<qs.length->∃p,H (qs.getD i 0)=some (.tup [.str (xs.getD i dN).1,.ref p])/\H p=some (.tup ((xs.getD i dN).2.map V.str))
def Nbs.keep{H H':Hp}{qs:List ae}{xs:List (ah×Za)}(h:Nbs H qs xs)(k:∀b w,H b=some (.tup w)->H' b=some (.tup w)):Nbs H' qs xs:=⟨h.1,λi hi=>let ⟨p,a,b⟩:=h.2 i hi; ⟨p,k _ _ a,k _ _ b⟩⟩
def Nbs.same{H H':Hp}{qs:List ae}{xs:List (ah×Za)}(h:Nbs H qs xs)(s:Same H H'):Nbs H' qs xs:=h.keep λ_ _ e=>s _ _ e
def Nbs.nil(H:Hp):Nbs H [] []:=⟨rfl,λi hi=>absurd hi (Nj _)⟩
def Nbs.snoc{H:Hp}{qs:List ae}{xs:List (ah×Za)}{q p:ae}{x:ah×Za}(h:Nbs H qs xs)(h1:H q=some (.tup [.str x.1,.ref p]))(h2:H p=some (.tup (x.2.map V.str))):Nbs H (qs++[q]) (xs++[x]):=by
 refine⟨by rw[Mg,Mg,h.1];rfl,λi hi=>?_⟩;rw[Mg] at hi;have hi:i<qs.length+1:=hi;by_cases z:i<qs.length
 ·have z2:i<xs.length:=by rw[<-h.1];exact z
  rw[List.getD,List.getD,Nl z,Nl z2];exact h.2 i z
 ·have e:i=qs.length:=by omega
  subst e;refine⟨p,?_,?_⟩
  ·rw[List.getD,Ny (L7 _),Qk,List.getD,h.1,Ny (L7 _),Qk];exact h1
  ·rw[List.getD,h.1,Ny (L7 _),Qk];exact h2
def Xf4{cap:List (Option Nat)}{g:TG}{tt:TT}{te:TE}{J:It}{Z:L2.St}{H1:Hp}{F:ae->Hp->Prop}(n:Nat)(hn:n<sizeLine)(vs:Nat->V)(ok:Nat->Bool)(Us:Nat->ah×Za)(Es:L2.St->Prop)(h0:Es (Bu cap Z))
  (gN:∀i H2,i<n->Same H1 H2->J.go i H2/\∀x H3,J.yld i H2 x H3->H3=H2/\x=vs i)
  (cu:∀H2,Same H1 H2->J.stop n H2)
  (step:∀i Z1 H2 (Q1:L2.St->V->Hp->Prop) (Q0:L2.St->Hp->Prop),i<n->Es Z1->Same H1 H2->(∀Z2 t p H6,ok i=true->Es Z2->H6 t=some (.tup [.str (Us i).1,.ref p])->H6 p=some (.tup ((Us i).2.map V.str))->Same H2 H6->Q1 Z2 (.ref t) H6)->(∀Z2 H6,ok i=false->Es Z2->Same H2 H6->Q0 Z2 H6) ->
   g (vs i) Z1 H2 fun Z2 H4=>tt Z2 H4 λb H5=>if b=true then te Z2 H5 λy H6=>Q1 Z2 y H6 else Q0 Z2 H5)
  (hd:∀D ps H2,H1 D=none->Same H1 H2->H2 D=some (.lst (ps.map V.ref))->Nbs H2 ps (((List.range n).filter ok).map Us)->F D H2):En cap g tt te J Z H1 F:=by
 refine F5 n vs (λD i Z2 H2=>Es Z2/\Same H1 H2/\∃ps:List ae,ps.length<=i/\H2 D=some (.lst (ps.map V.ref))/\Nbs H2 ps (((List.range i).filter ok).map Us)) ?_ ?_ ?_ ?_ ?_
 ·intro D hD;exact⟨h0,(Same.refl H1).step hD,[],L7 _,Ab,Nbs.nil _⟩
 ·rintro D i Z2 H2 hD hi ⟨_,s2,_⟩;exact gN i H2 hi s2
 ·rintro D Z2 H2 hD ⟨_,s2,_⟩;exact cu H2 s2
 ·rintro D i Z2 H2 hD hi ⟨e,s2,ps,hl,hb,ht⟩;refine step i Z2 H2 _ _ hi e s2 (fun Z3 t p H4 hok e3 h4 h5 s4=>?_) (fun Z3 H4 hok e3 s4=>?_)
  ·have ou:=s4 _ _ hb;have qE:=ht.same s4;have keep:∀b w,H4 b=some (.tup w)->upd H4 D (.lst (ps.map V.ref++[.ref t])) b=some (.tup w):=λb w e=>by
    rw[Ad (λz=>by rw[z,ou] at e;cases e)];exact e
   refine wput hi ou (by rw[L5];omega) ⟨e3,λb u e'=>?_,ps++[t],by rw[Mg];show ps.length+1<=i+1;omega,by rw[Ab,Mn];rfl,?_⟩
   ·rw[Ad (Aw e' hD)];exact s4 _ _ (s2 b u e')
   ·rw[Ng,Ms,Mn];simp only[M7,hok,if_true,P5,Mw,Qa];exact(qE.keep keep).snoc (keep _ _ h4) (keep _ _ h5)
  ·refine wskip hi ⟨e3,s2.trans s4,ps,by omega,s4 _ _ hb,?_⟩;rw[Ng,Ms,Mn];simp only[M7,hok,P5,My,if_false,Qa,Np];exact ht.same s4
 ·rintro D Z2 H2 hD ⟨_,s2,ps,_,hb,ht⟩;exact hd D ps H2 hD s2 hb ht
def spNbs (T:ae) (pos:bw):Sp:=λvs H Q _=>∃(r p:ae) (row S:Za),vs=[.ref r,.ref p]/\H r=some (.lst (row.map V.str))/\Row2 row/\A6 row/\(dit row).length<=13/\Ak T pos qIn H/\H p=some (.tup (S.map V.str))/\isPlotB row S=true /\
 ∀(D:ae) (qs:List ae) (H':Hp),H D=none->H' D=some (.lst (qs.map V.ref))->Nbs H' qs (nbL row S)->qs.length<=14->Ak T pos qIn H'->But T H H'->Q (.ref D) H'
abbrev NNb:Za:=["row", "plot", "there", "sides"]
abbrev NNb1:Za:=["name", "plot"]
abbrev NNb2:Za:=["name", "over", "there"]
def Xob{row S:Za}{x:ah}(ok:∀y∈row,okN y)(hS:isPlotB row S=true)(hx:x∈row):∀y∈Au S x,okN y:=λy hy=>by
 rw[<-Lv] at hy;rcases Fl.mp hy with h | h
 ·exact ok y ((Bw hS).1 y h.1)
 ·rw[Mi.mp h.1];exact ok x hx
def Xoc{row S:Za}{q:ah×Za}:q∈nbL row S↔q.1∈row/\q.2=Au S q.1/\isPlotB row q.2=true:=by
 unfold nbL;rw[Mo];constructor
 ·rintro ⟨x,hx,rfl⟩;obtain⟨h1,h2⟩:=Mh.mp hx;exact⟨Ae.mp h1,rfl,h2⟩
 ·rintro ⟨h1,h2,h3⟩;refine⟨q.1,Mh.mpr ⟨Ae.mpr h1,by rw[<-h2];exact h3⟩,?_⟩;rw[<-h2]
def atK (row W:Za) (k:Nat) (S:Za):Prop:=isPlotB row S=true/\(Ap W S).length=k
def Xf5{A B:List (Za)}(ha:A.Nodup)(hb:B.Nodup)(h:∀S,S∈A↔S∈B):A.length=B.length:=by
 have bX:∀{A B:List (Za)},A.Nodup->(∀S∈A,S∈B)->A.length<=B.length:=by
  intro A
  induction A with
  | nil=>intro B _ _;exact M3 _
  | cons a A ih=>
   intro B nd hs;obtain⟨l1,l2,rfl⟩:=List.append_of_mem (hs a Mf);rw[M9] at nd;have:=ih (B:=l1++l2) nd.2 λS hS=>by
    have:=hs S (L8 _ hS);rcases Mm.mp this with z | z
    ·exact Mm.mpr (.inl z)
    ·rcases Mb.mp z with z | z
     ·rw[z] at hS;exact absurd hS nd.1
     ·exact Mm.mpr (.inr z)
   rw[Mg] at this ⊢;rw[Ml,Ml];omega
 exact Nat.le_antisymm (bX ha λS hS=>(h S).mp hS) (bX hb λS hS=>(h S).mpr hS)
def oddW (W S:Za) (ss:Za):Prop:=∀x,ne2 W S x=decide (ss.count x % 2=1)
end SH
namespace L2
def cxL (P:au) (w:ay) (K:DK) (mg:ah->Option aa) (base:ao) (N:Za) (qual:ah) (scope:bj) (cl:List (ah×ae)) (f:ae) (cd:aa) (A:ax) (outer:List dm) (s:ag) (H:Hp):Cx where
 prog:=P
 w:=w
 K:=K
 mg:=mg
 base:=base
 A:=A.deeper (EH qual scope s.heap.objs.size f cd cl)
 N:=N
 s₀:=s
 H₀:=H
 env:=EH qual scope s.heap.objs.size f cd cl
 outer:=outer
 stack:=EH qual scope s.heap.objs.size f cd cl::outer
 ex:=[]
 calm:=true
 fn:=λ_=>false
 pn:=[]
 xe:=λ_ _=>False
structure LamScope (x:ah) (scope:bj):Prop where
 kind:scope.kind = .function
 co:scope.isCoroutine=false
 gen:scope.isGenerator=false
 nocell:∀y∈scope.names,y.2 ≠ .cell
 loc:scope.names.lookup x=some .local
structure Caps (N':Za) (τ : L2.St) (scope:bj) (cl:List (ah×ae)) (H:Hp) (h:ao):Prop where
 has:∀y,scope.names.lookup y=some .free->∃c,cl.lookup y=some c
 inj:∀y z c,cl.lookup y=some c->cl.lookup z=some c->y=z
 cell:∀y c,cl.lookup y=some c->H c=none/\∃v,h.IsCell c v
 val:∀(i:Nat) (y:ah) (v:V),N'[i]? = some y -> τ[i]? = some (some v)->scope.names.lookup y=some .free/\∃u c,Aj v u/\cl.lookup y=some c/\h.IsCell c (some u)
 len : τ.length=N'.length
def Xod{CX:CXT}{P:au}{w:ay}{K:DK}{mg:ah->Option aa}{base:ao}{A:ax}{outer:List dm}{s:ag}{H:Hp}{k:Nat}{f c:ae}{name qual x:ah}{params:cb}{body:aA}{scope:bj}{cl:List (ah×ae)}{pm cP:aa}
  {N':Za} {τ : L2.St} {u:aa} {v:V} {Q:VK} {E:XK} {t:TE}
  (hf:H f=some (.ext (C3 f (DN name qual params body scope cl pm (.ref c) cP)))) (hc:H c=some (.ext (C2 c qual))) (S:LamScope x scope) (hr:Room (k+1) A) (e0:Env0 P w K mg base A outer s H) (C:Caps N' τ scope cl H s.heap)
  (r:Aj v u) (hb:cD (DN name qual params body scope cl pm (.ref c) cP) ⟨[u],[]⟩=pure [(x,u)])
  (ht:PE (cxL P w K mg base (x::N') qual scope cl f (.ref c) A outer s H) body t) (hq:t (some v :: τ) H Q):
  bi (aj P w) A (.call (.ref f) ⟨[u],[]⟩) (CR CX outer P w H s Q E) s:=by
 obtain⟨⟨of,sT,sU⟩,_⟩:=e0.hok f _ hf;obtain⟨lA,_⟩:=e0.hok c _ hc;have nh:s.heap.NoLimit:=e0.mod.nolimit.keeps λb o e=>(e0.bs b o e).1;refine EC hr.depth sT sU S.co S.gen rfl lA ?_;rw[hb];refine Qn (wpAny_newFunctionEnv S.nocell (λy hy=>by rw[Mi.mp hy];exact S.loc) (λh₁ kX vQ=>⟨nh.fresh _ vQ,?_⟩) S.kind);have t8 : ∀b o,s.heap.get? b=some o->h₁.get? b=some o:=λb o e=>vQ.extBut b o (L9 (Qv e)) (Qw _ e);have jt:∀b:ae,b∉(cxL P w K mg base (x::N') qual scope cl f (.ref c) A outer s H).ex:=λb z=>absurd (show b∈([]:List ae) from z) (by simp);have ck:∀(c:ae) (v:Option aa),s.heap.IsCell c v->h₁.IsCell c v:=λc v h=>by
  obtain⟨o,ho,hd⟩:=h;exact⟨o,t8 _ _ ho,hd⟩
 have I:Inv (cxL P w K mg base (x::N') qual scope cl f (.ref c) A outer s H) [] (some v :: τ) H {s with heap:=h₁,toks:=s.toks+[(x,u)].length}:=by
  refine⟨⟨e0.mod,S.kind,rfl,rfl,L7 _,C.inj,λy hy=>?_,λy c z _=>absurd z (by simp[cxL]),λ_=>hr.hd,ax.frames_deeper e0.frames,.inr ⟨rfl,rfl⟩,λb z=>absurd z (jt b),e0.bs,e0.bsz,λb _ _=>jt b,λb z=>absurd z (jt b),e0.funs,e0.frf⟩,
   rfl,e0.bare,Un.kept t8,⟨_,kX,λi y w' h1 h2 h3=>?_⟩,λy c h=>let ⟨v,z⟩:=(C.cell y c h).2; ⟨v,ck c v z⟩,e0.hok.fresh (L7 _),λy c h=>(C.cell y c h).1,λp hp=>absurd (show p∈([]:List (ae×aI)) from hp) (by simp),e0.hok.kept t8,?_⟩
  ·have hy:scope.names.lookup y=some .cell\/scope.names.lookup y=some .free:=hy;rcases hy with hy | hy
   ·exact absurd rfl (S.nocell _ (PySem.mem_of_lookup hy))
   ·exact C.has y hy
  ·cases i with
   | zero=>
    cases h1;cases h2;refine⟨u,r,.inl ⟨S.loc,?_⟩⟩;simp
   | succ i=>
    obtain⟨hy,u',c',r',jn,dR⟩:=C.val i y w' h1 h2;exact⟨u',r',.inr ⟨.inr hy,c',jn,ck _ _ dR⟩⟩
  ·show τ.length+1=N'.length+1;rw[C.len]
 show bi _ _ (.expr body (EH qual scope s.heap.objs.size f (.ref c) cl)) _ _;refine ED (aK (ht [] _ _ H _ I hq) (λu s' hs=>?_) λe s' hs=>hs.elim);obtain⟨v,H',J,rv,q⟩:=hs;exact⟨v,H',J.os,J.bare,J.base,J.hok,rv,q⟩
def Xoe (T:ae) (q:ah) (params:cb) (body:aA) (scope:bj) (cl:List (ah×ae)) (pos:bw):TE:=λ_ H Q=>Ak T pos q H /\
 ∀(f c:ae) (pm cP:aa) (H':Hp),H f=none->H' f=some (.ext (C3 f (DN "<lambda>" q params body scope cl pm (.ref c) cP)))->H' c=some (.ext (C2 c q))->Ak T pos q H'->(∀b o,H b=some o->b≠T->H' b=some o)->Q (.ref f) H'
section
variable {X:Cx}{T c0:ae}{params:cb}{body:aA}{scope:bj}{pos:bw}{q:ah}{cl:List (ah×ae)}
def Xof(ii:BmOk X.mg X.base)(lB:yw params X.env=([],[]))(dY:X.Ok->fh scope X.env=pure cl)(fD:X.env.code = .ref c0)(hhd:DR X.K c0 T=true)(hq:X.env.qual ++ "<lambda>" = q):
  PE X (.Lambda params body scope pos) (Xoe T q params body scope cl pos):=by
 intro pins s Z H Q I h;have dY:=dY I.ok;obtain⟨tab,k⟩:=h;obtain⟨bm,ob,b1,b2,b3,b4,b5,b6⟩:=ii;have hg:s.heap.Ns am X.mg:=I.mod.glob.keeps I.bk;have C:EQ s.heap c0 T:=DW I.kIn hhd;have nb:bm≠T:=λz=>by
  have n:=(I.bs bm ob b3).2;rw[z] at n;rcases tab with e | ⟨c,e,_⟩<;>(rw[e] at n;cases n)
 have sV:bm≠am:=λz=>by
  obtain⟨o,es,ep,e,hd,_⟩:=I.mod.glob;rw[z,e] at b3;cases b3;rw[hd] at b6;cases b6
 have hB:s.heap.BuiltinsAt X.mg T:=⟨bm,ob,b1,b2,sV,nb,I.bk _ _ b3,b4,b5,b6⟩;refine EJ lB ?_;rw[hq];rcases tab with e | ⟨c,e,ec⟩
 ·have hP:s.heap.get? T=some (DS #[]):=I.hok T _ e;have sW:am≠T:=λz=>by
   obtain⟨o,es,ep,e2,hd,_⟩:=hg;rw[z,hP] at e2;cases e2;cases hd
  refine DX (mg:=X.mg) (clos:=cl) dY I.ok.glob hg fD C hP trivial rfl sW hB λc' cP h' tk hx jk aR iD oP=>?_;have J:=Xfn (tk:=tk) (o:=EM "<lambda>" q params body scope cl ((X.mg "__name__").getD .none) c' cP) I e hx jk aR iD oP rfl rfl;have jD:∀b o,H b=some o->b<c':=λb o eb=>Mq (I.hok.lt eb) jk;have sX:c'≠T:=(L9 (jD _ _ e)).symm;have oR:c'≠h'.objs.size:=L9 aR;have sY:T≠h'.objs.size:=L9 (Oi (jD _ _ e) aR);refine⟨.ref h'.objs.size,_,J,rfl,k _ c' _ cP _ (I.hok.fresh (O2 (Qb jk aR))) Ab (by rw[Ad oR,Ab]) (.inr ⟨c',by rw[Ad sY,Ad sX.symm,Ab],by rw[Ad oR,Ab]⟩) λb o eb nb=>?_⟩;rw[Ad (L9 (Oi (jD _ _ eb) aR)),Ad (L9 (jD _ _ eb)),Ad nb];exact eb
 ·have hP:s.heap.get? T=some (DS #[aP pos.line,aP pos.col,.ref c]):=I.hok T _ e;refine DU (mg:=X.mg) (clos:=cl) (cv:=.ref c) dY I.ok.glob hg fD C hP trivial (by simp[BV,aP]) hB λcP h' tk hk hsz=>?_;have J:=Xfm (tk:=tk) (fd:=DN "<lambda>" q params body scope cl ((X.mg "__name__").getD .none) (.ref c) cP) (o:={cls:=.type "function",data:=.func (DN "<lambda>" q params body scope cl ((X.mg "__name__").getD .none) (.ref c) cP)}) I hk hsz rfl rfl;have nf:∀b o,H b=some o->b≠h'.objs.size:=λb o eb=>L9 (Mq (I.hok.lt eb) hsz);refine⟨.ref h'.objs.size,_,J,rfl,k _ c _ cP _ (I.hok.fresh hsz) Ab (by rw[Ad (nf _ _ ec)];exact ec) (.inr ⟨c,by rw[Ad (nf _ _ e)];exact e,by rw[Ad (nf _ _ ec)];exact ec⟩) λb o eb _=>?_⟩;rw[Ad (nf b o eb)];exact eb
end
def Jc (X:Cx) (Z:L2.St) (f:ae) (H:Hp) (ps:List ae) (ks:List Nat):Prop:=
 ∀(pins:List (ae×aI)) (s1:ag) (H1:Hp) (i:Nat),i<ps.length->Same H H1->Inv X pins Z H1 s1 ->
  ai (aj X.prog X.w) X.A.in1.in1 (call (.ref f) [.ref (ps.getD i 0)]) (λu s'=>∃t H2,u = .int (ks.getD i 0:Nat) t/\Inv X pins Z H2 s'/\Same H1 H2) (λ_ _=>False) s1
def Ed (ks:List Nat) (ps out:List ae):Prop:=∃qs:List (Nat×ae),qs.Perm (ks.zip ps)/\out=qs.map (·.2)/\qs.Pairwise λa b=>a.1<=b.1
def Ed.len{ks:List Nat}{ps out:List ae}(h:Ed ks ps out)(e:ks.length=ps.length):out.length=ps.length:=by
 obtain⟨qs,p,rfl,_⟩:=h;rw[L5,p.length_eq,Po,e,Nat.min_self]
def Jd:aa->ae
 | .ref a=>a
 | _=>0
def Xog{ks:List Nat}{ps:List ae}{out:List aa}(h:KskOut false (ks.map λ(n:Nat)=>(n:Int)) (ps.map aa.ref) out):∃o,out=o.map aa.ref/\Ed ks ps o:=by
 obtain⟨qs,p,rfl,pw⟩:=h;have e0:(ks.map λ(n:Nat)=>(n:Int)).zip (ps.map aa.ref)=(ks.zip ps).map λq=>((q.1:Int),aa.ref q.2):=by
  rw[List.zip_map];rfl
 rw[e0] at p;refine⟨(qs.map λq=>(q.1.toNat,Jd q.2)).map (·.2),?_,qs.map λq=>(q.1.toNat,Jd q.2),?_,rfl,?_⟩
 ·rw[M5,M5];refine M6 λq hq=>?_;obtain⟨z,_,rfl⟩:=Mo.mp (p.mem_iff.mp hq);rfl
 ·have:=p.map λq=>(q.1.toNat,Jd q.2);rw[M5] at this;refine this.trans (List.Perm.of_eq ?_)
  conv=>rhs;rw[<-List.map_id (ks.zip ps)]
  refine M6 λq hq=>?_;simp[Jd]
 ·rw[N5];refine pw.imp λ{a b} h=>?_;have h:a.1<=b.1:=by simpa using h
  show a.1.toNat<=b.1.toNat;omega
section
variable {X:Cx}{pins:List (ae×aI)}{Z:L2.St}{H:Hp}{s:ag}
def Xoh{ks:List Nat}{vs a8:List aa}{A:ax}{E:Zb}{Q:Unit×fA->ag->Prop}(hk:cW a8 (ks.map λ(n:Nat)=>(n:Int)))(hl:ks.length=vs.length)(h2:2<=vs.length)(cB:vs.length<64)
  (h:∀bT,fB bT=none->KskOut false (ks.map λ(n:Nat)=>(n:Int)) vs ((eh bT).map (·.2)).toList->Q ((),bT) s):
  ai (aj X.prog X.w) A (sortRuns'.run (fA.mk' oneType' (a8.toArray.zip vs.toArray) #[] 7 none)) Q E s:=by
 have hsz:a8.length=vs.length:=by rw[<-hl,hk.length,L5]
 have iH:(a8.toArray.zip vs.toArray).size=vs.length:=by rw[Array.size_zip,Md,Md,hsz,Nat.min_self]
 refine aK (wpS_sortRuns (a₀:=a8.toArray.zip vs.toArray) (st:=fA.mk' oneType' (a8.toArray.zip vs.toArray) #[] 7 none)
   (Q:=λ_ bT=>(eh bT).Perm (a8.toArray.zip vs.toArray)/\fB bT=none/\SortedTo (eh bT) (a8.toArray.zip vs.toArray).size)
   (ksk_intKeys (by simpa using hk)) ⟨Pm _,rfl,rfl,rfl⟩ (by rw[iH];omega) (by rw[iH];exact cB) λbT a1 a2 a3=>⟨a1,a2,a3⟩) ?_ λ_ _ e=>e
 rintro ⟨⟨⟩,bT⟩ s' ⟨rfl,hp,hf,hs⟩;refine h bT hf ?_;have:=ksk_out (b:=false) (keys:=a8.toArray) (by simpa using hk) hp (by rw[hp.size_eq];exact hs);simpa using this
def Xoi{D kS:ae}{e1:Nat}{kz:List V}{ps:List ae}{ks:List Nat}{a8:List aa}{A:ax}{E:Zb}{P:PySem.Fin->ag->Prop}(I:Inv X ((D,aq "list" #[] e1)::pins) Z H s)(hD:X.s₀.heap.objs.size<=D)(fE:∀p∈X.pn++pins,p.1≠D)
  (hk:H kS=some (.lst kz)) (aG:ks.length=ps.length) (hi:cW a8 (ks.map λ(n:Nat)=>(n:Int))) (cB:ps.length<64)
  (h:∀(out:List ae) s',Ed ks ps out->Inv X pins Z (upd (upd H kS (.lst [])) D (.lst (out.map V.ref))) s'->P (.done (.ret .none)) s'):
  ai (aj X.prog X.w) A (k7 D false (ps.map aa.ref).toArray e1 (.ref kS) a8.toArray) P E s:=by
 have hsz:(ps.map aa.ref).toArray.size=ps.length:=by simp
 have i5:a8.length=ps.length:=by rw[<-aG,hi.length,L5]
 unfold k7
 try dsimp only
 simp only[My,if_false];by_cases h2:(ps.map aa.ref).toArray.size<2
 ·rw[Qq h2,Qq h2];refine Qm (Qn ?_);rw[StateT.run_pure];refine Qm (Qn ?_)
  try dsimp only
  have hz:(ks.zip ps).length<2:=by rw[Po];omega
  refine I0 (st:=fA.mk' general' (a8.toArray.zip (ps.map aa.ref).toArray) #[] 7 none) (out:=ps) I hD fE hk ?_ rfl (by omega) λs' J=>h ps s' ⟨ks.zip ps,Nv _,?_,?_⟩ J
  ·show ((a8.toArray.zip (ps.map aa.ref).toArray).map (·.2))=_;apply Px.mp;simp only[Array.toList_map,List.zip_toArray];rw[Pe (by simp[i5])]
  ·rw[Pe (by omega)]
  ·rw[N2];intro i j dR eM f9;omega
 ·rw[Qp h2,Qp h2,ksk_kind (kz:=ks.map λ(n:Nat)=>(n:Int)) (by simpa using hi) (by rw[Md];omega)];refine Qm (Qn ?_);refine Qm (Xoh hi (by simpa using aG) (by simpa using h2) (by simpa using cB) λbT hf ko=>?_)
  try dsimp only
  obtain⟨o,e,oN⟩:=Xog ko;refine I0 (out:=o) I hD fE hk (Px.mp (by rw[e])) hf (by rw[oN.len aG];exact cB) λs' J=>h o s' oN J
def Xoj{ks:List Nat}{a8:List aa}(hl:a8.length=ks.length)(h:∀i,i<ks.length->∃t,a8[i]? = some (.int (ks.getD i 0:Nat) t)):cW a8 (ks.map λ(n:Nat)=>(n:Int)):=by
 induction ks generalizing a8 with
 | nil=>cases a8 with
  | nil=>exact .nil
  | cons _ _=>cases hl
 | cons k ks ih=>
  cases a8 with
  | nil=>cases hl
  | cons v a8=>
   obtain⟨t,e⟩:=h 0 (by simp);cases e;exact .cons k t (ih (by simpa using hl) λi hi=>by simpa using h (i+1) (by simpa using hi))
def Xok{D kS f:ae}{e1:Nat}{ps:List ae}{ks:List Nat}{A:ax}{E:Zb}{P:PySem.Fin->ag->Prop}(hA:A=X.A.in1.in1)(I:Inv X ((D,aq "list" #[] e1)::pins) Z (upd H kS (.lst [])) s)(gX:H kS=none)(hD:X.s₀.heap.objs.size<=D)(fE:∀p∈X.pn++pins,p.1≠D)(gR:H D=none)
  (aG:ks.length=ps.length) (cB:ps.length<64) (turn:Jc X Z f H ps ks)
  (h:∀(out:List ae) (H':Hp) s',Ed ks ps out->Same H H'->H' D=some (.lst (out.map V.ref))->Inv X pins Z H' s'->P (.done (.ret .none)) s'):
  ai (aj X.prog X.w) A (iE D (.ref f) false (ps.map aa.ref).toArray e1 (.ref kS)) P E s:=by
 subst hA;unfold iE;refine Qm (b8 ?_)
 first
  | rw[List.forIn_toArray]
  | (rw[<-Oz];simp only[List.toList_toArray])
  | rw[<-Oz]
 refine Qm (ksk_fold (λi s'=>∃(H':Hp) (zs:List V),Inv X ((D,aq "list" #[] e1)::pins) Z H' s'/\Same H H'/\H' kS=some (.lst zs)/\zs=(ks.take i).map λ(n:Nat)=>V.int n) (ps.map aa.ref) 0 s
  ⟨_,[],I,Same.upd0 gX,Ab,rfl⟩ ?step ?done)
 case step=>
  rintro j x s' hx ⟨H',zs,J,sm,hk,iH⟩;simp only[Pa] at iH ⊢;obtain⟨hj,ex⟩:=Mc.mp hx;rw[L5] at hj;have qu:x = .ref (ps.getD j 0):=by rw[<-ex];simp[List.getD,hj]
  subst qu;have iF:zs.length=j:=by rw[iH,L5,Nd];omega
  have ek:ks.take (j+1)=ks.take j++[ks.getD j 0]:=by
   rw[List.take_add_one,List.getD,L6 (by omega)];rfl
  refine Qm (dc (aK (turn _ s' H' j hj sm J) (λv js he=>?_) λ_ _ hF=>hF.elim));obtain⟨t,H2,rfl,J2,mE⟩:=he
  try dsimp only
  have mF:=mE _ _ hk;obtain⟨z,a8,n,r,hl,e⟩:=J2.lstM mF;refine Qm (bh e rfl ?_ (by rw[Md,<-hl];exact z) (by rw[Array.size_push,Md,<-hl,iF,Qo];omega));refine Qn ⟨rfl,_,zs++[.int (ks.getD j 0:Nat)],J2.lset (ys:=zs++[.int (ks.getD j 0:Nat)]) (its':=a8++[.int (ks.getD j 0:Nat) t]) (t':=js.toks) mF e (by simp) (r.append (.cons (show Aj (.int (ks.getD j 0:Nat)) (.int (ks.getD j 0:Nat) t) from ⟨t,rfl⟩) .nil)) (by rw[Mg,Nh,iF,Qo];omega),(sm.trans mE).upd gX,Ab,by rw[ek,Mn,<-iH];rfl⟩
 case done=>
  rintro s' ⟨H',zs,J,sm,hk,iH⟩;simp only[Pa,L5] at iH;rw[N0 (by omega)] at iH
  try dsimp only
  obtain⟨z,a8,n,r,hl,e⟩:=J.lstM hk;refine Qm (cJ e rfl ?_);refine Xoi (kz:=zs) J hD fE hk aG (Xoj (by rw[<-hl,iH,L5]) λi hi=>?_) cB λp s2 oN J2=>h p _ s2 oN ((sm.upd gX).upd gR) Ab J2;obtain⟨u,tz,oW⟩:=r.get (i:=i) (x:=V.int (ks.getD i 0:Nat)) (by rw[iH,Mt,L6 hi];simp[List.getD,hi]);obtain⟨t,rfl⟩:=oW;exact⟨t,tz⟩
def Xol{l f:ae}{ps:List ae}{ks:List Nat}{Q:VK}(I:Inv X pins Z H s)(hl:H l=some (.lst (ps.map V.ref)))(aG:ks.length=ps.length)(cB:ps.length<64)(turn:Jc X Z f H ps ks)
  (h:∀(D:ae) (out:List ae) (H':Hp),H D=none->Ed ks ps out->Same H H'->H' D=some (.lst (out.map V.ref))->Q (.ref D) H'):
  ai (aj X.prog X.w) X.A (call (.builtin "sorted") [.ref l] [(ah.ofString "key",.ref f)]) (EP X pins Z Q) X.xe s:=by
 obtain⟨a8,rv,pl,hz⟩:=I.list (SqL.of hl);have lC:a8=ps.map aa.ref:=by
  clear cB turn h pl hl hz aG
  induction ps generalizing a8 with
  | nil=>cases rv;rfl
  | cons p t ih=>
   cases rv with
   | cons r t'=>cases r;rw[ih _ t'];rfl
 subst lC;refine gY eg dH dI (ksk_s1 _ _) ?_;unfold av.«sorted»;refine Qm (m:=fz "sorted" 1 1 _) (Qn ?_);refine Qm (t0 pl.isList ?_ (by rw[L5,Qo];omega));refine Qm (bD ?_ (by rw[L5,Qo];omega));generalize oX:ps.map aa.ref=vs at *;have i6:vs.length=ps.length:=by rw[<-oX,L5]
 have hsz:((s.heap.push (aq "list" #[] 0)).update s.heap.objs.size (aI.mapSeq (· ++ vs.toArray))).objs.size=s.heap.objs.size+1:=by
  rw[ao.size_update,bd]
 have fU:(((s.heap.push (aq "list" #[] 0)).update s.heap.objs.size (aI.mapSeq (· ++ vs.toArray))).push (aq "list" vs.toArray 0)).get? (s.heap.objs.size+1)=some (aq "list" vs.toArray 0):=by
  rw[<-hsz];exact ao.get?_push_size _ rfl
 have keep:∀b o,s.heap.get? b=some o->(((s.heap.push (aq "list" #[] 0)).update s.heap.objs.size (aI.mapSeq (· ++ vs.toArray))).push (aq "list" vs.toArray 0)).get? b=some o:=λb o q=>by
  have aR:b<s.heap.objs.size:=Qv q;rw[ao.get?_push_ne _ _ _ (by rw[hsz];exact L9 (Nc aR)),ao.get?_update_ne _ _ _ _ (L9 aR),ao.get?_push_ne _ _ _ (L9 aR)];exact q
 have lD:(((s.heap.push (aq "list" #[] 0)).update s.heap.objs.size (aI.mapSeq (· ++ vs.toArray))).push (aq "list" vs.toArray 0)).objs.size=s.heap.objs.size+2:=by
  rw[bd,hsz]
 show ai _ _ _ _ _ {s with heap:=((s.heap.push (aq "list" #[] 0)).update s.heap.objs.size (aI.mapSeq (· ++ vs.toArray))).push (aq "list" vs.toArray 0)};rw[hsz];generalize y6:((s.heap.push (aq "list" #[] 0)).update s.heap.objs.size (aI.mapSeq (· ++ vs.toArray))).push (aq "list" vs.toArray 0)=hA at *;refine Qm (a7 (jl cS ⟨_,fU,rfl⟩ cM ?body (ksk_l1 _ _)))
 case body=>
  show ai (aj X.prog X.w) X.A.in1.in1 (av.«list.sort» ⟨[.ref (s.heap.objs.size+1)],[(ah.ofString "key",.ref f)]⟩) _ _ _;rw[ksk_t1];unfold ksk_tree;refine Qm (cJ fU rfl ?_);refine Qm (bh fU rfl ?_ (by rw[Md,i6,Qo];omega) (M3 _));obtain⟨e1,eP⟩:∃e1,(hA.update (s.heap.objs.size+1) (aI.mapSeq λ_=>(#[]:Array aa))).get? (s.heap.objs.size+1)=some (aq "list" #[] e1):=⟨_,cN fU λ_ => #[]⟩;refine Qm (c7 eP rfl ?_);refine Qm (cR ?_ (by show vs.length<=_;rw[i6,Qo];omega));refine Qm (bD ?_ (M3 _));refine a7 ?_;have gX:((hA.update (s.heap.objs.size+1) (aI.mapSeq λ_=>(#[]:Array aa))).push (aq "tuple" vs.toArray 0)).objs.size=s.heap.objs.size+3:=by rw[bd,ao.size_update,lD]
  have k6:∀b o,s.heap.get? b=some o->(((hA.update (s.heap.objs.size+1) (aI.mapSeq λ_=>(#[]:Array aa))).push (aq "tuple" vs.toArray 0)).push (aq "list" #[] 0)).get? b=some o:=λb o e=>by
   refine Qw _ (Qw _ ?_);rw[ao.get?_update_ne _ _ _ _ (L9 (Nc (Qv e)))];exact keep b o e
  have kr:(((hA.update (s.heap.objs.size+1) (aI.mapSeq λ_=>(#[]:Array aa))).push (aq "tuple" vs.toArray 0)).push (aq "list" #[] 0)).get? (s.heap.objs.size+1)=some (aq "list" #[] e1):=Qw _ (Qw _ eP);have oA:(((hA.update (s.heap.objs.size+1) (aI.mapSeq λ_=>(#[]:Array aa))).push (aq "tuple" vs.toArray 0)).push (aq "list" #[] 0)).get? (s.heap.objs.size+3)=some (aq "list" #[] 0):=by rw[<-gX];exact ao.get?_push_size _ rfl
  have J0:Inv X pins Z (upd H (s.heap.objs.size+3) (.lst [])) {s with heap:=((hA.update (s.heap.objs.size+1) (aI.mapSeq λ_=>(#[]:Array aa))).push (aq "tuple" vs.toArray 0)).push (aq "list" #[] 0)}:=
   I.laid (t':=s.toks) (o:=.lst []) k6 (by omega) ⟨by decide,[],0,.nil,oA⟩
  have gR:H (s.heap.objs.size+1)=none:=I.hok.fresh (Og _);have fE:∀p∈X.pn++pins,p.1≠s.heap.objs.size+1:=λp hp=>L9 (Nc (Qv (I.pin p hp).1));have J1:Inv X ((s.heap.objs.size+1,aq "list" #[] e1)::pins) Z (upd H (s.heap.objs.size+3) (.lst [])) {s with heap:=((hA.update (s.heap.objs.size+1) (aI.mapSeq λ_=>(#[]:Array aa))).push (aq "tuple" vs.toArray 0)).push (aq "list" #[] 0)}:=by
   refine J0.pins_of λp hp=>?_;rcases Mb.mp hp with rfl | hp
   ·exact⟨kr,by rw[Ad (by show s.heap.objs.size+1≠s.heap.objs.size+3;omega)];exact gR,P7 (Nc I.lt),I.nofs (Og _),λv q=>by cases q⟩
   ·exact J0.pin p (Mx _ hp)
  rw[gX];subst oX;refine Xok (f:=f) rfl J1 (I.hok.fresh (by omega)) (M8 I.sz (Og _)) fE gR aG cB turn λp H' s' oN sm gF J=>⟨_,rfl,?_⟩;exact Qn ⟨_,rfl,⟨.ref (s.heap.objs.size+1),H',J,rfl,h _ p H' gR oN sm gF⟩⟩
end
section
variable {X:Cx}
def Xom (X:Cx) (ta tk:TA):TE:=fun Z H Q=>ta Z H λvs H1=>tk Z H1 λzs H2=>∃(l f:ae) (ps:List ae) (ks:List Nat),vs=[.ref l]/\zs=[.ref f]/\H2 l=some (.lst (ps.map V.ref))/\ks.length=ps.length/\ps.length<64/\Jc X Z f H2 ps ks /\
 ∀(D:ae) (out:List ae) (H':Hp),H2 D=none->Ed ks ps out->Same H2 H'->H' D=some (.lst (out.map V.ref))->Q (.ref D) H'
def Xon{x:ah}{p pos:bw}{e:aA}{es:List aA}{eZ:List cz}{ta tk:TA}(hg:Gl X x)(hm:X.mg x=none)(hv:br x=some (.builtin "sorted"))(ha:PA X (e::es) ta)(t6:PK X eZ tk)
  (jE:(bJ pos (aW eZ X.env)).filterMap (·.1)=[ah.ofString "key"]:=by rfl)
  (hn:x ≠ "__name__" := by decide) (gK:(x==("__debug__" : ah))=false:=by decide)
  (he:bn pos (az (e::es) X.env)=(false,eval e X.env)::bn pos (az es X.env):=by rfl)
  (dB:(bn pos (az (e::es) X.env)).any (·.1)=false:=by rfl)
  (bN:(bJ pos (aW eZ X.env)).all (·.1.isSome)=true:=by rfl)
  (eQ:(bJ pos (aW eZ X.env)).any (·.1.isNone)=false:=by rfl):PE X (.Call (.Name x p) (e::es) eZ pos) (Xom X ta tk):=by
 intro pins s Z H Q I h;refine bF (Ek I hg hm hv ?_ hn gK);refine vN (thn (ha pos pins s Z H _ I h) λus s1 ⟨vs,H1,I1,r1,q1⟩=>thn (t6 pos pins s1 Z H1 _ I1 q1) λws s2 ⟨zs,H2,I2,r2,q2⟩=>?_) he dB bN eQ;rw[jE];obtain⟨l,f,ps,ks,rfl,rfl,hl,aG,cB,turn,k⟩:=q2;obtain⟨u,rfl,rx⟩:=B2 r1;obtain⟨v,rfl,rf⟩:=B2 r2;cases rx;cases rf;exact Xol I2 hl aG cB turn k
def Xoo{k j:Nat}{Z:L2.St}{f c cg:ae}{x y qual:ah}{vg:V}{params:cb}{body:aA}{scope:bj}{pm cP:aa}{H:Hp}{ps:List ae}{ks:List Nat}(hf:H f=some (.ext (C3 f (DN "<lambda>" qual params body scope [(y,cg)] pm (.ref c) cP))))(hc:H c=some (.ext (C2 c qual)))
  (S:LamScope x scope) (g8:∀q∈scope.names,q.2 = .free->q.1=y) (y7:scope.names.lookup y=some .free) (hN:X.N[j]? = some y) (hZ : Z[j]? = some (some vg)) (y8:X.env.kindOf y=some .cell) (tD:Vis X.env.scope y) (vR:X.env.cells.lookup y=some cg) (hr:Room (k+3) X.A) (hb:∀u,cD (DN "<lambda>" qual params body scope [(y,cg)] pm (.ref c) cP) ⟨[u],[]⟩=pure [(x,u)])
  (fq:∀(A:ax) (outer:List dm) (s1:ag) (H1:Hp) (i:Nat),i<ps.length->Same H H1->Room k (A.deeper (EH qual scope s1.heap.objs.size f (.ref c) [(y,cg)]))->∃t,PE (cxL X.prog X.w X.K X.mg X.base [x,y] qual scope [(y,cg)] f (.ref c) A outer s1 H1) body t /\
   ∀Q:VK,(∀H2,Same H1 H2->Q (.int (ks.getD i 0:Nat)) H2)->t [some (.ref (ps.getD i 0)),some vg] H1 Q):Jc X Z f H ps ks:=by
 intro pins s1 H1 i hi sm I;have ca:Room (k+1) X.A.in1.in1:=(Room.in1 (k:=k+2) hr).in1;obtain⟨t,ht,hq⟩:=fq X.A.in1.in1 X.stack s1 H1 i hi sm (ca.deeper _);obtain⟨m,kX,tE⟩:=I.loc;obtain⟨u,ru,lk⟩:=tE j y vg hN hZ tD;have lk:∃c,X.env.cells.lookup y=some c/\s1.heap.IsCell c (some u):=by
  rcases lk with ⟨z,_⟩ | ⟨_,z⟩
  ·rw[y8] at z;cases z
  ·exact z
 obtain⟨c',e',eS⟩:=lk;rw[vR] at e';cases e';have tF:∀z c',List.lookup z [(y,cg)]=some c'->z=y/\c'=cg:=λz c' e=>by
  rw[Nf] at e;cases q:z==y with
  | true=>rw[q] at e;cases e;exact⟨by simpa using q,rfl⟩
  | false=>rw[q] at e;cases e
 have C:Caps [y] [some vg] scope [(y,cg)] H1 s1.heap:=by
  refine⟨λz hz=>⟨cg,by rw[show z=y from g8 _ (PySem.mem_of_lookup hz) rfl];simp⟩,λz z' c' a b=>(tF _ _ a).1.trans (tF _ _ b).1.symm,λz c' a=>?_,λi z v a b=>?_,rfl⟩
  ·obtain⟨rfl,rfl⟩:=tF _ _ a;exact⟨I.freeC _ _ vR,_,eS⟩
  ·cases i with
   | zero=>cases a;cases b;exact⟨y7,u,cg,ru,by simp,eS⟩
   | succ i=>simp at a
 refine eU (bv (Xod (CX:=CX0) (E:=E0) (Q:=λv H2=>v = .int (ks.getD i 0:Nat)/\Same H1 H2) (sm _ _ hf) (sm _ _ hc) S ca I.env0.in1.in1 C (show Aj (.ref (ps.getD i 0)) (.ref (ps.getD i 0)) from rfl) (hb _) ht (hq _ λH2 b=>⟨rfl,b⟩)) λr s' gW=>?_);cases r with
 | error e=>exact gW.elim
 | ok fl=>
  cases fl with
  | next=>exact False.elim gW
  | brk=>exact False.elim gW
  | cont=>exact False.elim gW
  | ret u=>
   obtain⟨v,H2,J,rv,rfl,b⟩:=I.after gW;obtain⟨t,rfl⟩:=rv;exact⟨t,H2,rfl,J,b⟩
end
def Xop (tk tv:TE):TE:=fun Z H Q=>∀p,H p=none->tk Z (upd H p (.dT [])) λx H1=>tv Z H1 λy H2=>H2 p=some (.dT [])/\∃(b:ae) (k:List Key),x = .ref b/\H2 b=some (.tup (k.map kV))/\Q (.ref p) (upd H2 p (.dT [(k,y)]))
def one2 (F:V->V->Hp->Prop):List (V×V)->Hp->Prop
 | [(x,y)],H=>F x y H
 | _,_=>False
def Xoq{F:V->V->Hp->Prop}{ps:List (V×V)}{H:Hp}(h:one2 F ps H):∃x y,ps=[(x,y)]/\F x y H:=by
 cases ps with
 | nil=>exact h.elim
 | cons q r=>
  cases r with
  | nil=>exact⟨q.1,q.2,rfl,h⟩
  | cons _ _=>exact h.elim
def Xor{X:Cx}{pos:bw}{k v:aA}{tk tv:TE}(hu:X.A.units+1<bx)(hk:PE X k tk)(hv:PE X v tv):PE X (.Dict [some k] [v] pos) (Xop tk tv):=by
 intro pins s Z H Q I q;have hn:=I.hok.fresh (L7 s.heap.objs.size);have I1:=I.laid (a:=s.heap.objs.size) (o:=.dT []) (h':=s.heap.push {cls:=.type "dict",data:=.dict #[]}) (t':=s.toks) (λ_ _ q=>Qw _ q) (L7 _) (Xig s.heap I.big);refine wpAny_Dict_any rfl rfl (by simp) (by show 1<=15;decide) (thn ((Xij hk hv Xii) pins _ Z _ (one2 λx y H2=>H2 s.heap.objs.size=some (.dT [])/\∃(b:ae) (k:List Key),x = .ref b/\H2 b=some (.tup (k.map kV))/\Q (.ref s.heap.objs.size) (upd H2 s.heap.objs.size (.dT [(k,y)]))) I1 (q _ hn)) λws s2 h2=>?_);obtain⟨ps,H2,I2,c9,h2⟩:=h2;obtain⟨x,y,rfl,e,b,kk,rfl,eb,q2⟩:=Xoq h2;cases c9 with
 | @cons p0 w0 BX BY hr ht=>
  cases ht;obtain⟨w1,w2⟩:=w0;obtain⟨r1,r2⟩:=hr;cases (show w1=aa.ref b from r1);obtain⟨z,hd,xs,c9,dd⟩:=Xbn I2.hok e;unfold storeAll;rw[Ph];have hz:xs.length<=sizeLine:=by rw[<-Paired.length c9];exact z
  refine Qm (Qm (wpAny_dictSet_heap (hsz:=hz) (knd:=cC (Bb X.prog X.w)) (show X.A.units<bx by omega) (Fe I2.hok eb) dd λh' ib hs=>Qn ?_));dsimp only;rw[Ps];refine Qn ⟨.ref s.heap.objs.size,_,?_,rfl,q2⟩;obtain⟨q,es,ep,hq,h2,h3,h4,_,h5⟩:=ib;refine F3 I2 (by rw[e];exact True.intro) hs ⟨q,hq⟩ ⟨by show 1<=sizeLine;decide,hd,_,(c9.put kk eb r2).keeps λc ys ec=>?_,q,es,ep,hq,h2,h3,h4,h5⟩;rw[Ad (Jk ec e (λz=>nomatch z))];exact ec
section
variable {X:Cx}
def Xos(hc:X.calm=true):Cf X (.builtin "sum") (λxs H Q=>∃(a:ae) (ns:List Int),xs=[.ref a]/\H a=some (.lst (ns.map V.int))/\Q (.int ns.sum) H):=by
 intro pins s Z H xs us Q I r h;obtain⟨a,ns,rfl,ha,q⟩:=h;obtain⟨u,rfl,ru⟩:=B2 r;cases ru;obtain⟨a8,rv,p,hz⟩:=I.list (SqL.of ha);obtain⟨ps,rfl,e⟩:=Xn0 rv;have tG:s.heap.IsList a (oZ ps.toArray):=by
  have:oZ ps.toArray=(ps.map λp=>aa.int p.1 p.2).toArray:=by unfold oZ;rw[List.map_toArray]
  rw[this];exact p.isList
 refine sum_intListG (I.ok.hd hc) tG λh' tk t' k=>⟨.int ns.sum,H,I.kept k,⟨t',?_⟩,q⟩;have bM:ps.length=ns.length:=by rw[<-e,L5]
 have:oY (k8 ps.toArray) ps.toArray.size=ns.sum:=by
  rw[Md,Xfw ps _ (L7 _),e,N0 (by omega)]
 rw[this]
end
end L2
namespace SH
open L2
def Xot(a:Za):Ap a a=[]:=by
 rw[List.eq_nil_iff_forall_not_mem];intro x hx;rcases Fl.mp hx with h | h<;>exact h.2 h.1
def Xou{a b:Za}(ha:a.Pairwise ltS)(hb:b.Pairwise ltS)(h:Ap a b=[]):a=b:=by
 refine Gr ha hb λy=>?_;have n:y∉Ap a b:=by rw[h];exact Nt
 rw[Fl] at n;by_cases h1:y∈a<;>by_cases h2:y∈b<;>simp[h1,h2] at n ⊢
def Xov{S G:Za}{x:ah}(hS:S.Nodup)(hG:G.Nodup)(hx:x∈Ap S G):Ap (Au S x) G=(Ap S G).erase x:=by
 have nd:=C0 (Ir hS hG);refine Gr (Ir (C0 (Xoa x hS)) hG) ((Ir hS hG).sublist List.erase_sublist) λy=>?_;rw[nd.mem_erase_iff,Fl,Fl,Xn9];rw[Fl] at hx;by_cases e:y=x
 ·subst e;by_cases h1:y∈S<;>by_cases h2:y∈G<;>simp[h1,h2] at hx ⊢
 ·simp[e]
def Xf6{S G:Za}{x:ah}(hS:S.Nodup)(hG:G.Nodup)(hx:x∈Ap S G):(Ap (Au S x) G).length+1=(Ap S G).length:=by
 rw[Xov hS hG hx,List.length_erase_of_mem hx];have:=Pp hx;omega
def wyN (pl:Za->Bool) (G:Za):Nat->Za->Nat
 | 0,_=>1
 | n+1,S=>((Ap S G).map λx=>if pl (Au S x)=true then wyN pl G n (Au S x) else 0).sum
def wy (pl:Za->Bool) (G S:Za):Nat:=wyN pl G (Ap S G).length S
def Xow(pl:Za->Bool)(G:Za):wy pl G G=1:=by
 unfold wy;rw[Xot];rfl
def Xox{pl:Za->Bool}{G S:Za}(hS:S.Pairwise ltS)(hG:G.Pairwise ltS)(n:S≠G):wy pl G S=((Ap S G).map λx=>if pl (Au S x)=true then wy pl G (Au S x) else 0).sum:=by
 have hp:0<(Ap S G).length:=by
  rcases Nat.eq_zero_or_pos (Ap S G).length with z | z
  ·exact absurd (Xou hS hG (Nn.mp z)) n
  ·exact z
 conv=>lhs;unfold wy
 obtain⟨m,hm⟩:∃m,(Ap S G).length=m+1:=⟨(Ap S G).length - 1,by omega⟩;rw[hm];unfold wyN;congr 1;refine M6 λx hx=>?_;have:=Xf6 (C0 hS) (C0 hG) hx;unfold wy;rw[show (Ap (Au S x) G).length=m by omega]
theorem Xf7{α : Type}(f : α->Nat):∀l:List α,(l.map λx=>((f x:Nat):Int)).sum=((l.map f).sum:Nat)
 | []=>rfl
 | x::l=>by rw[Mw,Oy,Mw,Oy,Xf7 f l];simp
def wyI (row G S:Za):Int:=(wy (isPlotB row) G S:Nat)
def Xoy{row:Za}{Ts:List (Za)}(h2:∀y∈row,row.count y=2)(h3:A6 row)(hl:(dit row).length<=13)(nd:Ts.Nodup)(h:∀S,S∈Ts↔isPlotB row S=true):Ts.length<64:=by
 have e:Ts.length=([]::cands row).length:=Xf5 nd (Ls h2) λS=>(h S).trans (Gw h2 h3 S).symm;have m:=mantel (R:=λx y=>decide (Ar row x y)) (dit row).length (dit row) rfl (Ck row) (λx hx=>Qs (Ds (h2 x (Ae.mp hx))))
  (λx hx y hy=>by
   by_cases c:Ar row x y
   ·rw[Qr c,Qr (B9 (h2 x (Ae.mp hx)) (h2 y (Ae.mp hy)) c)]
   ·rw[Qs c,Qs λq=>c (B9 (h2 y (Ae.mp hy)) (h2 x (Ae.mp hx)) q)])
  (λx hx y hy z hz a b=>Qs (h3 x (Ae.mp hx) y (Ae.mp hy) z (Ae.mp hz) (Qt a) (Qt b)))
 rw[<-Ij h2] at m;have:(dit row).length * (dit row).length<=13 * 13:=Nat.mul_le_mul hl hl;unfold cands at e;rw[Ml,Mg,L5,L5] at e;omega
def Xf8:V->ah
 | .str x=>x
 | _=>ah.empty
def Ee (H:Hp) (a:ae):Za:=match H a with
 | some (.tup xs)=>xs.map Xf8
 | _=>[]
def Xf9{H:Hp}{a:ae}{S:Za}(h:H a=some (.tup (S.map V.str))):Ee H a=S:=by
 unfold Ee;rw[h];show (S.map V.str).map Xf8=S;rw[M5]
 conv=>rhs;rw[<-List.map_id S]
 rfl
def Xoz{H:Hp}{ps out:List ae}{Ts:List (Za)}(t:Tups H ps Ts)(f:Za->Nat)(h:Ed (Ts.map f) ps out):∃Us,Tups H out Us/\Us.Perm Ts/\Us.Pairwise λa b=>f a<=f b:=by
 obtain⟨qs,pm,rfl,pw⟩:=h;have iI:∀q∈qs,∃i,i<ps.length/\q=(f (Ts.getD i []),ps.getD i 0):=λq hq=>by
  obtain⟨i,hi,e⟩:=M4.mp (pm.mem_iff.mp hq);rw[Po,L5] at hi;refine⟨i,by omega,?_⟩;rw[<-e,List.getElem_zip,Nx];have h1:i<Ts.length:=by omega
  have h2:i<ps.length:=by omega
  simp[List.getD,h1,h2]
 have iJ:∀q∈qs,H q.2=some (.tup ((Ee H q.2).map V.str))/\q.1=f (Ee H q.2):=λq hq=>by
  obtain⟨i,hi,rfl⟩:=iI q hq;have:=t.2 i hi;rw[Xf9 this];exact⟨this,rfl⟩
 refine⟨qs.map λq=>Ee H q.2,⟨by rw[L5,L5],λi hi=>?_⟩,?_,?_⟩
 ·rw[L5] at hi;have e1:(qs.map (·.2)).getD i 0=(qs[i]).2:=by simp[List.getD,hi]
  have e2:(qs.map λq=>Ee H q.2).getD i []=Ee H (qs[i]).2:=by simp[List.getD,hi]
  rw[e1,e2];exact(iJ _ (Mz hi)).1
 ·have p1:=pm.map λq=>Ee H q.2;refine p1.trans (List.Perm.of_eq ?_);refine O5 (by rw[L5,Po,L5,t.1,Nat.min_self]) λi h1 h2=>?_;rw[Nx,List.getElem_zip];have h3:i<ps.length:=by rw[t.1];exact h2
  have:=t.2 i h3;have e1:ps.getD i 0=ps[i]:=by simp[List.getD,h3]
  have e2:Ts.getD i []=Ts[i]:=by simp[List.getD,h2]
  rw[e1,e2] at this;exact Xf9 this
 ·rw[N5];have tH:qs.Pairwise λa b=>a∈qs/\b∈qs/\a.1<=b.1:=by
   rw[N2] at pw ⊢;exact λi j hi hj f9=>⟨Mz hi,Mz hj,pw i j hi hj f9⟩
  refine tH.imp λ{a b} ⟨ha,hb,jd⟩=>?_;rw[(iJ a ha).2,(iJ b hb).2] at jd;exact jd
def Ak.but'{T d:ae}{pos:bw}{q:ah}{H H':Hp}{o:HO}(h:Ak T pos q H)(hd:H d=some o)(n1:∀z,o ≠ .tbl z)(n2:∀z,o ≠ .ext z)(b:But d H H'):Ak T pos q H':=by
 rcases h with e | ⟨c,e,ec⟩
 ·exact .inl (b _ _ e λz=>by rw[z,hd] at e;cases e;exact n1 _ rfl)
 ·exact .inr ⟨c,b _ _ e (λz=>by rw[z,hd] at e;cases e;exact n1 _ rfl),b _ _ ec λz=>by rw[z,hd] at ec;cases ec;exact n2 _ rfl⟩
def Ak.butT2{T T':ae}{pos fV:bw}{q q':ah}{H H':Hp}(h:Ak T pos q H)(t:Ak T' fV q' H)(n:T≠T')(b:But T' H H'):Ak T pos q H':=by
 have k:∀{c:ae} {z:ao->Prop},H c=some (.ext z)->c≠T':=λe=>Ak.ne t e λz=>by simp
 rcases h with e | ⟨c,e,ec⟩
 ·exact .inl (b _ _ e n)
 ·exact .inr ⟨c,b _ _ e n,b _ _ ec (k ec)⟩
abbrev qWy:ah:=(ah.ofString "ways_to" ++ ah.ofString ".<locals>.")++ah.ofString "<lambda>"
def Ef (s:aO):bw:=match B1 s with
 | [_,.For _ (.Call _ _ [⟨_,.Lambda _ _ _ p,_⟩] _) _ _ _,_]=>p
 | _=>⟨0,0,0,0⟩
structure Tab2 (T T2:ae) (p1 p2:bw) (H:Hp):Prop where
 a:Ak T p1 qIn H
 b:Ak T2 p2 qWy H
 n:T≠T2
def Tab2.same{T T2:ae}{p1 p2:bw}{H H':Hp}(h:Tab2 T T2 p1 p2 H)(s:Same H H'):Tab2 T T2 p1 p2 H':=⟨SH.Ak.same h.a s,SH.Ak.same h.b s,h.n⟩
def But3 (T T2:ae) (H H':Hp):Prop:=∀b o,H b=some o->b≠T->b≠T2->H' b=some o
def Xga (T T2:ae) (p1 p2:bw):Sp:=λvs H Q _=>∃(r g:ae) (row G:Za),vs=[.ref r,.ref g]/\H r=some (.lst (row.map V.str))/\Row2 row/\A6 row/\(dit row).length<=13/\Tab2 T T2 p1 p2 H/\H g=some (.tup (G.map V.str))/\isPlotB row G=true /\
 ∀(d:ae) (Us:List (Za)) (H':Hp),H d=none->H' d=some (.dT (kvT Us (wyI row G)))->(∀S,S∈Us↔isPlotB row S=true)->Tab2 T T2 p1 p2 H'->But3 T T2 H H'->Q (.ref d) H'
abbrev NWy:Za:=["row", "goal", "many", "plot"]
abbrev NWy1:Za:=["name", "many", "plot"]
def Xo0{Us:List (Za)}{f:Za->Int}{S:Za}(h:S∉Us):A9 (kvT Us f) (kOf S) (.int (f S))=kvT (Us++[S]) f:=by
 rw[F0 _ (by rw[Jb,Qp h])];unfold kvT;rw[Mn];rfl
def Tab2.but3{T T2:ae}{p1 p2:bw}{H H':Hp}(h:Tab2 T T2 p1 p2 H)(b:But3 T T2 H H'){c:ae}{o:HO}(e:H c=some o)(n:∀z,o ≠ .tbl z):H' c=some o:=b _ _ e (Ak.ne h.a e n) (Ak.ne h.b e n)
def Xgb (C T T2:ae) (p1 p2:bw):Sp:=λvs H Q E=>∃(r p q:ae) (row a b:Za),vs=[.ref r,.ref p,.ref q]/\Two H r p q row a b/\A6 row/\(dit row).length<=13/\Tab2 T T2 p1 p2 H /\
 (isPlotB row a=true->isPlotB row b=true->∀H',Tab2 T T2 p1 p2 H'->But3 T T2 H H'->Q (.int (wyI row b a)) H')/\((isPlotB row a=false\/isPlotB row b=false)->∀H',Same H H'->E (.ref C) none H')
theorem Lw:∀(k:Nat) {b:Za},Ca b->k<=b.length->∀{x y:ah},x∈b->y∈b->x≠y->(lieR (rot b k) x y = "cross" ↔ lieR b x y = "cross")
 | 0,b,_,_,x,y,_,_,_=>by rw[Xmz]
 | k+1,[],_,h,x,y,hx,_,_=>by cases hx
 | k+1,z::t,h2,h,x,y,hx,hy,n=>by
  have h:k<=t.length:=by simpa using h
  have e:rot (z::t) (k+1)=rot (t++[z]) k:=by
   unfold rot;rw[List.drop_succ_cons,List.take_succ_cons,List.drop_append_of_le_length h,List.take_append_of_le_length h,Pq];rfl
  rw[e,Lw k (b:=t++[z]) (Iv h2) (by rw[Mg];omega) (Ec.mem_iff.mpr hx) (Ec.mem_iff.mpr hy) n];exact(Xmo h2 hx hy n).2.2.2
def Xgc{row:Za}(h2:Ca row){x:ah}(hx:x∈row):pl row.reverse x=((row.length:Int) - 1 - (pl row x).2,(row.length:Int) - 1 - (pl row x).1):=by
 obtain⟨a,b,lt,ha,hb,e⟩:=Iu (h2 x hx);have la:=(Mc.mp ha).1;have lb:=(Mc.mp hb).1;have c:row.reverse.count x=2:=by rw[(N9 row).count_eq];exact h2 x hx
 have ra:row.reverse[row.length - 1 - a]? = some x:=by rw[List.getElem?_reverse (by omega),show row.length - 1 - (row.length - 1 - a)=a by omega];exact ha
 have rb:row.reverse[row.length - 1 - b]? = some x:=by rw[List.getElem?_reverse (by omega),show row.length - 1 - (row.length - 1 - b)=b by omega];exact hb
 rw[Gs c rb ra (by omega),e];refine Prod.ext ?_ ?_<;>(show _=_)<;>(try dsimp only)<;>omega
def Xo1{row:Za}(h2:Ca row){x y:ah}(hx:x∈row)(hy:y∈row)(n:x≠y):lieR row.reverse x y = "cross" ↔ lieR row x y = "cross" := by
 have h':Ca row.reverse:=h2.perm (N9 row);rw[(E3 h' (Ow.mpr hx) (Ow.mpr hy) n).2.2,(E3 h2 hx hy n).2.2,Xgc h2 hx,Xgc h2 hy];dsimp only;omega
def Lx{a b:Za}(h:∀z,z∈a↔z∈b):dit a=dit b:=Gr (B6 a) (B6 b) λz=>by rw[Ae,Ae,h]
def Xgd{a b:Za}(h:∀z,z∈a↔z∈b)(c:∀x y,x∈a->y∈a->x≠y->(lieR a x y = "cross" ↔ lieR b x y = "cross")):crs a=crs b:=by
 unfold crs;rw[<-Lx h];rw[List.flatMap_def,List.flatMap_def];congr 1;refine M6 λx hx=>?_;congr 1;refine Qh λy hy=>?_;by_cases l:ltS x y
 ·have:=c x y (Ae.mp hx) (Ae.mp hy) (Eu l);by_cases q:lieR a x y = "cross"
  ·rw[Qr q,Qr (this.mp q)]
  ·rw[Qs q,Qs λz=>q (this.mpr z)]
 ·rw[Qs l,N1,N1]
def Xge{a c:Za}(l:a.length=c.length)(ta:Ca a)(tc:Ca c)(f:Bj a c):(crs a).length=(crs c).length:=by
 let φ : ah->ah:=λx=>c.getD (a.idxOf x) ah.empty
 have bX:∀i x,a[i]? = some x->c[i]? = some (φ x):=λi x hi=>by
  have hx:x∈a:=Nm hi;have hl:=List.idxOf_lt_length_of_mem hx;have e:a[a.idxOf x]? = some x:=by rw[L6 hl,List.getElem_idxOf hl]
  rw[f i _ x hi e,L6 (by omega)];show _=some (c.getD (a.idxOf x) ah.empty);rw[List.getD,L6 (by omega)];rfl
 have mem:∀x∈a, φ x∈c:=λx hx=>by
  obtain⟨i,hi⟩:=Oa.mp hx;exact Nm (bX i x hi)
 have zp:∀x∈a,(x, φ x)∈a.zip c:=λx hx=>by
  obtain⟨i,hi⟩:=Oa.mp hx;exact Nm (i:=i) (Nq.mpr ⟨hi,bX i x hi⟩)
 have inj:∀x∈a,∀x'∈a, φ x = φ x'->x=x':=λx hx x' fR e=>Xm0 l ta tc f (zp x hx) (by rw[e];exact zp x' fR);have vS:∀x∈a,pl a x=pl c (φ x):=λx hx=>by
  obtain⟨i,j,lt,hi,hj,e⟩:=Iu (ta x hx);rw[e,Gs (tc _ (mem x hx)) (bX i x hi) (bX j x hj) lt]
 have lie:∀x∈a,∀y∈a,lieR a x y=lieR c (φ x) (φ y):=λx hx y hy=>by
  unfold lieR;rw[vS x hx,vS y hy]
 have pm:(dit c).Perm ((dit a).map φ):=by
  refine Gf (Ck c) (by
   rw[List.nodup_iff_pairwise_ne,N5];have nd:=Ck a;rw[List.nodup_iff_pairwise_ne] at nd;refine List.Pairwise.imp_of_mem (λ{x y} hx hy n e=>n (inj x (Ae.mp hx) y (Ae.mp hy) e)) nd) λy=>?_
  rw[Ae,Mo];constructor
  ·intro hy;obtain⟨i,hi⟩:=Oa.mp hy;have li:=(Mc.mp hi).1;refine⟨a[i]'(by omega),Ae.mpr (Mz _),?_⟩;have:=bX i (a[i]'(by omega)) (L6 _);rw[hi] at this;exact(Mj this).symm
  ·rintro ⟨x,hx,rfl⟩;exact mem x (Ae.mp hx)
 have h1:=Ij ta;have h2:=Ij tc;rw[Xd1 pm] at h2;have e:deg2 (λx y=>decide (Ar c x y)) ((dit a).map φ)=deg2 (λx y=>decide (Ar a x y)) (dit a):=by
  unfold deg2;rw[M5];congr 1;refine M6 λx hx=>?_;show List.countP _ ((dit a).map φ)=_;rw[P6];refine List.countP_congr λy hy=>?_;show decide (lieR c (φ x) (φ y) = "cross")=true↔decide (lieR a x y = "cross")=true;rw[lie x (Ae.mp hx) y (Ae.mp hy)]
 rw[e] at h2;omega
def Gy{a:Za}(h:∀y∈a,a.count y=2):a.length=2 * (dit a).length:=by
 have p:a.Perm (dit a++dit a):=by
  rw[List.perm_iff_count];intro y;rw[Ol];by_cases hy:y∈a
  ·rw[h y hy,(Ck a).count,Qq (Ae.mpr hy)]
  ·rw[Ox.mpr hy,(Ck a).count,Qp (λz=>hy (Ae.mp z))]
 rw[p.length_eq,Mg];omega
def Xgf{row:Za}{Ts:List (Za)}(h2:∀y∈row,row.count y=2)(h3:A6 row)(nd:Ts.Nodup)(h:∀S,S∈Ts↔isPlotB row S=true):Ts.length=1+(dit row).length+(crs row).length:=by
 have e:Ts.length=([]::cands row).length:=Xf5 nd (Ls h2) λS=>(h S).trans (Gw h2 h3 S).symm;unfold cands at e;rw[Ml,Mg,L5,L5] at e;omega
def Xgg{a b:Za}{k:Nat}(ta:Ca a)(tb:Ca b)(l:a.length=b.length)(hk:k<=b.length)(h:Bj a (rot b k)\/Bj a (rot b.reverse k)):(dit a).length=(dit b).length/\(crs a).length=(crs b).length:=by
 refine⟨by have:=Gy ta;have:=Gy tb;omega,?_⟩;rcases h with f | f
 ·rw[Xge (by rw[Lq];exact l) ta (tb.perm (E4 b k)) f,Xgd (a:=rot b k) (b:=b) (λz=>(E4 b k).mem_iff) λx y hx hy n=>Lw k tb hk ((E4 b k).mem_iff.mp hx) ((E4 b k).mem_iff.mp hy) n]
 ·have tr:=tb.perm (N9 b);have lr:b.reverse.length=b.length:=Pf;have pm:(rot b.reverse k).Perm b:=(E4 _ k).trans (N9 b);rw[Xge (by rw[Lq,lr];exact l) ta (tr.perm (E4 _ k)) f,Xgd (a:=rot b.reverse k) (b:=b) (λz=>pm.mem_iff) λx y hx hy n=>?_];have hx:=pm.mem_iff.mp hx;have hy:=pm.mem_iff.mp hy;rw[Lw k tr (by rw[lr];exact hk) (Ow.mpr hx) (Ow.mpr hy) n,Xo1 tb hx hy n]
def Fo{row:Za}(h:∀y∈row,row.count y=2){x y:ah}(hx:x∈row)(hy:y∈row)(n:x≠y):(lieR row x y = "around" ↔ lieR row y x = "within")/\(lieR row x y = "apart" ↔ lieR row y x = "apart")/\(lieR row x y = "cross" \/ lieR row x y = "within" \/ lieR row x y = "around" \/ lieR row x y = "apart"):=by
 obtain⟨w,a,c⟩:=E3 h hx hy n;obtain⟨w',a',c'⟩:=E3 h hy hx n.symm;have lx:=Bk (h x hx);have ly:=Bk (h y hy);obtain⟨n1,n2,n3,n4⟩:=Dd (h x hx) (h y hy) n;have lE:=Xd4 (pl row x).1 (pl row x).2 (pl row y).1 (pl row y).2;have ns:lieR row x y ≠ "same" := λz=>by
  unfold lieR lieT at z;rw[Qp λq=>n1 q.1] at z
  revert z
  repeat' (first | split | (intro z;exact absurd z (by decide)))
 have lE:lieR row x y = "same" \/ lieR row x y = "cross" \/ lieR row x y = "within" \/ lieR row x y = "around" \/ lieR row x y = "apart" := lE;have jF:=lE.resolve_left ns;refine⟨?_,?_,jF⟩
 ·rw[w'];constructor
  ·intro e;have e1:¬lieR row x y = "within" := by rw[e];decide
   have e2:¬lieR row x y = "apart" := by rw[e];decide
   have e3:¬lieR row x y = "cross" := by rw[e];decide
   rw[w] at e1;rw[a] at e2;rw[c] at e3;omega
  ·intro e;rcases jF with q | q | q | q
   ·rw[c] at q;omega
   ·rw[w] at q;omega
   ·exact q
   ·rw[a] at q;omega
 ·rw[a,a'];omega
def Xo2{a b:Za}(ha:∀y∈a,a.count y=2)(hb:∀y∈b,b.count y=2)(hm:∀z,z∈a↔z∈b)(hl:∀x y,x∈a->y∈a->ltS x y->lieR a x y=lieR b x y):isPlotB a=isPlotB b:=by
 have all:∀x y,x∈a->y∈a->x≠y->(lieR a x y = "within" ↔ lieR b x y = "within")/\(lieR a x y = "apart" ↔ lieR b x y = "apart"):=λx y hx hy n=>by
  rcases Iy x y with c | c | c
  ·rw[hl x y hx hy c];exact⟨Iff.rfl,Iff.rfl⟩
  ·exact absurd c n
  ·have e:=hl y x hy hx c;have h1:=Fo ha hy hx n.symm;have h2:=Fo hb ((hm y).mp hy) ((hm x).mp hx) n.symm;rw[<-h1.1,<-h2.1,<-h1.2.1,<-h2.2.1,e];exact⟨Iff.rfl,Iff.rfl⟩
 have one:∀{a b:Za},(∀z,z∈a↔z∈b)->(∀x y,x∈a->y∈a->x≠y->(lieR a x y = "within" ↔ lieR b x y = "within")/\(lieR a x y = "apart" ↔ lieR b x y = "apart"))->∀S,isPlotB a S=true->isPlotB b S=true:=λ{a b} hm all S hS=>by
  obtain⟨s1,s2,s3,s4⟩:=Gq.mp hS;refine Gq.mpr ⟨s1,λx hx=>(hm x).mp (s2 x hx),λx hx y hy w=>?_,λx hx y hy w=>?_⟩
  ·have n:x≠y:=λe=>by rw[e,Xe6] at w;exact absurd w (by decide)
   exact s3 x hx y ((hm y).mpr hy) ((all x y (s2 x hx) ((hm y).mpr hy) n).1.mpr w)
  ·have n:x≠y:=λe=>by rw[e,Xe6] at w;exact absurd w (by decide)
   exact s4 x hx y hy ((all x y (s2 x hx) (s2 y hy) n).2.mpr w)
 funext S;cases e:isPlotB a S with
 | true=>exact(one hm all S e).symm
 | false=>
  cases e':isPlotB b S with
  | false=>rfl
  | true=>
   have:=one (λz=>(hm z).symm) (λx y hx hy n=>let q:=all x y ((hm x).mpr hx) ((hm y).mpr hy) n; ⟨q.1.symm,q.2.symm⟩) S e';rw[e] at this;cases this
section
variable {a b:Za}
def E5{x y:ah}(hy:y∈a):y∈(dit a).filter (upB a x)↔y=x\/lieR a x y = "within" := by
 rw[Mh,Ae];unfold upB;simp[hy]
def Je(h2:∀y∈a,a.count y=2)(h3:A6 a){x:ah}(hx:x∈a):isPlotB a ((dit a).filter (upB a x))=true:=by
 refine(Gw h2 h3 _).mp (L8 _ ?_);unfold cands;exact Nz _ (Mo.mpr ⟨x,Ae.mpr hx,rfl⟩)
def Xo3(h2:∀y∈a,a.count y=2)(h3:A6 a){x y:ah}(hx:x∈a)(hy:y∈a)(n:x≠y)(c:lieR a x y = "cross"):∃S,isPlotB a S=true/\x∈S/\y∈S:=by
 have go:∀{x y},x∈a->y∈a->ltS x y->lieR a x y = "cross" -> ∃S,isPlotB a S=true/\x∈S/\y∈S:=λ{x y} hx hy l c=>by
  refine⟨(dit a).filter λz=>upB a x z||upB a y z,(Gw h2 h3 _).mp (L8 _ ?_),?_,?_⟩
  ·unfold cands;refine Mx _ (Mo.mpr ⟨(x,y),?_,rfl⟩);unfold crs;refine Pw.mpr ⟨x,Ae.mpr hx,Mo.mpr ⟨y,Mh.mpr ⟨Ae.mpr hy,?_⟩,rfl⟩⟩;rw[Qr l,Qr c];rfl
  ·exact Mh.mpr ⟨Ae.mpr hx,by unfold upB;simp⟩
  ·exact Mh.mpr ⟨Ae.mpr hy,by unfold upB;simp⟩
 rcases Iy x y with l | l | l
 ·exact go hx hy l c
 ·exact absurd l n
 ·obtain⟨S,h,h1,h2⟩:=go hy hx l (B9 (h2 x hx) (h2 y hy) c);exact⟨S,h,h2,h1⟩
def Xgh(h2:∀y∈a,a.count y=2)(h3:A6 a){x y:ah}(hx:x∈a)(hy:y∈a)(n:x≠y):
  (lieR a x y = "within" ↔ ¬ ∃S,isPlotB a S=true/\x∈S/\y∉S)/\(lieR a x y = "around" ↔ ¬ ∃S,isPlotB a S=true/\y∈S/\x∉S)/\(lieR a x y = "apart" ↔ ¬ ∃S,isPlotB a S=true/\x∈S/\y∈S):=by
 have wi:∀{x y},x∈a->y∈a->x≠y->(lieR a x y = "within" ↔ ¬ ∃S,isPlotB a S=true/\x∈S/\y∉S):=λ{x y} hx hy n=>by
  constructor
  ·rintro w ⟨S,hS,h1,h2⟩;exact h2 ((Gq.mp hS).2.2.1 x h1 y hy w)
  ·intro h;refine Classical.byContradiction λw=>h ⟨_,Je h2 h3 hx,(E5 hx).mpr (.inl rfl),λz=>?_⟩;rcases (E5 hy).mp z with z | z
   ·exact n z.symm
   ·exact w z
 refine⟨wi hx hy n,?_,?_⟩
 ·rw[(Fo h2 hx hy n).1];exact wi hy hx n.symm
 ·constructor
  ·rintro w ⟨S,hS,h1,h2⟩;exact(Gq.mp hS).2.2.2 x h1 y h2 w
  ·intro h;obtain⟨ar,ap,jF⟩:=Fo h2 hx hy n;rcases jF with q | q | q | q
   ·exact absurd (Xo3 h2 h3 hx hy n q) h
   ·exact absurd ⟨_,Je h2 h3 hx,(E5 hx).mpr (.inl rfl),(E5 hy).mpr (.inr q)⟩ h
   ·exact absurd ⟨_,Je h2 h3 hy,(E5 hx).mpr (.inr (ar.mp q)),(E5 hy).mpr (.inl rfl)⟩ h
   ·exact q
def Xo4(ra:∀y∈a,a.count y=2)(rb:∀y∈b,b.count y=2)(na:A6 a)(nb:A6 b){rr:Option (Za)}(d:Due a b rr):rr=none ↔ ∀S,isPlotB a S=true↔isPlotB b S=true:=by
 constructor
 ·intro e;cases d with
  | ditch=>cases e
  | lie=>cases e
  | none hm hl=>
   intro S;rw[Xo2 ra rb hm hl]
 ·intro h;have hm:∀z,z∈a↔z∈b:=by
   have one:∀{a b:Za},(∀y∈a,a.count y=2)->A6 a->(∀S,isPlotB a S=true->isPlotB b S=true)->∀z,z∈a->z∈b:=λ{a b} ra na h z hz=>(Bw (h _ (Je ra na hz))).1 z ((E5 hz).mpr (.inl rfl));exact λz=>⟨one ra na (λS=>(h S).mp) z,one rb nb (λS=>(h S).mpr) z⟩
  cases d with
  | none=>rfl
  | ditch x hx _=>exact(Xmx hm hx).elim
  | lie x y _ f=>
   exfalso;have n:=Eu f.lt;obtain⟨w,ar,ap⟩:=Xgh ra na f.hx f.hy n;obtain⟨w',y9,yA⟩:=Xgh rb nb ((hm x).mp f.hx) ((hm y).mp f.hy) n;have e:∀p:Za->Prop,(∃S,isPlotB a S=true/\p S) ↔ ∃S,isPlotB b S=true/\p S:=λp=>⟨λ⟨S,h1,h2⟩=>⟨S,(h S).mp h1,h2⟩,λ⟨S,h1,h2⟩=>⟨S,(h S).mpr h1,h2⟩⟩;rw[e] at w ar ap;have w2:=w.trans w'.symm;have vT:=ar.trans y9.symm;have vU:=ap.trans yA.symm;apply f.df;rcases (Fo ra f.hx f.hy n).2.2 with q | q | q | q
   ·rcases (Fo rb ((hm x).mp f.hx) ((hm y).mp f.hy) n).2.2 with q' | q' | q' | q'
    ·rw[q,q']
    ·rw[w2.mpr q',q']
    ·rw[vT.mpr q',q']
    ·rw[vU.mpr q',q']
   ·rw[q,w2.mp q]
   ·rw[q,vT.mp q]
   ·rw[q,vU.mp q]
end
def dNb (q:ah×Za):ak:=.tuple [.str q.1,Ba q.2]
theorem Xgi{H:Hp}:∀{qs:List ae} {xs:List (ah×Za)},Nbs H qs xs->DAll H (xs.map dNb) (qs.map V.ref)
 | [],[],_=>Dq
 | [],x::xs,h=>by have:=h.1;simp at this
 | q::qs,[],h=>by have:=h.1;simp at this
 | q::qs,x::xs,h=>by
  obtain⟨p,h1,h2⟩:=h.2 0 (by simp);have h1:H q=some (.tup [.str x.1,.ref p]):=h1;have h2:H p=some (.tup (x.2.map V.str)):=h2;refine D6 ?_ (Xgi ⟨by simpa using h.1,λi hi=>h.2 (i+1) (by simpa using hi)⟩);unfold dNb DAt;exact⟨q,_,rfl,h1,D6 (by unfold DAt;rfl) (D6 (Ea h2) Dq)⟩
def Xgj{H:Hp}{l:ae}{qs:List ae}{xs:List (ah×Za)}(h:H l=some (.lst (qs.map V.ref)))(n:Nbs H qs xs):DAt H (.list (xs.map dNb)) (.ref l):=Xc4 h (Xgi n)
def Xo5{xs:List (ah×Za)}(h:∀q∈xs,okN q.1/\∀y∈q.2,okN y):Bn (.list (xs.map dNb))=true:=plainAll_map dNb xs λq hq=>by
 show (Bn (.str q.1)&&(Bn (Ba q.2)&&true))=true;have a:(Bn (.str q.1)&&true)=true:=Xk8 (ss:=[q.1]) λy hy=>by rw[Mi.mp hy];exact(h q hq).1
 rw[Bool.and_true] at a;have b:Bn (Ba q.2)=true:=Dr (h q hq).2;rw[a,b];rfl
def Xo6{row S:Za}(R2:Row2 row):∀q∈nbL row S,okN q.1/\∀y∈q.2,okN y:=λq hq=>by
 obtain⟨h1,_,h3⟩:=Xoc.mp hq;exact⟨R2.ok q.1 h1,λy hy=>R2.ok y ((Bw h3).1 y hy)⟩
def But2 (T dr:ae) (H H':Hp):Prop:=∀b o,H b=some o->b≠T->b≠dr->H' b=some o
def _root_.SH.DrawOk.butT{H H':Hp}{T dr sc:ae}{pos:bw}(d:DrawOk H dr sc)(t:Ak T pos qIn H)(b:But T H H'):DrawOk H' dr sc:=by
 obtain⟨ns,p,c,m,k,h1,h2,r⟩:=d.ex;exact⟨ns,p,c,m,k,b _ _ h1 (Ak.ne t h1 λz=>by simp),b _ _ h2 (Ak.ne t h2 λz=>by simp),r⟩
def Xq8 (T:ae) (pos:bw):Sp:=λvs H Q _=>∃(dr sc r p:ae) (row W:Za) (m:Nat),vs=[.ref dr,.ref r,.ref p,.int m]/\DrawOk H dr sc/\H r=some (.lst (row.map V.str))/\r≠dr/\Row2 row/\A6 row/\(dit row).length<=13/\Ak T pos qIn H/\H p=some (.tup (W.map V.str))/\isPlotB row W=true/\m<=24 /\
 ∀(t h st:ae) (S ss:Za) (H':Hp),H' t=some (.tup [.ref h,.ref st])->H' h=some (.tup (S.map V.str))->H' st=some (.lst (ss.map V.str))->isPlotB row S=true->oddW W S ss->ss.length<=24->Ak T pos qIn H'->DrawOk H' dr sc->But2 T dr H H'->Q (.ref t) H'
def spTwinN:Sp:=λvs H Q _=>∃(dr sc r:ae) (row:Za),vs=[.ref dr,.ref r]/\DrawOk H dr sc/\H r=some (.lst (row.map V.str))/\r≠dr/\row.length<=60/\(∀y∈row,row.count y=2)/\A6 row /\
 ∀(l:ae) (t:Za) (H':Hp),H l=none->H' l=some (.lst (t.map V.str))->t.Perm row->A6 t->DrawOk H' dr sc->But dr H H'->Q (.ref l) H'
def DrawOk.but3{H H':Hp}{T T2 dr sc:ae}{p1 p2:bw}(d:DrawOk H dr sc)(t:Tab2 T T2 p1 p2 H)(b:But3 T T2 H H'):DrawOk H' dr sc:=by
 obtain⟨ns,p,c,m,k,h1,h2,r⟩:=d.ex;exact⟨ns,p,c,m,k,t.but3 b h1 λz=>by simp,t.but3 b h2 λz=>by simp,r⟩
def Tab2.butD{H H':Hp}{T T2 dr sc:ae}{p1 p2:bw}(t:Tab2 T T2 p1 p2 H)(d:DrawOk H dr sc)(b:But dr H H'):Tab2 T T2 p1 p2 H':=by
 obtain⟨xs,h⟩:=d.at;exact⟨SH.Ak.but t.a h b,SH.Ak.but t.b h b,t.n⟩
def Tab2.butT{H H':Hp}{T T2:ae}{p1 p2:bw}(t:Tab2 T T2 p1 p2 H)(a:Ak T p1 qIn H')(b:But T H H'):Tab2 T T2 p1 p2 H':=⟨a,SH.Ak.butT2 t.b t.a t.n.symm b,t.n⟩
end SH
namespace K39
open L2 SH
def top (i:Nat):aO:=PySem.Challenge.pw_shoretold_k39_whole_same_plots_same_lies.main.body.getD i (.Pass ⟨0,0,0,0⟩)
abbrev sAsk:aO:=top 6
abbrev sDitches:aO:=top 7
abbrev sEnds:aO:=top 8
abbrev sSpans:aO:=top 9
abbrev sLieOf:aO:=top 10
abbrev sLie:aO:=top 11
abbrev sCross:aO:=top 12
abbrev s_turned:aO:=top 13
abbrev s_mirrored:aO:=top 14
abbrev sTold:aO:=top 16
abbrev s_in_order:aO:=top 17
abbrev sAllows:aO:=top 18
abbrev sIsPlot:aO:=top 19
abbrev s_ask_plot:aO:=top 20
abbrev s_plots:aO:=top 21
abbrev s_parting:aO:=top 23
abbrev s_across:aO:=top 24
abbrev s_neighbours:aO:=top 25
abbrev s_paired:aO:=top 27
abbrev s_same:aO:=top 28
abbrev s_unlike:aO:=top 29
abbrev s_ways_to:aO:=top 31
abbrev s_walks_many:aO:=top 32
abbrev sBegin:aO:=top 34
abbrev sPick:aO:=top 35
abbrev sPut:aO:=top 36
abbrev sWhere:aO:=top 37
abbrev sWord:aO:=top 38
abbrev sBarred:aO:=top 39
abbrev sRow:aO:=top 40
abbrev sNames:aO:=top 41
abbrev sIsland:aO:=top 42
abbrev s__law_swapped:aO:=top 43
abbrev s__law_twin_row:aO:=top 44
abbrev s__law_one:aO:=top 45
abbrev s_law:aO:=top 46
abbrev NWo:Za:=["_law_where_here", "_law_one_here", "_law_other", "_law_low", "_law_high", "_law_inner"]
abbrev NBc:Za:=["_law_one_here", "_law_name", "_law_where_here"]
abbrev NFl1:Za:=["_law_one_here", "_law_name"]
abbrev NFi:Za:=["_law_bars_here", "_law_plot", "_law_one_here", "_law_other", "_law_word_here"]
abbrev NBr:Za:=["_law_row_here", "_law_where_here", "_law_told", "_law_one_here", "_law_other", "_law_word_here"]
section
variable {P:au}{w:ay}{K:DK}{mg:ah->Option aa}{base:ao}
def Xo7:FnScope ["row", "name"] ["row", "name"] (defScope sAsk):=by walk_at "s"
def Xo8{f C:ae}{fd:aw}(F:Fun K "ask_ditch" "ask_ditch" sAsk f fd)(hC:mg "NoDitch" = some (.ref C))(hc:DY K C bmV "ValueError.__new__" = true):
  FnOk P w K mg base (CX1 P w) 1 f fd ["row", "name"] (Xdk C):=by
 refine F.ok1 Xo7 (by walk_at "l") ?_
 ·walk_at "i"
  obtain⟨r,row,x,rfl,hR,⟨qU,qT⟩,kq,ke⟩:=h;refine⟨_,Ah (Bc (Az Xh5 (pv 1) (pv 0) (by rfl))
   (Ah (Xb1 (C:=C) (E:=E) hc rfl leaves1 (by rfl) hC (Aa (Xb5 (G9 (by decide +kernel) (Xj2 (pv 1) (G9 (by decide +kernel) Xb4)))) Ac))) Be),?_⟩
  refine⟨_,rfl,_,rfl,r,_,rfl,.inl (SqL.of hR),rfl,Ho row,_,rfl,?_⟩;rw[Hn];by_cases hx:x∈row
  ·refine Xiq hx ?_;exact kq hx H (Same.refl H)
  ·rw[Qs hx];refine Cv ?_;refine⟨_,rfl,x,rfl,by omega,(λc h=>Oi (qT c h) (by decide)),λz=>?_⟩;exact⟨by show 1<=sizeLine;decide,ke hx H (Same.refl H)⟩
def Xo9:FnScope ["row"] ["row"] (defScope sDitches):=by walk_at "s"
def Xpa{f:ae}{fd:aw}(F:Fun K "ditches" "ditches" sDitches f fd)(T:Bl mg):FnOk P w K mg base CX0 1 f fd ["row"] spDitches:=by
 refine F.ok Xo9 (by walk_at "l") ?_
 ·walk_at "i"
  obtain⟨r,row,rfl,hR,hl,k⟩:=h;refine⟨_,Ah (Am (A8 (F9 rfl) (by rfl) T.sorted (by rfl) (Aa (Ci (Et rfl) (by rfl) T.set (by rfl) (Aa (pv 0) Ac)) Ac))),?_⟩;refine⟨_,rfl,r,row,rfl,.inl (SqL.of hR),by unfold aN;omega,λa na=>?_⟩;have l6:=F8 row;refine⟨a,ddup row,rfl,Ab,by omega,λl ls nl hp hs=>?_⟩;have s1:Same H (upd H a (D4 P w a (ddup row))):=(Same.refl H).step na;refine k l _ (s1.free nl) ?_ (s1.step nl);rw[Ab,Gc hp hs];rfl
def Xgk:FnScope NEn ["row", "name"] (defScope sEnds):=by walk_at "s"
def Xpb{f C:ae}{fd:aw}(F:Fun K "ends" "ends" sEnds f fd)(T:Bl mg)(FA:Fn P w K mg base (CX1 P w) 1 "ask_ditch" ["row", "name"] (Xdk C)):
  FnOk P w K mg base (CX1 P w) 2 f fd ["row", "name"] (spEnds C):=by
 refine F.ok1 Xgk (by walk_at "l") ?_
 ·walk_at "i"
  obtain⟨r,row,x,rfl,hR,hx,hl,kq,ke⟩:=h;refine⟨_,Af (Fq (Ai FA hr rfl pass1 (Aa (pv 0) (Aa (pv 1) Ac))))
   (Af (Ht (i:=2) (N:=NEc) (cap:=[none,none,some 1]) (CompScope.of (defScope sEnds) NEn rfl rfl rfl (by decide +kernel)) rfl Xgk.nd rfl rfl
    (Xj0 (by rfl) T.enum (Aa (pv 0) Ac))
    (λ_ _ _=>Hq K 2 rfl rfl (C6 (A2 (i:=0) (show NEc.Nodup by decide +kernel) rfl (.inl rfl) (.inr rfl)) (C6 (A2 (i:=1) (show NEc.Nodup by decide +kernel) rfl (.inl rfl) (.inr rfl)) Fs)))
    (λ_ _ _=>Fg (Az C8 (pv 1) (pv 2) (Ax _))) (λ_ _ _=>pv 0))
   (Ah (Am (B3 (Aa (Ay Bg (pv 2) Ag (λ_ _=>rfl)) (Aa (Ay Bg (pv 2) Ag (λ_ _=>rfl)) Ac)))))),?_⟩
  refine⟨_,rfl,_,rfl,r,row,x,rfl,hR,hx,λcO H1 s1=>?_,ke⟩;obtain⟨a,b,jd,kq⟩:=kq cO;refine⟨_,rfl,r,rfl,⟨_,SqL.of (s1 _ _ hR)⟩,?_⟩;refine Xka (K:=K) (p:=0) (q:=1) (by decide) (SqL.of (s1 _ _ hR)) (by rw[L5,Qo];omega) (λi=>decide (row.getD i ah.empty=x)) (λi=>.int i) ?_ ?_ ?_
  ·intro i v H2 Q' hv s2 k;obtain⟨y,rfl,hy⟩:∃y,v=V.str y/\row.getD i ah.empty=y:=by
    rw[Mt] at hv;cases q:row[i]? with
    | none=>rw[q] at hv;cases hv
    | some y=>rw[q] at hv;exact⟨y,(Mj hv).symm,by simp[List.getD,q]⟩
   refine⟨_,rfl,_,rfl,rfl,_,rfl,?_⟩;have:=k H2 (Same.refl _);rw[hy] at this;have e:decide (V.str y=V.str x)=decide (y=x):=by
    by_cases z:y=x
    ·rw[z];simp
    ·rw[Qs z,Qs (λq=>z (by injection q))]
   rw[e];exact this
  ·intro i v H2 Q' hv hk s2 k;exact⟨_,rfl,k H2 (Same.refl _)⟩
  ·intro D H2 nD s2 hD;have gF:H2 D=some (.lst [.int a,.int b]):=by
    rw[hD,L5];have:=congrArg (List.map V.int) ((Kx row x).trans jd);rw[M5] at this;rw[show ((List.range row.length).filter λi=>decide (row.getD i ah.empty=x)).map (λi:Nat=>V.int (i:Int))=_ from this];rfl
   refine⟨_,rfl,_,_,_,_,rfl,rfl,SqL.of gF,rfl,_,rfl,_,_,_,_,rfl,rfl,SqL.of gF,rfl,by show 2<=sizeLine;decide,λp np=>?_⟩;have s3:=s1.trans s2;exact kq p _ (s3.free np) Ab (s3.step np)
def Xpc:FnScope ["row"] ["row"] (defScope sSpans):=by walk_at "s"
def Xpd{f C:ae}{fd:aw}(F:Fun K "spans" "spans" sSpans f fd)(FD:Fn P w K mg base CX0 1 "ditches" ["row"] spDitches)(FE:Fn P w K mg base (CX1 P w) 2 "ends" ["row", "name"] (spEnds C)):
  FnOk P w K mg base CX0 3 f fd ["row"] spSpans:=by
 refine F.ok Xpc (by walk_at "l") ?_
 ·walk_at "i"
  obtain⟨r,row,rfl,hR,R2,k⟩:=h;have ca:Room 1 _:=hr.mono (by decide);refine⟨_,Ah (Am (Xcz (N:=NSp) (cap:=[none,some 0]) (CompScope.of (defScope sSpans) ["row"] rfl rfl rfl (by decide +kernel)) rfl
   (Cd (Ai FD ca (by rfl) Al (Aa (pv 0) Ac))) (λ_ _ _=>A2 (i:=0) (show NSp.Nodup by decide +kernel) rfl (.inl rfl) (.inr rfl)) (λ_ _ _=>Cw)
   (λ_ _ _=>pv 0) (λ_ _ _=>Ai (by exact FE) (by exact hr) (by rfl) Ew (Aa (pv 1) (Aa (pv 0) Ac))))),?_⟩
  have hl:=R2.len;refine⟨_,rfl,r,row,rfl,hR,hl,λdi H1 BZ tI s1=>?_⟩;refine⟨di,rfl,⟨_,SqL.of tI⟩,λD nD=>?_⟩;have hn:∀i,i<(dit row).length->((dit row).map V.str).getD i .non = .str ((dit row).getD i ah.empty):=λi hi=>Cz V.str ah.empty _ hi;have yB:=s1 _ _ hR;have l6:=Ge row;refine⟨wN (dit row).length λi Z2 H2=>(∃v, Z2=[v,some (.ref r)])/\Same H1 H2/\∃kvs,H2 D=some (.dK kvs)/\Spn H2 kvs row ((dit row).take i),⟨(dit row).length,by simp,M3 _,⟨none,rfl⟩,(Same.refl H1).step nD,[],Ab,⟨rfl,λx hx=>by simp at hx⟩⟩,?_⟩;rintro i m Z1 H2 ⟨rfl,hi,⟨v,rfl⟩,s2,kvs,hD,sp⟩;by_cases aR:i<(dit row).length
  ·have lF:i<((dit row).map V.str).length:=by rw[L5];exact aR
   obtain⟨g1,g2⟩:=Ep (K:=K) (SqL.of (s2 _ _ tI)) lF;refine .inr ⟨g1,λx H3 y=>?_⟩;obtain⟨e1,e2⟩:=g2 x H3 y;subst e1 e2;rw[hn i aR];generalize hx:(dit row).getD i ah.empty=x;have qV:x∈dit row:=by rw[<-hx];exact B8 aR
   have gH:=Ae.mp qV;have gI:(dit row).take (i+1)=(dit row).take i++[x]:=by
    rw[Mv aR,<-hx];simp[List.getD,aR]
   have jm:x∉(dit row).take i:=by
    have nd:=Ck row;have h2:((dit row).take (i+1)).Nodup:=nd.sublist (Oj ..);rw[gI] at h2;exact λz=>(N3.mp h2).2.2 x z x (by simp) rfl
   refine⟨_,rfl,_,rfl,_,rfl,r,row,x,rfl,s2 _ _ yB,R2.ok x gH,by omega,λ_=>⟨_,_,B7 (R2.two x gH),λl H4 nl pc s4=>?_⟩,λz=>absurd gH z⟩;have dt:=s4 _ _ hD;have kl:kvs.length<=60:=by
    have:=sp.len;rw[Nd] at this;omega
   refine⟨kvs,Sum.inr x,rfl,dt,by rw[Qo];omega,?_⟩;refine wskip aR ⟨⟨_,rfl⟩,λb u e=>?_,_,Ab,?_⟩
   ·rw[Ad (Aw e nD)];exact s4 _ _ (s2 b u e)
   ·rw[gI];refine sp.snoc jm ?_ λb xs e=>?_
    ·rw[Ad (λz=>by rw[z,dt] at pc;cases pc)];exact pc
    ·have e4:=s4 _ _ e;rw[Ad (λz=>by rw[z,dt] at e4;cases e4)];exact e4
  ·have ei:i=(dit row).length:=by omega
   subst ei;refine .inl ⟨by have:=Er (K:=K) (SqL.of (s2 _ _ tI));rwa [L5] at this,?_⟩;rw[Oe] at sp;exact k D kvs H2 (s1.free nD) hD sp (s1.trans s2)
def Ly:FnScope NLo ["here", "there"] (defScope sLieOf):=by walk_at "s"
def Xpe{f:ae}{fd:aw}(F:Fun K "lie_of" "lie_of" sLieOf f fd):FnOk P w K mg base CX0 2 f fd ["here", "there"] spLieOf:=by
 refine F.ok Ly (by walk_at "l") ?_
 ·walk_at "i"
  obtain⟨p,q,a,b,c,e,rfl,hp,hq,l4,k⟩:=h;refine⟨_,Af (Bc (Az (Xc5 (hu3 hr)) (pv 0) (pv 1) (Ax _)) (Ah (Am Bm)) Be)
   (Af (Aq (i:=2) Ly.nd rfl (.inl rfl) (Xav Cg Cg (Ay (Dn K (by rfl)) (pv 1) Ag (λ_ _=>rfl)) (Ay (Dn K (by rfl)) (pv 0) Ag (λ_ _=>rfl)) (Ay (Dn K (by rfl)) (pv 1) Ag (λ_ _=>rfl))))
   (Af (Aq (i:=3) Ly.nd rfl (.inl rfl) (Xav Cg Cg (Ay (Dn K (by rfl)) (pv 1) Ag (λ_ _=>rfl)) (Ay (Dn K (by rfl)) (pv 0) Ag (λ_ _=>rfl)) (Ay (Dn K (by rfl)) (pv 1) Ag (λ_ _=>rfl))))
   (Af (Bc (Az El (pv 2) (pv 3) (Ax _)) (Ah (Am Bm)) Be)
   (Af (Bc (E6 (pv 2)) (Ah (Am Bm)) Be)
   (Ah (Am (Jm (Xaw Cg Cg (Ay (Dn K (by rfl)) (pv 0) Ag (λ_ _=>rfl)) (Ay (Dn K (by rfl)) (pv 1) Ag (λ_ _=>rfl)) (Ay (Dn K (by rfl)) (pv 0) Ag (λ_ _=>rfl))) Bm Bm))))))),?_⟩
  have d2:∀{r:ae} {x y:Int},H r=some (.tup [.int x,.int y])->DAt H (.tuple [.int x,.int y]) (.ref r):=λ{r x y} h=>Kp h (Xki [x,y]);refine⟨_,rfl,_,rfl,.tuple [.int a,.int b],.tuple [.int c,.int e],d2 hp,d2 hq,rfl,rfl,(by show min (max 0 (max 0 0)+1) (max 0 (max 0 0)+1)<=3;decide),_,rfl,?_⟩;have ee:ak.eqv (.tuple [.int a,.int b]) (.tuple [.int c,.int e])=decide (a=c/\b=e):=by
   rw[N6,Hw _ _ rfl rfl];simp
  rw[ee];have kk:=k H (Same.refl H);refine Av (λh1=>?_) (λh1=>?_)
  ·unfold lieT at kk;rw[Qq (Qt h1)] at kk;exact kk
  ·have h1:=Qu h1;dsimp only[E9,Dx,Fa,Bi];refine Kz (x:=c) (y:=a) (z:=e) (λQ' h=>⟨_,rfl,q,_,_,_,rfl,rfl,SqT.of hq,rfl,h⟩) (λQ' h=>⟨_,rfl,p,_,_,_,rfl,rfl,SqT.of hp,rfl,h⟩) (λQ' h=>⟨_,rfl,q,_,_,_,rfl,rfl,SqT.of hq,rfl,h⟩) ?_;refine Kz (x:=c) (y:=b) (z:=e) (λQ' h=>⟨_,rfl,q,_,_,_,rfl,rfl,SqT.of hq,rfl,h⟩) (λQ' h=>⟨_,rfl,p,_,_,_,rfl,rfl,SqT.of hp,rfl,h⟩) (λQ' h=>⟨_,rfl,q,_,_,_,rfl,rfl,SqT.of hq,rfl,h⟩) ?_;refine⟨_,rfl,_,rfl,rfl,_,rfl,?_⟩;rw[Jr];refine Av (λh2=>?_) (λh2=>?_)
   ·rw[Xk2 h1 (by simpa using h2)] at kk;exact kk
   ·refine⟨_,rfl,_,rfl,?_⟩;refine Av (λh3=>?_) (λh3=>?_)
    ·rw[Xk3 h1 (by simpa using h2) h3] at kk;exact kk
    ·rw[Xk4 l4 h1 (by simpa using h2) h3] at kk;dsimp only[E9,Xah,tIf,Jt];refine Kz (x:=a) (y:=c) (z:=b) (λQ' h=>⟨_,rfl,p,_,_,_,rfl,rfl,SqT.of hp,rfl,h⟩) (λQ' h=>⟨_,rfl,q,_,_,_,rfl,rfl,SqT.of hq,rfl,h⟩) (λQ' h=>⟨_,rfl,p,_,_,_,rfl,rfl,SqT.of hp,rfl,h⟩) ⟨_,rfl,?_⟩;refine Av (λh4=>?_) (λh4=>?_)
     ·rw[Qq h4] at kk;exact kk
     ·rw[Qp (by rw[h4];exact Mr)] at kk;exact kk
def Xpf:FnScope ["row", "one", "other"] ["row", "one", "other"] (defScope sLie):=by walk_at "s"
def Xpg{f C:ae}{fd:aw}(F:Fun K "lie" "lie" sLie f fd)(FE:Fn P w K mg base (CX1 P w) 2 "ends" ["row", "name"] (spEnds C))(FO:Fn P w K mg base CX0 2 "lie_of" ["here", "there"] spLieOf):
  FnOk P w K mg base (CX1 P w) 3 f fd ["row", "one", "other"] (spLie C):=by
 refine F.ok1 Xpf (by walk_at "l") ?_
 ·walk_at "i"
  obtain⟨r,row,x,y,rfl,hR,R2,hx,hy,kq,ke⟩:=h;have hl:=R2.len;refine⟨_,Ah (Am (Ai FO hr (by rfl) Al (Aa (Ai FE hr (by rfl) pass1 (Aa (pv 0) (Aa (pv 1) Ac))) (Aa (Ai FE hr (by rfl) pass1 (Aa (pv 0) (Aa (pv 2) Ac))) Ac)))),?_⟩;refine⟨_,rfl,_,rfl,r,row,x,rfl,hR,hx,by omega,λgH=>⟨_,_,B7 (R2.two x gH),λl1 H1 Ch gO s1=>?_⟩,λz=>ke λq=>z q.1⟩;refine⟨_,rfl,_,rfl,r,row,y,rfl,s1 _ _ hR,hy,by omega,λkj=>⟨_,_,B7 (R2.two y kj),λl2 H2 qW fe s2=>?_⟩,λz H' s'=>ke (λq=>z q.2) H' (s1.trans s')⟩;exact⟨l1,l2,_,_,_,_,rfl,s2 _ _ gO,fe,lie4 (R2.two x gH) (R2.two y kj),λH3 s3=>kq gH kj H3 (s1.trans (s2.trans s3))⟩
def Xgl:FnScope NCr ["row"] (defScope sCross):=by walk_at "s"
def Xph{f:ae}{fd:aw}(F:Fun K "crossings" "crossings" sCross f fd)(FS:Fn P w K mg base CX0 3 "spans" ["row"] spSpans)(FO:Fn P w K mg base CX0 2 "lie_of" ["here", "there"] spLieOf):
  FnOk P w K mg base CX0 4 f fd ["row"] Xdn:=by
 refine F.ok Xgl (by walk_at "l") ?_
 ·walk_at "i"
  obtain⟨r,row,rfl,hR,R2,k⟩:=h;have hu:=Dm hr;have eB:Room 2 _:=hr.mono (by decide);refine⟨_,Af (Aq (i:=1) Xgl.nd rfl (.inr rfl) (Ai FS hr (by rfl) Al (Aa (pv 0) Ac)))
   (Ah (Am (Xc0 (N:=NCc) (cap:=[none,none,some 1]) (CompScope.of (defScope sCross) NCr rfl rfl rfl (by decide +kernel)) rfl
    (Fj (pv 1)) (λ_ _ _=>A2 (i:=0) (show NCc.Nodup by decide +kernel) rfl (.inl rfl) (.inr rfl)) (λ_ _ _=>Cw)
    (λ_ _ _=>Fj (pv 2)) (λ_ _ _=>A2 (i:=1) (show NCc.Nodup by decide +kernel) rfl (.inl rfl) (.inr rfl))
    (λ_ _ _=>Fg (E8 (Az Xat (pv 0) (pv 1) (Ax _)) (E7 (Az C8 (Ai (by exact FO) (by exact eB) (by rfl) Al (Aa (B0 hu (pv 2) (pv 0) (λ_ _=>rfl)) (Aa (B0 hu (pv 2) (pv 1) (λ_ _=>rfl)) Ac))) Bm (Ax _)))).pt)
    (λ_ _ _=>B3 (Aa (pv 0) (Aa (pv 1) Ac)))))),?_⟩
  have hl:=R2.len;have l6:=Ge row;refine⟨_,rfl,r,row,rfl,hR,R2,λd kvs H1 nd hd sp s1=>?_⟩;refine⟨_,rfl,d,kvs,rfl,.inl ⟨hd,λo D nD=>?_⟩⟩;generalize iK:upd H1 d (.frz o (.dK kvs))=H2 at nD;have s2:Same H H2:=λb u e=>by rw[<-iK,Ad (Aw e nd)];exact s1 b u e
  have cU:H2 d=some (.frz o (.dK kvs)):=by rw[<-iK];exact Ab
  have ij:Spn H2 kvs row (dit row):=⟨sp.keys,λx hx=>let ⟨l,h1,h2⟩:=sp.val x hx; ⟨l,h1,by rw[<-iK,Ad (λz=>by rw[z,hd] at h2;cases h2)];exact h2⟩⟩;have kl:=ij.len;have go:∀i H3,i<(dit row).length->Same H2 H3->(Itd d o kvs).go i H3/\∀x H4,(Itd d o kvs).yld i H3 x H4->H4=H3/\x = .str ((dit row).getD i ah.empty):=λi H3 hi s3=>by
   have:=F6 (kvs:=kvs) (s3 _ _ cU) (by omega:i<kvs.length);rw[ij.at i hi] at this;exact this
  have ka:∀H3,Same H2 H3->(Itd d o kvs).stop (dit row).length H3:=λH3 s3=>by
   have:=F7 (kvs:=kvs) (s3 _ _ cU)
   rwa [kl] at this
  let ns:=dit row
  let ok:Nat->Nat->Bool:=λi j=>decide (ltS (ns.getD i ah.empty) (ns.getD j ah.empty))&&decide (lieR row (ns.getD i ah.empty) (ns.getD j ah.empty) = "cross")
  let part:Nat->List ak:=λi=>((List.range ns.length).filter (ok i)).map λj=>prD (ns.getD i ah.empty,ns.getD j ah.empty)
  have bM:∀i,(part i).length<=60:=λi=>by
   show (List.map _ _).length<=60;rw[L5];refine M8 (Ni ..) ?_;rw[N4];show (dit row).length<=60;omega
  have gj:∀i,((List.range i).flatMap part).length<=60 * i:=λi=>by
   induction i with
   | zero=>simp
   | succ i ih=>
    rw[Ng,Pg,Mg];have:=bM i;simp only[Pb,Py,Np];omega
  refine Xko (H0:=H2) (xs0:=[]) (n:=ns.length) (λi=>.str (ns.getD i ah.empty)) (λi=>(List.range i).flatMap part) nD ((Same.refl H2).step nD) Ab Dq (fun Z1=>∃v0 v1, Z1=[v0,v1,some (.ref d)]) ⟨none,none,rfl⟩ go ka ?_ ?_
  ·rintro i Z1 xs H3 Q' hi ⟨v0,v1,rfl⟩ s3 hD cT kk;have mG:=B8 hi;refine⟨_,rfl,d,kvs,rfl,.inr ⟨o,s3 _ _ cU,?_⟩⟩;refine Ks (H0:=H2) (n:=ns.length) (λj=>.str (ns.getD j ah.empty)) (ok i) (λj=>prD (ns.getD i ah.empty,ns.getD j ah.empty)) ((List.range i).flatMap part) nD s3 hD cT ?_ go ka ?_ ?_ ?_
   ·have:=gj i;have h2:i<60:=by have:i<(dit row).length:=hi;omega
    have h3:ns.length<=60:=by show (dit row).length<=60;omega
    rw[Qo];omega
   ·intro j H4 Q2 hj s4 k2;have kA:=B8 hj;refine⟨_,rfl,_,rfl,_,_,rfl,rfl,_,rfl,?_⟩;refine Av (λq1=>?_) (λq1=>?_)
    ·obtain⟨l1,g1,t1⟩:=(ij.mono s4).get (.inr ⟨o,s4 _ _ cU⟩) mG;obtain⟨l2,g2,t2⟩:=(ij.mono s4).get (.inr ⟨o,s4 _ _ cU⟩) kA;refine⟨_,rfl,_,rfl,d,_,rfl,g1,_,rfl,_,rfl,d,_,rfl,g2,l1,l2,_,_,_,_,rfl,t1,t2,lie4 (R2.two _ (Ae.mp mG)) (R2.two _ (Ae.mp kA)),λH5 s5=>?_⟩;refine⟨rfl,_,rfl,?_⟩;rw[Ky];have:=k2 H5 s5;have e1:ok i j=decide (lieR row (ns.getD i ah.empty) (ns.getD j ah.empty) = "cross"):=by
      show (decide _&&decide _)=_;have lH:decide (ltS (ns.getD i ah.empty) (ns.getD j ah.empty))=true:=q1;rw[lH,Oh]
     rw[e1] at this;exact this
    ·have:=k2 H4 (Same.refl _);have e1:ok i j=false:=by
      show (decide _&&decide _)=_;have lH:decide (ltS (ns.getD i ah.empty) (ns.getD j ah.empty))=false:=q1;rw[lH,N1]
     rw[e1] at this;exact this
   ·intro j eO H4 Q2 hj hk s4 dt k2;refine⟨_,rfl,_,rfl,by show 2<=sizeLine;decide,λp np=>?_⟩;exact k2 _ _ ((Same.refl H4).step np) (Xkn dt np (Xc3 [ns.getD i ah.empty,ns.getD j ah.empty]))
   ·intro Z' H4 eO e s4 dt j8;refine kk Z' H4 eO ?_ s4 dt ?_
    ·have l1 : Z'.length=3:=by
      have:=congrArg List.length (e none);simpa using this
     match Z',l1,e with
     | [w0,w1,w2],_,e=>
      have:=e none;simp at this;exact⟨w0,w1,by rw[this.2]⟩
    ·rw[Ng,Pg,Pb,Py,Np];exact j8
  ·intro Z' H3 xs s3 hD cT;refine k D xs H3 (s2.free nD) hD ?_ (s2.trans s3);have e:(List.range ns.length).flatMap part=(crs row).map prD:=by
    have e1:crs row=(List.range ns.length).flatMap λi=>((List.range ns.length).filter (ok i)).map λj=>(ns.getD i ah.empty,ns.getD j ah.empty):=by
     have em:dit row=(List.range ns.length).map λi=>ns.getD i ah.empty:=by
      have:=Da ah.empty (λ_=>true) (dit row);rw[Mu.mpr (λ_ _=>rfl),Mu.mpr (λ_ _=>rfl)] at this;exact this.symm
     show (dit row).flatMap _=_
     conv=>lhs;rw[em]
     rw[List.flatMap_map];congr 1;funext i;have:=Da ah.empty (λy=>decide (ltS (ns.getD i ah.empty) y)&&decide (lieR row (ns.getD i ah.empty) y = "cross")) (dit row);rw[<-em,<-this,M5];rfl
    rw[e1,List.map_flatMap];congr 1;funext i;rw[M5];rfl
   rw[<-e];exact cT
def Xpi:FnScope ["row", "by"] ["row", "by"] (defScope s_turned):=by walk_at "s"
def Xpj{f:ae}{fd:aw}(F:Fun K "turned" "turned" s_turned f fd)(T:Bl mg):FnOk P w K mg base CX0 1 f fd ["row", "by"] spTrn:=by
 refine F.ok Xpi (by walk_at "l") ?_
 ·walk_at "i"
  obtain⟨r,row,n,rfl,hR,hn,hl,k⟩:=h;refine⟨_,Af (Bc (Jl (Xaw Xaq Xaq Ag (pv 1) (A8 Bo (by rfl) T.len aQ (Aa (pv 0) Ac)))) (Ah Xm1) Be)
   (Ah (Am (Ao B5 (Cr Cs (pv 0) (Cj (pv 1)) C9) (Cr Cs (pv 0) C9 (Cj (pv 1)))))),?_⟩
  have aG:((row.map V.str).length:Int)=row.length:=by rw[L5]
  refine⟨_,rfl,_,_,rfl,rfl,_,rfl,?_⟩;refine Av (λh0=>?_) (λh0=>absurd (Qu h0) (by omega));refine⟨_,rfl,r,_,rfl,.inl (SqL.of hR),_,_,rfl,rfl,_,rfl,?_⟩;rw[aG,Qr (show (n:Int)<=row.length by omega)];refine Bt ?_;refine⟨_,rfl,_,rfl,_,rfl,r,_,rfl,SqL.of hR,λp1 n1=>?_⟩;rw[Gg _ _ _ hn];refine⟨_,rfl,_,rfl,_,rfl,r,_,rfl,SqL.of (ku hR n1),λp2 n2=>?_⟩;rw[Hm _ _ _ hn];refine⟨p1,p2,_,_,rfl,rfl,ku Ab n2,Ab,by rw[Qo];simp;omega,λp3 n3=>?_⟩;have s2:=((Same.refl H).go n1 n2).go n2 n3;exact k p3 _ (s2.free n3) (Ab.trans (by unfold rot;simp)) (s2.step n3)
def Xpk:FnScope ["row"] ["row"] (defScope s_mirrored):=by walk_at "s"
def Xpl{f:ae}{fd:aw}(F:Fun K "mirrored" "mirrored" s_mirrored f fd):FnOk P w K mg base CX0 1 f fd ["row"] spMir:=by
 refine F.ok Xpk (by walk_at "l") ?_
 ·walk_at "i"
  obtain⟨r,row,rfl,hR,k⟩:=h;refine⟨_,Ah (Am (G8 (pv 0))),?_⟩;refine⟨_,rfl,r,_,rfl,SqL.of hR,λl nl=>?_⟩;exact k l _ nl (Ab.trans (by rw[List.map_reverse])) ((Same.refl H).step nl)
def Xpm:FnScope ["names"] ["names"] (defScope sTold):=by walk_at "s"
def Xpn{f:ae}{fd:aw}(F:Fun K "told" "told" sTold f fd)(T:Bl mg):FnOk P w K mg base CX0 1 f fd ["names"] (spTold K):=by
 refine F.ok Xpm (by walk_at "l") ?_
 ·walk_at "i"
  obtain⟨p,ss,rfl,hR,hl,k⟩:=h;refine⟨_,Ah (Am (Ci Xbe (by rfl) T.tuple (by rfl) (Aa (A8 (F9 rfl) (by rfl) T.sorted (by rfl) (Aa (Ci (Et rfl) (by rfl) T.set (by rfl) (Aa (pv 0) Ac)) Ac)) Ac))),?_⟩;refine⟨_,rfl,p,ss,rfl,hR,by unfold aN;omega,λa na=>?_⟩;have l6:=F8 ss;refine⟨a,ddup ss,rfl,Ab,by omega,λl ls nl hp hs=>?_⟩;have s1:Same H (upd H a (D4 P w a (ddup ss))):=(Same.refl H).step na;refine⟨l,_,rfl,.inl ⟨SqL.of Ab,λt nt=>?_⟩⟩;have s2:=s1.step (o:=.lst (ls.map V.str)) nl;refine k t _ (s2.free nt) ?_ (s2.step nt);rw[Ab,Gc hp hs];rfl
def Xpo:FnScope ["some"] ["some"] (defScope s_in_order):=by walk_at "s"
def Xpp{f T:ae}{fd:aw}(F:FunT K "in_order" s_in_order f fd T)(B:Bl mg)(ii:BmOk mg base):FnOk P w K mg base CX0 4 f fd ["some"] (spInOrder T (lamPos s_in_order)):=by
 refine F.ok Xpo (λvs H Q E h=>?_) (λc0 hhd A outer s H vs Q E hr h=>?_)
 ·obtain⟨l,ps,Ts,rfl,_⟩:=h;rfl
 ·obtain⟨l,ps,Ts,rfl,hl,hT,nd,cB,tab,k⟩:=h;refine⟨_,Ah (Am (Xnp (show (A.deeper (aH "in_order" (defScope s_in_order) s.heap.objs.size f (.ref c0))).units+1+1<bx by have:=hr.un;omega) (by rfl) B.sorted (by rfl) (Aa (pv 0) Ac) (Xa3 (Xm8 (T:=T) (c0:=c0) (q:=qIn) ii rfl rfl rfl hhd rfl) Xa2))),?_⟩;refine⟨_,rfl,⟨tab,λf' c pm cP H' nf hf hc jG kp=>?_⟩⟩;have vV:∀b o,H b=some o->(∀z,o ≠ .tbl z)->b≠T:=λb o e n z=>by
   rcases tab with q | ⟨_,q,_⟩<;>(rw[z,q] at e;cases e;exact n _ rfl)
  have jH:Tups H' ps Ts:=⟨hT.1,λi hi=>kp _ _ (hT.2 i hi) (vV _ _ (hT.2 i hi) λz=>by simp)⟩;refine⟨l,f',ps,Ts,rfl,rfl,kp _ _ hl (vV _ _ hl λz=>by simp),jH,nd,cB,?_,λD p H2 nD g so sm hD=>?_⟩
  ·refine Xnq (k:=0) (x := "plot") hf hc ⟨rfl,rfl,rfl,by decide +kernel,rfl,by decide +kernel,by decide +kernel⟩ hr (λu=>rfl) λA1 lI s1 H1 i hi sm ca=>?_;refine⟨_,B3 (Aa (A8 Bo (by rfl) B.len aQ (Aa (pv 0) Ac)) (Aa (pv 0) Ac)),λQ1 kk=>?_⟩;have hp:=sm _ _ (jH.2 i hi);refine⟨_,rfl,ps.getD i 0,_,rfl,.inr (SqT.of hp),_,rfl,by show 2<=sizeLine;decide,λt nt=>?_⟩;refine kk t _ ?_ (Same.upd0 nt);rw[Ab,L5]
  ·obtain⟨yC,yD⟩:=Xnr (Ts:=Ts) (by rw[<-hT.1];exact g) (by rw[<-hT.1];exact so);refine k D _ _ H2 ?_ hD ((Xns jH g).same sm) yC yD (SH.Ak.same jG sm) λb o e n=>sm _ _ (kp b o e n);cases e:H D with
   | none=>rfl
   | some o=>
    by_cases z:D=T
    ·rcases jG with q | ⟨_,q,_⟩<;>(rw[<-z,nD] at q;cases q)
    ·rw[kp D o e z] at nD;cases nD
def Xpq:FnScope ["how", "off"] ["how", "off"] (defScope sAllows):=by walk_at "s"
def Xpr{f:ae}{fd:aw}(F:Fun K "allows" "allows" sAllows f fd):FnOk P w K mg base CX0 1 f fd ["how", "off"] spAllows:=by
 refine F.ok Xpq (by walk_at "l") ?_
 ·walk_at "i"
  obtain⟨fT,jf,rfl,k⟩:=h;refine⟨_,Af (Bc (Az C8 (pv 0) Bm (Ax _)) (Ah (Am (pv 1))) Be)
   (Ah (Am (Xg8 (Fc El (pv 0) Bm (Ax _)) (Xg7 (Xg9 (pv 1)))))),?_⟩
  refine⟨_,rfl,rfl,_,rfl,?_⟩;rw[Ky];unfold Bp at k;refine Av (λq=>?_) (λq=>?_)
  ·rw[Qq (Qt q)] at k;exact⟨_,rfl,k⟩
  ·rw[Qp (Qu q)] at k;refine⟨_,rfl,rfl,_,rfl,?_⟩;rw[Ky];refine Av (λq2=>?_) (λq2=>?_)
   ·rw[q2,Bool.true_or] at k;exact k
   ·rw[q2,Bool.false_or] at k;exact⟨_,rfl,jf,rfl,k⟩
def Xgm:FnScope NIp ["row", "plot"] (defScope sIsPlot):=by walk_at "s"
def Xps{f:ae}{fd:aw}(F:Fun K "is_plot" "is_plot" sIsPlot f fd)(T:Bl mg)(FS:Fn P w K mg base CX0 3 "spans" ["row"] spSpans)(FO:Fn P w K mg base CX0 2 "lie_of" ["here", "there"] spLieOf)
  (FT:Fn P w K mg base CX0 1 "told" ["names"] (spTold K)) (FA:Fn P w K mg base CX0 1 "allows" ["how", "off"] spAllows):FnOk P w K mg base CX0 4 f fd ["row", "plot"] Xdt:=by
 refine F.ok Xgm (by walk_at "l") ?_
 ·walk_at "i"
  obtain⟨r,p,row,ss,rfl,hR,R2,hP,hok,mo,k⟩:=h;have hu:=Dm hr;have ca:Room 1 _:=hr.mono (by decide);have eB:Room 2 _:=hr.mono (by decide);refine⟨_,Af (Aq (i:=2) Xgm.nd rfl (.inr rfl) (Ai FS hr (by rfl) Al (Aa (pv 0) Ac)))
   (Af (Bc (Xag (Az (Hu (hu3 hr)) (pv 1) (Ai FT ca (by rfl) Al (Aa (pv 1) Ac)) (Ax _))
     (Xaf (E6 (A8 (Xc8 rfl) (by rfl) T.any (by rfl) (Aa (Gj (N:=NI1) (cap:=[none,some 2]) (CompScope.of (defScope sIsPlot) NIp rfl rfl rfl (by decide +kernel)) rfl
      (Jq (pv 1)) (λ_ _ _=>A2 (i:=0) (show NI1.Nodup by decide +kernel) rfl (.inl rfl) (.inr rfl)) (λ_ _ _=>Cw) (λ_ _ _=>Xg5 (Xif (by exact hu) (pv 0) (pv 1)) (by rfl))) Ac))))).pt
    (Ah (Am Ei)) Be)
   (Ah (Am (A8 (Xi4 rfl) (by rfl) T.all (by rfl) (Aa (Xc0 (N:=NI2) (cap:=[none,none,some 1,some 2]) (CompScope.of (defScope sIsPlot) NIp rfl rfl rfl (by decide +kernel)) rfl
    (Jq (pv 1)) (λ_ _ _=>A2 (i:=0) (show NI2.Nodup by decide +kernel) rfl (.inl rfl) (.inr rfl)) (λ_ _ _=>Cw)
    (λ_ _ _=>Fj (pv 3)) (λ_ _ _=>A2 (i:=1) (show NI2.Nodup by decide +kernel) rfl (.inl rfl) (.inr rfl)) (λ_ _ _=>Cw)
    (λ_ _ _=>Ai (by exact FA) (by exact ca) (by rfl) Al (Aa (Ai (by exact FO) (by exact eB) (by rfl) Al (Aa (B0 (by exact hu) (pv 3) (pv 0) (λ_ _=>rfl)) (Aa (B0 (by exact hu) (pv 3) (pv 1) (λ_ _=>rfl)) Ac)))
     (Aa (Fc (Xcp K (by rfl)) (pv 1) (pv 2) (by rfl)) Ac)))) Ac))))),?_⟩
  have hl:=R2.len;have l6:=Ge row;refine⟨_,rfl,r,row,rfl,hR,R2,λd kvs H1 nd hd sp s1=>?_⟩;have vW:=s1 _ _ hP;refine⟨_,rfl,_,rfl,p,ss,rfl,.inr (SqT.of vW),mo,λt H2 nt ht s2=>?_⟩;have km:=s1.trans s2;have pd:=s2 _ _ vW;refine⟨_,_,Ea pd,Ea ht,Co _ (Dr hok),Co _ (Dr (Xdu hok)),Xds _ _,_,rfl,?_⟩;rw[Ie hok (Xdu hok)];by_cases e1:ss=told ss
  ·rw[Qr e1];refine Bt ?_;refine⟨_,rfl,p,rfl,⟨_,SqT.of pd⟩,?_⟩;have cU:=s2 _ _ hd;have ij:=sp.mono s2;refine Xj9 (n:=ss.length) (by rw[Qo];omega) (λi=>(ss.map V.str).getD i .non) (λi=>.bl (!decide (ss.getD i ah.empty∈row))) ?_ ?_ ?_ ?_
   ·intro i H3 hi s3;exact Xb6 (SqT.of (s3 _ _ pd)) (by rw[L5];exact hi)
   ·intro H3 s3;have:=Xb7 (K:=K) (SqT.of (s3 _ _ pd))
    rwa [L5] at this
   ·intro i H3 Q' hi s3 kk;rw[Cz V.str ah.empty ss hi];refine⟨_,rfl,_,rfl,d,_,rfl,.inl ⟨kvs,Sum.inr _,.inl (s3 _ _ cU),rfl,rfl⟩,?_⟩;rw[ij.has];exact kk H3 (Same.refl _)
   ·intro D H3 nD s3 hD;have gF:H3 D=some (.lst (((List.range ss.length).map λi => !decide (ss.getD i ah.empty∈row)).map V.bl)):=by rw[hD,M5];rfl
    refine⟨D,_,rfl,gF,_,rfl,?_⟩;rw[Xk9 ah.empty (λx => !decide (x∈row)) ss];have kh:=km.trans s3;have e2:(ss.any λx => !decide (x∈row)) = !(ss.all λx=>decide (x∈row)):=by rw[List.not_all_eq_any_not]
    rw[e2];cases e3:ss.all (λx=>decide (x∈row)) with
    | false=>
     refine Cv ?_;have:=k H3 kh;unfold isPlotB at this;rw[e3,Bool.and_false,N1] at this;exact this
    | true=>
     refine Bt ?_;have cO:∀x∈ss,x∈row:=λx hx=>Qt (M0.mp e3 x hx);have mH:=s3 _ _ pd;have iL:=s3 _ _ cU;have tJ:=ij.mono s3;refine⟨_,rfl,p,rfl,⟨_,SqT.of mH⟩,λD2 mI=>?_⟩;have kl:=tJ.len;have yE:p≠d:=λz=>by rw[z,iL] at mH;cases mH
     have ik:D2≠d:=(Aw iL mI).symm;have pe:hid d H3 D2=none:=by
      unfold hid;rw[Qp ik];exact mI
     have lJ:hid d H3 p=some (.tup (ss.map V.str)):=D7 mH yE
     let part:Nat->List Bool:=λi=>(dit row).map λy=>Bp (lieR row (ss.getD i ah.empty) y) (decide (y∈ss))
     refine Xkp (H0:=hid d H3) (xs0:=[]) (n:=ss.length) (λi=>.str (ss.getD i ah.empty)) (λi=>((List.range i).flatMap part).map ak.bool) (λH4=>Rd H4 d (.dK kvs)) pe ((Hy d H3).trans ((Same.refl H3).step mI)) (.inl (ku iL mI)) Ab Dq
      (fun Z1=>∃v0 v1, Z1=[v0,v1,some (.ref p),some (.ref d)]) ⟨none,none,rfl⟩ ?_ ?_ ?_ ?_
     ·intro i H4 hi s4;have:=Xb6 (K:=K) (SqT.of (s4 _ _ lJ)) (show i<(ss.map V.str).length by rw[L5];exact hi)
      rwa [Cz V.str ah.empty ss hi] at this
     ·intro H4 s4;have:=Xb7 (K:=K) (SqT.of (s4 _ _ lJ))
      rwa [L5] at this
     ·rintro i Z1 xs H4 Q' hi ⟨v0,v1,rfl⟩ s4 g4 dt cT kk;have gH:ss.getD i ah.empty∈row:=cO _ (B8 hi);have main:∀(tK:TE) (o:aI) (H5:Hp),(∀(j:Nat) (H6:Hp) (Q2:VK) (l1 l2:ae),j<(dit row).length->DGet H6 d (.str (ss.getD i ah.empty)) (some (.ref l1))->H6 l1=some (.tup [.int (pl row (ss.getD i ah.empty)).1,.int (pl row (ss.getD i ah.empty)).2]) ->
        DGet H6 d (.str ((dit row).getD j ah.empty)) (some (.ref l2))->H6 l2=some (.tup [.int (pl row ((dit row).getD j ah.empty)).1,.int (pl row ((dit row).getD j ah.empty)).2])->H6 p=some (.tup (ss.map V.str))->(∀H',Same H6 H'->Q2 (.bl (Bp (lieR row (ss.getD i ah.empty) ((dit row).getD j ah.empty)) (decide ((dit row).getD j ah.empty∈ss)))) H') ->
        tK [some (.str (ss.getD i ah.empty)),some (.str ((dit row).getD j ah.empty)),some (.ref p),some (.ref d)] H6 Q2)->H5 d=some (.frz o (.dK kvs))->Same (hid d H3) H5->H5 D2=some (.lst xs)->DAll (hid D2 H5) (((List.range i).flatMap part).map ak.bool) xs ->
        tLp (Bi 1) D1 (Gi tK D2) (Itd d o kvs) ([some (.str (ss.getD i ah.empty)),v1,some (.ref p),some (.ref d)]:L2.St) H5 Q':=λtK o H5 yF lK s5 pf tL=>by
       have bM:∀j,(part j).length<=60:=λj=>by
        show (List.map _ _).length<=60;rw[L5];omega
       have gj:∀j,(((List.range j).flatMap part).map ak.bool).length<=60 * j:=λj=>by
        rw[L5]
        induction j with
        | zero=>simp
        | succ j ih=>
         rw[Ng,Pg,Mg,Pb,Py,Np];have:=bM j;omega
       have iM:hid D2 H5 d=some (.frz o (.dK kvs)):=D7 lK ik.symm;have fQ:Spn (hid D2 H5) kvs row (dit row):=⟨tJ.keys,λx hx=>let ⟨l,h1,h2⟩:=tJ.val x hx; ⟨l,h1,D7 (s5 _ _ (D7 h2 (λz=>by rw[z,iL] at h2;cases h2))) (λz=>by rw[z,mI] at h2;cases h2)⟩⟩;have ph:hid D2 H5 p=some (.tup (ss.map V.str)):=D7 (s5 _ _ lJ) (λz=>by rw[z,mI] at mH;cases mH);refine Ks (H0:=hid D2 H5) (n:=(dit row).length) (λj=>.str ((dit row).getD j ah.empty)) (λ_=>true) (λj=>.bool (Bp (lieR row (ss.getD i ah.empty) ((dit row).getD j ah.empty)) (decide ((dit row).getD j ah.empty∈ss)))) (((List.range i).flatMap part).map ak.bool)
        (Qq rfl) (Hy D2 H5) pf tL (by have:=gj i;have h2:i<60:=(by omega);rw[Qo];omega) ?_ ?_ ?_ ?_ ?_
       ·intro j H6 hj s6;have:=F6 (kvs:=kvs) (s6 _ _ iM) (by omega:j<kvs.length)
        rwa [fQ.at j hj] at this
       ·intro H6 s6;have:=F7 (kvs:=kvs) (s6 _ _ iM)
        rwa [kl] at this
       ·intro j H6 Q2 hj s6 k2;exact k2 H6 (Same.refl _)
       ·intro j eO H6 Q2 hj _ s6 pi k2;have yG:=B8 hj;obtain⟨l1,g1,t1⟩:=(fQ.mono s6).get (.inr ⟨o,s6 _ _ iM⟩) (Ae.mpr gH);obtain⟨l2,g2,t2⟩:=(fQ.mono s6).get (.inr ⟨o,s6 _ _ iM⟩) yG;exact yF j H6 Q2 l1 l2 hj g1 t1 g2 t2 (s6 _ _ ph) λH' s'=>k2 _ _ s' (by unfold DAt;rfl)
       ·intro Z' H6 eO e6 s6 pi gZ;refine kk Z' H6 eO ?_ (λb u e=>?_) (.inr ⟨o,s6 _ _ iM⟩) pi ?_
        ·have l1 : Z'.length=4:=by
          have:=congrArg List.length (e6 none);simpa using this
         match Z',l1,e6 with
         | [w0,w1,w2,w3],_,e6=>
          have:=e6 none;simp at this;exact⟨w0,w1,by rw[this.2.1,this.2.2]⟩
        ·refine s6 _ _ (D7 (s5 _ _ e) (λz=>?_));rw[z,pe] at e;cases e
        ·rw[Mu.mpr (λ_ _=>rfl)] at gZ;have em:(List.range (dit row).length).map (λj=>ak.bool (Bp (lieR row (ss.getD i ah.empty) ((dit row).getD j ah.empty)) (decide ((dit row).getD j ah.empty∈ss))))=(part i).map ak.bool:=by
          show _=((dit row).map _).map _;have this:=Da ah.empty (λ_=>true) (dit row);rw[Mu.mpr (λ_ _=>rfl),Mu.mpr (λ_ _=>rfl)] at this
          conv=>rhs;rw[<-this]
          rw[M5,M5];rfl
         rw[em] at gZ;rw[Ng,Pg,Mn,Pb,Py,Np];exact gZ
      rcases g4 with g4 | ⟨o,g4⟩
      ·refine⟨_,rfl,d,kvs,rfl,.inl ⟨g4,λo=>?_⟩⟩;refine main _ o _ (λj H6 Q2 l1 l2 hj g1 t1 g2 t2 mJ k2=>⟨_,rfl,_,rfl,d,_,rfl,g1,_,rfl,_,rfl,d,_,rfl,g2,l1,l2,_,_,_,_,rfl,t1,t2,lie4 (R2.two _ gH) (R2.two _ (Ae.mp (B8 hj))),λH7 s7=>⟨_,rfl,_,rfl,p,_,rfl,.inr (SqT.of (s7 _ _ mJ)),rfl,Ho ss,_,_,rfl,by rw[Qp (by decide),Hn];exact k2 H7 s7⟩⟩) Ab (λb u e=>?_) (by rw[Ad ik];exact dt) ?_
       ·rw[Ad (λz=>by rw[z] at e;unfold hid at e;rw[Qq rfl] at e;cases e)];exact s4 _ _ e
       ·rw[K6 cT];have gb:∀bs:List Bool,DAll (hid D2 (upd H4 d (.frz o (.dK kvs)))) (bs.map ak.bool) (bs.map V.bl):=λbs=>by
         induction bs with
         | nil=>exact Dq
         | cons b bs ih=>exact D6 (by unfold DAt;rfl) ih
        exact gb _
      ·exact⟨_,rfl,d,kvs,rfl,.inr ⟨o,g4,main _ o H4 (λj H6 Q2 l1 l2 hj g1 t1 g2 t2 mJ k2=>⟨_,rfl,_,rfl,d,_,rfl,g1,_,rfl,_,rfl,d,_,rfl,g2,l1,l2,_,_,_,_,rfl,t1,t2,lie4 (R2.two _ gH) (R2.two _ (Ae.mp (B8 hj))),λH7 s7=>⟨_,rfl,_,rfl,p,_,rfl,.inr (SqT.of (s7 _ _ mJ)),rfl,Ho ss,_,_,rfl,by rw[Qp (by decide),Hn];exact k2 H7 s7⟩⟩) g4 s4 dt cT⟩⟩
     ·intro Z' H4 xs s4 g4 dt cT;have hx:=K6 cT;subst hx;refine⟨D2,_,rfl,dt,?_⟩;have ef:((List.range ss.length).flatMap part).all id=ss.all λx=>(dit row).all λy=>Bp (lieR row x y) (decide (y∈ss)):=by
       have e5:(List.range ss.length).flatMap part=ss.flatMap λx=>(dit row).map λy=>Bp (lieR row x y) (decide (y∈ss)):=Xla ah.empty (λx=>(dit row).map λy=>Bp (lieR row x y) (decide (y∈ss))) ss;rw[e5,Xdv];congr 1;funext x;rw[List.all_map];rfl
      rw[ef];have ln:Same H H4:=λb u e=>s4 _ _ (D7 (kh _ _ e) (λz=>by rw[z,nd] at e;cases e));have:=k H4 ln;unfold isPlotB at this;rw[Qr e1,e3,Oh,Oh] at this;exact this
  ·rw[Qs e1];refine Cv ?_;have:=k H2 km;unfold isPlotB at this;rw[Qs e1,N1,N1] at this;exact this
def Xpt:FnScope ["row", "plot"] ["row", "plot"] (defScope s_ask_plot):=by walk_at "s"
def Xpu{f C:ae}{fd:aw}(F:Fun K "ask_plot" "ask_plot" s_ask_plot f fd)(hC:mg "NoPlot" = some (.ref C))(hc:DY K C bmV "ValueError.__new__" = true)(FX:Fn P w K mg base CX0 4 "is_plot" ["row", "plot"] Xdt):
  FnOk P w K mg base (CX1 P w) 5 f fd ["row", "plot"] (spAskPlot C):=by
 refine F.ok1 Xpt (by walk_at "l") ?_
 ·walk_at "i"
  obtain⟨r,p,row,ss,rfl,hR,R2,hP,hok,mo,kq,ke⟩:=h;refine⟨_,Ah (Bc (Jl (E6 (Ai FX hr (by rfl) Al (Aa (pv 0) (Aa (pv 1) Ac)))))
   (Ah (Xb1 (C:=C) (E:=E) hc rfl leaves1 (by rfl) hC (Aa (Xb5 (G9 (by decide +kernel) (Xks hr (pv 1) (G9 (by decide +kernel) Xb4)))) Ac))) Be),?_⟩
  refine⟨_,rfl,_,rfl,r,p,row,ss,rfl,hR,R2,hP,hok,by omega,λH1 s1=>⟨_,rfl,?_⟩⟩;cases e:isPlotB row ss with
  | true=>exact Bt (kq e H1 s1)
  | false=>
   refine Cv ⟨_,rfl,p,ss,rfl,s1 _ _ hP,mo,Xlb hok,λz=>?_⟩;exact⟨by show 1<=sizeLine;decide,ke e H1 s1⟩
def Gz:FnScope NPp ["row"] (defScope s_plots):=by walk_at "s"
def Xpv{f T:ae}{fd:aw}(F:Fun K "plots" "plots" s_plots f fd)(FS:Fn P w K mg base CX0 3 "spans" ["row"] spSpans)(FO:Fn P w K mg base CX0 2 "lie_of" ["here", "there"] spLieOf)(FT:Fn P w K mg base CX0 1 "told" ["names"] (spTold K))(FC:Fn P w K mg base CX0 4 "crossings" ["row"] Xdn)
  (FI:Fn P w K mg base CX0 4 "in_order" ["some"] (spInOrder T (lamPos s_in_order))):FnOk P w K mg base CX0 5 f fd ["row"] (spPlotsA T (lamPos s_in_order)):=by
 refine F.ok Gz (by walk_at "l") ?_
 ·walk_at "i"
  obtain⟨r,row,rfl,hR,R2,h3,CA,tab,k⟩:=h;have hu:=Dm hr;have ca:Room 1 _:=hr.mono (by decide);have eB:Room 2 _:=hr.mono (by decide);have qX:Room 3 _:=hr.mono (by decide);refine⟨_,Af (Aq (i:=1) Gz.nd rfl (.inr rfl) (Ai FS qX (by rfl) Al (Aa (pv 0) Ac)))
   (Af (Aq (i:=2) Gz.nd rfl (.inr rfl) (Xcz (N:=NPo) (cap:=[none,some 1]) (CompScope.of (defScope s_plots) NPp rfl rfl rfl (by decide +kernel)) rfl
    (Fj (pv 1)) (λ_ _ _=>A2 (i:=0) (show NPo.Nodup by decide +kernel) rfl (.inr rfl) (.inl rfl)) (λ_ _ _=>Cw) (λ_ _ _=>pv 0)
    (λs0 H0 ex=>Gj (N:=NPi) (cap:=[none,some 0,some 1]) (CompScope.of _ NPo rfl rfl rfl (by kernel_rfl)) rfl
     (Fj (pv 1)) (λ_ _ _=>A2 (i:=0) (show NPi.Nodup by decide +kernel) rfl (.inl rfl) (.inr rfl))
     (λ_ _ _=>Fg (Az (Xcp K (by rfl)) (Ai (by exact FO) (by exact eB) (by rfl) Al (Aa (B0 hu (pv 2) (pv 1) (λ_ _=>rfl)) (Aa (B0 hu (pv 2) (pv 0) (λ_ _=>rfl)) Ac))) (B3 (Aa Bm (Aa Bm Ac))) (by rfl)))
     (λ_ _ _=>pv 0))))
   (Af (Xfv (i:=3) (N:=NPs) (cap:=[none,some 2]) (CompScope.of (defScope s_plots) NPp rfl rfl rfl (by decide +kernel)) rfl Gz.nd rfl rfl
    (Fj (pv 2)) (λ_ _ _=>A2 (i:=0) (show NPs.Nodup by decide +kernel) rfl (.inl rfl) (.inr rfl)) (λ_ _ _=>Cw)
    (λ_ _ _=>Ai (by exact FT) (by exact ca) (by rfl) Al (Aa (B0 hu (pv 1) (pv 0) (λ_ _=>rfl)) Ac)))
   (Af (Xfv (i:=4) (N:=NPd) (cap:=[none,none,some 2]) (CompScope.of (defScope s_plots) NPp rfl rfl rfl (by decide +kernel)) rfl Gz.nd rfl rfl
    (Cd (Ai FC hr (by rfl) Al (Aa (pv 0) Ac))) (λ_ _ _=>Hq K 2 rfl rfl (C6 (A2 (i:=0) (show NPd.Nodup by decide +kernel) rfl (.inl rfl) (.inr rfl)) (C6 (A2 (i:=1) (show NPd.Nodup by decide +kernel) rfl (.inl rfl) (.inr rfl)) Fs))) (λ_ _ _=>Cw)
    (λ_ _ _=>Ai (by exact FT) (by exact ca) (by rfl) Al (Aa (Ao B5 (B0 hu (pv 2) (pv 0) (λ_ _=>rfl)) (B0 hu (pv 2) (pv 1) (λ_ _=>rfl))) Ac)))
   (Ah (Am (Ai FI hr (by rfl) Al (Aa (Ao B5 (Ao B5 (Di (Aa (B3 Ac) Ac)) (pv 3)) (pv 4)) Ac))))))),?_⟩
  have hl:=R2.len;have l6:=Ge row;refine⟨_,rfl,r,row,rfl,hR,R2,λd kvs H1 nd hd sp s1=>?_⟩;refine⟨_,rfl,d,kvs,rfl,.inl ⟨hd,λo D nD=>?_⟩⟩;generalize iK:upd H1 d (.frz o (.dK kvs))=H2 at nD;have s2:Same H H2:=λb u e=>by rw[<-iK,Ad (Aw e nd)];exact s1 b u e
  have cU:H2 d=some (.frz o (.dK kvs)):=by rw[<-iK];exact Ab
  have ij:Spn H2 kvs row (dit row):=⟨sp.keys,λx hx=>let ⟨l,h1,h2⟩:=sp.val x hx; ⟨l,h1,by rw[<-iK,Ad (λz=>by rw[z,hd] at h2;cases h2)];exact h2⟩⟩;have kl:=ij.len;have go:∀i H3,i<(dit row).length->Same H2 H3->(Itd d o kvs).go i H3/\∀x H4,(Itd d o kvs).yld i H3 x H4->H4=H3/\x = .str ((dit row).getD i ah.empty):=λi H3 hi s3=>by
   have:=F6 (kvs:=kvs) (s3 _ _ cU) (by omega:i<kvs.length);rw[ij.at i hi] at this;exact this
  have ka:∀H3,Same H2 H3->(Itd d o kvs).stop (dit row).length H3:=λH3 s3=>by
   have:=F7 (kvs:=kvs) (s3 _ _ cU)
   rwa [kl] at this
  refine⟨wN (dit row).length λi Z2 H3=>(∃v, Z2=[v,some (.ref d)])/\Same H2 H3/\∃im,H3 D=some (.dK im)/\Offs H3 im row ((dit row).take i),⟨(dit row).length,by simp,M3 _,⟨none,rfl⟩,(Same.refl H2).step nD,[],Ab,⟨rfl,λx hx=>by simp at hx⟩⟩,?_⟩;rintro i m Z1 H3 ⟨rfl,hi,⟨v,rfl⟩,s3,im,hD,pj⟩;by_cases aR:i<(dit row).length
  ·obtain⟨g1,g2⟩:=go i H3 aR s3;refine .inr ⟨g1,λx H4 y=>?_⟩;obtain⟨e1,e2⟩:=g2 x H4 y;subst e1 e2;generalize hx:(dit row).getD i ah.empty=x;have qV:x∈dit row:=by rw[<-hx];exact B8 aR
   have gH:=Ae.mp qV;have gI:(dit row).take (i+1)=(dit row).take i++[x]:=by
    rw[Mv aR,<-hx];simp[List.getD,aR]
   have jm:x∉(dit row).take i:=by
    have nd:=Ck row;have h2:((dit row).take (i+1)).Nodup:=nd.sublist (Oj ..);rw[gI] at h2;exact λz=>(N3.mp h2).2.2 x z x (by simp) rfl
   refine⟨_,rfl,_,rfl,d,kvs,rfl,.inr ⟨o,s3 _ _ cU,?_⟩⟩;refine Kl (n:=(dit row).length) (by rw[Qo];omega) (λj=>.str ((dit row).getD j ah.empty)) (λj=>upB row x ((dit row).getD j ah.empty)) (λj=>.str ((dit row).getD j ah.empty)) ?_ ?_ ?_ ?_ ?_
   ·exact λj H5 hj s5=>go j H5 hj (s3.trans s5)
   ·exact λH5 s5=>ka H5 (s3.trans s5)
   ·intro j H5 Q' hj s5 kk;have lL:=s3.trans s5;have kA:=B8 hj;obtain⟨l1,tM,t1⟩:=(ij.mono lL).get (.inr ⟨o,lL _ _ cU⟩) qV;obtain⟨l2,tN,t2⟩:=(ij.mono lL).get (.inr ⟨o,lL _ _ cU⟩) kA;refine⟨_,rfl,_,rfl,d,_,rfl,tM,_,rfl,_,rfl,d,_,rfl,tN,l1,l2,_,_,_,_,rfl,t1,t2,lie4 (R2.two x gH) (R2.two _ (Ae.mp kA)),λH6 s6=>?_⟩;refine⟨by show 2<=sizeLine;decide,λt nt=>?_⟩;refine⟨t,[ah.ofString "same",ah.ofString "within"].map V.str,rfl,.inr (SqT.of Ab),rfl,Ho _,_,rfl,?_⟩;rw[Qp (by decide),Hn];have e:=Xnz (row:=row) (x:=x) (y:=(dit row).getD j ah.empty) (R2.two x gH) (R2.two _ (Ae.mp kA));unfold lieR at e;rw[e];exact kk _ (s6.step nt)
   ·intro j H5 Q' hj hk s5 kk;exact⟨_,rfl,kk H5 (Same.refl _)⟩
   ·intro l H5 nl s5 fF;have lM:H5 l=some (.lst (((dit row).filter (upB row x)).map V.str)):=by
     rw[fF,<-Da ah.empty (upB row x) (dit row),M5];rfl
    have pf:=s5 _ _ hD;have vX:im.length<=60:=by
     have:=pj.len;rw[Nd] at this;omega
    refine⟨im,Sum.inr x,rfl,pf,by rw[Qo];omega,?_⟩;refine wskip aR ⟨⟨_,rfl⟩,λb u e=>?_,_,Ab,?_⟩
    ·rw[Ad (Aw e nD)];exact s5 _ _ (s3 b u e)
    ·rw[gI];refine pj.snoc jm ?_ λb xs e=>?_
     ·rw[Ad (λz=>by rw[z,pf] at lM;cases lM)];exact lM
     ·have e4:=s5 _ _ e;rw[Ad (λz=>by rw[z,pf] at e4;cases e4)];exact e4
  ·have ei:i=(dit row).length:=by omega
   subst ei;refine .inl ⟨ka H3 s3,?_⟩;rw[Oe] at pj;have yH:=s2.trans s3;refine⟨_,rfl,D,im,rfl,.inl ⟨hD,λo2 L nL=>?_⟩⟩;generalize tO:upd H3 D (.frz o2 (.dK im))=H4 at nL;have yI:H D=none:=s2.free nD;have s4:Same H H4:=λb u e=>by rw[<-tO,Ad (Aw e yI)];exact yH b u e
   have dt:H4 D=some (.frz o2 (.dK im)):=by rw[<-tO];exact Ab
   have qY:Offs H4 im row (dit row):=⟨pj.keys,λx hx=>let ⟨l,h1,h2⟩:=pj.val x hx; ⟨l,h1,by rw[<-tO,Ad (λz=>by rw[z,hD] at h2;cases h2)];exact h2⟩⟩;have vX:=qY.len;have fl:∀x,((dit row).filter (upB row x)).length<=14:=λx=>M8 (Ni ..) (by omega);refine Ks (H0:=H4) (xs0:=[]) (n:=(dit row).length) (λj=>.str ((dit row).getD j ah.empty)) (λ_=>true) (λj=>Ba ((dit row).filter (upB row ((dit row).getD j ah.empty)))) [] nL ((Same.refl H4).step nL) Ab Dq (by rw[Qo,Oo];omega) ?_ ?_ ?_ ?_ ?_
   ·intro j H5 hj s5;have:=F6 (kvs:=im) (s5 _ _ dt) (by omega:j<im.length);rw[qY.at j hj] at this;exact this
   ·intro H5 s5;have:=F7 (kvs:=im) (s5 _ _ dt)
    rwa [vX] at this
   ·exact λj H5 Q' hj s5 kk=>kk H5 (Same.refl _)
   ·intro j xs H5 Q' hj _ s5 tP kk;obtain⟨l,gg,fF⟩:=(qY.mono s5).get (.inr ⟨o2,s5 _ _ dt⟩) (B8 hj);refine⟨_,rfl,_,rfl,D,_,rfl,gg,l,_,rfl,.inl (SqL.of fF),by have:=fl ((dit row).getD j ah.empty);omega,λt H6 nt ht s6=>?_⟩;rw[Ib ((B6 row).filter _)] at ht;refine kk _ H6 s6 (Ea ?_);have yJ:=s6 _ _ tP;unfold hid;rw[Qp (λz=>by rw[z,yJ] at ht;cases ht)];exact ht
   ·intro Z' H5 xs e s5 tP cT;have e1:([]:List ak)++((List.range (dit row).length).filter λ_=>true).map (λj=>Ba ((dit row).filter (upB row ((dit row).getD j ah.empty))))=((dit row).map λa=>(dit row).filter (upB row a)).map Ba:=by
     have:=Da ah.empty (λ_=>true) (dit row);rw[Mu.mpr (λ_ _=>rfl),Mu.mpr (λ_ _=>rfl)] at this;have q:=congrArg (List.map λa=>Ba ((dit row).filter (upB row a))) this;rw[M5] at q;rw[Pl,Mu.mpr (λ_ _=>rfl),M5];exact q
    rw[e1] at cT;obtain⟨kB,rfl,jI⟩:=Xel cT;have jI:Tups H5 kB _:=jI.same (Hy L H5);have mK:=s4.trans s5;refine⟨_,rfl,r,row,rfl,mK _ _ hR,R2,λcl tQ H6 CB dY gZ s6=>?_⟩;refine⟨cl,rfl,⟨_,SqL.of dY⟩,λM nM=>?_⟩;have vY:tQ.length=(crs row).length:=by
     have:=Ko gZ;simpa using this
    have vZ:=(qY.mono s5).mono s6;have pi:=s6 _ _ (s5 _ _ dt);have CC:=Xll R2.two h3 (by omega);refine⟨wN (crs row).length λi Z2 H7=>(∃u v, Z2=[u,v,some (.ref D)])/\Same H6 H7/\∃qs:List ae,H7 M=some (.lst (qs.map V.ref))/\Tups H7 qs (((crs row).take i).map λq=>(dit row).filter λy=>upB row q.1 y||upB row q.2 y),⟨(crs row).length,by simp,M3 _,⟨none,none,rfl⟩,(Same.refl H6).step nM,[],Ab,Tups.nil _⟩,?_⟩;rintro i m Z1 H7 ⟨rfl,hi,⟨u,v,rfl⟩,s7,qs,hM,mL⟩;by_cases aR:i<(crs row).length
    ·obtain⟨g1,g2⟩:=Ep (K:=K) (SqL.of (s7 _ _ dY)) (by omega:i<tQ.length);refine .inr ⟨g1,λx H8 y=>?_⟩;obtain⟨e1,e2⟩:=g2 x H8 y;subst e1 e2;obtain⟨v1,hv,lN⟩:=Xc2 (i:=i) (d:=prD ((crs row)[i])) gZ (by rw[Mt,L6 aR];rfl);have hq:=Mz aR;generalize yK:(crs row)[i]=q at lN hq;obtain⟨yL,yM,_,_⟩:=Gv hq;have ev:tQ.getD i .non=v1:=by simp[List.getD,hv]
     rw[ev];unfold prD DAt at lN;obtain⟨pp,ys,rfl,yN,ji⟩:=lN;obtain rfl:=K0 (ss:=[q.1,q.2]) ji;have tR:=Hy cl H6 _ _ yN;have gI:(crs row).take (i+1)=(crs row).take i++[q]:=by
      rw[Mv aR,yK]
     obtain⟨l1,tM,gO⟩:=(vZ.mono s7).get (.inr ⟨o2,s7 _ _ pi⟩) (Ae.mpr yL);obtain⟨l2,tN,fe⟩:=(vZ.mono s7).get (.inr ⟨o2,s7 _ _ pi⟩) (Ae.mpr yM);have f1:=fl q.1;have f2:=fl q.2;refine⟨pp,_,rfl,SqT.of (s7 _ _ tR),rfl,_,_,rfl,_,_,rfl,rfl,?_⟩;refine⟨_,rfl,_,rfl,D,_,rfl,tM,_,rfl,_,rfl,D,_,rfl,tN,l1,l2,_,_,rfl,rfl,gO,fe,by rw[L5,L5,Qo];omega,λc nc=>?_⟩;refine⟨c,(dit row).filter (upB row q.1)++(dit row).filter (upB row q.2),rfl,.inl (by rw[Mn];exact SqL.of Ab),by rw[Mg];omega,λt H9 nt ht s9=>?_⟩;have tS:Same H8 H9:=((Same.refl H8).step nc).trans s9;have wa:=tS _ _ hM;have et:told ((dit row).filter (upB row q.1)++(dit row).filter (upB row q.2))=(dit row).filter λy=>upB row q.1 y||upB row q.2 y:=by
      refine Gr (K5 _) ((B6 row).filter _) λz=>?_;rw[Xdo,Mm,Mh,Mh,Mh,O9,<-and_or_left]
     rw[et] at ht;have wb:qs.length<=49:=by
      have:=mL.1;rw[L5,Nd] at this;omega
     refine⟨_,wa,by rw[L5,Qo];omega,?_⟩;have kC:∀b w,H9 b=some (.tup w)->upd H9 M (.lst (qs.map V.ref++[.ref t])) b=some (.tup w):=λb w e=>by
      rw[Ad (λz=>by rw[z,wa] at e;cases e)];exact e
     refine wskip aR ⟨⟨_,_,rfl⟩,λb w e=>?_,qs++[t],by rw[Ab,Mn];rfl,?_⟩
     ·rw[Ad (Aw e nM)];exact tS _ _ (s7 b w e)
     ·rw[gI,Mn];refine Tups.app ⟨mL.1,λj hj=>kC _ _ (tS _ _ (mL.2 j hj))⟩ (Tups.cons (kC _ _ ht) (Tups.nil _))
    ·have ei:i=(crs row).length:=by omega
     subst ei;refine .inl ⟨by have:=Er (K:=K) (SqL.of (s7 _ _ dY));rwa [vY] at this,?_⟩;rw[Oe] at mL;have pk:=s6.trans s7;have yO:=pk _ _ tP;have yP:=jI.same pk;have yQ:=mK.trans pk;refine⟨M3 _,λe0 yR=>⟨by show 1<=sizeLine;decide,λz nz=>?_⟩⟩;generalize wc:upd H7 e0 (.tup [])=Ha at nz;have sa:Same H7 Ha:=by rw[<-wc];exact(Same.refl H7).step yR
     have yS:Ha e0=some (.tup (([]:Za).map V.str)):=by rw[<-wc];exact Ab
     generalize we:upd Ha z (.lst [.ref e0])=Hb;have sb:Same Ha Hb:=by rw[<-we];exact(Same.refl Ha).step nz
     have hz:Hb z=some (.lst [.ref e0]):=by rw[<-we];exact Ab
     have l1:kB.length=(dit row).length:=by have:=jI.1;simpa using this
     have l2:qs.length=(crs row).length:=by have:=mL.1;simpa using this
     have wf:=sa.trans sb;refine⟨_,rfl,z,L,_,_,rfl,rfl,hz,wf _ _ yO,by rw[L5,Nh,Qo];omega,λc1 n1=>?_⟩;generalize wg:upd Hb c1 (.lst ([.ref e0]++kB.map V.ref))=Hc;have sc:Same Hb Hc:=by rw[<-wg];exact(Same.refl Hb).step n1
     have yT:Hc c1=some (.lst ([.ref e0]++kB.map V.ref)):=by rw[<-wg];exact Ab
     have wj:=wf.trans sc;refine⟨_,rfl,c1,M,_,_,rfl,rfl,yT,wj _ _ hM,by rw[Mg,L5,L5,Nh,Qo];omega,λc2 n2=>?_⟩;generalize wk:upd Hc c2 (.lst (([.ref e0]++kB.map V.ref)++qs.map V.ref))=Hd;have sd:Same Hc Hd:=by rw[<-wk];exact(Same.refl Hc).step n2
     have i3:Hd c2=some (.lst ((e0::(kB++qs)).map V.ref)):=by
      rw[<-wk,Ab,Mw,Mn];rfl
     have tT:=wj.trans sd;have tU:=yQ.trans tT;have qS:Tups Hd (e0::(kB++qs)) ([]::cands row):=Tups.cons ((sb.trans (sc.trans sd)) _ _ yS) (Tups.app (yP.same tT) (mL.same tT));refine⟨c2,e0::(kB++qs),[]::cands row,rfl,i3,qS,Ls R2.two,by rw[Ml,Mg];omega,SH.Ak.same tab tU,λD' jj iC H' yU gF jH pm so jG bt=>?_⟩;refine k D' jj iC H' (tU.free yU) gF jH (λS=>(pm.mem_iff).trans (Gw R2.two h3 S)) so ?_ jG λb w e n=>bt _ _ (tU _ _ e) n;rw[jH.1,pm.length_eq,<-qS.1,Ml,Mg];omega
def Xgn:FnScope ["one", "other"] ["one", "other"] (defScope s_parting):=by walk_at "s"
def Xpw{f:ae}{fd:aw}(F:Fun K "parting" "parting" s_parting f fd)(T:Bl mg):FnOk P w K mg base CX0 1 f fd ["one", "other"] spParting:=by
 refine F.ok Xgn (by walk_at "l") ?_
 ·walk_at "i"
  obtain⟨p,q,a,b,rfl,hP,hQ,na,nb,la,lb,k⟩:=h;refine⟨_,Ah (Am (A8 (F9 rfl) (by rfl) T.sorted (by rfl) (Aa (Ao Xe3 (Ci (Et rfl) (by rfl) T.set (by rfl) (Aa (pv 0) Ac)) (Ci (Et rfl) (by rfl) T.set (by rfl) (Aa (pv 1) Ac))) Ac))),?_⟩;refine⟨_,rfl,p,a,rfl,.inr (SqT.of hP),by unfold aN;omega,λa1 n1=>?_⟩;refine⟨_,rfl,q,b,rfl,.inr (SqT.of (ku hQ n1)),by unfold aN;omega,λa2 n2=>?_⟩;have pa:=K4 na;have pb:=K4 nb;refine⟨a1,a2,_,_,rfl,rfl,ku Ab n2,Ab,Fh a,Fh b,by rw[pa.length_eq];exact la,by rw[pb.length_eq];exact lb,λc zs nc oJ lz mz=>?_⟩;refine⟨c,zs,rfl,Ab,by omega,λl ls nl pl so=>?_⟩;refine k l _ ?_ ?_ ?_
  ·exact(((Same.refl H).step n1).step n2).free ((Same.refl _).step nc |>.free nl)
  ·rw[Ab,Gc pl so,xor_srt na nb oJ λy=>by rw[mz,pa.mem_iff,pb.mem_iff]]
  ·exact((((Same.refl H).step n1).step n2).step nc).step nl
def Xpx{f:ae}{fd:aw}(F:Fun K "parting" "parting" s_parting f fd)(T:Bl mg):FnOk P w K mg base CX0 1 f fd ["one", "other"] spPartL:=by
 refine F.ok Xgn (by walk_at "l") ?_
 ·walk_at "i"
  obtain⟨p,q,a,b,rfl,hP,hQ,la,lb,da,db,k⟩:=h;refine⟨_,Ah (Am (A8 (F9 rfl) (by rfl) T.sorted (by rfl) (Aa (Ao Xe3 (Ci (Et rfl) (by rfl) T.set (by rfl) (Aa (pv 0) Ac)) (Ci (Et rfl) (by rfl) T.set (by rfl) (Aa (pv 1) Ac))) Ac))),?_⟩;refine⟨_,rfl,p,a,rfl,.inl (SqL.of hP),by unfold aN;omega,λa1 n1=>?_⟩;refine⟨_,rfl,q,b,rfl,.inl (SqL.of (ku hQ n1)),by unfold aN;omega,λa2 n2=>?_⟩;refine⟨a1,a2,_,_,rfl,rfl,ku Ab n2,Ab,Fh a,Fh b,da,db,λc zs nc oJ lz mz=>?_⟩;refine⟨c,zs,rfl,Ab,by omega,λl ls nl pl so=>?_⟩;refine k l _ ?_ ?_ ?_
  ·exact(((Same.refl H).step n1).step n2).free ((Same.refl _).step nc |>.free nl)
  ·rw[Ab,Gc pl so,Xmw oJ mz]
  ·exact((((Same.refl H).step n1).step n2).step nc).step nl
def Xpy:FnScope ["plot", "name"] ["plot", "name"] (defScope s_across):=by walk_at "s"
def Xpz{f:ae}{fd:aw}(F:Fun K "across" "across" s_across f fd)(B:Bl mg)(FP:Fn P w K mg base CX0 1 "parting" ["one", "other"] spParting):FnOk P w K mg base CX0 2 f fd ["plot", "name"] spAcross:=by
 refine F.ok Xpy (by walk_at "l") ?_
 ·walk_at "i"
  obtain⟨p,ss,x,rfl,hp,nd,hl,k⟩:=h;have ca:Room 1 _:=hr.mono (by decide);refine⟨_,Ah (Am (Ci Xbe (by rfl) B.tuple (by rfl) (Aa (Ai FP ca (by rfl) Al (Aa (pv 0) (Aa (B3 (Aa (pv 1) Ac)) Ac))) Ac))),?_⟩;refine⟨_,rfl,_,rfl,by show 1<=sizeLine;decide,λt nt=>?_⟩;refine⟨p,t,ss,[x],rfl,ku hp nt,Ab,nd,by simp,hl,by show 1<16;decide,λl H1 nl gO s1=>?_⟩;rw[Lv] at gO;refine⟨l,_,rfl,.inl ⟨SqL.of gO,λq nq=>?_⟩⟩;have s0:=((Same.refl H).step nt (o:=.tup [.str x])).trans s1;exact k q _ (s0.free nq) Ab (s0.step nq)
def Lz:FnScope NNb ["row", "plot"] (defScope s_neighbours):=by walk_at "s"
def Xp0{f C T:ae}{fd:aw}(F:Fun K "neighbours" "neighbours" s_neighbours f fd)(FA:Fn P w K mg base (CX1 P w) 5 "ask_plot" ["row", "plot"] (spAskPlot C))(FP:Fn P w K mg base CX0 5 "plots" ["row"] (spPlotsA T (lamPos s_in_order)))(FD:Fn P w K mg base CX0 1 "ditches" ["row"] spDitches)(FX:Fn P w K mg base CX0 2 "across" ["plot", "name"] spAcross):
  FnOk P w K mg base (CX1 P w) 6 f fd ["row", "plot"] (spNbs T (lamPos s_in_order)):=by
 refine F.ok1 Lz (by walk_at "l") ?_
 ·walk_at "i"
  obtain⟨r,p,row,S,rfl,hR,R2,h3,hd,tab,hp,hS,k⟩:=h;have ca:Room 1 _:=hr.mono (by decide);have eB:Room 2 _:=hr.mono (by decide);have tV:=hu4 hr;refine⟨_,Af (Fq (Ai FA hr (by rfl) pass1 (Aa (pv 0) (Aa (pv 1) Ac))))
   (Af (Aq (i:=2) Lz.nd rfl (.inr rfl) (Ai FP hr (by rfl) Al (Aa (pv 0) Ac)))
   (Af (Ht (i:=3) (N:=NNb1) (cap:=[none,some 1]) (CompScope.of (defScope s_neighbours) NNb rfl rfl rfl (by decide +kernel)) rfl Lz.nd rfl rfl (Cd (Ai FD ca (by rfl) Al (Aa (pv 0) Ac))) (λ_ _ _=>A2 (i:=0) (show NNb1.Nodup by decide +kernel) rfl (.inl rfl) (.inr rfl)) (λ_ _ _=>Cw)
    (λ_ _ _=>B3 (Aa (pv 0) (Aa (Ai (by exact FX) (by exact eB) (by rfl) Al (Aa (pv 1) (Aa (pv 0) Ac))) Ac))))
   (Ah (Am (Gj (N:=NNb2) (cap:=[none,none,some 2]) (CompScope.of (defScope s_neighbours) NNb rfl rfl rfl (by decide +kernel)) rfl (Cd (pv 3))
    (λ_ _ _=>Hq K 2 rfl rfl (C6 (A2 (i:=0) (show NNb2.Nodup by decide +kernel) rfl (.inl rfl) (.inr rfl)) (C6 (A2 (i:=1) (show NNb2.Nodup by decide +kernel) rfl (.inl rfl) (.inr rfl)) Fs))) (λ_ _ _=>Fg (Az (Xkk (by exact tV)) (pv 1) (pv 2) (by rfl)))
    (λ_ _ _=>B3 (Aa (pv 0) (Aa (pv 1) Ac)))))))),?_⟩
  have hl:=Im hS;have kD:∀y∈S,okN y:=λy hy=>R2.ok y ((Bw hS).1 y hy);refine⟨_,rfl,_,rfl,r,p,row,S,rfl,hR,R2,hp,kD,by omega,λ_ H1 s1=>?_,λe=>by rw[hS] at e;cases e⟩;refine⟨_,rfl,r,row,rfl,s1 _ _ hR,R2,h3,hd,SH.Ak.same tab s1,λl ps Ts H2 nl fe mM io pw gE h6 b2=>?_⟩;have b2:But T H1 H2:=b2;have lO:=SH.Ak.same tab s1;have k2:∀{b:ae} {o:HO},H b=some o->(∀z,o ≠ .tbl z)->H2 b=some o:=λe n=>b2 _ _ (s1 _ _ e) (Ak.ne lO (s1 _ _ e) n);have wm:=k2 hR λz=>by simp
  have ia:=k2 hp λz=>by simp
  have wn:=R2.len;have lP:∀S∈Ts,∀y∈S,okN y:=λS' rW y hy=>R2.ok y ((Bw ((io S').mp rW)).1 y hy);dsimp only[Bi];refine⟨_,rfl,r,row,rfl,wm,by omega,λyV H3 CD mO s3=>?_⟩;have lQ:=s3 _ _ ia;have kE:=s3 _ _ fe;have qZ:=mM.same s3;refine⟨yV,rfl,⟨_,SqL.of mO⟩,?_⟩;refine Xf4 (n:=(dit row).length) (by rw[Qo];omega) (λj=>.str ((dit row).getD j ah.empty)) (λ_=>true) (λj=>((dit row).getD j ah.empty,Au S ((dit row).getD j ah.empty))) (fun Z=>∃v, Z=[v,some (.ref p)]) ⟨_,rfl⟩ ?_ ?_ ?_ ?_
  ·intro j H5 hj s5;have:=Ep (K:=K) (SqL.of (s5 _ _ mO)) (by rw[L5];exact hj);rw[Cz V.str ah.empty (dit row) hj] at this;exact this
  ·intro H5 s5;have:=Er (K:=K) (SqL.of (s5 _ _ mO))
   rwa [L5] at this
  ·rintro j Z1 H5 Q1 Q0 hj ⟨v,rfl⟩ s5 kk _;generalize (dit row).getD j ah.empty=x at kk ⊢;dsimp only[Bi,D1];rw[Qq rfl];refine⟨_,rfl,_,rfl,_,rfl,p,S,x,rfl,s5 _ _ lQ,Xe5 hS,by omega,λq H6 nq hq s6=>?_⟩;refine⟨by show 2<=sizeLine;decide,λt nt=>?_⟩;exact kk _ t q _ rfl ⟨_,rfl⟩ Ab (ku hq nt) (s6.step nt)
  intro sd qs H4 CF s4 tW tX;have eN:(((List.range (dit row).length).filter λ_=>true).map λj=>((dit row).getD j ah.empty,Au S ((dit row).getD j ah.empty)))=(dit row).map λx=>(x,Au S x):=by
   have q:=congrArg (List.map λx=>(x,Au S x)) (Da ah.empty (λ_=>true) (dit row));rw[M5,Mu.mpr (λ_ _=>rfl),Mu.mpr (λ_ _=>rfl)] at q;rw[Mu.mpr (λ_ _=>rfl)];exact q
  rw[eN] at tX;have wb:qs.length=(dit row).length:=by rw[tX.1,L5]
  have pc:=s4 _ _ kE;have yW:=qZ.same s4;dsimp only[Bi];refine⟨_,rfl,sd,rfl,⟨_,SqL.of tW⟩,?_⟩;refine Xf4 (n:=qs.length) (by rw[Qo];omega) (λj=>.ref (qs.getD j 0)) (λj=>isPlotB row (Au S ((dit row).getD j ah.empty))) (λj=>((dit row).getD j ah.empty,Au S ((dit row).getD j ah.empty))) (fun Z=>∃u v, Z=[u,v,some (.ref l)]) ⟨_,_,rfl⟩ ?_ ?_ ?_ ?_
  ·intro j H5 hj s5;have:=Ep (K:=K) (SqL.of (s5 _ _ tW)) (by rw[L5];exact hj);rw[Cz V.ref 0 qs hj] at this;exact this
  ·intro H5 s5;have:=Er (K:=K) (SqL.of (s5 _ _ tW))
   rwa [L5] at this
  ·rintro j Z1 H5 Q1 Q0 hj ⟨u,v,rfl⟩ s5 k1 k0;obtain⟨q,h1,h2⟩:=tX.2 j hj;have eM:j<(dit row).length:=by omega
   have ex:((dit row).map λx=>(x,Au S x)).getD j dN=((dit row).getD j ah.empty,Au S ((dit row).getD j ah.empty)):=by
    rw[List.getD,Mt,L6 eM,List.getD,L6 eM];rfl
   rw[ex] at h1 h2;have hx:(dit row).getD j ah.empty∈row:=Ae.mp (B8 eM);generalize (dit row).getD j ah.empty=x at *;have wo:=Xob R2.ok hS hx;have yX:=s5 _ _ h1;have wq:=s5 _ _ h2;refine⟨_,_,rfl,SqT.of yX,rfl,_,_,rfl,_,_,rfl,rfl,?_⟩;refine⟨_,rfl,_,rfl,Ba (Au S x),Ts.map Ba,Ea wq,Gx (s5 _ _ pc) (yW.same s5),Co _ (Dr wo),Hv _ (Xfy lP),by show ak.depthAll ((Au S x).map ak.str)+1<=3;rw[Gn];decide,_,rfl,?_⟩;rw[isin lP wo];cases e:isPlotB row (Au S x) with
   | true=>
    rw[Qr ((io _).mpr e)];refine Cv ⟨_,rfl,_,rfl,by show 2<=sizeLine;decide,λt nt=>?_⟩;exact k1 _ t q _ e ⟨_,_,rfl⟩ Ab (ku wq nt) ((Same.refl H5).step nt)
   | false=>
    rw[Qs (λz=>by rw[(io _).mp z] at e;cases e)];exact Bt (k0 _ _ e ⟨_,_,rfl⟩ (Same.refl H5))
  ·intro L us H5 nL s5 hL tY;have e2:(((List.range qs.length).filter λj=>isPlotB row (Au S ((dit row).getD j ah.empty))).map λj=>((dit row).getD j ah.empty,Au S ((dit row).getD j ah.empty)))=nbL row S:=by
    have q:=congrArg (List.map λx=>(x,Au S x)) (Da ah.empty (λx=>isPlotB row (Au S x)) (dit row));rw[M5] at q;rw[wb];exact q
   rw[e2] at tY;have lL:=(s3.trans s4).trans s5;refine k L us H5 ?_ hL tY ?_ (SH.Ak.same h6 lL) λb o e n=>lL _ _ (b2 _ _ (s1 _ _ e) n)
   ·cases q:H L with
    | none=>rfl
    | some o=>
     by_cases z:L=T
     ·have t4:=SH.Ak.same h6 (s3.trans s4);rcases t4 with t | ⟨_,t,_⟩<;>(rw[<-z,nL] at t;cases t)
     ·rw[(s3.trans s4) _ _ (b2 _ _ (s1 _ _ q) z)] at nL;cases nL
   ·rw[tY.1];unfold nbL;rw[L5];exact M8 (Ni ..) (by omega)
def Jf:FnScope NPa ["row", "other"] (defScope s_paired):=by walk_at "s"
def Xp1{f:ae}{fd:aw}(F:Fun K "paired" "paired" s_paired f fd)(T:Bl mg)(hz:mg "zip" = none):FnOk P w K mg base CX0 1 f fd ["row", "other"] Xfk:=by
 refine F.ok Jf (by walk_at "l") ?_
 ·walk_at "i"
  obtain⟨r,o,a,b,rfl,hR,hO,hl,wt,wu,CG,kn,kp⟩:=h;refine⟨_,Af (Aq (i:=2) Jf.nd rfl (.inl rfl) Xbr)
   (Af (Ce bo.never rfl (Xmq (by rfl) hz (Aa (pv 0) (Aa (pv 1) Ac))) (Hq K 2 rfl rfl (C6 (A2 (i:=3) Jf.nd rfl (.inl rfl)) (C6 (A2 (i:=4) Jf.nd rfl (.inl rfl)) Fs)))
    (Ah (Bc (Az El (Xmr (pv 2) (pv 3) (pv 4) ⟨rfl,rfl,rfl,rfl⟩) (pv 4) (Ax _)) (Ah (Am Ej)) Be)))
   (Ah (Am (A8 (Xmt rfl) (by rfl) T.sorted (by rfl) (Aa (Xh6 PySem.F.plainAttrs_dict PySem.F.slot_dict_items PySem.F.type_dict_items Xms (pv 2)) Ac))))),?_⟩
  intro d nd;have s0:Same H (upd H d (.dK [])):=(Same.refl H).step nd;have wv:upd H d (.dK []) d=some (.dK (Bx [])):=Ab;dsimp only[Bi];generalize upd H d (.dK [])=H0 at s0 wv;have nr:∀{b:ae} {o:HO},H b=some o->b≠d:=λe=>Aw e nd;refine⟨_,rfl,_,rfl,r,o,rfl,⟨_,s0 _ _ hR⟩,⟨_,s0 _ _ hO⟩,?_⟩;refine Xm2 (a:=r) (b:=o) (xs:=a.map V.str) (ys:=b.map V.str) (by rw[L5,L5,hl]) (λi Z H'=>(∃v3 v4, Z=[some (.ref r),some (.ref o),some (.ref d),v3,v4])/\Same H H'/\∃bp,Dz a b i bp/\H' d=some (.dK (Bx bp))) ?_ ?_ ?_ ?_
  ·exact⟨⟨_,_,rfl⟩,s0,[],Dz.zero a b,wv⟩
  ·rintro i Z H' _ ⟨_,s',_⟩;exact⟨s' _ _ hR,s' _ _ hO⟩
  ·rintro i x y tp Z H' hx hy ⟨⟨v3,v4,rfl⟩,s',bp,dz,hd⟩ yY;rw[Mt] at hx hy;obtain⟨x0,yZ,ex⟩:=Ot.mp hx;obtain⟨y0,za,ey⟩:=Ot.mp hy;clear hx hy;subst ex ey
   revert yZ za
   intro hx hy
   revert hx hy
   generalize x0=x;generalize y0=y;intro hx hy;have s1:Same H' (upd H' tp (.tup [.str x,.str y])):=(Same.refl H').step yY;have jI:upd H' tp (.tup [.str x,.str y]) tp=some (.tup [.str x,.str y]):=Ab;generalize upd H' tp (.tup [.str x,.str y])=H1 at s1 jI;have iA:=s1 _ _ hd;have dl:=dz.len;have il:i<a.length:=(Mc.mp hx).1;refine⟨tp,_,rfl,SqT.of jI,rfl,_,_,rfl,_,_,rfl,rfl,?_⟩;refine⟨_,rfl,d,rfl,.inl ⟨_,.inl iA⟩,_,rfl,_,rfl,Bx bp,Sum.inr x,iA,rfl,by unfold Bx;rw[L5,Qo];omega,λv hv=>?_,λhv=>?_⟩
   ·by_cases m:x∈bp.map (·.1)
    ·obtain⟨q,hq,rfl⟩:=Mo.mp m;have e:=Iz dz.nd (x:=q.1) (y:=q.2) hq;rw[hv] at e;cases e;refine⟨_,rfl,rfl,_,rfl,?_⟩;by_cases c:q.2=y
     ·refine Av (λz=>absurd z ?_) (λ_=>⟨⟨_,_,rfl⟩,s'.trans s1,bp,dz.old hx hy (by rw[<-c];exact hq),iA⟩);rw[c];simp
     ·refine Av (λ_=>kn (dz.bad hx hy hq c) _ (s'.trans s1)) (λz=>absurd z ?_);simp[c]
    ·rw[Xm3 m] at hv;cases hv
   ·have m:x∉bp.map (·.1):=λm=>by
     obtain⟨q,hq,rfl⟩:=Mo.mp m;rw[Iz dz.nd (x:=q.1) (y:=q.2) hq] at hv;cases hv
    rw[Xm4 y m];refine⟨_,rfl,rfl,_,rfl,?_⟩;refine Av (λz=>absurd z (by simp)) (λ_=>⟨⟨_,_,rfl⟩,λb' o' e=>?_,bp++[(x,y)],dz.new hx hy m,Ab⟩);rw[Ad (nr e)];exact s1 _ _ (s' _ _ e)
  ·rintro Z H' ⟨⟨v3,v4,rfl⟩,s',bp,dz,hd⟩;obtain⟨fo,mem⟩:=dz.all hl (by rw[L5]);have dl:=dz.len;rw[L5] at dl;refine⟨_,rfl,.inr (.inr (.inl ⟨rfl,.inl ⟨_,hd⟩⟩)),d,_,rfl,rfl,hd,λv nv=>?_⟩;have s1:Same H' (upd H' v (Iw v d)):=(Same.refl H').step nv;refine⟨v,d,bp,rfl,Ab,s1 _ _ hd,dz.nd,by omega,λl jj iC H2 nl fe mM p2 tH s2=>?_⟩;have hle:jj.length<=60:=by
    rw[mM.1,p2.length_eq,L5];omega
   exact kp fo l jj iC H2 ((s'.trans s1).free nl) fe mM (Xm5 mem p2 tH) hle ((s'.trans s1).trans s2)
def Jg:FnScope NSa ["row", "other"] (defScope s_same):=by walk_at "s"
def Xp2{f:ae}{fd:aw}(F:Fun K "same" "same" s_same f fd)(T:Bl mg)(FM:Fn P w K mg base CX0 1 "mirrored" ["row"] spMir)(FT:Fn P w K mg base CX0 1 "turned" ["row", "by"] spTrn)(FP:Fn P w K mg base CX0 1 "paired" ["row", "other"] Xfk):
  FnOk P w K mg base CX0 2 f fd ["row", "other"] (spSame λb=>b.length+1):=by
 refine F.ok Jg (by walk_at "l") ?_
 ·walk_at "i"
  obtain⟨r,o,a,b,rfl,hR,hO,Ra,Rb,kd,ks⟩:=h;refine⟨_,Af (Bc (Az El (A8 Bo (by rfl) T.len aQ (Aa (pv 0) Ac)) (A8 Bo (by rfl) T.len aQ (Aa (pv 1) Ac)) (Ax _)) (Ah (Am Ej)) Be)
   (Af (Ce bo.never rfl (Jq (B3 (Aa (pv 1) (Aa (Ai FM hr (by rfl) Al (Aa (pv 1) Ac)) Ac)))) (A2 (i:=2) Jg.nd rfl (.inl rfl))
    (Ah (Ce bo.never rfl (Ft rfl T.range (Aa (Ao Bs (A8 Bo (by rfl) T.len aQ (Aa (pv 2) Ac)) Ag) Ac)) (A2 (i:=3) Jg.nd rfl (.inl rfl))
     (Af (Aq (i:=4) Jg.nd rfl (.inl rfl) (Ai FP hr (by rfl) Al (Aa (pv 0) (Aa (Ai FT hr (by rfl) Al (Aa (pv 2) (Aa (pv 3) Ac))) Ac))))
     (Ah (Bc (Az Xau (pv 4) Ej (Ax _)) (Ah (Am (pv 4))) Be))))))
   (Ah (Am Ej))),?_⟩
  have la:((a.map V.str).length:Int)=a.length:=by rw[L5]
  have lb:((b.map V.str).length:Int)=b.length:=by rw[L5]
  have cT:=Ra.len;refine⟨_,rfl,r,_,rfl,.inl (SqL.of hR),_,rfl,o,_,rfl,.inl (SqL.of hO),rfl,_,rfl,?_⟩;rw[la,lb];by_cases hl:a.length=b.length
  ·refine Av (λz=>absurd z (by simp[hl])) (λ_=>?_);obtain⟨k0,k1⟩:=ks hl;refine⟨_,rfl,_,rfl,o,b,rfl,hO,λm H1 nm hm s1=>?_⟩;refine⟨by show 2<=sizeLine;decide,λt nt=>?_⟩;have s2:Same H1 (upd H1 t (.tup [.ref o,.ref m])):=(Same.refl H1).step nt;have ht:upd H1 t (.tup [.ref o,.ref m]) t=some (.tup [.ref o,.ref m]):=Ab;generalize upd H1 t (.tup [.ref o,.ref m])=H2 at s2 ht;have jJ:=s1.trans s2;have mB:=s2 _ _ hm;have wu:=Ra.ok;have lr:b.reverse.length=b.length:=Pf;refine⟨t,rfl,⟨_,SqT.of ht⟩,?_⟩;refine Xhj (K:=K) (a:=t) (xs:=[.ref o,.ref m]) (λi Z H'=>(∃v2 v3 v4, Z=[some (.ref r),some (.ref o),v2,v3,v4])/\Same H2 H'/\(1<=i->∀j,j<b.length+1->¬Bj a (rot b j))/\(2<=i->∀j,j<b.length+1->¬Bj a (rot b.reverse j))) ?_ ?_ ?_ ?_
   ·exact⟨⟨_,_,_,rfl⟩,Same.refl _,λz=>absurd z (by decide),λz=>absurd z (by decide)⟩
   ·rintro i Z H' _ ⟨_,s',_⟩;exact SqT.of (s' _ _ ht)
   ·rintro i x Z H3 hx ⟨⟨v2,v3,v4,rfl⟩,s3,i1,i2⟩;obtain⟨p,c,rfl,hp,dY,zb,tG,zc⟩:∃(p:ae) (c:Za),x = .ref p/\H2 p=some (.lst (c.map V.str))/\c.length=b.length/\(∀y∈c,okN y)/\(∀k,k<b.length+1->(∀j,j<k->¬Bj a (rot c j))->Bj a (rot c k)->PrQ H Q a (rot c k)) /\
      ((∀j,j<b.length+1->¬Bj a (rot c j))->(1<=i+1->∀j,j<b.length+1->¬Bj a (rot b j))/\(2<=i+1->∀j,j<b.length+1->¬Bj a (rot b.reverse j))):=by
     match i,hx with
     | 0,hx=>
      cases Mj hx;exact⟨o,b,rfl,jJ _ _ hO,rfl,Rb.ok,λk h1 h2 h3=>k1 _ (.inl ⟨k,h1,h2,h3,rfl⟩),λh=>⟨λ_=>h,λz=>absurd z (by omega)⟩⟩
     | 1,hx=>
      cases Mj hx;exact⟨m,b.reverse,rfl,mB,lr,λy hy=>Rb.ok y (Ow.mp hy),λk h1 h2 h3=>k1 _ (.inr (.inl ⟨i1 (L7 _),k,h1,h2,h3,rfl⟩)),λh=>⟨λ_=>i1 (L7 _),λ_=>h⟩⟩
    dsimp only[Bi];have lc:((c.map V.str).length:Int)=c.length:=by rw[L5]
    refine⟨_,rfl,p,_,rfl,.inl (SqL.of (s3 _ _ hp)),_,_,rfl,rfl,_,rfl,by omega,by rw[lc];omega,?_⟩;rw[show (((c.map V.str).length:Int)+1).toNat=b.length+1 by rw[lc];omega];refine Fw (lo:=0) (n:=b.length+1) (λk Z H'=>(∃v3 v4, Z=[some (.ref r),some (.ref o),some (.ref p),v3,v4])/\Same H2 H'/\∀j,j<k->¬Bj a (rot c j)) ?_ ?_ ?_
    ·exact⟨⟨_,_,rfl⟩,s3,λj hj=>absurd hj (Nj _)⟩
    ·rintro k Z H4 hk ⟨⟨v3,v4,rfl⟩,s4,nj⟩;have ln:=jJ.trans s4;dsimp only[Bi];refine⟨_,rfl,_,rfl,_,rfl,p,c,k,by rw[Ql];rfl,s4 _ _ hp,by omega,by omega,λl H5 nl fF s5=>?_⟩;have mK:=ln.trans s5;refine⟨r,l,a,rot c k,rfl,mK _ _ hR,fF,by rw[Lq];omega,by omega,wu,λy hy=>zb y ((E4 c k).mem_iff.mp hy),λnf H6 s6=>?_,λfo l2 ps Ts H6 qW tZ zd ip wt s6=>?_⟩
     ·refine⟨_,rfl,rfl,_,rfl,?_⟩;refine Av (λz=>absurd z (by simp)) (λ_=>⟨⟨_,_,rfl⟩,(s4.trans s5).trans s6,λj hj=>?_⟩);rcases Nat.lt_succ_iff_lt_or_eq.mp hj with e | e
      ·exact nj j e
      ·rw[e];exact nf
     ·refine⟨_,rfl,rfl,_,rfl,?_⟩;refine Av (λ_=>?_) (λz=>absurd z (by simp));exact⟨_,rfl,tG k hk nj fo l2 ps Ts H6 (mK.free qW) tZ zd ip wt (mK.trans s6)⟩
    ·rintro Z H4 ⟨⟨v3,v4,rfl⟩,s4,nj⟩;obtain⟨q1,q2⟩:=zc nj;exact⟨⟨_,_,_,rfl⟩,s4,q1,q2⟩
   ·rintro Z H3 ⟨⟨v2,v3,v4,rfl⟩,s3,i1,i2⟩;exact k0 (.inr (.inr ⟨i1 (by show 1<=2;decide),i2 (by show 2<=2;decide),rfl⟩)) H3 (jJ.trans s3)
  ·refine Av (λ_=>kd hl H (Same.refl _)) (λz=>absurd z ?_);simp;omega
def G0:FnScope NUn ["row", "other"] (defScope s_unlike):=by walk_at "s"
def Xp3{f C:ae}{fd:aw}(F:Fun K "unlike" "unlike" s_unlike f fd)(FP:Fn P w K mg base CX0 1 "parting" ["one", "other"] spPartL)(FD:Fn P w K mg base CX0 1 "ditches" ["row"] spDitches)
  (FL:Fn P w K mg base (CX1 P w) 3 "lie" ["row", "one", "other"] (spLie C)):FnOk P w K mg base CX0 4 f fd ["row", "other"] spUnl:=by
 refine F.ok G0 (by walk_at "l") ?_
 ·walk_at "i"
  obtain⟨p,q,a,b,rfl,t2,kq⟩:=h;have kn:Due a b none->∀H',Same H H'->Q .non H':=λd H' s=>kq none .non H' d rfl s;have ks:∀(ss:Za) (l:ae) (H':Hp),Due a b (some ss)->H l=none->H' l=some (.tup (ss.map V.str))->Same H H'->Q (.ref l) H':=λss l H' d _ hl s=>kq (some ss) (.ref l) H' d ⟨l,rfl,hl⟩ s;have ca:Room 1 _:=hr.mono (by decide);have la:=t2.la;have lb:=t2.lb;refine⟨_,Af (Aq (i:=2) G0.nd rfl (.inl rfl) (Ai FP ca (by rfl) Al (Aa (pv 0) (Aa (pv 1) Ac))))
   (Af (Bc (Xhp (pv 2) (λ_=>rfl)) (Ah (Am (B3 (Aa Bm (Aa (Ay Bg (pv 2) Ag (λ_ _=>rfl)) Ac))))) Be)
   (Af (Aq (i:=3) G0.nd rfl (.inl rfl) (Ai FD ca (by rfl) Al (Aa (pv 0) Ac)))
   (Af (Ce bo.never rfl (Cd (pv 3)) (A2 (i:=4) G0.nd rfl (.inl rfl))
    (Ah (Ce bo.never rfl (Cd (pv 3)) (A2 (i:=5) G0.nd rfl (.inl rfl))
     (Ah (Bc (E8 (Az Xat (pv 4) (pv 5) (Ax _)) (E7 (Az El (Ai FL hr (by rfl) Ew (Aa (pv 0) (Aa (pv 4) (Aa (pv 5) Ac)))) (Ai FL hr (by rfl) Ew (Aa (pv 1) (Aa (pv 4) (Aa (pv 5) Ac)))) (Ax _)))).pt
      (Ah (Am (B3 (Aa Bm (Aa (pv 4) (Aa (pv 5) Ac)))))) Be)))))
   (Ah (Am Ej))))),?_⟩
  refine⟨_,rfl,_,rfl,p,q,a,b,rfl,t2.hp,t2.hq,by omega,by omega,t2.da,t2.db,λl H1 nl hl s1=>?_⟩;refine⟨_,rfl,_,.inl ⟨_,SqL.of hl,rfl⟩,?_⟩;have xm:=λz=>Lp (a:=a) (b:=b) (x:=z);have xl:=Xfc a b;cases hx:Du a b with
  | cons x xs=>
   refine Cv ?_;rw[hx] at hl xl;refine⟨_,rfl,l,_,_,.str x,rfl,rfl,SqL.of hl,Dy (xs:=(x::xs).map V.str) (j:=0) rfl,by show 2<=sizeLine;decide,λt nt=>?_⟩;refine ks [ah.ofString "ditch",x] t _ (.ditch x (by rw[hx];simp) λy hy=>?_) (s1.free nt) Ab (s1.step nt);rw[hx] at hy;rcases Mb.mp hy with e | e
   ·exact .inl e
   ·exact .inr ((Oc.mp xl).1 y e)
  | nil=>
   refine Bt ?_;have same:∀z,z∈a↔z∈b:=λz=>by
    have h0:=xm z;rw[hx] at h0;by_cases h1:z∈a<;>by_cases h2:z∈b<;>simp[h1,h2] at h0 ⊢
   have tt:=t2.same s1;refine⟨_,rfl,p,a,rfl,tt.hp,by omega,λd H2 nd hd s2=>?_⟩;have jJ:=s1.trans s2;have tt:=tt.same s2;refine⟨_,rfl,d,rfl,⟨_,SqL.of hd⟩,?_⟩;refine Fv (K:=K) (a:=d) (xs:=(dit a).map V.str) (λi Z H3=>∃v4 v5, Z=[some (.ref p),some (.ref q),some (.ref l),some (.ref d),v4,v5]/\Same H2 H3/\∀j x y,j<i->(dit a)[j]? = some x->y∈a->ltS x y->lieR a x y=lieR b x y) ?_ ?_ ?_ ?_
   ·exact⟨_,_,rfl,Same.refl _,λj x y h=>absurd h (Nj _)⟩
   ·rintro i Z H3 _ ⟨v4,v5,rfl,s3,_⟩;exact SqL.of (s3 _ _ hd)
   ·rintro i x Z H3 mG ⟨v4,v5,rfl,s3,ho⟩;obtain⟨x,rfl,qU⟩:=Xfd mG;have pq:x∈a:=Ae.mp (Nm qU);refine⟨_,rfl,d,rfl,⟨_,SqL.of (s3 _ _ hd)⟩,?_⟩;refine Fv (K:=K) (a:=d) (xs:=(dit a).map V.str) (λi' Z H4=>∃v5, Z=[some (.ref p),some (.ref q),some (.ref l),some (.ref d),some (.str x),v5]/\Same H2 H4/\∀j y,j<i'->(dit a)[j]? = some y->ltS x y->lieR a x y=lieR b x y) ?_ ?_ ?_ ?_
    ·exact⟨_,rfl,s3,λj y h=>absurd h (Nj _)⟩
    ·rintro i' Z H4 _ ⟨v5,rfl,s4,_⟩;exact SqL.of (s4 _ _ hd)
    ·rintro i' y Z H4 ze ⟨v5,rfl,s4,hi⟩;obtain⟨y,rfl,i7⟩:=Xfd ze;have pr:y∈a:=Ae.mp (Nm i7);refine⟨_,rfl,_,rfl,_,_,rfl,rfl,_,rfl,?_⟩;refine Av (λq1=>?_) (λq1=>?_)
     ·have aR:ltS x y:=Qt q1;have t4:=tt.same s4;refine⟨_,rfl,_,rfl,_,rfl,p,a,x,y,rfl,t4.hp,t4.ra,t4.ra.ok x pq,t4.ra.ok y pr,λ_ _ H5 s5=>?_,λz=>absurd ⟨pq,pr⟩ z⟩;have t5:=t4.same s5;refine⟨_,rfl,_,rfl,_,rfl,q,b,x,y,rfl,t5.hq,t5.rb,t4.ra.ok x pq,t4.ra.ok y pr,λ_ _ H6 s6=>?_,λz=>absurd ⟨(same x).mp pq,(same y).mp pr⟩ z⟩;refine⟨rfl,_,rfl,?_⟩;rw[Js];have ua:=s4.trans (s5.trans s6);refine Av (λq2=>?_) (λq2=>?_)
      ·have dZ:lieR a x y≠lieR b x y:=by simpa using q2
       refine⟨_,rfl,_,rfl,by show 3<=sizeLine;decide,λt nt=>?_⟩;refine ks [ah.ofString "lie",x,y] t _ (.lie x y same ⟨pq,pr,aR,dZ,λx' y' h1 h2 h3 h4=>?_⟩) ((jJ.trans ua).free nt) Ab ((jJ.trans ua).step nt);rcases Iy x x' with c | c | c
       ·exact .inl c
       ·refine .inr ⟨c.symm,?_⟩;subst c;rcases Iy y y' with c | c | c
        ·exact .inr c
        ·exact .inl c.symm
        ·exfalso;obtain⟨j,hj,ej⟩:=before (B6 a) i7 (Ae.mpr h2) c;exact h4 (hi j y' hj ej h3)
       ·exfalso;obtain⟨j,hj,ej⟩:=before (B6 a) qU (Ae.mpr h1) c;exact h4 (ho j x' y' hj ej h2 h3)
      ·have j7:lieR a x y=lieR b x y:=by simpa using q2
       refine⟨_,rfl,ua,λj z hj hz hl=>?_⟩;by_cases e:j=i'
       ·subst e;rw[i7] at hz;rw[<-Mj hz];exact j7
       ·exact hi j z (by omega) hz hl
     ·refine⟨_,rfl,s4,λj z hj hz hl=>?_⟩;by_cases e:j=i'
      ·subst e;rw[i7] at hz;rw[<-Mj hz] at hl;exact absurd hl (Qu q1)
      ·exact hi j z (by omega) hz hl
    ·rintro Z H4 ⟨v5,rfl,s4,hi⟩;refine⟨_,_,rfl,s4,λj x' y hj fR hy hl=>?_⟩;by_cases e:j=i
     ·subst e;rw[qU] at fR;rw[<-Mj fR] at hl ⊢;obtain⟨m,hm,em⟩:=M4.mp (Ae.mpr hy);exact hi m y (by rw[L5];exact hm) (by rw[L6 hm,em]) hl
     ·exact ho j x' y (by omega) fR hy hl
   ·rintro Z H3 ⟨v4,v5,rfl,s3,ho⟩;refine kn (.none same λx y hx hy hl=>?_) H3 (jJ.trans s3);obtain⟨m,hm,em⟩:=M4.mp (Ae.mpr hx);exact ho m x y (by rw[L5];exact hm) (by rw[L6 hm,em]) hy hl
def L0:FnScope NWy ["row", "goal"] (defScope s_ways_to):=by walk_at "s"
def Xp4{f T T2:ae}{fd:aw}(F:FunT K "ways_to" s_ways_to f fd T2)(B:Bl mg)(ii:BmOk mg base)(FP:Fn P w K mg base CX0 5 "plots" ["row"] (spPlotsA T (lamPos s_in_order)))(FX:Fn P w K mg base CX0 2 "across" ["plot", "name"] spAcross)(FG:Fn P w K mg base CX0 1 "parting" ["one", "other"] spParting):
  FnOk P w K mg base CX0 6 f fd ["row", "goal"] (Xga T T2 (lamPos s_in_order) (Ef s_ways_to)):=by
 refine F.ok L0 (λvs H Q E h=>?_) (λc0 hhd A outer s H vs Q E hr h=>?_)
 ·obtain⟨r,g,row,G,rfl,_⟩:=h;rfl
 ·obtain⟨r,g,row,G,rfl,hR,R2,h3,px,tab,hg,hG,k⟩:=h;have hu:=Dm hr;have ca:Room 1 _:=hr.mono (by decide);have eB:Room 2 _:=hr.mono (by decide);refine⟨_,Af (Aq (i:=2) L0.nd rfl (.inr rfl) (Xor hu (pv 1) Ag))
   (Af (Ce bo.never rfl (Cd (Xon (by rfl) B.sorted (by rfl) (Aa (Ai FP hr (by rfl) Al (Aa (pv 0) Ac)) Ac) (Xa3 (Xof (T:=T2) (c0:=c0) (q:=qWy) (cl:=[("goal",s.heap.objs.size+1)]) ii rfl (λ_=>rfl) rfl hhd rfl) Xa2))) (A2 (i:=3) L0.nd rfl (.inr rfl))
    (Ah (Bc (Az (Hu (hu3 hr)) (pv 3) (pv 1) (Ax _))
     (Ah (Xbp hu (pv 2) (pv 3) (A8 (Xos rfl) (by rfl) B.sum (by rfl) (Aa (Gj (N:=NWy1) (cap:=[none,some 2,some 3]) (CompScope.of (defScope s_ways_to) NWy rfl rfl rfl (by decide +kernel)) rfl
      (Cd (Ai FG ca (by rfl) Al (Aa (pv 3) (Aa (pv 1) Ac)))) (λ_ _ _=>A2 (i:=0) (show NWy1.Nodup by decide +kernel) rfl (.inl rfl) (.inr rfl)) (λ_ _ _=>Cw)
      (λ_ _ _=>Xbt (by exact hu) (pv 1) (Ai (by exact FX) (by exact eB) (by rfl) Al (Aa (pv 2) (Aa (pv 0) Ac))) Ag ⟨rfl,rfl,rfl,rfl⟩)) Ac)) rfl)) Be)))
   (Ah (Am (pv 2)))),?_⟩
  have ub:∀{S:Za},isPlotB row S=true->S.Pairwise ltS/\S.Nodup/\S.length<16/\∀y∈S,okN y:=λ{S} hS=>⟨(Bw hS).2,Xe5 hS,by have:=Im hS;omega,λy hy=>R2.ok y ((Bw hS).1 y hy)⟩;obtain⟨lG,uc,ww,pB⟩:=ub hG;intro d nd;have s0:Same H (upd H d (.dT [])):=Same.upd0 nd;refine⟨_,rfl,Ab,g,kOf G,rfl,by rw[Ja];exact s0 _ _ hg,?_⟩;rw[Xgz];generalize wx:upd H d (.dT [(kOf G,V.int 1)])=H1;have s1:Same H H1:=by rw[<-wx];exact Same.upd0 nd
  have iA:H1 d=some (.dT (kvT [G] (wyI row G))):=by
   rw[<-wx,Ab];unfold kvT wyI;rw[Mw,Xow];rfl
  have rg:=tab.same s1;dsimp only[Bi];refine⟨_,rfl,r,row,rfl,s1 _ _ hR,R2,h3,px,rg.a,λl ps Ts H2 nl hl hT bN pw hle h6 b2=>?_⟩;have b2:But T H1 H2:=b2;have ud:=SH.Ak.butT2 rg.b rg.a tab.n.symm b2;have k2:∀{b:ae} {o:HO},H1 b=some o->(∀z,o ≠ .tbl z)->H2 b=some o:=λe n=>b2 _ _ e (Ak.ne rg.a e n);have wm:=k2 (s1 _ _ hR) λz=>by simp
  have o4:=k2 (s1 _ _ hg) λz=>by simp
  have cU:=k2 iA λz=>by simp
  have kw:=Lu pw;have cB:=Xoy R2.two h3 px kw bN;refine⟨ud,λf' c pm cP H3 nf hf hc iN kp=>?_⟩;have b3:But T2 H2 H3:=kp;have k3:∀{b:ae} {o:HO},H2 b=some o->(∀z,o ≠ .tbl z)->H3 b=some o:=λe n=>b3 _ _ e (Ak.ne ud e n);have wz:=k3 o4 λz=>by simp
  have iL:=k3 cU λz=>by simp
  have kE:=k3 hl λz=>by simp
  have qZ:Tups H3 ps Ts:=⟨hT.1,λi hi=>k3 (hT.2 i hi) λz=>by simp⟩;have zf:=SH.Ak.butT2 h6 ud tab.n b3;refine⟨l,f',ps,Ts.map λS=>(Ap S G).length,rfl,rfl,kE,by rw[L5,hT.1],by rw[hT.1];exact cB,?_,λD out H4 nD oN s4 dt=>?_⟩
  ·refine Xoo (k:=1) (j:=1) (x := "one") (y := "goal") (vg:=.ref g) (cg:=s.heap.objs.size+1) hf hc ⟨rfl,rfl,rfl,by decide +kernel,rfl⟩ (by decide +kernel) rfl rfl rfl rfl (.inr (.inl rfl)) rfl (hr.mono (by decide)) (λu=>rfl) λA1 lI CH CI i hi sm zg=>?_;refine⟨_,A8 Bo (by rfl) B.len aQ (Aa (Ai (by exact FG) (by exact zg) (by rfl) Al (Aa (pv 0) (Aa (pv 1) Ac))) Ac),λQ1 kk=>?_⟩;have hS:isPlotB row (Ts.getD i [])=true:=(bN _).mp (SH.Tups.at hT hi);obtain⟨lS,pD,rh,kD⟩:=ub hS;refine⟨_,rfl,_,rfl,_,g,Ts.getD i [],G,rfl,sm _ _ (qZ.2 i hi),sm _ _ wz,pD,uc,rh,ww,λlx Hx zh mP sx=>?_⟩;refine⟨lx,_,rfl,.inl (SqL.of mP),?_⟩;have dR:i<Ts.length:=by rw[<-hT.1];exact hi
   have e:((Ts.map λS=>(Ap S G).length).getD i 0:Nat)=((Ap (Ts.getD i []) G).map V.str).length:=by
    rw[L5];simp[List.getD,dR]
   rw[<-e];exact kk Hx sx
  ·obtain⟨Us,hU,ue,zi⟩:=Xoz qZ (λS=>(Ap S G).length) oN;have pF:=hU.same s4;have pG:=s4 _ _ iL;have uf:=s4 _ _ wz;have zj:Us.Nodup:=ue.nodup_iff.mpr kw;have jK:∀S,S∈Us↔isPlotB row S=true:=λS=>(ue.mem_iff).trans (bN S);have zk:D≠d:=(Aw iL nD).symm;have zl:Us.length<64:=by rw[ue.length_eq];exact cB
   have zm:=SH.Ak.same zf s4;have zn:=SH.Ak.same iN s4
   let Vs:Nat->List (Za):=λi=>G::(Us.take i).filter λS=>decide (S≠G)
   refine⟨D,rfl,⟨_,SqL.of dt⟩,?_⟩;refine Fv (K:=K) (a:=D) (xs:=out.map V.ref) (λi Z H5=>(∃v, Z=[some (.ref r),some (.ref g),some (.ref d),v])/\But d H4 H5/\H5 d=some (.dT (kvT (Vs i) (wyI row G)))) ?_ ?_ ?_ ?_
   ·exact⟨⟨_,rfl⟩,But.refl _ _,pG⟩
   ·rintro i Z H5 _ ⟨_,b5,_⟩;exact SqL.of (b5 _ _ dt zk)
   ·rintro i x Z H5 mG ⟨⟨v,rfl⟩,b5,lK⟩;obtain⟨hi,rfl⟩:=Xn1 mG;have dR:i<Us.length:=by rw[<-pF.1];exact hi
    have h8:=b5 _ _ (pF.2 i hi) (λz=>by have:=pF.2 i hi;rw[z,pG] at this;cases this);have w4:=b5 _ _ uf (λz=>by rw[z,pG] at uf;cases uf);have gI:Us.take (i+1)=Us.take i++[Us.getD i []]:=by
     rw[Mv dR];simp[List.getD,dR]
    have hS:isPlotB row (Us.getD i [])=true:=(jK _).mp (SH.Tups.at pF hi);have pH:∀W,W∈Us->(Ap W G).length<(Ap (Us.getD i []) G).length->W∈Us.take i:=λW hW aR=>by
     obtain⟨j,hj,rfl⟩:=M4.mp hW;have e:Us.getD i []=Us[i]:=by simp[List.getD,dR]
     by_cases z:j<i
     ·exact List.mem_take_iff_getElem.mpr ⟨j,by omega,rfl⟩
     ·by_cases z2:j=i
      ·subst z2;rw[e] at aR;exact absurd aR (Na _)
      ·have:=N2.mp zi i j dR hj (by omega);rw[e] at aR;omega
    have jm:Us.getD i []∉Us.take i:=by
     have h2:(Us.take (i+1)).Nodup:=zj.sublist (Oj ..);rw[gI] at h2;exact λz=>(N3.mp h2).2.2 _ z _ (by simp) rfl
    generalize Us.getD i []=S at h8 gI hS pH jm;obtain⟨lS,pD,rh,kD⟩:=ub hS;dsimp only[Bi];refine⟨_,rfl,_,rfl,_,_,Ea h8,Ea w4,Co _ (Dr kD),Co _ (Dr pB),Xds _ _,_,rfl,?_⟩;rw[Ie kD pB];by_cases e:S=G
    ·rw[Qr e];refine Bt ⟨⟨_,rfl⟩,b5,?_⟩;have:Vs (i+1)=Vs i:=by
      show G::(Us.take (i+1)).filter _=G::(Us.take i).filter _;rw[gI,Ms];simp[e]
     rw[this];exact lK
    ·rw[Qs e];refine Cv ?_;refine⟨_,rfl,_,rfl,_,g,S,G,rfl,h8,w4,pD,uc,rh,ww,λlx H6 zh mP s6=>?_⟩;have ug:=s6 _ _ lK;have mJ:=s6 _ _ h8;refine⟨lx,rfl,⟨_,SqL.of mP⟩,?_⟩;have vY:(Ap S G).length<=32:=by have:=Xml S G;omega
     refine Kl (n:=(Ap S G).length) (by rw[Qo];omega) (λj=>.str ((Ap S G).getD j ah.empty)) (λ_=>true) (λj=>.int ((if isPlotB row (Au S ((Ap S G).getD j ah.empty))=true then wy (isPlotB row) G (Au S ((Ap S G).getD j ah.empty)) else 0:Nat):Int)) ?_ ?_ ?_ ?_ ?_
     ·intro j H7 hj s7;have:=Ep (K:=K) (SqL.of (s7 _ _ mP)) (by rw[L5];exact hj);rw[Cz V.str ah.empty (Ap S G) hj] at this;exact this
     ·intro H7 s7;have:=Er (K:=K) (SqL.of (s7 _ _ mP))
      rwa [L5] at this
     ·exact λj H7 Q' hj s7 kk=>kk H7 (Same.refl _)
     ·intro j H7 Q' hj _ s7 kk;have hx:(Ap S G).getD j ah.empty∈Ap S G:=B8 hj;generalize (Ap S G).getD j ah.empty=x at hx kk ⊢;refine⟨_,rfl,d,rfl,.inr ⟨_,.inl (s7 _ _ ug)⟩,?_⟩;refine⟨_,rfl,_,rfl,_,S,x,rfl,s7 _ _ mJ,pD,rh,λq H8 nq hq s8=>?_⟩;refine⟨_,.inr ⟨_,kOf (Au S x),q,.inl (s8 _ _ (s7 _ _ ug)),rfl,by rw[Ja];exact hq,rfl⟩,?_⟩;rw[Jb];have w5:=Xf6 pD uc hx;by_cases bM:isPlotB row (Au S x)=true
      ·have cO:Au S x∈Vs i:=by
        by_cases z:Au S x=G
        ·exact Mb.mpr (.inl z)
        ·exact L8 _ (Mh.mpr ⟨pH _ ((jK _).mpr bM) (by omega),Qr z⟩)
       rw[Qq cO];rw[Qq bM] at kk;exact kk H8 s8
      ·have cO:Au S x∉Vs i:=λz=>by
        rcases Mb.mp z with z | z
        ·exact bM (by rw[z];exact hG)
        ·exact bM ((jK _).mp (Pd (Mh.mp z).1))
       rw[Qp cO];rw[Qp bM] at kk;exact kk H8 s8
     ·intro L H7 nL s7 hL;refine⟨L,((Ap S G).map λx=>(((if isPlotB row (Au S x)=true then wy (isPlotB row) G (Au S x) else 0:Nat)):Int)),rfl,?_,?_⟩
      ·have q:=congrArg (List.map λx=>V.int ((if isPlotB row (Au S x)=true then wy (isPlotB row) G (Au S x) else 0:Nat):Int)) (Da ah.empty (λ_=>true) (Ap S G));rw[M5,Mu.mpr (λ_ _=>rfl),Mu.mpr (λ_ _=>rfl)] at q;rw[hL,Mu.mpr (λ_ _=>rfl),M5];exact congrArg (λz=>some (HO.lst z)) q
      ·rw[Xf7,<-Xox lS lG e];have zq:=s7 _ _ ug;have fF:(kvT (Vs i) (wyI row G)).length<sizeLine:=by
        rw[Xn3];show ((Us.take i).filter _).length+1<sizeLine;have h1:=Ni (λS=>decide (S≠G)) (Us.take i);have h2:=List.length_take_le i Us;rw[Qo];omega
       refine⟨_,rfl,_,rfl,d,_,rfl,.inr ⟨_,kOf S,_,zq,rfl,by rw[Ja];exact s7 _ _ mJ,fF,rfl⟩,?_⟩;have pk:=s6.trans s7;refine⟨⟨_,rfl⟩,λb o eb nb=>?_,?_⟩
       ·rw[Ad nb];exact pk _ _ (b5 b o eb nb)
       ·rw[Ab];have zr:S∉Vs i:=λz=>by
         rcases Mb.mp z with z | z
         ·exact e z
         ·exact jm (Mh.mp z).1
        have eV:Vs (i+1)=Vs i++[S]:=by
         show G::(Us.take (i+1)).filter _=(G::(Us.take i).filter _)++[S];rw[gI,Ms];simp[e]
        rw[eV,<-Xo0 zr];rfl
   ·rintro Z H5 ⟨⟨v,rfl⟩,b5,lK⟩;rw[L5] at lK;refine⟨_,rfl,?_⟩;have tk:∀S,S∈Vs out.length↔isPlotB row S=true:=λS=>by
     show S∈G::(Us.take out.length).filter _↔_;rw[N0 (by rw[pF.1];exact L7 _),Mb,Mh,jK];by_cases z:S=G
     ·subst z;simp[hG]
     ·simp[z]
    refine k d (Vs out.length) H5 nd lK tk ⟨SH.Ak.but' zm pG (λz=>by simp) (λz=>by simp) b5,SH.Ak.but' zn pG (λz=>by simp) (λz=>by simp) b5,tab.n⟩ λb o eb n1 n2=>?_;exact b5 _ _ (s4 _ _ (b3 _ _ (b2 _ _ (s1 _ _ eb) n1) n2)) (Aw eb nd)
def Xp5:FnScope ["row", "one", "other"] ["row", "one", "other"] (defScope s_walks_many):=by walk_at "s"
def Xp6{f C T T2:ae}{fd:aw}(F:Fun K "walks_many" "walks_many" s_walks_many f fd)(FA:Fn P w K mg base (CX1 P w) 5 "ask_plot" ["row", "plot"] (spAskPlot C))(FW:Fn P w K mg base CX0 6 "ways_to" ["row", "goal"] (Xga T T2 (lamPos s_in_order) (Ef s_ways_to))):
  FnOk P w K mg base (CX1 P w) 7 f fd ["row", "one", "other"] (Xgb C T T2 (lamPos s_in_order) (Ef s_ways_to)):=by
 refine F.ok1 Xp5 (by walk_at "l") ?_
 ·walk_at "i"
  obtain⟨r,p,q,row,a,b,rfl,t2,h3,hd,tab,kq,ke⟩:=h;have hu:=Dm hr;have lR:Room 5 _:=hr.mono (by decide);refine⟨_,Af (Fq (Ai FA lR (by rfl) pass1 (Aa (pv 0) (Aa (pv 1) Ac))))
   (Af (Fq (Ai FA lR (by rfl) pass1 (Aa (pv 0) (Aa (pv 2) Ac))))
   (Ah (Am (B0 hu (Ai FW hr (by rfl) Al (Aa (pv 0) (Aa (pv 2) Ac))) (pv 1) (λ_ _=>rfl))))),?_⟩
  refine⟨_,rfl,_,rfl,r,p,row,a,rfl,t2.hr,t2.r2,t2.hp,t2.oa,t2.la,λha H1 s1=>?_,λha H1 s1=>ke (.inl ha) H1 s1⟩;have t3:=t2.same s1;refine⟨_,rfl,_,rfl,r,q,row,b,rfl,t3.hr,t2.r2,t3.hq,t2.ob,t2.lb,λhb H2 s2=>?_,λhb H2 s2=>ke (.inr hb) H2 (s1.trans s2)⟩;have km:=s1.trans s2;have t4:=t3.same s2;refine⟨_,rfl,_,rfl,r,q,row,b,rfl,t4.hr,t2.r2,h3,hd,tab.same km,t4.hq,hb,λd Us H3 nd iL hU iN b3=>?_⟩;have lQ:=(tab.same km).but3 b3 t4.hp λz=>by simp
  refine⟨_,rfl,d,.int (wyI row b a),rfl,.inr ⟨_,kOf a,p,.inl iL,rfl,by rw[Ja];exact lQ,?_⟩,?_⟩
  ·rw[Jb,Qq ((hU a).mpr ha)]
  ·exact kq ha hb H3 iN λb o e n1 n2=>b3 _ _ (km _ _ e) n1 n2
def Xp7:FnScope ["_law_script"] ["_law_script"] (defScope sBegin):=by walk_at "s"
def Xp8{f:ae}{fd:aw}(F:Fun K "_law_begin" "_law_begin" sBegin f fd)(T:Bl mg):FnOk P w K mg base CX0 1 f fd ["_law_script"] (Xdb K):=by
 refine F.ok Xp7 (by walk_at "l") ?_
 ·walk_at "i"
  obtain⟨a,ns,rfl,hS,hl,k⟩:=h;refine⟨_,Ah (Am (Di (Aa (Ci J5 rfl T.list boot_list (Aa (Cr Cs (pv 0) C9 (Cj Ag)) Ac)) (Aa Ag (Aa Ag (Aa Ag (Aa Ag Ac))))))),?_⟩;refine⟨_,rfl,_,rfl,a,_,rfl,hS,λp hp=>?_⟩;have zt:B4 (ns.map V.int) none (some 63)=ns.map V.int:=by
   unfold B4;rw[HT.sIx_none,List.drop_zero,show (some (63:Int))=some ((63:Nat):Int) from rfl,HT.sIx_nat];exact N0 (by rw[L5];omega)
  rw[zt];refine⟨p,_,rfl,.inl (SqL.of Ab),λq hq=>?_⟩;refine⟨by show 5<=sizeLine;decide,λdr kG=>?_⟩;have w6:p≠q:=Aw (o:=.lst (ns.map V.int)) Ab hq;have lU:q≠dr:=Aw (o:=.lst (ns.map V.int)) Ab kG;have w9:H q=none:=by rw[Ad w6.symm] at hq;exact hq
  have zu:p≠dr:=Aw (H:=upd (upd H p (.lst (ns.map V.int))) q (.lst (ns.map V.int))) (o:=.lst (ns.map V.int)) (by rw[Ad w6,Ab]) kG;have wA:H dr=none:=by rw[Ad lU.symm,Ad zu.symm] at kG;exact kG
  refine k dr q _ wA w9 ⟨⟨ns,0,0,1,0,Ab,by rw[Ad lU,Ab],M3 _,hl,by decide,by decide⟩⟩ ((((Same.refl H).upd hp).upd w9).upd wA)
def L1:FnScope NP ["_law_draw", "_law_many"] (defScope sPick):=by walk_at "s"
def Xp9{f:ae}{fd:aw}(F:Fun K "_law_pick" "_law_pick" sPick f fd)(T:Bl mg):FnOk P w K mg base CX0 1 f fd ["_law_draw", "_law_many"] Xdc:=by
 refine F.ok L1 (by walk_at "l") ?_
 ·walk_at "i"
  obtain⟨dr,sc,n,rfl,pI,vD,⟨ns,p,c,m,k,hd,hs,hp,hl,wB,lv⟩,kk⟩:=h;have pJ:dr≠sc:=by
   intro e;subst e;rw[hd] at hs;cases ns with
   | nil=>cases hs
   | cons a r=>cases hs
  refine Xj7 (fun Z' H'=>∃x y p c m, Z'=[some (.ref dr),some (.int n),x,y]/\H' dr=some (.lst [.ref sc,.int (p:Nat),.int c,.int m,.int k])/\p<=ns.length/\0<=m/\m<1000000007/\∀b o,H b=some o->b≠dr->H' b=some o) ?_ ?_
  ·-- zv rest
   refine⟨_,Af (Bc (Az Xas (Ay Bg (pv 0) Ag (λ_ _=>rfl)) (pv 1) (Ax _))
     (Af (Aq (i:=3) L1.nd rfl (.inl rfl) (Ao Fb (Ay Bg (pv 0) Ag (λ_ _=>rfl)) (pv 1)))
     (Af (C7 (Ao Xam (Ay Bg (pv 0) Ag (λ_ _=>rfl)) (pv 1)) (Dh (pv 0) Ag Dj))
     (Ah (Am (pv 3))))) Be)
    (Af (C7 (Ao Bs (Ay Bg (pv 0) Ag (λ_ _=>rfl)) Ag) (Dh (pv 0) Ag Dj))
    (Af (C7 (Ao Fb (Ao Bs (Ao Bs (Ao Xan (Ay Bg (pv 0) Ag (λ_ _=>rfl)) Ag) (Ao Xal Ag (Ay Bg (pv 0) Ag (λ_ _=>rfl)))) Ag) Ag) (Dh (pv 0) Ag Dj))
    (Ah (Am (Ao Fb (Ao Xam (Ay Bg (pv 0) Ag (λ_ _=>rfl)) Ag) (pv 1)))))),?_⟩
   rintro Z' H' ⟨x,y,p,c,m,rfl,fO,kZ,pL,pO,kp⟩;refine⟨_,rfl,dr,_,_,_,rfl,rfl,SqL.of fO,rfl,_,rfl,_,_,rfl,rfl,_,rfl,?_⟩;refine Av (λhc=>?_) (λhc=>?_)
   ·-- CJ
    refine⟨_,rfl,dr,_,_,_,rfl,rfl,SqL.of fO,rfl,_,rfl,_,_,rfl,rfl,pI,?_⟩;refine⟨_,rfl,dr,_,_,_,rfl,rfl,SqL.of fO,rfl,_,rfl,_,_,rfl,rfl,⟨pI,by omega⟩,?_⟩;refine⟨_,rfl,dr,_,_,2,rfl,rfl,fO,rfl,?_⟩;refine⟨_,rfl,?_⟩;refine kk _ _ (Pn _ (by omega)) (O6 _ pI) ⟨⟨ns,p,c / n,m,k,Ab,?_,kZ,hl,pL,pO⟩⟩ λb o e hb=>by rw[Ad hb];exact kp b o e hb
    rw[Ad pJ.symm];exact kp _ _ hs pJ.symm
   ·refine⟨_,rfl,dr,_,_,_,rfl,rfl,SqL.of fO,rfl,_,_,rfl,rfl,?_⟩;refine⟨_,rfl,dr,_,_,4,rfl,rfl,fO,rfl,?_⟩;refine⟨_,rfl,dr,_,_,_,rfl,rfl,SqL.of Ab,rfl,_,_,rfl,rfl,cpow3 pL pO,?_⟩;refine⟨_,rfl,dr,_,_,_,rfl,rfl,SqL.of Ab,rfl,_,_,rfl,rfl,.inl ⟨by decide,by decide⟩,_,_,rfl,rfl,_,_,rfl,rfl,_,_,rfl,rfl,(by show (0:Int)<1000000007;decide),?_⟩;refine⟨_,rfl,dr,_,_,3,rfl,rfl,Ab,rfl,?_⟩;refine⟨_,rfl,dr,_,_,_,rfl,rfl,SqL.of Ab,rfl,_,_,rfl,rfl,⟨by decide,by decide⟩,_,rfl,_,_,rfl,rfl,pI,?_⟩;refine kk _ _ (Pn _ (by omega)) (O6 _ pI) ⟨⟨ns,p,c,_,k+1,Ab,?_,kZ,hl,Pn _ (by decide),O6 _ (by decide)⟩⟩ λb o e hb=>by rw[Ad hb,Ad hb];exact kp b o e hb
    rw[Ad pJ.symm,Ad pJ.symm];exact kp _ _ hs pJ.symm
  ·intro nx jm;refine⟨_,Bc (E8 (Az Cg (Ay Bg (pv 0) Ag (λ_ _=>rfl)) (pv 1) (Ax _)) (E7 (Az Cg (Ay Bg (pv 0) Ag (λ_ _=>rfl)) (A8 Bo (by rfl) T.len aQ (Aa (Ay Bg (pv 0) Ag (λ_ _=>rfl)) Ac)) (Ax _)))).pt
     (Af (Aq (i:=2) L1.nd rfl (.inl rfl) (Ay Bg (Ay Bg (pv 0) Ag (λ_ _=>rfl)) (Ay Bg (pv 0) Ag (λ_ _=>rfl)) (λ_ _=>rfl)))
     (Af (C7 (Ao Bs (Ay Bg (pv 0) Ag (λ_ _=>rfl)) Ag) (Dh (pv 0) Ag Dj))
     (Af (C7 Ag (Dh (pv 0) Ag Dj))
     (Ah (Bc (Az Xas (pv 2) (Ao Xan Ag Ag) (Ax _))
      (Ah (C7 (pv 2) (Dh (pv 0) Ag Dj)))
      (Ah (C7 (Ao Fb (Ao Bs (Ay Bg (pv 0) Ag (λ_ _=>rfl)) (pv 2)) Ag) (Dh (pv 0) Ag Dj)))))))) Be,?_⟩
   refine⟨_,rfl,dr,_,_,_,rfl,rfl,SqL.of hd,rfl,_,rfl,_,_,rfl,rfl,_,rfl,?_⟩;have skip:nx [some (.ref dr),some (.int n),none,none] H:=jm _ _ ⟨none,none,p,c,m,rfl,hd,hp,wB,lv,λb o e _=>e⟩;refine Av (λ_=>?_) (λ_=>Bt skip);refine⟨_,rfl,dr,_,_,_,rfl,rfl,SqL.of hd,rfl,_,rfl,dr,_,_,_,rfl,rfl,SqL.of hd,rfl,sc,_,rfl,.inl (SqL.of hs),_,_,rfl,rfl,_,rfl,?_⟩;refine Av (λaR=>?_) (λ_=>skip);have lF:(p:Int)<((ns.map V.int).length:Nat):=Qt aR;rw[L5] at lF;have bM:p<ns.length:=by omega
   have iJ:(ns.map V.int)[p]? = some (.int (ns[p]'bM)):=by rw[Mt,L6 bM];rfl
   refine⟨_,rfl,dr,_,_,_,rfl,rfl,SqL.of hd,rfl,_,rfl,dr,_,_,_,rfl,rfl,SqL.of hd,rfl,sc,_,_,_,rfl,rfl,SqL.of hs,Dy iJ,?_⟩;refine⟨_,rfl,dr,_,_,_,rfl,rfl,SqL.of hd,rfl,_,_,rfl,rfl,?_⟩;refine⟨_,rfl,dr,_,_,1,rfl,rfl,hd,rfl,?_⟩;refine⟨_,rfl,dr,_,_,2,rfl,rfl,Ab,rfl,?_⟩;refine⟨_,rfl,_,_,rfl,rfl,⟨by decide,by decide,by decide⟩,_,_,rfl,rfl,_,rfl,?_⟩;refine Av (λ_=>?_) (λ_=>?_)
   ·refine⟨_,rfl,_,rfl,dr,_,_,2,rfl,rfl,Ab,rfl,?_⟩;refine jm _ _ ⟨_,none,p+1,_,m,rfl,Ab,bM,wB,lv,λb o e hb=>by rw[Ad hb,Ad hb,Ad hb];exact e⟩
   ·refine⟨_,rfl,dr,_,_,_,rfl,rfl,SqL.of Ab,rfl,_,rfl,_,_,rfl,rfl,_,_,rfl,rfl,(by show (0:Int)<1000000007;decide),?_⟩;refine⟨_,rfl,dr,_,_,3,rfl,rfl,Ab,rfl,?_⟩;refine jm _ _ ⟨_,none,p+1,_,_,rfl,Ab,bM,Pn _ (by decide),O6 _ (by decide),λb o e hb=>by rw[Ad hb,Ad hb,Ad hb];exact e⟩
def Xgo:FnScope NPut ["_law_row_here", "_law_name", "_law_at", "_law_to"] (defScope sPut):=by walk_at "s"
def Xqa{f:ae}{fd:aw}(F:Fun K "_law_put" "_law_put" sPut f fd):FnOk P w K mg base CX0 1 f fd ["_law_row_here", "_law_name", "_law_at", "_law_to"] Xde:=by
 refine F.ok Xgo (by walk_at "l") ?_
 ·walk_at "i"
  obtain⟨r,row,x,a,b,rfl,hR,hl,jd,hb,k⟩:=h;refine⟨_,Af (Aq (i:=4) Xgo.nd rfl (.inl rfl) (Ao B5 (Ao B5 (Cr Cs (pv 0) C9 (Cj (pv 2))) (Di (Aa (pv 1) Ac))) (Cr Cs (pv 0) (Cj (pv 2)) (Cj (pv 3)))))
   (Ah (Am (Ao B5 (Ao B5 (pv 4) (Di (Aa (pv 1) Ac))) (Cr Cs (pv 0) (Cj (pv 3)) C9)))),?_⟩
  have gr:∀n,n<=100000->n<=sizeLine:=λn h=>by rw[Qo];omega
  refine⟨_,rfl,_,rfl,_,rfl,r,_,rfl,SqL.of hR,λp1 n1=>?_⟩;rw[Hm _ _ _ (by omega)];refine⟨_,rfl,by show 1<=sizeLine;decide,λp2 n2=>?_⟩;refine⟨p1,p2,_,_,rfl,rfl,ku Ab n2,Ab,gr _ (by simp;omega),λp3 n3=>?_⟩;refine⟨_,rfl,_,rfl,_,rfl,_,rfl,_,rfl,r,_,rfl,SqL.of (ku (ku (ku hR n1) n2) n3),λp4 n4=>?_⟩;rw[Xj8 _ _ _ _ jd hb];refine⟨p3,p4,_,_,rfl,rfl,ku Ab n4,Ab,gr _ (by simp;omega),λp5 n5=>?_⟩;refine⟨_,rfl,_,rfl,by show 1<=sizeLine;decide,λp6 n6=>?_⟩;refine⟨p5,p6,_,_,rfl,rfl,ku Ab n6,Ab,gr _ (by simp;omega),λp7 n7=>?_⟩;refine⟨_,rfl,_,rfl,_,rfl,r,_,rfl,SqL.of (ku (ku (ku (ku (ku (ku (ku hR n1) n2) n3) n4) n5) n6) n7),λp8 n8=>?_⟩;rw[Gg _ _ _ hb];refine⟨p7,p8,_,_,rfl,rfl,ku Ab n8,Ab,gr _ (by simp;omega),λp9 n9=>?_⟩;have s8:=((((((((Same.refl H).go n1 n2).go n2 n3).go n3 n4).go n4 n5).go n5 n6).go n6 n7).go n7 n8).go n8 n9;refine k p9 _ (s8.free n9) (Ab.trans ?_) (s8.step n9);unfold D8;simp
def L3:FnScope NWh ["_law_row_here"] (defScope sWhere):=by walk_at "s"
def Xqb{f:ae}{fd:aw}(F:Fun K "_law_where" "_law_where" sWhere f fd)(T:Bl mg):FnOk P w K mg base CX0 1 f fd ["_law_row_here"] Xdh:=by
 refine F.ok L3 (by walk_at "l") ?_
 ·walk_at "i"
  obtain⟨r,row,rfl,hR,hl,k⟩:=h;have hu:=Dm hr;refine⟨_,Af (Aq (i:=1) L3.nd rfl (.inl rfl) Xbr)
   (Af (Ce bo.never rfl (Ft rfl T.range (Aa (A8 Bo (by rfl) T.len aQ (Aa (pv 0) Ac)) Ac)) (A2 (i:=2) L3.nd rfl (.inl rfl))
    (Ah (Xbp hu (pv 1) (Ay Bg (pv 0) (pv 2) (λ_ _=>rfl))
     (Ao B5 (Xbt hu (pv 1) (Ay Bg (pv 0) (pv 2) (λ_ _=>rfl)) (Di Ac) ⟨rfl,rfl,rfl,rfl⟩) (Di (Aa (pv 2) Ac))) rfl)))
   (Ah (Am (pv 1)))),?_⟩
  intro d nd;have s0:Same H (upd H d (.dK [])):=(Same.refl H).step nd;refine⟨_,rfl,r,_,rfl,.inl (SqL.of (s0 _ _ hR)),((row.map V.str).length:Int),rfl,by omega,by rw[L5];omega,?_⟩;have hn:((row.map V.str).length:Int).toNat=row.length:=by rw[L5];simp
  rw[hn];refine Fw (lo:=0) (n:=row.length) (λi Z H2=>∃kvs v, Z=[some (.ref r),some (.ref d),v]/\Same H H2/\H2 d=some (.dK kvs)/\Wh H2 kvs (row.take i)) ?_ ?_ ?_
  ·exact⟨[],none,rfl,s0,Ab,⟨λk hk=>by simp at hk,λx hx=>by simp at hx,λ_ _=>rfl,by simp,by simp⟩⟩
  ·rintro i Z H2 hi ⟨kvs,v,rfl,s2,hd,wh⟩;have iJ:(row.map V.str)[i]? = some (.str (row[i]'hi)):=by rw[Mt,L6 hi];rfl
   have jL:atI (row.map V.str) (0+(i:Int))=some (.str (row[i]'hi)):=by rw[Ql];exact Dy iJ
   have tk:row.take (i+1)=row.take i++[row[i]'hi]:=by rw[Mv hi]
   have kl:=wh.len;rw[Nd] at kl;have ll:(plc (row.take i) (row[i]'hi)).length<=1000:=by
    rw[Kt];have:=List.count_le_length (a:=row[i]'hi) (l:=row.take i);rw[Nd] at this;omega
   have gr:∀n,n<=100000->n<=sizeLine:=λn h=>by rw[Qo];omega
   refine⟨_,rfl,d,rfl,.inl ⟨kvs,.inl hd⟩,_,rfl,_,rfl,r,_,_,_,rfl,rfl,SqL.of (s2 _ _ hR),jL,by show 0<=sizeLine;decide,λp1 n1=>?_⟩;refine⟨_,DGet.k (k:=Sum.inr (row[i]'hi)) (ku hd n1),?_⟩;obtain⟨q,xs,e1,hq,f8⟩:∃q xs,(An kvs (Sum.inr (row[i]'hi):Key)).getD (V.ref p1)=V.ref q/\upd H2 p1 (.lst []) q=some (.lst (xs.map V.int))/\plc (row.take i) (row[i]'hi)=xs:=by
    by_cases hx:row[i]'hi∈row.take i
    ·obtain⟨l,e1,e2⟩:=wh.val _ hx;exact⟨l,_,by rw[e1];rfl,ku e2 n1,rfl⟩
    ·refine⟨p1,[],by rw[wh.none _ hx];rfl,Ab,?_⟩;have:(plc (row.take i) (row[i]'hi)).length=0:=by rw[Kt];exact Ox.mpr hx
     exact Nn.mp this
   have mP:xs.length<=1000:=by rw[<-f8];exact ll
   rw[e1];refine⟨_,rfl,by show 1<=sizeLine;decide,λp2 n2=>?_⟩;refine⟨q,p2,_,_,rfl,rfl,ku hq n2,Ab,gr _ (by simp;omega),λp3 n3=>?_⟩;refine⟨_,rfl,_,rfl,_,rfl,r,_,_,_,rfl,rfl,SqL.of (ku (ku (ku (s2 _ _ hR) n1) n2) n3),jL,?_⟩;have cU:=ku (u:=.lst [V.int (0+(i:Int))]) (ku (u:=.lst []) hd n1) n2;have iL:=ku (u:=.lst (xs.map V.int++[V.int (0+(i:Int))])) cU n3;refine⟨d,_,rfl,DPut.k (k:=Sum.inr (row[i]'hi)) iL (by rw[Qo];omega),_,_,rfl,?_,Ab,?_⟩
   ·have s3:=((s2.go n1 n2).go n2 n3).step (o:=.lst (xs.map V.int++[V.int (0+(i:Int))])) n3;exact s3.upd nd
   ·rw[tk];refine wh.snoc _ p3 ?_ λb ys e=>?_
    ·have ne:p3≠d:=(Aw cU n3).symm;rw[Ad ne,Ab,Ku,Qq rfl,f8,Mn,Nd,O8 (O2 hi)];simp
    ·have ne:b≠d:=λz=>by rw[z,hd] at e;cases e
     rw[Ad ne];exact ku (ku (ku e n1) n2) n3
  ·rintro Z H2 ⟨kvs,v,rfl,s2,hd,wh⟩;rw[Oe] at wh;exact⟨_,rfl,k d kvs H2 nd hd wh s2⟩
def Jh:FnScope NWo ["_law_where_here", "_law_one_here", "_law_other"] (defScope sWord):=by walk_at "s"
def Xqc{f:ae}{fd:aw}(F:Fun K "_law_word" "_law_word" sWord f fd)(T:Bl mg):FnOk P w K mg base CX0 1 f fd ["_law_where_here", "_law_one_here", "_law_other"] spWord:=by
 refine F.ok Jh (by walk_at "l") ?_
 ·walk_at "i"
  obtain⟨d,l1,l2,kvs,x,y,a,b,c,e,rfl,hd,v1,v2,h1,h2,k⟩:=h;have hu:=Dm hr;refine⟨_,Af (C7 (B0 hu (pv 0) (pv 1) (λ_ _=>rfl)) (Xi0 rfl (C6 (A2 (i:=3) Jh.nd rfl (.inr rfl)) (C6 (A2 (i:=4) Jh.nd rfl (.inr rfl)) Fs))))
   (Af (Ht (i:=5) (N:=["_law_at", "_law_high", "_law_low"]) (cap:=[none,some 4,some 3]) (CompScope.of (defScope sWord) NWo rfl rfl rfl (by decide +kernel)) rfl Jh.nd rfl rfl
     (Cd (B0 hu (pv 0) (pv 2) (λ_ _=>rfl))) (λ_ _ _=>A2 (i:=0) (show (["_law_at", "_law_high", "_law_low"]:Za).Nodup by decide +kernel) rfl (.inl rfl) (.inr rfl))
     (λ_ _ _=>Fg (E8 (Az Cg (pv 2) (pv 0) (Ax _)) (E7 (Az Cg (pv 0) (pv 1) (Ax _)))).pt) (λ_ _ _=>pv 0))
   (Af (Bc (Xag (Az C8 (pv 1) (pv 2) (Ax _)) (Xaf (Az Xar (A8 Bo (by rfl) T.len aQ (Aa (pv 5) Ac)) Ag (Ax _)))).pt
    (Ah (Am (Ay J4 (B3 (Aa Bm (Aa Bm (Aa Bm Ac)))) (A8 Bo (by rfl) T.len aQ (Aa (pv 5) Ac)) (λ_ _=>rfl)))) Be)
   (Ah (Am (Jm (E8 (Az Cg (Ay Bg (B0 hu (pv 0) (pv 2) (λ_ _=>rfl)) Ag (λ_ _=>rfl)) (pv 3) (Ax _)) (E7 (Az Cg (pv 4) (Ay Bg (B0 hu (pv 0) (pv 2) (λ_ _=>rfl)) Ag (λ_ _=>rfl)) (Ax _)))).pt Bm Bm))))),?_⟩
  refine⟨_,rfl,_,rfl,d,_,rfl,DGet.rd hd v1,l1,_,rfl,SqL.of h1,rfl,?_⟩;refine⟨_,_,rfl,_,_,rfl,rfl,?_⟩;refine⟨_,rfl,_,rfl,d,_,rfl,DGet.rd hd v2,l2,rfl,⟨_,SqL.of h2⟩,?_⟩;refine F5 (n:=2) (λi=>([V.int c,V.int e]:List V).getD i .non) (λD i Z2 H2=>∃v, Z2=[v,some (.int b),some (.int a)]/\Same H H2/\H2 D=some (.lst ((inn a b (([c,e]:List Int).take i)).map V.int))) ?_ ?_ ?_ ?_ ?_
  ·intro D hD;exact⟨none,rfl,(Same.refl H).step hD,Ab⟩
  ·rintro D i Z2 H2 hD hi ⟨v,rfl,s2,hl⟩;exact Ep (SqL.of (s2 _ _ h2)) hi
  ·rintro D Z2 H2 hD ⟨v,rfl,s2,hl⟩;exact Er (SqL.of (s2 _ _ h2))
  ·rintro D i Z2 H2 hD hi ⟨v,rfl,s2,hl⟩;obtain⟨t,jI,o5⟩:∃t,([V.int c,V.int e]:List V).getD i .non = .int t/\([c,e]:List Int).take (i+1)=([c,e]:List Int).take i++[t]:=by
    match i,hi with
    | 0,_=>exact⟨c,rfl,rfl⟩
    | 1,_=>exact⟨e,rfl,rfl⟩
   rw[jI];have i5:(inn a b (([c,e]:List Int).take i)).length<=2:=M8 (Kv ..) (by rw[Nd];simp;omega);refine⟨_,rfl,_,rfl,_,_,rfl,rfl,_,rfl,?_⟩;refine Av (λq1=>?_) (λq1=>Bt (wskip hi ⟨_,rfl,s2,?_⟩))
   ·refine⟨_,rfl,_,rfl,_,_,rfl,rfl,_,rfl,?_⟩;refine Av (λq2=>?_) (λq2=>wskip hi ⟨_,rfl,s2,?_⟩)
    ·refine⟨_,rfl,wput hi hl (by rw[L5,Qo];omega) ⟨_,rfl,?_,?_⟩⟩
     ·intro b' o e';rw[Ad (Aw e' hD)];exact s2 b' o e'
     ·rw[Ab,o5];unfold inn;rw[Ms,Mn,M7,Qq (by rw[q1,q2];rfl)];rfl
    ·rw[hl,o5];unfold inn;rw[Ms,M7,Qp (by rw[q1,q2];decide)];simp
   ·rw[hl,o5];unfold inn;rw[Ms,M7,Qp (by rw[q1];simp)];simp
  ·rintro D Z2 H2 hD ⟨v,rfl,s2,hl⟩;have m8:H2 D=some (.lst ((inn a b [c,e]).map V.int)):=hl;have i5:(inn a b [c,e]).length<=2:=Kv ..;have kH:∀p,H2 p=none->atI ([V.str "same",V.str "cross",V.str "around"]:List V) (((inn a b [c,e]).map V.int).length:Int)=some (.str (words3.getD (inn a b [c,e]).length "apart")):=λp _=>by
    rw[L5];generalize (inn a b [c,e]).length=n at i5
    match n,i5 with
    | 0,_=>rfl
    | 1,_=>rfl
    | 2,_=>rfl
   have pQ:(decide (x=y)||decide (0<(inn a b [c,e]).length))=true->∀p,H2 p=none->∀H',Same H H'->Q (.str (words3.getD (inn a b [c,e]).length "apart")) H':=λhc p _ H' s'=>by
    have:=k H' s';unfold Db at this;rw[Qq hc] at this;exact this
   refine⟨_,rfl,_,rfl,rfl,_,rfl,?_⟩;refine Av (λq1=>?_) (λq1=>?_)
   ·refine Cv ⟨by show 3<=sizeLine;decide,λp hp=>?_⟩;refine⟨_,rfl,D,_,rfl,.inl (SqL.of (ku m8 hp)),p,_,_,_,rfl,rfl,SqT.of Ab,kH p hp,?_⟩;refine pQ ?_ p hp _ (s2.step hp);have lH:decide (x=y)=true:=by
     have:=Qt q1;injection this with this
     exact Qr this
    rw[lH];rfl
   ·refine⟨_,rfl,D,_,rfl,.inl (SqL.of m8),_,_,rfl,rfl,_,rfl,?_⟩;have lH:decide (x=y)=false:=by
     have:=Qu q1;exact Qs λz=>this (by rw[z])
    refine Av (λq2=>?_) (λq2=>?_)
    ·have uh:0<(inn a b [c,e]).length:=by
      have:=Qt q2;rw[L5] at this;omega
     refine⟨by show 3<=sizeLine;decide,λp hp=>?_⟩;refine⟨_,rfl,D,_,rfl,.inl (SqL.of (ku m8 hp)),p,_,_,_,rfl,rfl,SqT.of Ab,kH p hp,?_⟩;exact pQ (by rw[Qr uh,Bool.or_true]) p hp _ (s2.step hp)
    ·have uh:¬ 0<(inn a b [c,e]).length:=by
      have:=Qu q2;rw[L5] at this;omega
     have lV:∀z:ah,(if c<a/\b<e then ("within" : ah) else "apart")=z->Q (.str z) H2:=λz hz=>by
      have:=k H2 s2;unfold Db at this;rw[Qp (by rw[lH,Qs uh];decide),hz] at this;exact this
     refine⟨_,rfl,_,rfl,d,_,rfl,DGet.rd (Rd.same hd s2) v2,l2,_,_,_,rfl,rfl,SqL.of (s2 _ _ h2),rfl,_,rfl,_,_,rfl,rfl,_,rfl,?_⟩;refine Av (λq3=>?_) (λq3=>?_)
     ·refine⟨_,rfl,_,rfl,_,rfl,d,_,rfl,DGet.rd (Rd.same hd s2) v2,l2,_,_,_,rfl,rfl,SqL.of (s2 _ _ h2),rfl,_,_,rfl,rfl,_,rfl,?_⟩;refine Av (λq4=>?_) (λq4=>?_)
      ·exact lV _ (Qq ⟨Qt q3,Qt q4⟩)
      ·exact lV _ (Qp λz=>Qu q4 z.2)
     ·exact Bt (lV _ (Qp λz=>Qu q3 z.1))
def G1:FnScope NBa ["_law_row_here", "_law_name"] (defScope sBarred):=by walk_at "s"
def Xqd{f:ae}{fd:aw}(F:Fun K "_law_barred" "_law_barred" sBarred f fd)(T:Bl mg)(FW:Fn P w K mg base CX0 1 "_law_where" ["_law_row_here"] Xdh)
  (FO:Fn P w K mg base CX0 1 "_law_word" ["_law_where_here", "_law_one_here", "_law_other"] spWord):FnOk P w K mg base CX0 2 f fd ["_law_row_here", "_law_name"] spBarredN:=by
 refine F.ok G1 (by walk_at "l") ?_
 ·walk_at "i"
  obtain⟨r,row,x,rfl,hR,hl,h2,hx,k⟩:=h;have hu:=Dm hr;refine⟨_,Af (Aq (i:=2) G1.nd rfl (.inr rfl) (Ai FW hr rfl Al (Aa (pv 0) Ac)))
   (Af (Ht (i:=3) (N:=NBc) (cap:=[none,some 1,some 2]) (CompScope.of (defScope sBarred) NBa rfl rfl rfl (by decide +kernel)) rfl G1.nd rfl rfl
     (Xi7 (pv 2)) (λ_ _ _=>A2 (i:=0) (show NBc.Nodup by decide +kernel) rfl (.inl rfl) (.inr rfl))
     (λ_ _ _=>Fg (Az C8 (Ai FO hr rfl Al (Aa (pv 2) (Aa (pv 1) (Aa (pv 0) Ac)))) Bm (Ax _))) (λ_ _ _=>pv 0))
   (Af (Ce bo.never rfl (Ft rfl T.range (Aa (A8 Bo (by rfl) T.len aQ (Aa (pv 3) Ac)) Ac)) (A2 (i:=4) G1.nd rfl (.inl rfl))
    (Ah (Ce bo.never rfl (Cd (Cr Cs (pv 3) (Cj (Ao Bs (pv 4) Ag)) C9)) (A2 (i:=5) G1.nd rfl (.inl rfl))
     (Ah (Bc (Az C8 (Ai FO hr rfl Al (Aa (pv 2) (Aa (Ay Bg (pv 3) (pv 4) (λ_ _=>rfl)) (Aa (pv 5) Ac)))) Bm (Ax _)) (Ah (Am Ei)) Be)))))
   (Ah (Am Ei)))),?_⟩
  refine⟨_,rfl,r,row,rfl,hR,hl,λd kvs H1 nd hd wh s1=>?_⟩;refine⟨_,rfl,d,kvs,rfl,hd,λo=>?_⟩;generalize iK:upd H1 d (.frz o (.dK kvs))=H2;have s2:Same H H2:=λb u e=>by rw[<-iK,Ad (Aw e nd)];exact s1 b u e
  have cU:H2 d=some (.frz o (.dK kvs)):=by rw[<-iK];exact Ab
  have rj:Wh H2 kvs row:=⟨wh.keys,λy hy=>let ⟨l,e1,e2⟩:=wh.val y hy; ⟨l,e1,by rw[<-iK,Ad (λz=>by rw[z,hd] at e2;cases e2)];exact e2⟩,wh.none,wh.nd,wh.len⟩;have iF:=wh.len;refine F5 (n:=kvs.length) (λi=>(kvs.map λp=>kV p.1).getD i .non) (λD i Z2 H3=>∃(v:Option V) (ms:Za), Z2=[v,some (.str x),some (.ref d)]/\Same H2 H3/\H3 D=some (.lst (ms.map V.str))/\(∀m∈ms,m∈row)/\ms.length<=i/\∀(j:Nat) (y:ah),j<i->(kvs.map λp=>kV p.1).getD j .non = .str y->Ar row x y->y∈ms) ?_ ?_ ?_ ?_ ?_
  ·intro D hD;exact⟨none,[],rfl,(Same.refl H2).step hD,Ab,by simp,L7 _,λj y h=>absurd h (Nj _)⟩
  ·rintro D i Z2 H3 hD hi ⟨v,ms,rfl,s3,hm,cO,ui,bN⟩;exact F6 (s3 _ _ cU) hi
  ·rintro D Z2 H3 hD ⟨v,ms,rfl,s3,hm,cO,ui,bN⟩;exact F7 (s3 _ _ cU)
  ·rintro D i Z2 H3 hD hi ⟨v,ms,rfl,s3,hm,cO,ui,bN⟩;obtain⟨y,i7,jg⟩:∃y,(kvs.map λp=>kV p.1).getD i .non = .str y/\y∈row:=by
    obtain⟨y,e1,e2⟩:=wh.keys (kvs[i]'hi).1 (Mo.mpr ⟨kvs[i]'hi,Mz hi,rfl⟩);refine⟨y,?_,e2⟩;simp only[List.getD,Mt,L6 hi,O1,Option.getD_some];rw[e1];rfl
   rw[i7];obtain⟨l1,e1,g1⟩:=rj.pl hx (h2 x hx);obtain⟨l2,e2,g2⟩:=rj.pl jg (h2 y jg);refine⟨_,rfl,_,rfl,_,rfl,d,l1,l2,kvs,x,y,_,_,_,_,rfl,.inr ⟨o,s3 _ _ cU⟩,e1,e2,s3 _ _ g1,s3 _ _ g2,λH4 s4=>?_⟩;have wC:=s3.trans s4;refine⟨rfl,_,rfl,?_⟩;rw[<-Gm (h2 x hx) (h2 y jg)];refine Av (λhc=>?_) (λhc=>wskip hi ⟨_,ms,rfl,wC,s4 _ _ hm,cO,by omega,λj z hj hz kz=>?_⟩);rotate_left
   ·by_cases ej:j=i
    ·subst ej;rw[i7] at hz;injection hz with hz
     subst hz;exact absurd (by rw[show lieR row x y = "cross" from kz]) (Xd0 hc)
    ·exact bN j z (by omega) hz kz
   refine⟨_,rfl,wput hi (s4 _ _ hm) (by rw[L5,Qo];omega) ⟨_,ms++[y],rfl,?_,by rw[Ab,Mn];rfl,?_,by rw[Mg,Nh];omega,λj z hj hz kz=>?_⟩⟩
   ·intro b u e;rw[Ad (Aw e hD)];exact wC b u e
   ·intro m hm;rcases Mm.mp hm with z | z
    ·exact cO m z
    ·rw[Mi.mp z];exact jg
   ·by_cases ej:j=i
    ·subst ej;rw[i7] at hz;injection hz with hz
     subst hz;simp
    ·exact Nz _ (bN j z (by omega) hz kz)
  ·rintro D Z2 H3 hD ⟨v,ms,rfl,s3,hm,cO,ui,bN⟩;refine⟨_,rfl,D,_,rfl,.inl (SqL.of hm),((ms.map V.str).length:Int),rfl,by omega,by rw[L5];omega,?_⟩;have hn:((ms.map V.str).length:Int).toNat=ms.length:=by rw[L5];simp
   rw[hn];refine Fw (lo:=0) (n:=ms.length) (λi Z H4=>∃v1 v2, Z=[some (.ref r),some (.str x),some (.ref d),some (.ref D),v1,v2]/\Same H3 H4/\∀(p q:Nat) (y z:ah),p<i->p<q->ms[p]? = some y->ms[q]? = some z->¬Ar row y z) ?_ ?_ ?_
   ·exact⟨none,none,rfl,Same.refl _,λp q y z h=>absurd h (Nj _)⟩
   ·rintro i Z H4 hi ⟨v1,v2,rfl,s4,ho⟩;refine⟨_,rfl,_,rfl,_,_,rfl,rfl,_,rfl,D,_,rfl,SqL.of (s4 _ _ hm),λp np=>?_⟩;have e0:(0:Int)+(i:Int)+1=((i+1:Nat):Int):=by omega
    rw[e0,Gg _ _ _ (by omega)];have s5:Same H3 (upd H4 p (.lst ((ms.drop (i+1)).map V.str))):=s4.step np;refine⟨p,rfl,⟨_,SqL.of Ab⟩,?_⟩;refine Fv (K:=K) (a:=p) (xs:=(ms.drop (i+1)).map V.str) (λj Z H5=>∃v2, Z=[some (.ref r),some (.str x),some (.ref d),some (.ref D),some (.int (0+(i:Int))),v2]/\Same (upd H4 p (.lst ((ms.drop (i+1)).map V.str))) H5/\∀(q:Nat) (z:ah),q<j->ms[i+1+q]? = some z->¬Ar row (ms[i]'hi) z) ?_ ?_ ?_ ?_
    ·exact⟨_,rfl,Same.refl _,λq z h=>absurd h (Nj _)⟩
    ·rintro j Z H5 _ ⟨v2,rfl,s6,dP⟩;exact SqL.of (s6 _ _ Ab)
    ·rintro j y Z H5 hj ⟨v2,rfl,s6,dP⟩;obtain⟨z,rfl,hz,zw⟩:∃z,y=V.str z/\z∈ms/\ms[i+1+j]? = some z:=by
      rw[Mt] at hj;cases q:(ms.drop (i+1))[j]? with
      | none=>rw[q] at hj;cases hj
      | some z=>
       rw[q] at hj;exact⟨z,(Mj hj).symm,Pz (Nm q),by rw[<-q,List.getElem?_drop]⟩
     have uj:=s5.trans s6;have iJ:(ms.map V.str)[i]? = some (.str (ms[i]'hi)):=by rw[Mt,L6 hi];rfl
     have jL:atI (ms.map V.str) (0+(i:Int))=some (.str (ms[i]'hi)):=by rw[Ql];exact Dy iJ
     obtain⟨l1,e1,g1⟩:=rj.pl (cO _ (Mz hi)) (h2 _ (cO _ (Mz hi)));obtain⟨l2,e2,g2⟩:=rj.pl (cO _ hz) (h2 _ (cO _ hz));have uk:=s3.trans uj;refine⟨_,rfl,_,rfl,_,rfl,D,_,_,_,rfl,rfl,SqL.of (uj _ _ hm),jL,_,rfl,d,l1,l2,kvs,_,z,_,_,_,_,rfl,.inr ⟨o,uk _ _ cU⟩,e1,e2,uk _ _ g1,uk _ _ g2,λH6 s7=>?_⟩;refine⟨rfl,_,rfl,?_⟩;rw[<-Gm (h2 _ (cO _ (Mz hi))) (h2 _ (cO _ hz))];refine Av (λ_=>?_) (λhc=>?_)
     ·exact k true H6 (λe=>by cases e) ((s2.trans s3).trans (uj.trans s7))
     ·refine⟨_,rfl,s6.trans s7,λq u hq hu=>?_⟩;by_cases eq:q=j
      ·subst eq;rw[zw] at hu;have hu:=Mj hu;subst hu;exact λkz=>absurd (by rw[show lieR row (ms[i]'hi) z = "cross" from kz]) (Xd0 hc)
      ·exact dP q u (by omega) hu
    ·rintro Z H5 ⟨v2,rfl,s6,dP⟩;refine⟨_,_,rfl,s5.trans s6,λp q y z hp si hy hz=>?_⟩;by_cases ep:p=i
     ·subst ep;rw[L6 hi] at hy;rw[<-Mj hy];refine dP (q - (p+1)) z ?_ (by rw[show p+1+(q - (p+1))=q by omega];exact hz);have:=(Mc.mp hz).1;rw[L5,Pu];omega
     ·exact ho p q y z (by omega) si hy hz
   ·rintro Z H4 ⟨v1,v2,rfl,s4,ho⟩;refine k false H4 (λ_ y hy z hz k1 k2 k3=>?_) ((s2.trans s3).trans s4);have mem:∀u∈row,Ar row x u->u∈ms:=λu hu ku=>by
     obtain⟨l,e,_⟩:=wh.val u hu;obtain⟨j,hj,ej⟩:=M4.mp (G6 e);rw[L5] at hj;refine bN j u hj ?_ ku;rw[Nx] at ej;simp only[List.getD,Mt,L6 hj,O1,Option.getD_some];rw[ej];rfl
    obtain⟨p,hp,ep⟩:=M4.mp (mem y hy k1);obtain⟨q,hq,eq⟩:=M4.mp (mem z hz k2);have iY:ms[p]? = some y:=by rw[L6 hp,ep]
    have rl:ms[q]? = some z:=by rw[L6 hq,eq]
    rcases Nat.lt_trichotomy p q with h | h | h
    ·exact ho p q y z hp h iY rl k3
    ·subst h;rw[iY] at rl;have e:=Mj rl;subst e;exact Ds (h2 y hy) k3
    ·exact ho q p z y hq h rl iY (B9 (h2 y hy) (h2 z hz) k3)
def Dw:FnScope NRo ["_law_draw", "_law_names_here"] (defScope sRow):=by walk_at "s"
def Xqe{f:ae}{fd:aw}(F:Fun K "_law_row" "_law_row" sRow f fd)(T:Bl mg)(FP:FnPick P w K mg base)(ul:Fn P w K mg base CX0 1 "_law_put" ["_law_row_here", "_law_name", "_law_at", "_law_to"] Xde)
  (FB:Fn P w K mg base CX0 2 "_law_barred" ["_law_row_here", "_law_name"] spBarredN):FnOk P w K mg base CX0 3 f fd ["_law_draw", "_law_names_here"] spRowN:=by
 refine F.ok Dw (by walk_at "l") ?_
 ·walk_at "i"
  obtain⟨dr,sc,nl,ns,rfl,dk,hN,mQ,rm,mO,k⟩:=h;have ca:Room 1 _:=hr.mono (by decide);have gr:∀m,m<=100000->m<=sizeLine:=λm h=>by rw[Qo];omega
  refine⟨_,Af (Bc (Az C8 (Ai FP ca rfl Al (Aa (pv 0) (Aa Ag Ac))) Ag (Ax _))
    (Af (Aq (i:=2) Dw.nd rfl (.inl rfl) (Ai FP ca rfl Al (Aa (pv 0) (Aa (Ao Bs (A8 Bo (by rfl) T.len aQ (Aa (pv 1) Ac)) Ag) Ac))))
    (Ah (Am (Ao B5 (Ao B5 (pv 1) (G8 (Cr Cs (pv 1) C9 (Cj (pv 2))))) (G8 (Cr Cs (pv 1) (Cj (pv 2)) C9)))))) Be)
   (Af (Aq (i:=3) Dw.nd rfl (.inl rfl) (Di Ac))
   (Af (Ce bo.never rfl (Cd (pv 1)) (A2 (i:=4) Dw.nd rfl (.inl rfl))
    (Af (Aq (i:=5) Dw.nd rfl (.inl rfl) (Ai FP ca rfl Al (Aa (pv 0) (Aa (Ao Bs (A8 Bo (by rfl) T.len aQ (Aa (pv 3) Ac)) Ag) Ac))))
    (Af (Aq (i:=6) Dw.nd rfl (.inl rfl) (Ao Bs (pv 5) (Ai FP ca rfl Al (Aa (pv 0) (Aa (Ao Xak (Ao Bs (A8 Bo (by rfl) T.len aQ (Aa (pv 3) Ac)) Ag) (pv 5)) Ac)))))
    (Af (Aq (i:=7) Dw.nd rfl (.inl rfl) (Ai ul ca rfl Al (Aa (pv 3) (Aa (pv 4) (Aa (pv 5) (Aa (pv 6) Ac))))))
    (Af (Bc (E6 (Ai FB hr rfl Al (Aa (pv 7) (Aa (pv 4) Ac))))
     (Ah (Aq (i:=7) Dw.nd rfl (.inl rfl) (Ao B5 (Ao B5 (Cr Cs (pv 3) C9 (Cj (pv 5))) (Di (Aa (pv 4) (Aa (pv 4) Ac)))) (Cr Cs (pv 3) (Cj (pv 5)) C9)))) Be)
    (Ah (Aq (i:=3) Dw.nd rfl (.inl rfl) (pv 7))))))))
   (Ah (Am (pv 3))))),?_⟩
  refine⟨_,rfl,dr,sc,4,rfl,by decide,by decide,dk,λr1 H1 _ _ d1 b1=>?_⟩;refine⟨rfl,_,rfl,?_⟩;have b1:But dr H H1:=b1;have um:=b1 _ _ hN mQ;refine Av (λ_=>?_) (λ_=>?_)
  ·-- zv zx
   refine⟨_,rfl,_,rfl,nl,_,rfl,.inl (SqL.of um),_,_,rfl,rfl,dr,sc,_,rfl,by omega,by rw[L5];omega,d1,λc H2 c0 c1 d2 b2=>?_⟩;obtain⟨c,rfl⟩:=Nk c0;rw[L5] at c1;have hc:c<=ns.length:=by omega
   have pR:=But.trans b1 b2;have uo:=b2 _ _ um mQ;obtain⟨xs,kG⟩:=d2.at;refine⟨_,rfl,_,rfl,_,rfl,_,rfl,nl,_,rfl,SqL.of uo,λp1 n1=>?_⟩;rw[Hm _ _ _ hc];refine⟨p1,_,rfl,SqL.of Ab,λp2 n2=>?_⟩;refine⟨nl,p2,_,_,rfl,rfl,ku (ku uo n1) n2,Ab,gr _ (by simp;omega),λp3 n3=>?_⟩;refine⟨_,rfl,_,rfl,_,rfl,nl,_,rfl,SqL.of (ku (ku (ku uo n1) n2) n3),λp4 n4=>?_⟩;rw[Gg _ _ _ hc];refine⟨p4,_,rfl,SqL.of Ab,λp5 n5=>?_⟩;refine⟨p3,p5,_,_,rfl,rfl,ku (ku Ab n4) n5,Ab,gr _ (by simp;omega),λp6 n6=>?_⟩;have s5:=(((((Same.refl H2).go n1 n2).go n2 n3).go n3 n4).go n4 n5).go n5 n6;have f6:=s5.free n6;have oj:(ns++(ns.take c).reverse++(ns.drop c).reverse).Perm (ns++ns):=by
    rw[Pq];refine List.Perm.append_left ns ?_;refine((N9 _).append (N9 _)).trans ?_;rw[Nb]
   refine k p6 (ns++(ns.take c).reverse++(ns.drop c).reverse) _ (pR.free kG f6) (Ab.trans (by simp)) oj (noThree_grid rm c λz hz=>Ez rm oj z ?_) (d2.same (s5.step n6)) (pR.same (s5.step n6));exact oj.mem_iff.mpr (Nz _ hz)
  ·-- CK one by one
   refine⟨by show 0<=sizeLine;decide,λp np=>?_⟩;obtain⟨CL,pS⟩:=d1.at;have s0:Same H1 (upd H1 p (.lst [])):=(Same.refl H1).step np;refine⟨_,rfl,nl,rfl,⟨_,SqL.of (s0 _ _ um)⟩,?_⟩;refine Fv (K:=K) (a:=nl) (xs:=ns.map V.str) (λi Z H2=>∃(v2 v4 v5 v6 v7:Option V) (q:ae) (row:Za), Z=[some (.ref dr),some (.ref nl),v2,some (.ref q),v4,v5,v6,v7]/\H2 q=some (.lst (row.map V.str))/\H q=none/\q≠dr/\row.Perm (ns.take i++ns.take i)/\A6 row/\DrawOk H2 dr sc/\But dr H H2) ?_ ?_ ?_ ?_
   ·exact⟨_,_,_,_,_,p,[],rfl,Ab,b1.free pS np,(Aw pS np).symm,by simp,Xlg,d1.same s0,b1.same s0⟩
   ·rintro i Z H2 _ ⟨v2,v4,v5,v6,v7,q,row,rfl,hq,nq,lU,hp,eQ,d2,b2⟩;exact SqL.of (b2 _ _ hN mQ)
   ·rintro i y Z H2 hi ⟨v2,v4,v5,v6,v7,q,row,rfl,hq,nq,lU,hp,eQ,d2,b2⟩;have i5:i<ns.length:=by
     have:=(Mc.mp hi).1
     rwa [L5] at this
    obtain⟨x,rfl,hx⟩:∃x,y=V.str x/\ns[i]? = some x:=by
     rw[Mt] at hi;cases z:ns[i]? with
     | none=>rw[z] at hi;cases hi
     | some x=>rw[z] at hi;exact⟨x,(Mj hi).symm,rfl⟩
    have tk:ns.take (i+1)=ns.take i++[x]:=by
     rw[Mv i5];rw[L6 i5] at hx;rw[Mj hx]
    have wn:row.length<=28:=by
     have:=hp.length_eq;rw[Mg,Nd] at this;omega
    have kw:(ns.take i++[x]).Nodup:=by rw[<-tk];exact rm.sublist (Oj ..)
    refine⟨_,rfl,_,rfl,q,_,rfl,.inl (SqL.of hq),_,_,rfl,rfl,dr,sc,_,rfl,by omega,by rw[L5];omega,d2,λa H3 a0 a1 d3 b3=>?_⟩;obtain⟨a,rfl⟩:=Nk a0;rw[L5] at a1;have wD:=b3 _ _ hq lU;refine⟨_,rfl,_,rfl,_,rfl,q,_,rfl,.inl (SqL.of wD),_,_,rfl,rfl,_,rfl,_,_,rfl,rfl,dr,sc,_,rfl,by rw[L5];omega,by rw[L5];omega,d3,λc H4 c0 c1 d4 b4=>?_⟩;obtain⟨c,rfl⟩:=Nk c0;rw[L5] at c1;refine⟨_,_,rfl,rfl,?_⟩;have zy:(a:Int)+(c:Int)=((a+c:Nat):Int):=by omega
    dsimp only;rw[zy];have jh:a+c<=row.length:=by omega
    have wE:=b4 _ _ wD lU;have wF:=But.trans b2 (But.trans b3 b4);obtain⟨z6,jM⟩:=d4.at;refine⟨_,rfl,_,rfl,_,rfl,_,rfl,q,row,x,a,a+c,rfl,wE,by omega,by omega,jh,λl H5 lW fF s5=>?_⟩;have d5:=d4.same s5;have z7:=wF.same s5;have pT:=wF.free jM lW;have eC:l≠dr:=(Aw jM lW).symm;have fG:(D8 row x a (a+c)).Perm ((ns.take i++[x])++(ns.take i++[x])):=Xdj hp (Xdd row x a (a+c) (by omega));have nY:(D8 row x a (a+c)).length<=1000:=by
     have:=fG.length_eq;rw[Mg,Mg,Nd,Nh] at this;omega
    refine⟨_,rfl,_,rfl,l,_,x,rfl,fF,nY,Ez kw fG,fG.mem_iff.mpr (by simp),λbb H6 uq s6=>?_⟩;have d6:=d5.same s6;have ur:=z7.same s6;refine⟨bb,rfl,?_⟩;have pU:∀y∈row,row.count y=2:=Ez (rm.sublist (Oj ..)) hp;refine Av (λ_=>?_) (λz8=>?_)
    ·have wG:=s6 _ _ (s5 _ _ wE);refine⟨_,rfl,_,rfl,_,rfl,q,_,rfl,SqL.of wG,λp1 n1=>?_⟩;rw[Hm _ _ _ (by omega)];refine⟨_,rfl,_,rfl,by show 2<=sizeLine;decide,λp2 n2=>?_⟩;refine⟨p1,p2,_,_,rfl,rfl,ku Ab n2,Ab,gr _ (by simp;omega),λp3 n3=>?_⟩;refine⟨_,rfl,_,rfl,_,rfl,q,_,rfl,SqL.of (ku (ku (ku wG n1) n2) n3),λp4 n4=>?_⟩;rw[Gg _ _ _ (by omega)];refine⟨p3,p4,_,_,rfl,rfl,ku Ab n4,Ab,gr _ (by simp;omega),λp5 n5=>?_⟩;have ut:=((((Same.refl H6).go n1 n2).go n2 n3).go n3 n4).go n4 n5;have f5:=ut.free n5;obtain⟨CM,pV⟩:=d6.at;have pN:(row.take a++[x,x]++row.drop a).Perm (x::x::row):=by
      have e:row.take a++[x,x]++row.drop a=row.take a++x::x::row.drop a:=by simp
      rw[e];refine O4.trans (List.Perm.cons x (O4.trans (List.Perm.cons x ?_)));rw[Nb]
     have pM:=Xdj hp pN;have lX:=Ez kw pM;refine⟨_,rfl,_,_,_,_,_,p5,row.take a++[x,x]++row.drop a,rfl,Ab.trans (by simp),ur.free pV f5,(Aw pV f5).symm,by rw[tk];exact pM,?_,d6.same (ut.step n5),ur.same (ut.step n5)⟩;refine Xdy (x:=x) eQ pU lX (λy hy=>?_) (λp hp=>Xlj hp) (λy hy z hz ky=>absurd ky (Xli (lX x (by simp)) (lX y hy)));have:=pN.mem_iff.mp hy;simp only[Mb] at this;rcases this with h | h | h
     ·exact .inl h
     ·exact .inl h
     ·exact .inr h
    ·refine⟨_,rfl,_,_,_,_,_,l,_,rfl,s6 _ _ fF,pT,eC,by rw[tk];exact fG,?_,d6,ur⟩;refine Xdy (x:=x) eQ pU (Ez kw fG) (λy hy=>?_) (λp hp=>Xlh (by omega) hp) (uq z8);have:=(Xdd row x a (a+c) (by omega)).mem_iff.mp hy;simp only[Mb] at this;rcases this with h | h | h
     ·exact .inl h
     ·exact .inl h
     ·exact .inr h
   ·rintro Z H2 ⟨v2,v4,v5,v6,v7,q,row,rfl,hq,nq,lU,hp,eQ,d2,b2⟩;rw[L5,Oe] at hp;exact⟨_,rfl,k q row H2 nq hq hp eQ d2 b2⟩
def Eg:FnScope NNa ["_law_draw", "_law_many"] (defScope sNames):=by walk_at "s"
def Xqf{f:ae}{fd:aw}(F:Fun K "_law_names" "_law_names" sNames f fd)(T:Bl mg)(FP:FnPick P w K mg base):FnOk P w K mg base CX0 2 f fd ["_law_draw", "_law_many"] Xdi:=by
 refine F.ok Eg (by walk_at "l") ?_
 ·walk_at "i"
  obtain⟨dr,sc,n,rfl,hn,dk,k⟩:=h;refine⟨_,Af (Aq (i:=2) Eg.nd rfl (.inl rfl) Bm)
   (Af (Aq (i:=3) Eg.nd rfl (.inl rfl) (Ai FP hr rfl Al (Aa (pv 0) (Aa Ag Ac))))
   (Af (Aq (i:=4) Eg.nd rfl (.inl rfl) (Fc C8 (Ai FP hr rfl Al (Aa (pv 0) (Aa Ag Ac))) Ag (Ax _)))
   (Af (Aq (i:=5) Eg.nd rfl (.inl rfl) (Di Ac))
   (Af (Ce bo.never rfl (Ft rfl T.range (Aa (pv 1) Ac)) (A2 (i:=6) Eg.nd rfl (.inl rfl))
    (Af (Aq (i:=7) Eg.nd rfl (.inl rfl) (Ay Xhy (pv 2) (Ao Fb (Ao Bs (pv 3) (pv 6)) Ag) (λ_ _=>rfl)))
    (Af (Aq (i:=8) Eg.nd rfl (.inl rfl) (Ao Xi3 Bm (Ao Fb (Ao Bs (pv 3) (Ao Xal (pv 6) (pv 6))) Ag)))
    (Ah (Fq (Xh7 PySem.F.plainAttrs_list PySem.F.slot_list_append PySem.F.type_list_append Xbh (pv 5)
     (Aa (Jm (E6 (pv 4)) (Ao Jv (Ao Jv (pv 8) (pv 7)) Bm) (Ao Jv (pv 7) (pv 8))) Ac)))))))
   (Ah (Am (pv 5))))))),?_⟩
  refine⟨_,rfl,dr,sc,26,rfl,by decide,by decide,dk,λr1 H1 wH CN d1 b1=>?_⟩;refine⟨_,rfl,dr,sc,2,rfl,by decide,by decide,d1,λr2 H2 wI CO d2 b2=>?_⟩;refine⟨rfl,?_⟩;refine⟨by show 0<=sizeLine;decide,λl nl=>?_⟩;obtain⟨st,rfl⟩:=Nk wH;have cu:st<26:=by omega
  generalize aR:decide (V.int r2=V.int 1)=aV;have pR:But dr H H2:=But.trans b1 b2;obtain⟨xs,kG⟩:=d2.at;have pT:H l=none:=pR.free kG nl;obtain⟨eC,kJ⟩:=d2.ne nl;refine⟨_,rfl,(n:Int),rfl,by omega,by omega,?_⟩;rw[O0];refine Fw (lo:=0) (n:=n) (λi Z H3=>∃v1 v2 v3, Z=[some (.ref dr),some (.int n),some (.str Ey),some (.int st),some (.bl aV),some (.ref l),v1,v2,v3]/\H3 l=some (.lst ((Bh st aV i).map V.str))/\DrawOk H3 dr sc/\But dr H H3) ?_ ?_ ?_
  ·exact⟨none,none,none,rfl,Ab,d2.upd eC kJ,pR.upd pT⟩
  ·rintro i Z H3 hi ⟨v1,v2,v3,rfl,kE,d3,b3⟩;have z9:((st:Int)+(0+(i:Int))) % 26=(((st+i) % 26:Nat):Int):=by omega
   have zA:(st+i) % 26<26:=Qg _ (by decide);have zB:((0:Int)+(i:Int)) * (0+(i:Int))=((i * i:Nat):Int):=by rw[Ql];exact(Int.natCast_mul i i).symm
   have h7:(st+i * i) % 7<7:=Qg _ (by decide);have e7:((st:Int)+((i * i:Nat):Int)) % 7=(((st+i * i) % 7:Nat):Int):=by
    generalize i * i=j;omega
   refine⟨_,rfl,_,rfl,_,rfl,_,_,rfl,rfl,_,_,rfl,rfl,(by show (0:Int)<26;decide),_,_,_,rfl,rfl,(by show 26<=sizeLine;decide),by rw[z9];exact Xkv zA,?_⟩;refine⟨_,rfl,_,rfl,_,rfl,_,_,rfl,rfl,.inl ⟨by omega,by omega⟩,_,_,rfl,rfl,_,_,rfl,rfl,(by show (0:Int)<7;decide),?_⟩;have uu:((st:Int)+((0:Int)+(i:Int)) * (0+(i:Int))) % 7=(((st+i * i) % 7:Nat):Int):=by rw[zB,e7]
   refine⟨_,_,rfl,rfl,by rw[uu];omega,by rw[uu];omega,by show 1<=1000;decide,?_⟩;rw[uu,O0];have wn:(repS "m" ((st+i * i) % 7)).length<=6:=by
    rw[Kf];have:(ah.ofString "m").length=1:=rfl;rw[this];omega
   have mo:(signOf ((st+i) % 26)).length=1:=rfl;have mO:(Bh st aV i).length=i:=by unfold Bh;simp
   have pY:Bh st aV (i+1)=Bh st aV i++[Gk st aV i]:=by unfold Bh;rw[Ng,Mn];rfl
   have gr:∀m,m<=100000->m<=sizeLine:=λm h=>by rw[Qo];omega
   have fin:∀z:ah,Gk st aV i=z->Xbg (.ref l) [.str z] H3 λ_ H4=>∃v1 v2 v3,[some (V.ref dr),some (.int n),some (.str Ey),some (.int st),some (.bl aV),some (.ref l),some (.int (0+(i:Int))),some (.str (signOf ((st+i) % 26))),some (.str (repS "m" ((st+i * i) % 7)))]=[some (.ref dr),some (.int n),some (.str Ey),some (.int st),some (.bl aV),some (.ref l),v1,v2,v3]/\H4 l=some (.lst ((Bh st aV (i+1)).map V.str))/\DrawOk H4 dr sc/\But dr H H4:=λz hz=>by
    refine⟨l,_,_,rfl,rfl,kE,by rw[L5,mO,Qo];omega,_,_,_,rfl,?_,d3.upd eC kJ,b3.upd pT⟩;rw[Ab,pY,Mn,<-hz];rfl
   refine⟨_,rfl,.inl ⟨rfl,_,SqL.of kE⟩,_,rfl,aV,rfl,?_⟩;refine Av (λhL=>?_) (λhL=>?_)
   ·refine⟨_,rfl,_,rfl,_,_,rfl,rfl,gr _ (by show (repS "m" ((st+i * i) % 7)).length+1<=100000;omega),_,_,rfl,rfl,gr _ ?_,fin _ (by unfold Gk;rw[Qq hL];rfl)⟩;rw[Eo];show (repS "m" ((st+i * i) % 7)).length+1+1<=100000;omega
   ·exact⟨_,rfl,_,rfl,_,_,rfl,rfl,gr _ (by show 1+(repS "m" ((st+i * i) % 7)).length<=100000;omega),fin _ (by unfold Gk;rw[Qp (by rw[hL];decide)];rfl)⟩
  ·rintro Z H3 ⟨v1,v2,v3,rfl,kE,d3,b3⟩;exact⟨_,rfl,k l st aV H3 pT cu kE kJ d3 b3⟩
def L4:FnScope NIs ["_law_draw", "_law_most"] (defScope sIsland):=by walk_at "s"
def Xqg{f:ae}{fd:aw}(F:Fun K "_law_island" "_law_island" sIsland f fd)(T:Bl mg)(FP:FnPick P w K mg base)(FN:Fn P w K mg base CX0 2 "_law_names" ["_law_draw", "_law_many"] Xdi)
  (FR:Fn P w K mg base CX0 3 "_law_row" ["_law_draw", "_law_names_here"] spRowN):FnOk P w K mg base CX0 4 f fd ["_law_draw", "_law_most"] spIslandN:=by
 refine F.ok L4 (by walk_at "l") ?_
 ·walk_at "i"
  obtain⟨dr,sc,m,rfl,hm,dk,k⟩:=h;have ca:Room 1 _:=hr.mono (by decide);have eB:Room 2 _:=hr.mono (by decide);refine⟨_,Af (Aq (i:=2) L4.nd rfl (.inl rfl) (Ao Bs Ag (Ai FP ca rfl Al (Aa (pv 0) (Aa Ag Ac)))))
   (Af (Aq (i:=3) L4.nd rfl (.inl rfl) (Ay J4 (B3 (Aa (Ai FP ca rfl Al (Aa (pv 0) (Aa Ag Ac))) (Aa (pv 2) (Aa (Ai FP ca rfl Al (Aa (pv 0) (Aa (Ao Bs (pv 1) Ag) Ac))) Ac))))
    (Ai FP ca rfl Al (Aa (pv 0) (Aa Ag Ac))) (λ_ _=>rfl)))
   (Ah (Am (Ai FR hr rfl Al (Aa (pv 0) (Aa (Ai FN eB rfl Al (Aa (pv 0) (Aa (A8 (Xhq rfl) (by rfl) T.min boot_min (Aa (pv 3) (Aa (pv 1) Ac))) Ac))) Ac)))))),?_⟩
  refine⟨_,rfl,dr,sc,5,rfl,by decide,by decide,dk,λr1 H1 wH _ d1 b1=>⟨_,_,rfl,rfl,?_⟩⟩;refine⟨_,rfl,dr,sc,5,rfl,by decide,by decide,d1,λr2 H2 wI _ d2 b2=>?_⟩;refine⟨_,rfl,_,rfl,_,rfl,_,_,rfl,rfl,dr,sc,_,rfl,by omega,by omega,d2,λr3 H3 zC _ d3 b3=>?_⟩;have b1:But dr H H1:=b1;have wJ:But dr H H3:=But.trans b1 (But.trans b2 b3);refine⟨by show 3<=sizeLine;decide,λp np=>?_⟩;obtain⟨wK,ne2⟩:=d3.ne np;obtain⟨CP,uv⟩:=d3.at;have zD:=wJ.free uv np;refine⟨_,rfl,dr,sc,3,rfl,by decide,by decide,d3.upd wK ne2,λr4 H4 zF CQ d4 b4=>?_⟩;have b4:But dr (L2.upd H3 p (.tup [.int r2,.int (2+r1),.int r3])) H4:=b4;have zG:=b4 p _ Ab wK;have zH:But dr H H4:=But.trans (wJ.upd zD) b4;obtain⟨mm,uw,zI⟩:∃mm:Int,0<=mm/\atI ([.int r2,.int (2+r1),.int r3]:List V) r4=some (.int mm):=by
   obtain⟨i,rfl⟩:=Nk zF;have hi:i<3:=by omega
   match i,hi with
   | 0,_=>exact⟨r2,wI,rfl⟩
   | 1,_=>exact⟨2+r1,by omega,rfl⟩
   | 2,_=>exact⟨r3,zC,rfl⟩
  refine⟨p,_,_,_,rfl,rfl,SqT.of zG,zI,?_⟩;obtain⟨n,hn,zJ⟩:∃n:Nat,(if (m:Int)<mm then (m:Int) else mm)=(n:Int)/\n<=m:=by
   obtain⟨j,rfl⟩:=Nk uw;by_cases hj:(m:Int)<(j:Int)
   ·exact⟨m,Qq hj,L7 _⟩
   ·exact⟨j,Qp hj,by omega⟩
  refine⟨_,rfl,_,rfl,_,rfl,_,rfl,_,_,rfl,?_⟩;rw[hn];refine⟨dr,sc,n,rfl,by omega,d4,λl st aV H5 nl cu fF kJ d5 b5=>?_⟩;obtain⟨z6,jM⟩:=d4.at;have eC:l≠dr:=(Aw jM nl).symm;have wL:=But.trans zH b5;refine⟨dr,sc,l,_,rfl,d5,fF,eC,Kw cu (by omega),by unfold Bh;simp;omega,λl2 row H6 qW tZ hp eQ d6 b6=>?_⟩;obtain⟨CS,ux⟩:=d5.at;exact k l2 row n st aV H6 (wL.free ux qW) zJ cu tZ hp eQ d6 (But.trans wL b6)
def Ji:FnScope NSw ["_law_draw", "_law_row_here"] (defScope s__law_swapped):=by walk_at "s"
def Xqh{f:ae}{fd:aw}(F:Fun K "_law_swapped" "_law_swapped" s__law_swapped f fd)(T:Bl mg)(FP:FnPick P w K mg base):FnOk P w K mg base CX0 2 f fd ["_law_draw", "_law_row_here"] Xff:=by
 refine F.ok Ji (by walk_at "l") ?_
 ·walk_at "i"
  obtain⟨dr,sc,r,row,rfl,d0,hR,ik,aG,k⟩:=h;have ca:Room 1 _:=hr.mono (by decide);refine⟨_,Af (Aq (i:=2) Ji.nd rfl (.inl rfl) (Ci J5 (by rfl) T.list (by rfl) (Aa (pv 1) Ac)))
   (Af (Bc (Az Xar (A8 Bo (by rfl) T.len aQ (Aa (pv 2) Ac)) Ag (Ax _))
    (Af (Aq (i:=3) Ji.nd rfl (.inl rfl) (Ai FP ca (by rfl) Al (Aa (pv 0) (Aa (Ao Xak (A8 Bo (by rfl) T.len aQ (Aa (pv 2) Ac)) Ag) Ac))))
    (Af (Aq (i:=4) Ji.nd rfl (.inl rfl) (Ay Bg (pv 2) (pv 3) (λ_ _=>rfl)))
    (Af (C7 (Ay Bg (pv 2) (Ao Bs (pv 3) Ag) (λ_ _=>rfl)) (Dh (pv 2) (pv 3) Dj))
    (Ah (C7 (pv 4) (Dh (pv 2) (Ao Bs (pv 3) Ag) Dj)))))) Be)
   (Ah (Am (pv 2)))),?_⟩
  refine⟨_,rfl,r,_,rfl,.inl (SqL.of hR),λl nl=>?_⟩;have s1:Same H (upd H l (.lst (row.map V.str))):=(Same.refl H).step nl;have gO:upd H l (.lst (row.map V.str)) l=some (.lst (row.map V.str)):=Ab;generalize upd H l (.lst (row.map V.str))=H1 at s1 gO;have d1:=d0.same s1;obtain⟨eC,kJ⟩:=d0.ne nl;refine⟨_,rfl,l,_,rfl,.inl (SqL.of gO),_,_,rfl,rfl,_,rfl,?_⟩;refine Av (λq1=>?_) (λq1=>?_)
  ·have CT:1<row.length:=by
    have:=Qt q1;rw[L5] at this;omega
   refine⟨_,rfl,_,rfl,l,_,rfl,.inl (SqL.of gO),_,_,rfl,rfl,dr,sc,_,rfl,by rw[L5];omega,by rw[L5];omega,d1,λi H2 i0 i1 d2 b2=>?_⟩;obtain⟨i,rfl⟩:=Nk i0;rw[L5] at i1;have hi:i+1<row.length:=by omega
   have fe:=b2 _ _ gO eC;have ha:row[i]? = some (row[i]'(by omega)):=L6 _;have hb:row[i+1]? = some (row[i+1]'hi):=L6 _;generalize row[i]'(by omega)=x at ha;generalize row[i+1]'hi=y at hb;have e1:((i:Nat):Int)+1=((i+1:Nat):Int):=by omega
   refine⟨_,rfl,_,rfl,l,_,_,.str x,rfl,rfl,SqL.of fe,Dy (by rw[Mt,ha];rfl),?_⟩;refine⟨_,rfl,_,rfl,_,_,rfl,rfl,l,_,_,.str y,rfl,rfl,SqL.of fe,by rw[e1];exact Dy (by rw[Mt,hb];rfl),?_⟩;refine⟨_,rfl,_,rfl,l,_,_,i,rfl,rfl,fe,Xfg (by rw[L5];omega),?_⟩;refine⟨_,rfl,_,rfl,_,rfl,_,_,rfl,rfl,l,_,_,i+1,rfl,rfl,Ab,by rw[e1];exact Xfg (by rw[List.length_set,L5];exact hi),?_⟩;refine⟨_,rfl,?_⟩;refine k l ((row.set i y).set (i+1) x) _ nl ?_ (Xfe row i x y ha hb) ((d2.upd eC kJ).upd eC kJ) λb o e dn=>?_
   ·rw[Ab,List.map_set,List.map_set]
   ·have nb:b≠l:=Aw e nl;rw[Ad nb,Ad nb];exact b2 _ _ (s1 _ _ e) dn
  ·exact⟨_,rfl,k l row H1 nl gO (Nv _) d1 λb o e _=>s1 _ _ e⟩
def Fp:FnScope NTw ["_law_draw", "_law_row_here"] (defScope s__law_twin_row):=by walk_at "s"
def Xqi{f:ae}{fd:aw}(F:Fun K "_law_twin_row" "_law_twin_row" s__law_twin_row f fd)(T:Bl mg)(FP:FnPick P w K mg base)(FS:Fn P w K mg base CX0 2 "_law_swapped" ["_law_draw", "_law_row_here"] Xff)
  (FA:Fn P w K mg base CX0 2 "_law_barred" ["_law_row_here", "_law_name"] spBarredN):FnOk P w K mg base CX0 3 f fd ["_law_draw", "_law_row_here"] spTwinN:=by
 refine F.ok Fp (by walk_at "l") ?_
 ·walk_at "i"
  obtain⟨dr,sc,r,row,rfl,d0,hR,ik,aG,h2,h3,k⟩:=h;have ca:Room 1 _:=hr.mono (by decide);refine⟨_,Af (Aq (i:=2) Fp.nd rfl (.inl rfl) (Xfb rfl (by rfl) T.sorted (by rfl) T.set (pv 1)))
   (Af (Aq (i:=3) Fp.nd rfl (.inl rfl) (Ci J5 (by rfl) T.list (by rfl) (Aa (pv 1) Ac)))
   (Af (Ce bo.never rfl (Ft rfl T.range (Aa (Ai FP ca (by rfl) Al (Aa (pv 0) (Aa Ag Ac))) Ac)) (A2 (i:=4) Fp.nd rfl (.inl rfl))
    (Af (Aq (i:=5) Fp.nd rfl (.inr rfl) (Ai FS hr (by rfl) Al (Aa (pv 0) (Aa (pv 3) Ac))))
    (Ah (Bc (Jl (E6 (A8 (Xc8 rfl) (by rfl) T.any (by rfl) (Aa (Gj (N:=NTw1) (cap:=[none,some 5]) (CompScope.of (defScope s__law_twin_row) NTw rfl rfl rfl (by decide +kernel)) rfl
      (Cd (pv 2)) (λ_ _ _=>A2 (i:=0) (show NTw1.Nodup by decide +kernel) rfl (.inl rfl) (.inr rfl)) (λ_ _ _=>Cw)
      (λ_ _ _=>Ai (by exact FA) (by exact hr) (by rfl) Al (Aa (pv 1) (Aa (pv 0) Ac)))) Ac))))
     (Ah (Aq (i:=3) Fp.nd rfl (.inl rfl) (pv 5))) Be))))
   (Ah (Am (pv 3))))),?_⟩
  refine⟨_,rfl,r,row,rfl,.inl (SqL.of hR),by omega,λn H1 nn hn s1=>?_⟩;have d1:=d0.same s1;refine⟨_,rfl,r,_,rfl,.inl (SqL.of (s1 _ _ hR)),λl nl=>?_⟩;have s2:Same H1 (upd H1 l (.lst (row.map V.str))):=(Same.refl H1).step nl;have fe:upd H1 l (.lst (row.map V.str)) l=some (.lst (row.map V.str)):=Ab;generalize upd H1 l (.lst (row.map V.str))=H2 at s2 fe;have d2:=d1.same s2;have rq:=s1.free nl;have uy:=s2 _ _ hn;refine⟨_,rfl,dr,sc,4,rfl,by decide,by decide,d2,λm H3 m0 m1 d3 b3=>?_⟩;obtain⟨m,rfl⟩:=Nk m0;obtain⟨mQ,CU⟩:=d0.ne nn;obtain⟨eC,kJ⟩:=d0.ne rq;have jJ:=s1.trans s2;have zK:But dr H H3:=λb o e hb=>b3 _ _ (jJ _ _ e) hb;refine⟨((m:Nat):Int),rfl,by omega,by omega,?_⟩;rw[O0];refine Fw (lo:=0) (n:=m) (λi Z H4=>∃(o:ae) (t:Za) (v4 v5:Option V), Z=[some (.ref dr),some (.ref r),some (.ref n),some (.ref o),v4,v5]/\H o=none/\H4 o=some (.lst (t.map V.str))/\t.Perm row/\A6 t/\DrawOk H4 dr sc/\But dr H H4/\H4 n=some (.lst ((dit row).map V.str))) ?_ ?_ ?_
  ·exact⟨l,row,none,none,rfl,rq,b3 _ _ fe eC,Nv _,h3,d3,zK,b3 _ _ uy mQ⟩
  ·rintro i Z H4 hi ⟨o,t,v4,v5,rfl,no,ho,hp,uz,d4,b4,wM⟩;obtain⟨pZ,CV⟩:=d0.ne no;refine⟨_,rfl,_,rfl,dr,sc,o,t,rfl,d4,ho,pZ,by rw[hp.length_eq];exact aG,λl5 t5 H5 lW fF h8 d5 b5=>?_⟩;have h8:=h8.trans hp;have u3:H l5=none:=by
    cases q:H l5 with
    | none=>rfl
    | some u=>
     have ne:l5≠dr:=λz=>by
      obtain⟨xs,hx⟩:=d4.at;rw[z,hx] at lW;cases lW
     rw[b4 _ _ q ne] at lW;cases lW
   have lY:=b5 _ _ wM mQ;have wO:=b4.trans b5;refine⟨_,rfl,n,rfl,⟨_,SqL.of lY⟩,?_⟩;refine F5 (n:=(dit row).length) (λi=>.str ((dit row).getD i ah.empty)) (λD i Z2 H6=>∃(v:Option V) (bs:List Bool), Z2=[v,some (.ref l5)]/\Same H5 H6/\H6 D=some (.lst (bs.map V.bl))/\bs.length=i/\∀j,j<i->bs[j]? = some false->∀y∈t5,∀z∈t5,Ar t5 ((dit row).getD j ah.empty) y->Ar t5 ((dit row).getD j ah.empty) z->¬Ar t5 y z) ?_ ?_ ?_ ?_ ?_
   ·intro D hD;exact⟨none,[],rfl,(Same.refl H5).step hD,Ab,rfl,λj hj=>absurd hj (Nj _)⟩
   ·rintro D j Z2 H6 hD hj ⟨v,bs,rfl,s6,hm,hl,hb⟩;have:=Ep (K:=K) (SqL.of (s6 _ _ lY)) (show j<((dit row).map V.str).length by rw[L5];exact hj)
    rwa [Cz V.str ah.empty _ hj] at this
   ·rintro D Z2 H6 hD ⟨v,bs,rfl,s6,hm,hl,hb⟩;have:=Er (K:=K) (SqL.of (s6 _ _ lY))
    rwa [L5] at this
   ·rintro D j Z2 H6 hD hj ⟨v,bs,rfl,s6,hm,hl,hb⟩;have kA:=Ae.mp (B8 hj);have l6:=Ge row;refine⟨_,rfl,_,rfl,l5,t5,_,rfl,s6 _ _ fF,by rw[h8.length_eq];omega,λy hy=>by rw[h8.count_eq];exact h2 y (h8.mem_iff.mp hy),h8.mem_iff.mpr kA,λb H7 zL s7=>?_⟩;refine wput hj (s7 _ _ hm) (by rw[L5,Qo];omega) ⟨_,bs++[b],rfl,?_,by rw[Ab,Mn];rfl,by rw[Mg,hl];rfl,λj' eM e=>?_⟩
    ·intro c u e;rw[Ad (Aw e hD)];exact s7 _ _ (s6 _ _ e)
    ·by_cases z:j'<j
     ·rw[Nl (by omega)] at e;exact hb j' z e
     ·have ej:j'=j:=by omega
      subst ej;rw[Ny (by omega),hl,Qk] at e;exact zL (Mj e)
   ·rintro D Z2 H6 hD ⟨v,bs,rfl,s6,hm,hl,hb⟩;refine⟨D,bs,rfl,hm,_,rfl,?_⟩;refine Av (λqa=>?_) (λ_=>?_)
    ·have zM:A6 t5:=λx hx=>by
      obtain⟨j,hj,e⟩:=M4.mp (Ae.mpr (h8.mem_iff.mp hx));have wP:j<bs.length:=by rw[hl];exact hj
      have ef:bs[j]? = some false:=by
       rw[L6 wP];cases eb:bs[j] with
       | false=>rfl
       | true=>
        have:bs.any id=true:=Od.mpr ⟨_,Mz wP,eb⟩;simp[this] at qa
      have:=hb j hj ef;have e2:(dit row).getD j ah.empty=x:=by rw[List.getD,L6 hj,<-e];rfl
      rw[e2] at this;exact this
     exact⟨_,rfl,l5,t5,_,_,rfl,u3,s6 _ _ fF,h8,zM,d5.same s6,wO.same s6,s6 _ _ lY⟩
    ·exact⟨o,t,_,_,rfl,no,s6 _ _ (b5 _ _ ho pZ),hp,uz,d5.same s6,wO.same s6,s6 _ _ lY⟩
  ·rintro Z H4 ⟨o,t,v4,v5,rfl,no,ho,hp,uz,d4,b4,wM⟩;exact⟨_,rfl,k o t H4 no ho hp uz d4 b4⟩
def Xqj:FnScope ["_law_draw", "_law_some"] ["_law_draw", "_law_some"] (defScope s__law_one):=by walk_at "s"
def Xqk{f:ae}{fd:aw}(F:Fun K "_law_one" "_law_one" s__law_one f fd)(T:Bl mg)(FP:FnPick P w K mg base):FnOk P w K mg base CX0 2 f fd ["_law_draw", "_law_some"] spOne:=by
 refine F.ok Xqj (by walk_at "l") ?_
 ·walk_at "i"
  obtain⟨dr,sc,l,xs,rfl,d,hl,eC,h0,h1,k⟩:=h;have ca:Room 1 _:=hr.mono (by decide);refine⟨_,Ah (Am (Ay Bg (pv 1) (Ai FP ca (by rfl) Al (Aa (pv 0) (Aa (A8 Bo (by rfl) T.len aQ (Aa (pv 1) Ac)) Ac))) (λ_ _=>rfl))),?_⟩;refine⟨_,rfl,_,rfl,_,rfl,l,_,rfl,.inl (SqL.of hl),dr,sc,_,rfl,by omega,by omega,d,λgi H4 g0 g1 d4 b4=>?_⟩;have b4:But dr H H4:=b4;obtain⟨gi,rfl⟩:=Nk g0;have u4:gi<xs.length:=by omega
  have iJ:atI xs (gi:Int)=some (xs.getD gi .non):=Dy (by rw[L6 u4];simp[List.getD,u4]);exact⟨l,_,_,_,rfl,rfl,SqL.of (b4 _ _ hl eC),iJ,k gi H4 u4 d4 b4⟩
end
end K39
namespace SH
open L2
def kvB (Ts:List (Za)) (ds:List ae):List (List Key×V):=(List.range Ts.length).map λi=>(kOf (Ts.getD i []),V.ref (ds.getD i 0))
structure ByAt (H:Hp) (zN:ae) (row:Za) (Ts:List (Za)):Prop where
 ex:∃ds:List ae,H zN=some (.dT (kvB Ts ds))/\∀i,i<Ts.length->∃qs:List ae,H (ds.getD i 0)=some (.lst (qs.map V.ref))/\Nbs H qs (nbL row (Ts.getD i []))/\qs.length<=14
structure Bf (H0 H:Hp) (mt fr ly:ae) (Me Fr La:List (Za)) (ls:List ae):Prop where
 s:Same H0 H
 hm:∃ms:List ae,H mt=some (.lst (ms.map V.ref))/\Tups H ms (Me++Fr)
 hf:∃fs:List ae,H fr=some (.lst (fs.map V.ref))/\Tups H fs Fr
 hl:H ly=some (.lst (ls.map V.ref))
 ht:Tups H ls La
def crsAt (row:Za) (x:ah) (ys:Za):List (ah×ah):=(ys.filter λy=>decide (lieR row x y = "cross")).map λy=>(x,y)
def Xq9:Sp:=λvs H Q _=>∃(l:ae) (ps:List ae) (Ts:List (Za)),vs=[.ref l]/\H l=some (.lst (ps.map V.ref))/\Tups H ps Ts/\(∀S∈Ts,S.length<=1000)/\ps.length<=1000/\∀H',Same H H'->Q (.bl true) H'
end SH
set_option maxHeartbeats 8000000
namespace SH
open L2
def Xgp{a:Za}(h:∀y∈a,a.count y=2):a.length=2 * (ddup a).length:=by
 have:=Gy h;unfold dit at this
 rwa [(Cy _).length_eq] at this
def Xql{H:Hp}{p q:ae}{a b:Za}(hp:H p=some (.lst (a.map V.str)))(hq:H q=some (.lst (b.map V.str)))(ra:Row2 a)(rb:Row2 b)(la:a.length<=28)(lb:b.length<=28):Two2 H p q a b:=
 ⟨hp,hq,ra,rb,la,lb,by have:=Xgp ra.two;omega,by have:=Xgp rb.two;omega⟩
def Xqm(xs:List (ah×Za)):ak.depth (.list (xs.map dNb))<=3:=by
 have:ak.depthAll (xs.map dNb)<=2:=by
  induction xs with
  | nil=>exact M3 _
  | cons x xs ih=>
   show max (max 0 (max (ak.depthAll (x.2.map ak.str)+1) 0)+1) (ak.depthAll (xs.map dNb))<=2;rw[Gn];exact Nat.max_le.mpr ⟨by decide,ih⟩
 exact Nat.succ_le_succ this
structure Ev39 (H:Hp) (T T2:ae) (p1 p2:bw) (dr sc r o l:ae) (row aF:Za) (ps:List ae) (Ts:List (Za)):Prop where
 hr:H r=some (.lst (row.map V.str))
 ho:H o=some (.lst (aF.map V.str))
 hl:H l=some (.lst (ps.map V.ref))
 ht:Tups H ps Ts
 d:DrawOk H dr sc
 tab:Tab2 T T2 p1 p2 H
section
variable {H H':Hp}{T T2:ae}{p1 p2:bw}{dr sc r o l:ae}{row aF:Za}{ps:List ae}{Ts:List (Za)}
def Ev39.same(e:Ev39 H T T2 p1 p2 dr sc r o l row aF ps Ts)(s:Same H H'):Ev39 H' T T2 p1 p2 dr sc r o l row aF ps Ts:=⟨s _ _ e.hr,s _ _ e.ho,s _ _ e.hl,e.ht.same s,e.d.same s,e.tab.same s⟩
def Ev39.but3(e:Ev39 H T T2 p1 p2 dr sc r o l row aF ps Ts)(t:Tab2 T T2 p1 p2 H')(b:But3 T T2 H H'):Ev39 H' T T2 p1 p2 dr sc r o l row aF ps Ts:=
 ⟨e.tab.but3 b e.hr λz=>by simp,e.tab.but3 b e.ho λz=>by simp,e.tab.but3 b e.hl λz=>by simp,⟨e.ht.1,λi hi=>e.tab.but3 b (e.ht.2 i hi) λz=>by simp⟩,e.d.but3 e.tab b,t⟩
def Ev39.butT(e:Ev39 H T T2 p1 p2 dr sc r o l row aF ps Ts)(t:Ak T p1 qIn H')(b:But T H H'):Ev39 H' T T2 p1 p2 dr sc r o l row aF ps Ts:=e.but3 (e.tab.butT t b) λc u h n _=>b _ _ h n
def Ev39.butD(e:Ev39 H T T2 p1 p2 dr sc r o l row aF ps Ts)(d':DrawOk H' dr sc)(b:But dr H H')(n1:r≠dr)(n2:o≠dr)(n3:l≠dr):Ev39 H' T T2 p1 p2 dr sc r o l row aF ps Ts:=
 ⟨b _ _ e.hr n1,b _ _ e.ho n2,b _ _ e.hl n3,⟨e.ht.1,λi hi=>b _ _ (e.ht.2 i hi) (e.d.ntup _ _ (e.ht.2 i hi))⟩,d',e.tab.butD e.d b⟩
end
end SH
namespace K39
open L2 SH
def Jj (K:DK) (T T2:ae):Sp:=λvs H Q _=>∃(a:ae) (ns:List Int),vs=[.ref a]/\SqL K H a (ns.map V.int)/\ns.length<=63/\H T=some (.tbl #[])/\H T2=some (.tbl #[])/\∀H',Q (.bl true) H'
def Xgq{t u:TS}{D:Ends}{Z:L2.St}{H:Hp}(P:L2.St->Hp->Prop)(h2:∀Z' H',P Z' H'->u D Z' H')(h1:∀nx,(∀Z' H',P Z' H'->nx Z' H')->t {D with nx:=nx} Z H):Dx t u D Z H:=h1 (u D) h2
section
variable {P:au}{w:ay}{K:DK}{mg:ah->Option aa}{base:ao}
abbrev NL39:Za:=["_law_script", "_law_draw", "_law_row_here", "_law_other", "_law_some", "_law_one_here", "_law_last"]
def Eh:FnScope NL39 ["_law_script"] (defScope s_law):=by walk_at "s"
def Xqn{f C T T2:ae}{fd:aw}(nT:T≠T2)(F:Fun K "law" "law" s_law f fd)(B:Bl mg)(FB:Fn P w K mg base CX0 1 "_law_begin" ["_law_script"] (Xdb K))(FP:FnPick P w K mg base)
  (FI:Fn P w K mg base CX0 4 "_law_island" ["_law_draw", "_law_most"] spIslandN) (u5:Fn P w K mg base CX0 3 "_law_twin_row" ["_law_draw", "_law_row_here"] spTwinN) (zO:Fn P w K mg base CX0 3 "_law_row" ["_law_draw", "_law_names_here"] spRowN)
  (kK:Fn P w K mg base CX0 5 "plots" ["row"] (spPlotsA T (lamPos s_in_order))) (FU:Fn P w K mg base CX0 4 "unlike" ["row", "other"] spUnl) (u6:Fn P w K mg base CX0 2 "same" ["row", "other"] (spSame λb=>b.length+1))
  (r0:Fn P w K mg base CX0 2 "_law_one" ["_law_draw", "_law_some"] spOne) (FN:Fn P w K mg base (CX1 P w) 6 "neighbours" ["row", "plot"] (spNbs T (lamPos s_in_order))) (r6:Fn P w K mg base (CX1 P w) 7 "walks_many" ["row", "one", "other"] (Xgb C T T2 (lamPos s_in_order) (Ef s_ways_to))):
  FnOk P w K mg base CX0 8 f fd ["_law_script"] (Jj K T T2):=by
 refine F.ok Eh (by walk_at "l") ?_
 ·walk_at "i"
  obtain⟨a,ns,rfl,hS,aG,sg,mM,k⟩:=h;have hu:=Dm hr;have ca:Room 1 _:=hr.mono (by decide);have eB:Room 2 _:=hr.mono (by decide);have qX:Room 3 _:=hr.mono (by decide);have wQ:Room 4 _:=hr.mono (by decide);have lR:Room 5 _:=hr.mono (by decide);have wR:Room 6 _:=hr.mono (by decide);refine⟨_,Af (Aq (i:=1) Eh.nd rfl (.inl rfl) (Ai FB ca (by rfl) Al (Aa (pv 0) Ac)))
   (Af (Aq (i:=2) Eh.nd rfl (.inl rfl) (Ai FI wQ (by rfl) Al (Aa (pv 1) (Aa Ag Ac))))
   (Af (Aq (i:=3) Eh.nd rfl (.inl rfl) (Ai u5 qX (by rfl) Al (Aa (pv 1) (Aa (pv 2) Ac))))
   (Af (Bc (Az C8 (Ai FP ca (by rfl) Al (Aa (pv 1) (Aa Ag Ac))) Ag (Ax _)) (Ah (Aq (i:=3) Eh.nd rfl (.inl rfl) (Ai zO qX (by rfl) Al (Aa (pv 1) (Aa (G8 (Xfb rfl (by rfl) B.sorted (by rfl) B.set (pv 2))) Ac))))) Be)
   (Af (Aq (i:=4) Eh.nd rfl (.inl rfl) (Ai kK lR (by rfl) Al (Aa (pv 2) Ac)))
   (Af (Bc (Az El (Fc Xhm (Ai FU wQ (by rfl) Al (Aa (pv 2) (Aa (pv 3) Ac))) Ej (Ax _)) (Fc (Xc5 (hu3 hr)) (Ai kK lR (by rfl) Al (Aa (pv 3) Ac)) (pv 4) (Ax _)) (Ax _)) (Ah (Am Ei)) Be)
   (Af (Bc (E8 (Az Xau (Ai u6 eB (by rfl) Al (Aa (pv 2) (Aa (pv 3) Ac))) Ej (Ax _)) (E7 (Az El (A8 Bo (by rfl) B.len aQ (Aa (Ai kK lR (by rfl) Al (Aa (pv 3) Ac)) Ac)) (A8 Bo (by rfl) B.len aQ (Aa (pv 4) Ac)) (Ax _)))).pt (Ah (Am Ei)) Be)
   (Af (Bc (Az (Hu (hu3 hr)) (Ai kK lR (by rfl) Al (Aa (pv 3) Ac)) (pv 4) (Ax _)) (Ah (Am Ei)) Be)
   (Af (Aq (i:=5) Eh.nd rfl (.inl rfl) (Ai r0 eB (by rfl) Al (Aa (pv 1) (Aa (pv 4) Ac))))
   (Af (Aq (i:=6) Eh.nd rfl (.inl rfl) (Ai r0 eB (by rfl) Al (Aa (pv 1) (Aa (pv 4) Ac))))
   (Af (Bc (Az (Hu (hu3 hr)) (Ai FN wR (by rfl) Ew (Aa (pv 2) (Aa (pv 5) Ac))) (Ai FN wR (by rfl) Ew (Aa (pv 3) (Aa (pv 5) Ac))) (Ax _)) (Ah (Am Ei)) Be)
   (Ah (Am (Fc C8 (Ai r6 hr (by rfl) Ew (Aa (pv 2) (Aa (pv 5) (Aa (pv 6) Ac)))) (Ai r6 hr (by rfl) Ew (Aa (pv 3) (Aa (pv 5) (Aa (pv 6) Ac)))) (Ax _)))))))))))))),?_⟩
  refine⟨_,rfl,a,ns,rfl,hS,aG,λdr sc H1 vz CW d1 s1=>?_⟩;have lO:Tab2 T T2 (lamPos s_in_order) (Ef s_ways_to) H1:=⟨.inl (s1 _ _ sg),.inl (s1 _ _ mM),nT⟩;refine⟨_,rfl,dr,sc,10,rfl,by decide,d1,λr row n st aV H2 nr hn cu hR hp eQ d2 b2=>?_⟩;have h6:=lO.butD d1 b2;have hI:Isl row:=⟨n,st,aV,by omega,cu,hp⟩;have R2:=hI.row2;have rq:(Bh st aV n).length=n:=by unfold Bh;rw[L5,N4]
  have zP:(dit row).length=n:=by
   have kZ:(dit row).Perm (Bh st aV n):=Gf (Ck row) (Kw cu (by omega)) λx=>by
    rw[Ae,hp.mem_iff,Mm,or_self]
   rw[kZ.length_eq,rq]
  have o8:=Gy R2.two;have ik:r≠dr:=(d1.ne nr).1;dsimp only[Dx,Fa,Bi];refine⟨_,rfl,_,rfl,dr,sc,r,row,rfl,d2,hR,ik,by omega,R2.two,eQ,λo3 t3 H3 zQ zR lQ zS d3 b3=>?_⟩;have iN:=h6.butD d2 b3;have zT:=b3 _ _ hR ik;have qb:o3≠dr:=(d2.ne zQ).1;refine Xgq (t:=Jn _ _ _) (fun Z H4=>∃(o:ae) (aF:Za), Z=[some (.ref a),some (.ref dr),some (.ref r),some (.ref o),none,none,none]/\H4 r=some (.lst (row.map V.str))/\H4 o=some (.lst (aF.map V.str))/\o≠dr/\(∀z,z∈row↔z∈aF)/\(∀y∈aF,aF.count y=2)/\A6 aF/\DrawOk H4 dr sc/\Tab2 T T2 (lamPos s_in_order) (Ef s_ways_to) H4) ?_ ?_
  ·rintro Z H4 ⟨o,aF,rfl,lZ,r9,pZ,iI,h9,me,d4,fH⟩;have sG:(dit aF).length=n:=by rw[<-Lx iI];exact zP
   have qA:=Gy h9;have Ro:Row2 aF:=⟨h9,λy hy=>R2.ok y ((iI y).mpr hy),by omega⟩;refine⟨_,rfl,r,row,rfl,lZ,R2,eQ,by omega,fH.a,λl ps Ts H5 nl fF u7 io pw wS t5 mR=>?_⟩;have mR:But T H4 H5:=mR;have eC:l≠dr:=(d4.ne nl).1;have e5:Ev39 H5 T T2 (lamPos s_in_order) (Ef s_ways_to) dr sc r o l row aF ps Ts:=
    ⟨mR _ _ lZ (Ak.ne fH.a lZ λz=>by simp),mR _ _ r9 (Ak.ne fH.a r9 λz=>by simp),fF,u7,d4.butT fH.a mR,fH.butT t5 mR⟩
   have lP:∀S∈Ts,∀y∈S,okN y:=λS hS y hy=>R2.ok y ((Bw ((io S).mp hS)).1 y hy);have rA:∀{Us:List (Za)},(∀S,S∈Us↔isPlotB aF S=true)->∀S∈Us,∀y∈S,okN y:=λh S hS y hy=>Ro.ok y ((Bw ((h S).mp hS)).1 y hy);dsimp only[Dx,Fa,Bi];refine⟨_,rfl,_,rfl,r,o,row,aF,rfl,Xql e5.hr e5.ho R2 Ro (by omega) (by omega),λrr v H6 zU m9 s6=>?_⟩;have e6:=e5.same s6;refine⟨rfl,_,rfl,o,aF,rfl,e6.ho,Ro,me,by omega,e6.tab.a,λl7 CY Us H7 CZ zV zW rB zX _ t7 u8=>?_⟩;have u8:But T H6 H7:=u8;have e7:=e6.butT t7 u8;refine⟨_,rfl,.list (Us.map Ba),.list (Ts.map Ba),Gx zV zW,Gx e7.hl e7.ht,Co _ (Fm (rA rB)),Co _ (Fm lP),Xf0 _ _,rfl,_,rfl,?_⟩;rw[Xfz (rA rB) lP];have hv:v = .non↔rr=none:=by
    cases rr with
    | none=>exact⟨λ_=>rfl,λ_=>m9⟩
    | some ss=>
     obtain⟨q,rfl,_⟩:=m9;exact⟨(λz=>by cases z),(λz=>by cases z)⟩
   have hU:Us=Ts ↔ ∀S,isPlotB row S=true↔isPlotB aF S=true:=by
    constructor
    ·rintro rfl S;exact(io S).symm.trans (rB S)
    ·intro h;exact Xn5 zX pw λS=>(rB S).trans ((h S).symm.trans (io S).symm)
   have eD:decide (v = .non)=decide (Us=Ts):=by
    have:=(hv.trans (Xo4 R2.two h9 eQ me zU)).trans hU.symm;by_cases z:v = .non
    ·rw[Qr z,Qr (this.mp z)]
    ·rw[Qs z,Qs λq=>z (this.mpr q)]
   rw[eD,Qr rfl];refine Bt ?_;dsimp only[E9];have u9:=Xgf R2.two eQ (Lu pw) io;refine Xgq (t:=Jn _ _ _) (fun Z H8 => Z=[some (.ref a),some (.ref dr),some (.ref r),some (.ref o),some (.ref l),none,none]/\Ev39 H8 T T2 (lamPos s_in_order) (Ef s_ways_to) dr sc r o l row aF ps Ts) ?_ ?_
   ·rintro Z H8 ⟨rfl,e8⟩;dsimp only[Dx];refine⟨_,rfl,o,aF,rfl,e8.ho,Ro,me,by omega,e8.tab.a,λl9 wT Ws H9 zY uA uB qd wU _ t9 uC=>?_⟩;have e9:=e8.butT t9 uC;refine⟨_,rfl,.list (Ws.map Ba),.list (Ts.map Ba),Gx uA uB,Gx e9.hl e9.ht,Co _ (Fm (rA qd)),Co _ (Fm lP),Xf0 _ _,_,rfl,?_⟩;rw[Xfz (rA qd) lP];by_cases eW:Ws=Ts
    ·rw[Qr eW];refine Bt ?_;have iO:∀S,isPlotB row S=true↔isPlotB aF S=true:=λS=>by
      rw[<-qd,eW,io]
     have qf:isPlotB row=isPlotB aF:=funext λS=>by
      have:=iO S;cases e1:isPlotB row S<;>cases e2:isPlotB aF S<;>simp[e1,e2] at this ⊢
     dsimp only[E9,Dx,Fa,Bi];have wV:0<ps.length:=by rw[u7.1];exact Pp ((io []).mpr (Xec row))
     refine⟨_,rfl,_,rfl,dr,sc,l,_,rfl,e9.d,e9.hl,eC,by rw[L5];exact wV,by rw[L5];omega,λi1 Ha rC da ba=>?_⟩;rw[L5] at rC;rw[Cz V.ref 0 ps rC];have ea:=e9.butD da ba ik pZ eC;refine⟨_,rfl,_,rfl,dr,sc,l,_,rfl,ea.d,ea.hl,eC,by rw[L5];exact wV,by rw[L5];omega,λi2 Hb dP db bb=>?_⟩;rw[L5] at dP;rw[Cz V.ref 0 ps dP];have eb:=ea.butD db bb ik pZ eC;have qg:=eb.ht.2 i1 rC;have ia:=eb.ht.2 i2 dP;have iS:=(io _).mp (SH.Tups.at eb.ht rC);have iG:=(io _).mp (SH.Tups.at eb.ht dP);generalize ps.getD i1 0=p at qg;generalize ps.getD i2 0=q at ia;generalize Ts.getD i1 []=S at qg iS;generalize Ts.getD i2 []=G at ia iG;have wW:isPlotB aF S=true:=(iO S).mp iS;have zZ:isPlotB aF G=true:=(iO G).mp iG;refine⟨_,rfl,_,rfl,r,p,row,S,rfl,eb.hr,R2,eQ,by omega,eb.tab.a,qg,iS,λDc qc Hc Do As At lc tc bc=>?_⟩;have bc:But T Hb Hc:=bc;have ec:=eb.butT tc bc;have qh:=bc _ _ qg (Ak.ne eb.tab.a qg λz=>by simp);have uD:=bc _ _ ia (Ak.ne eb.tab.a ia λz=>by simp);refine⟨_,rfl,_,rfl,o,p,aF,S,rfl,ec.ho,Ro,me,by omega,ec.tab.a,qh,wW,λDe qe He DA A' dZ le te be=>?_⟩;have be:But T Hc He:=be;have ee:=ec.butT te be;have kc:∀{b:ae} {u:HO},Hc b=some u->(∀z,u ≠ .tbl z)->He b=some u:=λe n=>be _ _ e (Ak.ne ec.tab.a e n);have qi:=kc qh λz=>by simp
     have qj:=kc uD λz=>by simp
     have uE:=kc As λz=>by simp
     have uF:Nbs He qc (nbL row S):=At.keep λb w e=>kc e λz=>by simp
     have eN:nbL aF S=nbL row S:=by
      unfold nbL;rw[<-qf,Lx iI]
     rw[eN] at dZ;have rD:=Xo5 (Xo6 (S:=S) R2);refine⟨.list ((nbL row S).map dNb),.list ((nbL row S).map dNb),Xgj uE uF,Xgj A' dZ,Co _ rD,Co _ rD,?_,_,rfl,?_⟩
     ·exact M8 (Nat.min_le_left _ _) (Xqm _)
     rw[(Hw _ _ rD rD).mpr rfl];refine Bt ?_;dsimp only[E9];have wX:S.length<=24:=M8 (Im iS) (by omega);have wY:G.length<=24:=M8 (Im iG) (by omega);have kD:∀y∈S,okN y:=λy hy=>R2.ok y ((Bw iS).1 y hy);have pB:∀y∈G,okN y:=λy hy=>R2.ok y ((Bw iG).1 y hy);refine⟨_,rfl,_,rfl,_,rfl,r,p,q,row,S,G,rfl,⟨ee.hr,R2,by omega,qi,qj,kD,pB,wX,wY⟩,eQ,by omega,ee.tab,λ_ _ Hf tf bf=>?_,λz=>by rw[iS,iG] at z;rcases z with z | z<;>cases z⟩;have ef:=ee.but3 tf bf;refine⟨_,rfl,_,rfl,_,rfl,o,p,q,aF,S,G,rfl,⟨ef.ho,Ro,by omega,ee.tab.but3 bf qi λz=>by simp,ee.tab.but3 bf qj λz=>by simp,kD,pB,wX,wY⟩,me,by omega,ef.tab,λ_ _ Hg tg bg=>?_,λz=>by rw[wW,zZ] at z;rcases z with z | z<;>cases z⟩;refine⟨rfl,?_⟩;have AA:wyI aF G S=wyI row G S:=by
      unfold wyI;rw[qf]
     rw[AA,Qr rfl];exact k Hg
    ·rw[Qs eW];exact Cv (k _)
   ·intro nx kn;have mf:row.length=aF.length:=by omega
    refine⟨_,rfl,_,rfl,r,o,row,aF,rfl,e7.hr,e7.ho,R2,Ro,λz=>absurd mf z,λ_=>⟨λ_ H8 s8=>?_,λz res l8 DB Zs H8 DC DE DF DG DH s8=>?_⟩⟩
    ·refine⟨rfl,_,rfl,?_⟩;refine Bt ?_;exact kn _ _ ⟨rfl,e7.same s8⟩
    ·refine⟨rfl,_,rfl,?_⟩;refine Cv ?_;have e8:=e7.same s8;refine⟨_,rfl,o,aF,rfl,e8.ho,Ro,me,by omega,e8.tab.a,λl9 wT Ws H9 zY uA uB qd wU _ t9 uC=>?_⟩;have e9:=e8.butT t9 uC;refine⟨l9,_,rfl,.inl (SqL.of uA),_,rfl,l,_,rfl,.inl (SqL.of e9.hl),rfl,_,rfl,?_⟩;have qk:=Xgf h9 me (Lu wU) qd;have kL:(dit row).length=(dit aF).length/\(crs row).length=(crs aF).length:=by
      rcases res with ⟨j,j1,_,j3,_⟩ | ⟨_,j,j1,_,j3,_⟩ | ⟨_,_,e⟩
      ·exact Xgg R2.two h9 mf (Nat.le_of_lt_succ j1) (.inl j3)
      ·exact Xgg R2.two h9 mf (Nat.le_of_lt_succ j1) (.inr j3)
      ·cases e
     have el:((wT.map V.ref).length:Int)=((ps.map V.ref).length:Int):=by
      rw[L5,L5,uB.1,u7.1,u9,qk,kL.1,kL.2]
     rw[el,Qr rfl];refine Bt ?_;exact kn _ _ ⟨rfl,e9⟩
  ·intro nx kn;refine⟨_,rfl,dr,sc,4,rfl,by decide,by decide,d3,λm H4 m0 m1 d4 b4=>?_⟩;have fH:=iN.butD d3 b4;have lZ:=b4 _ _ zT ik;have r9:=b4 _ _ zR qb;refine⟨rfl,_,rfl,?_⟩;refine Av (λ_=>?_) (λ_=>?_)
   ·refine⟨_,rfl,_,rfl,r,row,rfl,.inl (SqL.of lZ),by omega,λn5 H5 DI lY s5=>?_⟩;refine⟨n5,_,rfl,SqL.of lY,λn6 wZ=>?_⟩;have e6:upd H5 n6 (.lst ((dit row).map V.str).reverse) n6=some (.lst ((dit row).reverse.map V.str)):=by rw[Ab,List.map_reverse]
    have s6:Same H5 (upd H5 n6 (.lst ((dit row).map V.str).reverse)):=(Same.refl H5).step wZ;generalize upd H5 n6 (.lst ((dit row).map V.str).reverse)=H6 at e6 s6;have uG:=s5.trans s6;have d6:=d4.same uG;have uH:H4 n6=none:=s5.free wZ;refine⟨dr,sc,n6,(dit row).reverse,rfl,d6,e6,(d4.ne uH).1,(N9 _).nodup_iff.mpr (Ck row),by rw[Pf];omega,λo7 t7 H7 AB AC xa AD d7 b7=>?_⟩;have AE:But dr H4 H7:=λb u e nb=>b7 _ _ (uG _ _ e) nb;refine kn _ _ ⟨o7,t7,rfl,AE _ _ lZ ik,AC,(d6.ne AB).1,λz=>?_,Ez ((N9 _).nodup_iff.mpr (Ck row)) xa,AD,d7,(fH.same uG).butD d6 b7⟩;rw[xa.mem_iff,Mm,or_self,Ow,Ae]
   ·exact kn _ _ ⟨o3,t3,rfl,lZ,r9,qb,λz=>lQ.mem_iff.symm,λy hy=>by rw[lQ.count_eq];exact R2.two y (lQ.mem_iff.mp hy),zS,d4,fH⟩
end
end K39
set_option maxHeartbeats 4000000
namespace PySem.OldK
def of_tabs{h₀ h:ao}{L:List ae}(ht:∀T∈L,isCodeTable h₀ T)(hT:∀T∈L,h₀.get? T=some (DS #[]))(jH:∀T∈L,∃ps,h.get? T=some (DS ps))(k:∀b o,b∉L->h₀.get? b=some o->h.get? b=some o):xy h₀ h:=by
 refine⟨λb o e=>?_,λb o e=>?_⟩
 ·by_cases z:b∈L
  ·obtain⟨ps,gE⟩:=jH b z;rw[hT b z] at e;cases e;exact .inr (.inl ⟨ht b z,rfl, #[],ps,rfl,by simpa using gE⟩)
  ·exact .inl (k b o z e)
 ·by_cases z:b∈L
  ·obtain⟨ps,gE⟩:=jH b z;exact⟨_,gE⟩
  ·exact⟨o,k b o z e⟩
end PySem.OldK
namespace L2
def Xqo{P:au}{w:ay}{K:DK}{mg mb:ah->Option aa}{CX:CXT}{k:Nat}{fa a:ae}{fd:aw}{x:ah}{sp:Sp}{s₁ : ag}{vs:List aa}{ns:List Int}{L:List ae}
  (hT:∀T∈L,s₁.heap.get? T=some (DS #[])) (hTK:∀T∈L,K.lookup T=none) (hhd:∀T∈L,∃c0,DR K c0 T=true) (ii:BmOk mg s₁.heap)
  (KX:K.In s₁.heap) (kX:s₁.heap.Ns am mg) (hb:s₁.heap.Ns cF mb) (uq:∀x:ah,x ≠ "__name__" -> mb x=br x) (uI:s₁.heap.NoLimit) (hg:s₁.gens = #[])
  (ha:s₁.heap.get? a=some {cls:=.type "list",data:=.seq vs.toArray}) (hi:cW vs ns) (hl:ns.length<=sizeLine) (hr:Room k dD)
  (F:∀base:ao,K.In base->base.Ns am mg->BmOk mg base->FnOk P w K mg base CX k fa fd [x] sp) (qm:∀(s:ag) (u:aa),dw s fd ⟨[u],[]⟩ [(x,u)])
  (fQ:∀H:Hp,(∀T∈L,H T=some (.tbl #[]))->SqL K H a (ns.map V.int)->sp [.ref a] H (λv _=>v = .bl true) λ_ _ _=>False)
  (uJ:∀H e s',CX [] H s₁ (λ_ _ _=>False) e s'->False):
  bi (aj P w) dD (.call (.ref fa) ⟨[.ref a],[]⟩) (λr s'=>r = .ok (.ret (.bool true))/\xy s₁.heap s'.heap/\s'.os=s₁.os/\cq s'.gens) s₁:=by
 have rv:=Xbu hi;have uK:=hi.length;have qp:∀H:Hp,(∀T∈L,H T=some (.tbl #[]))->(∀b,b∉L->H b=none \/ ∃o xs,H b=some (.frz o (.lst xs)))->SqL K H a (ns.map V.int)->HOk P w H s₁.heap->(∀b,H b≠none->b=a\/b∈L)->(H a≠none->K.lookup a=none) ->
   bi (aj P w) dD (.call (.ref fa) ⟨[.ref a],[]⟩) (λr s'=>r = .ok (.ret (.bool true))/\xy s₁.heap s'.heap/\s'.os=s₁.os/\cq s'.gens) s₁:=by
  intro H xb hO hS hok hA hK;have eE:∀{b:ae} {o:aI},s₁.heap.get? b=some o->H b=none->(C5 s₁.heap H).get? b=some o:=λe n=>Xg1 e n;have jt:∀{b:ae} {o:aI} {es:Array kY} {ep:Nat},s₁.heap.get? b=some o->o.data = .dict es ep->H b=none:=λ{b o es ep} e d=>by
   cases q:H b with
   | none=>rfl
   | some u=>
    rcases hA b (by rw[q];simp) with e' | e'
    ·subst e';rw[ha] at e;cases e;have d':kQ.seq vs.toArray _=kQ.dict es ep:=d;cases d'
    ·rw[hT b e'] at e;cases e;cases d
  have rE:∀{b:ae} {m:ah->Option aa},s₁.heap.Ns b m->(C5 s₁.heap H).Ns b m:=λ{b m} ⟨o,es,ep,e,d,r⟩=>⟨o,es,ep,eE e (jt e d),d,r⟩;have xc:K.In (C5 s₁.heap H):=λb o e=>eE (KX b o e) (by
   cases q:H b with
   | none=>rfl
   | some u=>
    rcases hA b (by rw[q];simp) with e' | e'
    ·subst e';rw[hK (by rw[q];simp)] at e;cases e
    ·rw[hTK b e'] at e;cases e)
  have uL:BmOk mg (C5 s₁.heap H):=by
   obtain⟨bm,ob,b1,b2,b3,b4,b5,b6⟩:=ii;refine⟨bm,ob,b1,b2,eE b3 ?_,b4,b5,b6⟩;cases q:H bm with
   | none=>rfl
   | some u=>
    rcases hA bm (by rw[q];simp) with e' | e'
    ·subst e';rw[ha] at b3;cases b3;exact absurd (show aa.type "list" = aa.type "module" from b4) (by decide)
    ·rw[hT bm e'] at b3;cases b3;cases b4
  have hM:Mod K mg (C5 s₁.heap H):=⟨xc,rE kX,⟨mb,rE hb,uq⟩,let ⟨mc,h1,h2⟩:=uI; ⟨mc,rE h1,h2⟩⟩;have e0:Env0 P w K mg (C5 s₁.heap H) dD [] s₁ H:=⟨rfl,hM,λb o e=>Xg2 e,Nat.le_of_eq (Xg0 _ _),trivial,λb hb=>absurd (show b∈([]:List ae) from hb) (by simp),hok,.of_eq hg⟩;refine bv ((F _ xc (rE kX) uL).run dD [] s₁ H ⟨[.ref a],[]⟩ [.ref a] [.ref a] _ _ hr e0 (qm s₁ (.ref a)) (.cons rfl .nil) (fQ H xb hS)) λr s' h=>?_;cases r with
  | error e=>exact(uJ H e s' h).elim
  | ok fl=>
   cases fl with
   | next=>exact False.elim h
   | brk=>exact False.elim h
   | cont=>exact False.elim h
   | ret u=>
    obtain⟨v,H',os,bare,un,qq,r',q⟩:=h;have q':v = .bl true:=q;subst q';obtain rfl:u=aa.bool true:=r';refine⟨rfl,xy.of_tabs (L:=L) (λT hm=>by obtain⟨c0,hh⟩:=hhd T hm;have C:=DW KX hh;exact(C.tab (hT T hm)).isCodeTable) hT (λT hm=>?_) λb o nb e=>?_,os,bare⟩
    ·obtain⟨bL,AF⟩:=un.tbls T #[] (xb T hm);exact⟨#[]++bL,qq T _ AF⟩
    cases q:H b with
    | none=>exact un.keep b o e q (by intro z;exact absurd (show b∈([]:List ae) from z) (by simp)) (by simp)
    | some u=>
     rcases hO b nb with z | ⟨ob,xs,z⟩
     ·rw[q] at z;cases z
     ·have z2:=un.frzs b ob _ z;obtain⟨e1,_⟩:=hok b _ z;obtain⟨e2,_⟩:=qq b _ z2;rw[e] at e1;cases e1;exact e2
 cases hk:K.lookup a with
 | some o=>
  have e:=KX a o hk;rw[ha] at e;cases e;have uM:a∉L:=λz=>by rw[hTK a z] at hk;cases hk
  refine qp (λb=>if b∈L then some (.tbl #[]) else none) (λT hm=>Qq hm) (λb n=>.inl (Qp n)) (.inr ⟨_,vs.toArray,_,hk,rfl,rfl,rfl,by rw[Md,uK];exact hl,by simpa using rv⟩) (λb u z=>?_) (λb z=>.inr (Classical.byContradiction λn=>z (Qp n))) λz=>absurd (Qp uM) z;by_cases hb:b∈L
  ·have z':=(Qq hb).symm.trans z;cases z';exact hT b hb
  ·have z':=(Qp hb).symm.trans z;cases z'
 | none=>
  have uM:a∉L:=λz=>by have:=hT a z;rw[ha] at this;cases this
  refine qp (λb=>if b∈L then some (.tbl #[]) else if b=a then some (.frz {cls:=.type "list",data:=.seq vs.toArray} (.lst (ns.map V.int))) else none) (λT hm=>Qq hm) (λb n=>?_) (.inl (.inr ⟨{cls:=.type "list",data:=.seq vs.toArray},(Qp uM).trans (Qq rfl)⟩)) (λb u z=>?_) (λb z=>?_) λ_=>hk
  ·by_cases hb:b=a
   ·exact .inr ⟨_,_,(Qp n).trans (Qq hb)⟩
   ·exact .inl ((Qp n).trans (Qp hb))
  ·by_cases hb:b∈L
   ·have z':=(Qq hb).symm.trans z;cases z';exact hT b hb
   ·have z1:=(Qp hb).symm.trans z;by_cases hb:b=a
    ·have z':=(Qq hb).symm.trans z1;cases z';subst hb;exact⟨ha,by rw[L5];exact hl,vs,_,rv,ha⟩
    ·have z':=(Qp hb).symm.trans z1;cases z'
  ·by_cases hb:b∈L
   ·exact .inr hb
   ·by_cases hc:b=a
    ·exact .inl hc
    ·exact absurd ((Qp hb).trans (Qp hc)) z
def Xqp{l:EN}{n k:Nat}{q:au}{loose:Za}{XP:(ah->Option aa)->ao->Prop}{YP:ay->ao->Prop}{d:DefRec}{K:AG->DK}{CX:ay->CXT}{sp:ay->Sp}{x:ah}{L:List ae}
  (hn:l.most=some n) (uy:n<=sizeLine) (nC:d.params.defaults=[]) (hr:Room k dD)
  (hY:∀(w:ay) (h:ao),YP w h->(K w.params).In h) (uN:∀(w:ay) (h:ao),YP w h->∀T∈L,h.get? T=some (DS #[])) (hTK:∀P,∀T∈L,(K P).lookup T=none) (hhd:∀P,∀T∈L,∃c0,DR (K P) c0 T=true)
  (F:∀(w:ay) (mg:ah->Option aa) (fa:ae) (h:ao),(K w.params).In h->h.Ns am mg->mg d.name=some (.ref fa) ->
   ∃fd:aw,(∀(s:ag) (u:aa),dw s fd ⟨[u],[]⟩ [(x,u)]) /\
    ∀base:ao,(K w.params).In base->base.Ns am mg->BmOk mg base->FnOk l.prog w (K w.params) mg base (CX w) k fa fd [x] (sp w))
  (fQ:∀(w:ay) (H:Hp) (a:ae) (ns:List Int),ns.length<=n->(∀T∈L,H T=some (.tbl #[]))->SqL (K w.params) H a (ns.map V.int)->sp w [.ref a] H (λv _=>v = .bl true) λ_ _ _=>False)
  (uJ:∀(w:ay) (H:Hp) (s:ag) (e:aa) (s':ag),CX w [] H s (λ_ _ _=>False) e s'->False):
  ER q loose XP YP l.row.toRowW d [] (λf vs=>PySem.call f vs):=by
 refine Att.attach_call hn nC λw s₀ s₁ mg mb fa o pm cd cK a vs ns G Y ho hd fP hmg kW ix aG hg=>?_;have KX:=hY w _ Y;obtain⟨fd,hb,hF⟩:=F w mg fa _ KX G.T.g hmg;exact Xqo (uN w _ Y) (hTK _) (hhd _) G.T.bmain KX G.T.g G.T.b G.T.builtins G.T.nolimit hg kW ix (M8 aG uy) hr hF hb (λH hO hS=>fQ w H a ns aG hO hS) λH e s'=>uJ w H s₁ e s'
def Fn.ofT{P:au}{w:ay}{K:DK}{h:ao}{mg:ah->Option aa}{base:ao}{CX:CXT}{k:Nat}{x:ah}{st:aO}{ps:Za}{sp:Sp}{T:ae}(X:K.In h)(G:h.Ns am mg)(D:DefT K x st T)
  (hb:∀(kV cK pm:aa) (an:Option ae) (cdv ct:aa) (us:List aa),us.length=ps.length->cD (DT x x (Dl st) (B1 st) (defScope st) .none kV cK pm an cdv ct) ⟨us,[]⟩=pure (ps.zip us))
  (ok:∀f fd,FunT K x st f fd T->FnOk P w K mg base CX k f fd ps sp):Fn P w K mg base CX k x ps sp:=by
 obtain⟨f,fd,a,hk,F,F'⟩:=D.ex;exact⟨⟨f,fd,EB X G a,hk,F'.binds hb,ok f fd F⟩⟩
end L2
namespace HD
open PySem PySem.W PySem.Calls PyProof.Rows
abbrev O:=Option SharedT
noncomputable abbrev B (a b:O) (c:Bool):O := @Bool.rec (λ_=>O) a b c
noncomputable def go (F:SharedT->dg->Option (SharedT×dg)) (ok:dg->Bool) (n:Nat):SharedT->dg->O := @Nat.rec (λ_=>SharedT->dg->O) (λ_ _=>none) (λ_ ih s t=>B (B none (@Option.rec (SharedT×dg) (λ_=>O) none (λx=>@Prod.rec SharedT dg (λ_=>O) ih x) (F s t)) (ok t)) (some s) (through t)) n
def Xqq{tb p w m a z}:∀n s t,go (stepT (denote tb) p w) (stepOk m a) n s t=some z->topRun tb p w m a n s.abs t=some z.abs:=by
 intro n
 induction n with
 | zero=>intro s t h;cases h
 | succ n ih=>
  intro s t h;unfold topRun;have h':B (B none (@Option.rec (SharedT×dg) (λ_=>O) none (λx=>@Prod.rec SharedT dg (λ_=>O) (go (stepT (denote tb) p w) (stepOk m a) n) x) (stepT (denote tb) p w s t)) (stepOk m a t)) (some s) (through t)=some z:=h;cases ht:through t with
  | true=>rw[ht] at h';cases h';rfl
  | false=>
   cases hk:stepOk m a t with
   | false=>rw[ht,hk] at h';cases h'
   | true=>
    cases hs:stepT (denote tb) p w s t with
    | none=>rw[ht,hk,hs] at h';cases h'
    | some x=>
     rw[ht,hk,hs] at h';rw[stepT_spec hs];exact ih _ _ h'
noncomputable def tree (P:AG):BT:=((boot_heap P).objs.toList.foldl (λ(x:BT×Nat) o=>(x.1.ins x.2 o,x.2+1)) (.nil,0)).1
def Xqr(P):absHeap (tree P) 11 {}=boot_heap P:=by kernel_rfl
def Xqs(P):((boot_heap P).isNs am,(boot_heap P).objs.size,(boot_heap P).nsMap am "__annotations__")=(true,11,some (.ref 6)):=by kernel_rfl
abbrev ck (p:au) (g h:ao) (z:ag):=staticsOk (mS p.main.body) g h&&namesBound p h&&gensDone z&&laidKept g h
def left{p q loose Xt α}{Yf:ag->α}{Ya N g}(e:opening p=plainProg p.main.scope.names)(hN:Nat.ble 600 N=true)(f:∀s,fenceModules? p s=some s)
 (h:∀w:ay,(λos=>(go (Fast.tw10156331382660048174 (Fast.tw11892475500146522536 Fast.tw14364793385576792824) p w) (Fast.tw6613529449190102663 11 (some (.ref 6))) N ⟨tree w.params,11,{},#[],boot_drawn,boot_toks,os⟩ (topStub p)).map λz=>(ck p (boot_heap w.params) z.abs.heap z.abs,Fast.tw4187177175401517315 q loose (mS p.main.body) Xt g z.abs,Yf z.abs))=λ_=>some (true,openGood q loose,Ya w)):LeftO p q loose Xt Yf Ya N g:=λw=>by
 rw[<-Fast.te10156331382660048174,<-Fast.te11892475500146522536,<-Fast.te14364793385576792824,<-Fast.te6613529449190102663,<-Fast.te4187177175401517315] at h;obtain⟨⟨hp,gs,d,k,os⟩,e1,e2⟩:=Ot.mp (boot_open e hN f w);obtain⟨rfl,rfl,rfl,rfl⟩:hp=boot_heap w.params/\gs=#[]/\d=boot_drawn/\k=boot_toks:=by simpa using e2
 obtain⟨z1,z2,z3⟩:_/\_/\_:=by simpa only[Prod.mk.injEq] using Xqs w.params
 obtain⟨z,hz,l⟩:=Ot.mp (congrFun (h w) os);obtain⟨l1,l2,l3⟩:_/\_/\_:=by simpa only[Prod.mk.injEq] using l
 have r:=Xqq _ _ _ hz;rw[show (SharedT.mk (tree w.params) 11 {} #[] boot_drawn boot_toks os).abs=⟨boot_heap w.params,#[],boot_drawn,boot_toks,os⟩ by show ag.mk (absHeap (tree w.params) 11 {}) _ _ _ _=_;rw[Xqr]] at r;unfold openEnds;rw[e1];show (topFrom DJ p w N _).map _=_;rw[show topFrom DJ p w N ⟨boot_heap w.params,#[],boot_drawn,boot_toks,os⟩=some z.abs by
  unfold topFrom;dsimp only;rw[z1,z2,z3,r];show (match ck p (boot_heap w.params) z.abs.heap z.abs with | true=>_ | false=>_)=_;rw[l1]]
 exact congrArg some (Prod.ext l2 l3)
def isDef:aO->Bool
 | .Assign _ (.Constant (.str _) _ _) _=>false
 | _=>true
end HD
namespace L2
open PySem
def len1{us:List aa}(h:us.length=1):∃a,us=[a]:=List.length_eq_one_iff.mp h
def len2{us:List aa}(h:us.length=2):∃a b,us=[a,b]:=by
 cases us with
 | nil=>cases h
 | cons a r=>
  obtain⟨b,rfl⟩:=len1 (Qj h);exact⟨a,b,rfl⟩
def len3{us:List aa}(h:us.length=3):∃a b c,us=[a,b,c]:=by
 cases us with
 | nil=>cases h
 | cons a r=>
  obtain⟨b,c,rfl⟩:=len2 (Qj h);exact⟨a,b,c,rfl⟩
def len4{us:List aa}(h:us.length=4):∃a b c d,us=[a,b,c,d]:=by
 cases us with
 | nil=>cases h
 | cons a r=>
  obtain⟨b,c,d,rfl⟩:=len3 (Qj h);exact⟨a,b,c,d,rfl⟩
end L2
local macro_rules | `(tactic| walk_at "1") => `(tactic| (intro _ _ _ _ _ _ us hl;obtain⟨a,e⟩:=L2.len1 hl;subst e;rfl))
local macro_rules | `(tactic| walk_at "2") => `(tactic| (intro _ _ _ _ _ _ us hl;obtain⟨a,b,e⟩:=L2.len2 hl;subst e;rfl))
local macro_rules | `(tactic| walk_at "3") => `(tactic| (intro _ _ _ _ _ _ us hl;obtain⟨a,b,c,e⟩:=L2.len3 hl;subst e;rfl))
local macro_rules | `(tactic| walk_at "4") => `(tactic| (intro _ _ _ _ _ _ us hl;obtain⟨a,b,c,d,e⟩:=L2.len4 hl;subst e;rfl))
namespace K39
open L2 SH
def Xqt{P:au}{w:ay}{K:DK}{h:ao}{mg:ah->Option aa}{fa hJ iP T_ uO:ae}(X:K.In h)(G:h.Ns am mg)(AH:mg "law" = some (.ref fa))
  (fI:DefAt K "ask_ditch" sAsk)
  (hV:DefAt K "ditches" sDitches)
  (mh:DefAt K "ends" sEnds)
  (jN:DefAt K "spans" sSpans)
  (iQ:DefAt K "lie_of" sLieOf)
  (qr:DefAt K "lie" sLie)
  (fJ:DefAt K "crossings" sCross)
  (iR:DefAt K "turned" s_turned)
  (gt:DefAt K "mirrored" s_mirrored)
  (mi:DefAt K "told" sTold)
  (d_in_order:DefT K "in_order" s_in_order T_)
  (iT:DefAt K "allows" sAllows)
  (hX:DefAt K "is_plot" sIsPlot)
  (gu:DefAt K "ask_plot" s_ask_plot)
  (jO:DefAt K "plots" s_plots)
  (en:DefAt K "parting" s_parting)
  (iU:DefAt K "across" s_across)
  (eF:DefAt K "neighbours" s_neighbours)
  (iV:DefAt K "paired" s_paired)
  (mj:DefAt K "same" s_same)
  (iW:DefAt K "unlike" s_unlike)
  (d_ways_to:DefT K "ways_to" s_ways_to uO)
  (eG:DefAt K "walks_many" s_walks_many)
  (eI:DefAt K "_law_begin" sBegin)
  (fK:DefAt K "_law_pick" sPick)
  (gx:DefAt K "_law_put" sPut)
  (eJ:DefAt K "_law_where" sWhere)
  (fM:DefAt K "_law_word" sWord)
  (dU:DefAt K "_law_barred" sBarred)
  (gy:DefAt K "_law_row" sRow)
  (eK:DefAt K "_law_names" sNames)
  (dW:DefAt K "_law_island" sIsland)
  (dL:DefAt K "_law_swapped" s__law_swapped)
  (dh:DefAt K "_law_twin_row" s__law_twin_row)
  (gz:DefAt K "_law_one" s__law_one)
  (qt:DefAt K "law" s_law)
  (x_NoDitch:ExcAt K "NoDitch" hJ)
  (x_NoPlot:ExcAt K "NoPlot" iP)
  (AI:T_≠uO)
  (zZip:DM K am "zip" = some none)
  (z_len:DM K am "len" = some none)
  (z_range:DM K am "range" = some none)
  (z_list:DM K am "list" = some none)
  (z_min:DM K am "min" = some none)
  (z_isinstance:DM K am "isinstance" = some none)
  (z_all:DM K am "all" = some none)
  (z_str:DM K am "str" = some none)
  (z_ValueError:DM K am "ValueError" = some none)
  (z_sorted:DM K am "sorted" = some none)
  (z_set:DM K am "set" = some none)
  (z_enumerate:DM K am "enumerate" = some none)
  (z_int:DM K am "int" = some none)
  (z_bool:DM K am "bool" = some none)
  (z_tuple:DM K am "tuple" = some none)
  (z_any:DM K am "any" = some none)
  (z_dict:DM K am "dict" = some none)
  (z_sum:DM K am "sum" = some none)
  (z_max:DM K am "max" = some none)
  : ∃fd:aw,(∀(s:ag) (v:aa),dw s fd ⟨[v],[]⟩ [("_law_script",v)])/\∀base:ao,K.In base->base.Ns am mg->BmOk mg base->FnOk P w K mg base CX0 8 fa fd ["_law_script"] (Jj K T_ uO):=by
 have T:Bl mg:=⟨DL X G z_len,DL X G z_range,DL X G z_list,DL X G z_min,DL X G z_isinstance,DL X G z_all,DL X G z_str,DL X G z_ValueError,DL X G z_sorted,DL X G z_set,DL X G z_enumerate,DL X G z_int,DL X G z_bool,DL X G z_tuple,DL X G z_any,DL X G z_dict,DL X G z_sum,DL X G z_max⟩;obtain⟨f,fd,a,hk,F⟩:=qt.ex;have e:=AH.symm.trans (EB X G a);cases e;refine⟨fd,?_,λbase hB hG ii=>?_⟩
 ·obtain⟨oc,od,kV,cK,pm,an,cdv,ct,fX,rfl,lk,fP⟩:=F.ex;exact λs v=>.of_eq rfl
 ·have FB:Fn P w K mg base _ _ _ _ _:=Fn.of X G eI (by walk_at "1") λf fd F=>Xp8 F T;have FP:FnPick P w K mg base:=Fn.of X G fK (by walk_at "2") λf fd F=>Xp9 F T;have FU:Fn P w K mg base _ _ _ _ _:=Fn.of X G gx (by walk_at "4") λf fd F=>Xqa F;have FW:Fn P w K mg base _ _ _ _ _:=Fn.of X G eJ (by walk_at "1") λf fd F=>Xqb F T;have FO:Fn P w K mg base _ _ _ _ _:=Fn.of X G fM (by walk_at "3") λf fd F=>Xqc F T;have FA:Fn P w K mg base _ _ _ _ _:=Fn.of X G dU (by walk_at "2") λf fd F=>Xqd F T FW FO;have FR:Fn P w K mg base _ _ _ _ _:=Fn.of X G gy (by walk_at "2") λf fd F=>Xqe F T FP FU FA;have FN:Fn P w K mg base _ _ _ _ _:=Fn.of X G eK (by walk_at "2") λf fd F=>Xqf F T FP;have FI:Fn P w K mg base _ _ _ _ _:=Fn.of X G dW (by walk_at "2") λf fd F=>Xqg F T FP FN FR;have FK:Fn P w K mg base _ _ _ _ _:=Fn.of X G fI (by walk_at "2") λf fd F=>Xo8 F (EB X G x_NoDitch.a) x_NoDitch.e;have FD:Fn P w K mg base _ _ _ _ _:=Fn.of X G hV (by walk_at "1") λf fd F=>Xpa F T;have FE:Fn P w K mg base _ _ _ _ _:=Fn.of X G mh (by walk_at "2") λf fd F=>Xpb F T FK;have uP:Fn P w K mg base _ _ _ _ _:=Fn.of X G jN (by walk_at "1") λf fd F=>Xpd F FD FE;have rF:Fn P w K mg base _ _ _ _ _:=Fn.of X G iQ (by walk_at "2") λf fd F=>Xpe F;have AJ:Fn P w K mg base _ _ _ _ _:=Fn.of X G fJ (by walk_at "1") λf fd F=>Xph F uP rF;have xf:Fn P w K mg base _ _ _ _ _:=Fn.of X G mi (by walk_at "1") λf fd F=>Xpn F T;have AK:Fn P w K mg base _ _ _ _ _:=Fn.of X G iT (by walk_at "2") λf fd F=>Xpr F;have AL:Fn P w K mg base _ _ _ _ _:=Fn.of X G hX (by walk_at "2") λf fd F=>Xps F T uP rF xf AK;have AM:Fn P w K mg base _ _ _ _ _:=Fn.ofT X G d_in_order (by walk_at "1") λf fd F=>Xpp F T ii;have kK:Fn P w K mg base _ _ _ _ _:=Fn.of X G jO (by walk_at "1") λf fd F=>Xpv F uP rF xf AJ AM;have xg:Fn P w K mg base _ _ _ _ _:=Fn.of X G gu (by walk_at "2") λf fd F=>Xpu F (EB X G x_NoPlot.a) x_NoPlot.e AL;have xh:Fn P w K mg base _ _ _ _ _:=Fn.of X G en (by walk_at "2") λf fd F=>Xpw F T;have xi:Fn P w K mg base _ _ _ _ _:=Fn.of X G iU (by walk_at "2") λf fd F=>Xpz F T xh;have AN:Fn P w K mg base _ _ _ _ _:=Fn.of X G eF (by walk_at "2") λf fd F=>Xp0 F xg kK FD xi;have FL:Fn P w K mg base _ _ _ _ _:=Fn.of X G qr (by walk_at "3") λf fd F=>Xpg F FE rF;have AO:Fn P w K mg base _ _ _ _ _:=Fn.of X G en (by walk_at "2") λf fd F=>Xpx F T;have AQ:Fn P w K mg base _ _ _ _ _:=Fn.of X G iW (by walk_at "2") λf fd F=>Xp3 F AO FD FL;have AR:Fn P w K mg base _ _ _ _ _:=Fn.of X G iR (by walk_at "2") λf fd F=>Xpj F T;have AS:Fn P w K mg base _ _ _ _ _:=Fn.of X G gt (by walk_at "1") λf fd F=>Xpl F;have AT:Fn P w K mg base _ _ _ _ _:=Fn.of X G iV (by walk_at "2") λf fd F=>Xp1 F T (DL X G zZip);have u6:Fn P w K mg base _ _ _ _ _:=Fn.of X G mj (by walk_at "2") λf fd F=>Xp2 F T AS AR AT;have AU:Fn P w K mg base _ _ _ _ _:=Fn.ofT X G d_ways_to (by walk_at "2") λf fd F=>Xp4 F T ii kK xi xh;have r6:Fn P w K mg base _ _ _ _ _:=Fn.of X G eG (by walk_at "3") λf fd F=>Xp6 F xg AU;have AV:Fn P w K mg base _ _ _ _ _:=Fn.of X G dL (by walk_at "2") λf fd F=>Xqh F T FP;have u5:Fn P w K mg base _ _ _ _ _:=Fn.of X G dh (by walk_at "2") λf fd F=>Xqi F T FP AV FA;have r0:Fn P w K mg base _ _ _ _ _:=Fn.of X G gz (by walk_at "2") λf fd F=>Xqk F T FP;exact Xqn AI F T FB FP FI u5 FR kK AQ u6 r0 AN r6
def walk{l:EN}{q:au}{loose:Za}{XP:(ah->Option aa)->ao->Prop}{YP:ay->ao->Prop}{d:DefRec}{K:AG->DK}(hn:l.most=some 63)(nC:d.params.defaults=[])
  (hY:∀(w:ay) (h:ao),YP w h->(K w.params).In h) (uN:∀(w:ay) (h:ao),YP w h->∀T∈[129,200],h.get? T=some (DS #[])) (hTK:∀P,∀T∈[129,200],(K P).lookup T=none) (hhd:∀P,∀T∈[129,200],∃c0,DR (K P) c0 T=true)
  (F:∀(w:ay) (mg:ah->Option aa) (fa:ae) (h:ao),(K w.params).In h->h.Ns am mg->mg d.name=some (.ref fa) ->
   ∃fd:aw,(∀(s:ag) (u:aa),dw s fd ⟨[u],[]⟩ [("_law_script",u)])/\∀base:ao,(K w.params).In base->base.Ns am mg->BmOk mg base->FnOk l.prog w (K w.params) mg base CX0 8 fa fd ["_law_script"] (Jj (K w.params) 129 200)):
  ER q loose XP YP l.row.toRowW d [] (λf vs=>PySem.call f vs):=
 L2.Xqp (L:=[129,200]) (n:=63) (k:=8) (x := "_law_script") (CX:=λ_=>CX0) (sp:=λw=>Jj (K w.params) 129 200) hn (by decide) nC ⟨rfl,by decide,by decide,rfl⟩ hY uN hTK hhd F (λ_ _ a ns hl hT hS=>⟨a,ns,rfl,hS,hl,hT 129 (by decide),hT 200 (by decide),λ_=>rfl⟩) λ_ _ _ _ _ z=>z
end K39
open PySem PySem.W PyProof.Rows
local macro_rules | `(tactic| walk_at "D") => `(tactic| (refine' L2.DefAt.of ?a ?l ?c ?k;(case a=>k_is);(case l=>k_is);(case c=>k_is);(case k=>k_is)))
local macro_rules | `(tactic| walk_at "X") => `(tactic| (refine' ⟨?a,?e,?ga,?gn,?cl,?sb,?so,?sv,?ss,?ic,?ty⟩;(case a=>k_is);(case e=>k_exc);(case ga=>k_is);(case gn=>k_is);(case cl=>k_is);(case sb=>k_is);(case so=>k_is);(case sv=>k_is);(case ss=>k_is);(case ic=>k_is);(case ty=>k_is)))
def HD.q:Program:={PySem.Challenge.pw_shoretold_k39_whole_same_plots_same_lies with main:={PySem.Challenge.pw_shoretold_k39_whole_same_plots_same_lies.main with body:=PySem.Challenge.pw_shoretold_k39_whole_same_plots_same_lies.main.body.filter HD.isDef}}
theorem HD.said:PySem.Challenge.rw_shoretold_k39_whole_same_plots_same_lies.wellSaid=true:=by
 rw[Fast.te9446332074065402090]
 kernel_rfl
local macro_rules | `(tactic| o_head $H) => `(tactic| refine PySem.W.holds_open (q:=HD.q) (loose:=[]) (Xt:=λs=>xlAt HD.q [] s&&recOk [] s) (XP:=XL HD.q []) (N:=1000000) ?hl (Hook.of $H) (Hook.keeps $H) (λs e=>xl_of s (Bool.and_eq_true_iff.mp e).1) XL.keeps (by rfl) (by rfl) (by rfl) (λs e=>recFacts_of (Bool.and_eq_true_iff.mp e).2) (by rfl) (by assumption) (by decide +kernel) ⟨rfl,rfl,rfl,rfl,rfl,by decide +kernel⟩ ?hw ?hc)
set_option maxRecDepth 100000 in
set_option maxHeartbeats 0 in
theorem PySem.Challenge.cw_shoretold_k39_whole_same_plots_same_lies_holds : PySem.Challenge.rw_shoretold_k39_whole_same_plots_same_lies.Holds := by
 w_on
 refine holds_law HD.said λsaid=>?_
 k_head
 case hw=>w_witness2
 case hl=>exact HD.left (by kernel_rfl) (by kernel_rfl) (λs=>by kernel_rfl) (λw=>by kernel_rfl)
 k_fill
 refine K39.walk (l:=PySem.Challenge.rw_shoretold_k39_whole_same_plots_same_lies) rfl rfl (λw h Y=>PySem.W.km_in_of Y) (λw h Y T hm=>PySem.W.km_tabs_of Y T (by simp only[Mb,Nt,or_false] at hm ⊢; exact hm.symm)) ?hTK ?hhd ?F
 case hTK=>
  intro P T hm;rcases Mb.mp hm with e | e
  ·subst e;kernel_rfl
  ·rw[Mi.mp e];kernel_rfl
 case hhd=>
  intro P T hm;rcases Mb.mp hm with e | e
  ·subst e;exact⟨133,by kernel_rfl⟩
  ·rw[Mi.mp e];exact⟨202,by kernel_rfl⟩
 case F=>
  intro w mg fa h KX G hmg;refine' K39.Xqt KX G hmg ?_ ?_ ?_ ?_ ?_ ?_ ?_ ?_ ?_ ?_ ?d_in_order ?_ ?_ ?_ ?_ ?_ ?_ ?_ ?_ ?_ ?_ ?d_ways_to ?_ ?_ ?_ ?_ ?_ ?_ ?_ ?_ ?_ ?_ ?_ ?_ ?_ ?_ ?x_NoDitch ?x_NoPlot (by decide) ?zZip ?z_len ?z_range ?z_list ?z_min ?z_isinstance ?z_all ?z_str ?z_ValueError ?z_sorted ?z_set ?z_enumerate ?z_int ?z_bool ?z_tuple ?z_any ?z_dict ?z_sum ?z_max
  any_goals walk_at "D"
  (case d_in_order=>(refine' L2.DefT.of ?a ?l ?c ?k ?t;(case a=>k_is);(case l=>k_is);(case c=>k_is);(case k=>k_is);(case t=>kernel_rfl)))
  (case d_ways_to=>(refine' L2.DefT.of ?a ?l ?c ?k ?t;(case a=>k_is);(case l=>k_is);(case c=>k_is);(case k=>k_is);(case t=>kernel_rfl)))
  (case x_NoDitch=>walk_at "X")
  (case x_NoPlot=>walk_at "X")
  (case zZip=>k_is)
  (case z_len=>k_is);(case z_range=>k_is);(case z_list=>k_is);(case z_min=>k_is);(case z_isinstance=>k_is);(case z_all=>k_is);(case z_str=>k_is);(case z_ValueError=>k_is);(case z_sorted=>k_is);(case z_set=>k_is);(case z_enumerate=>k_is);(case z_int=>k_is);(case z_bool=>k_is);(case z_tuple=>k_is);(case z_any=>k_is);(case z_dict=>k_is);(case z_sum=>k_is);(case z_max=>k_is)
#print axioms PySem.Challenge.cw_shoretold_k39_whole_same_plots_same_lies_holds
