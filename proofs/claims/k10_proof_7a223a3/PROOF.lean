import PyProof.Rows.All
import Wide.All
import OpenK.AllK
import Wide.FinOn
import PySem.Challenge.RW_shoretold_k10_whole_told_from_another_st
set_option bootstrap.genMatcherCode false
noncomputable section
set_option Elab.async false
set_option linter.all false
set_option maxRecDepth 100000
abbrev T6 := @if_neg
abbrev T7 := @if_pos
abbrev T8 := @decide_eq_true
abbrev T9 := @decide_eq_false
abbrev Ua := @of_decide_eq_true
abbrev Ub := @of_decide_eq_false
local macro_rules | `(tactic| walk_at "s") => `(tactic| exact ⟨rfl,rfl,rfl,by decide +kernel,rfl,by decide +kernel,by decide +kernel⟩)
local macro_rules | `(tactic| walk_at "l") => `(tactic| (intro vs H Q E h;(repeat (obtain ⟨_,h⟩ := h));subst_vars;rfl))
local macro_rules | `(tactic| walk_at "i") => do let v:=#["cdv","A","outer","s","H","vs","Q","E","hr","h"].map fun x=>Lean.mkIdent (.mkSimple x);`(tactic| intro $[$v]*)
open PySem in
abbrev Za:=List Str
open PySem in
abbrev Zb:=Value→Shared→Prop
open List renaming length_map→Ow,getElem?_eq_getElem→Ox,mem_singleton→Oz,size_toArray→O0,length_append→O2,mem_cons_self→O3,mem_cons_of_mem→O4,mem_append→O5,mem_filter→O7,getElem?_eq_some_iff→O8,map_append→O9,getD_eq_getElem?_getD→Pb,length_take→Pc,getElem?_map→Pf,mem_cons→Ph,take_append_drop→Pi,length_cons→Pj,take_succ_eq_append_getElem→Pk,filter_append→Pm,pairwise_append→Pn,all_eq_true→Po,append_assoc→Pp,mem_map→Pq,mem_append_right→Pr,getElem_mem→Ps,map_cons→Pw,filter_eq_self→Py,mem_of_mem_take→P0,length_filter_le→P1,length_drop→P2,append_nil→P3,map_map→P4,take_of_length_le→P5,filter_cons→P6,mem_iff_getElem→P7,length_eq_zero_iff→P8,length_singleton→P9,range_succ→Qa,mem_range→Qb,mem_append_left→Qc,mem_of_mem_drop→Qd,take_sublist→Qe,lookup_cons→Qf,getElem?_append_left→Qh,length_range→Qi,filterMap_cons→Ql,map_congr_left→Qm,nodup_cons→Qn,take_length→Qo,nodup_append→Qs,drop_eq_nil_of_le→Qt,countP_cons→Qw,mem_reverse→Qx,count_append→Qz,perm_append_comm→Q0,mem_singleton_self→Q3,replicate_succ→Q4,drop_sublist→Q6,drop_eq_getElem_cons→Q7,length_nil→Q8,count_eq_zero→Ra,getElem_map→Rb,reverse_perm→Rc,dropWhile_cons→Rh,takeWhile_cons→Ri,filter_eq_nil_iff→Rj,getElem?_append_right→Rk,length_eraseIdx_of_lt→Rl,any_eq_true→Rm,ext_getElem→Ro,pairwise_cons→Rp,drop_zero→Rr,pairwise_iff_getElem→Rs,mem_of_getElem?→Rt,nil_append→Ru,flatMap_cons→Rw,length_reverse→Ry,flatMap_append→Rz,sum_cons→R0,perm_middle→R1,count_pos_iff→R4,countP_eq_length_filter→R5,foldl_cons→R7,find?_cons→R8,getElem?_eq_none→R9,getElem?_toArray→Sc,pairwise_map→Se,count_cons_self→Sf,getElem_inj→Sg,flatMap_nil→Sh,findIdx?_eq_some_iff_getElem→Sj,getElem?_drop→Sm,getElem?_set_self→Sq,flatten_cons→Ss,getElem_take→Su,drop_take→Sv,getElem?_set_ne→Sw,getElem_toArray→Sx,reverse_reverse→Sz,any_cons→S5,of_mem_zip→S6,forIn_cons→S7,filter_nil→S9,mem_filterMap→Tb,filterMap_map→Tc,set_set→Tg,map_inj_right→Th,getElem?_take→Ti,forIn_nil→Tj,reverse_cons→Tl,getElem_drop→Tq,all_cons→Tu
open Nat renaming le_refl→Oy,ne_of_lt→O6,lt_of_lt_of_le→Pg,le_trans→Pu,zero_le→Px,lt_irrefl→Qg,not_lt_zero→Qq,lt_succ_of_lt→Qr,zero_add→Qy,le_succ→Q5,min_eq_left→Rg,lt_trans→Rx,le_of_lt→Si,lt_of_le_of_lt→Te,sub_zero→Tf,mod_lt→Tp,lt_of_succ_lt→Tr,ne_of_gt→Tv
open Array renaming length_toList→O1,getElem?_toList→Sa,forIn_toList→Sn
open Bool renaming and_eq_true→Pa,false_ne_true→Pe,false_eq_true→Pt,false_and→Qj,true_and→Qp,eq_iff_iff→Qu,eq_false_iff→Rv,or_eq_true→Sb,not_true→Sk,and_self→Sl,or_eq_false_iff→Sy,or_eq_true_iff→S8,and_false→Tk,not_eq_true'→Tn,or_false→Tt,or_true→Tw
open Option.some renaming inj→Pd
open Int renaming eq_ofNat_of_zero_le→Pz,emod_lt_of_pos→R6,toNat_natCast→Sd,emod_nonneg→So
open List.Perm renaming append_left→Qk,refl→Qv
open Option renaming isSome_iff_exists→Q9,map_some→Rf,map_eq_some_iff→Sr,isSome_some→Td
open Sum.inr renaming inj→Rq
open Array.Perm renaming refl→Ta
open Prod renaming ext→Tx
open PySem renaming wpAny_bind→Tz,wpAny_pure→T0,sizeLine_eq→T5
open PyProof.Rows renaming wpS_bind→T2,wpS_pure→T4
open PySem.Heap renaming lt_size→Uc,get?_push_of_some→Ud
open PySem.Heap.SameBut renaming update→Ue
open PySem PySem.Spec PyProof.Rows
open PySem renaming Value→aa,Addr→ae,SetTable→ag,model→ai,wpAny→aj,Shared→ak,Builtin→am,PyData→ao,Str→aq,Heap→ar,mainGlobals→au,Program→av,starEach→az,World→a8,wpAny_holding→aA,Around→aB,wpAny_setState_of→aE,wpAny_newObj_type→aG,foldedSetIterable→aH,NameKind→aI,compareOp→aJ,Expr→aL,wpAny_mono→aN,wpAny_call_entry→aP,wpAny_askSetting→aQ,wpAny_truthy_bool→aR,wpAny_rule→aS,boot_len→aT,Obj→aU,Stmt→aV,scanBound→aW,fits_of_scanBound→aY,wpAny_standAt→bd,rawInt→be,binaryOp→bg,codeAny_mono→bh,wpAny_typeOf→bi,wpAny_storeSet_of→bj,codeAny→br,wpAny_callSpecial?_slot→bu,backTo→bw,assignEach→bx,cLine→bz,codeAny_builtin→b9,PassesOwn→bB,sysModules→bD,keywordEach→bE,wpAny_setField→bF,bootBuiltins→bG,cellsFrom→bH,FuncData→bK,wpAny_Call_Name_kw→bM,pushCells→bP,putSet_of→bQ,pickOrder→bR,getItem→bU,evalEach→bV,wpAny_setEpoch_of→bW,setsByText→cb,sliceBounds→ce,setField→cg,letOwnedTupleGo→cn,wpAny_passesOwn→cq,wpAny_ite_split→cu,Scope→cx,wpAny_setEntries_of→cy,backToKw→c8,tupleKind_room_in1→c9,isSubtype_type→cA,compTurn→cB,wpAny_pyIter_list→cG,Keyword→cH,wpAny_field→cI,behindInMarks→cJ,plainId_quiet→cK,wpAny_newList→cL,Pos→cN,wpAny_isInstance→cO,builtinsNs→cQ,standAt→cR,setAddHashed→cU,wpAny_execs_nil→cY,pushCells_keeps→da,IsPart→db,codeAny_call_builtin→dh,relayAll→dm,tupleKind→dw,swapsWith→dy,clausesOf→d0,evalPart_none→dH,attributeBase→dI,wpAny_attempt→dJ,pyNext→dL,wpAny_call→dM,call_meets→dP,isInstance→dQ,Thread→dR,BindsTo→eh,bindArgs→el,wpAny_sequenceKey→eu,slot_list_getitem→eI,valueAt→eL,callerA→eM,wpAny_pyIter_slot→eN,wpAny_pyIter_dict→eO,ElemsOf→eP,reprText→eQ,Env→eV,noFill_tuple_add→eW,checkBuiltinCall→fb,setDiscardHashed→fg,wpAny_of_eq→ft,Sem→f8,codeAny_of_tree→fA,pyIter→fU,wpAny_newFunctionEnv_cells→fW,atKey→fZ,newFunctionEnv→gc,strKind_is→gh,storeSet→gi,wpAny_runValue→gj,entryFor_alias→gk,wpAny_newTuple→gm,raiseNew→gp,setState→g7,wpAny_FormattedValue_repr→gU,seq_tuple_add→hJ,evalPart_some→hX,wpAny_getItem_list_slice→ie,strLen_append→il,wpAny_comprehension_free→io,setWalkUnseen→iz,bindL→iC,bindC→iD,isSubtype→iI,drawOrder→iJ,tupleText→iK,Result→iN,concat_meets→iO,sub_set_self→iT,setNext→iU,builtinLookup_eq_fast→jn,wpAny_Slice→ju,seqIndex_of→jw,wpAny_alloc→j5,entryFor→jC,wpAny_Name→kM,wpAny_load→kN,wpAny_pyIter_tuple→kO,typeLookup→kP,typeIs_str→kQ,typeIs_int→kT,closureFor→kX,newExc→lr,checkCount→lw,setRoomFor→lC,wpAny_assign_Name→lW,Walks→lY,setWalk→mi,wpAny_pyIter_enum→mw,wpAny_eqBool_int→mJ,wpAny_execs_cons→mL,DictEntry→mP,Arguments→mW,wpAny_setScan_of→mZ,wpAny_specialOf→oI,typeLookup_type→oO,wpAny_updateSeq→oR,importedModules→pR,wpAny_Compare1→pV,recursionLimit→pZ,typeOf→qc,cellOf→qj,compEnvC→qk,argsOk→qG,slotArgs→qH,wpAny_seqItems→qI,firstArgMember→qJ,intBits_le_64→t6,call_list_seq→t8,setItem→u8,Data→uB,call_meetsIn→uJ,setNextDrawn→uV,IsRangeIter→xT,Moved→yg,PlainAttrs→zY,Slot→zZ,OldK→AA,layNew→AS,Params→HX,storeName→IJ,Tok→IL,lastMarks→IM,seqIndex?→IN,slicePick→IP,byScan_of→IU,updateSeq→IV,noteFrame→IW,compStart→IZ,setsQuiet→JG,treeTable→KP
open PyProof.Rows renaming Keyed→aw,seqObj→ay,StrsAre→aF,wpS_forRange→aK,envOfC→aM,pendingOf→aZ,wpS_mono→bc,SortSt→bf,arrOf→bq,failedOf→bA,wpS_get→bI,listUpdate_at→bL,size_push'→bN,wpS_modify→bO,SortKind→bX,boot_isinstance→cw,AllBare→cF,wpS_lift→cP,IsTup→cX,slicePart_none→dc,joinParts_cons→dg,seqEpoch_at→dq,gallopOf→dt,entry_tuple_getitem→dA,args_tuple_getitem→dN,Subscript_→dO,wpS→eU,boot_list→fh,entry_list_sort→fC,get?_update_seq→fE,sortedS→fR,slot_list_sort→gt,tupleItemsOf_→hW,subscriptTail→ia,subscriptTail_builtinR→iP,IntsAre→iQ,plain_sorted→iV,entry_sorted→iW,listItems_at→iY,setArr→iZ,tail_any→jv,kind_sorted→jD,bubble_perm→jH,getElem?_mirror_all→kw,setPending→lB,strOf→mh,sortedAll→nN,formatField_str→oU,getElem?_bubble→oW,args_list_sort→qL,keyLt'→qU,mergeAt'→rh,slicePart_int→t7,sortedAll_old→tI,args_sorted1→va,sortedAll_at→vk,collect_list→vB,strsAre_map→ye,mirror_perm→y3,isTrue_and→zU,sortedHeap→BE,isTrue_or→IK,sortRuns'→JB
open PySem.W renaming Frag→KQ,mg_none_of→KR,nsIn→KS,keepIn→KU,kia_one→KW,subIn→KY,kitOne→KZ,findIn→Le,cellsFrom_some→L',codeHdIn→LA,tabObj→LB,mg_of→LC,fnOf→LD,kla_fn→LF,codeIn→LG,excIn→LH,isClsIn→LJ,exmOne→LK,typeIn→LL,methodObj→LM,hideAll_get→LN,codeHd_of_K→LO,instObj→LP,hideAll→LQ,of_hideAll→LR,callWith_K→LS,clsIn→LU,lookIn→LV,specialIn→LW,kitx_list→LX,kitx_dict→LY,plainGet→LZ,OpenLaw→M',kitCls→MA,Looks→MB,WalkO→MC,isFn→MD
namespace L2
abbrev Key:=Sum Int aq
def D8:Key->aa->Bool
 | .inl k,v=>aa.isInt k v
 | .inr x,v=>aa.isStrOf x v
def keyH (w:a8):Key->Int
 | .inl k=>hashInt k
 | .inr x=>hashStr w x
theorem Dr:∀{k:Key} {v:aa},D8 k v=true->(∃i t,k=Sum.inl i/\v=aa.int i t)\/(∃x t,k=Sum.inr x/\v=aa.str x t)
 | .inl i,v,h=>by
  obtain⟨t,e⟩:=aa.isInt_shape (k:=i) (v:=v) h;exact .inl ⟨i,t,rfl,e⟩
 | .inr x,v,h=>by
  obtain⟨t,e⟩:=aa.isStrOf_shape (x:=x) (v:=v) h;exact .inr ⟨x,t,rfl,e⟩
def Xgm(i)(t):D8 (.inl i) (.int i t)=true:=by simp[D8,aa.isInt]
def Xgn(x)(t):D8 (.inr x) (.str x t)=true:=by simp[D8,aa.isStrOf]
def Xgo(a b):decide ((Sum.inl a:Key)=Sum.inl b)=(a==b):=by
 by_cases e:a=b
 ·subst e;simp
 ·have h:¬(Sum.inl a:Key)=Sum.inl b:=λq=>e (Sum.inl.inj q);rw[T9 h];exact(beq_eq_false_iff_ne.mpr e).symm
def Xgp(a b):decide ((Sum.inr a:Key)=Sum.inr b)=decide (a=b):=by
 by_cases e:a=b
 ·subst e;simp
 ·have h:¬(Sum.inr a:Key)=Sum.inr b:=λq=>e (Rq q);rw[T9 h,T9 e]
def Xgq(a)(b):decide ((Sum.inl a:Key)=Sum.inr b)=false:=T9 (λq=>nomatch q)
def Xgr(a)(b):decide ((Sum.inr a:Key)=Sum.inl b)=false:=T9 (λq=>nomatch q)
def Bf (prog:av) (w:a8):PySem.KeyKind prog w Key where
 is:=D8
 hash:=keyH w
 inj:=λv a b ha hb=>by
  rcases Dr ha with ⟨i,t,rfl,rfl⟩ | ⟨x,t,rfl,rfl⟩
  ·rcases Dr hb with ⟨j,u,rfl,e⟩ | ⟨y,u,rfl,e⟩
   ·injection e with e1 _;rw[e1]
   ·exact nomatch e
  ·rcases Dr hb with ⟨j,u,rfl,e⟩ | ⟨y,u,rfl,e⟩
   ·exact nomatch e
   ·injection e with e1 _;rw[e1]
 byValue:=λk v h=>by
  rcases Dr h with ⟨i,t,rfl,rfl⟩ | ⟨x,t,rfl,rfl⟩<;>rfl
 pyHash:=λhv h=>by
  rcases Dr hv with ⟨i,t,rfl,rfl⟩ | ⟨x,t,rfl,rfl⟩
  ·exact wpAny_pyHash_int h
  ·exact wpAny_pyHash_str h
 eqBool:=λhu hv h=>by
  rcases Dr hu with ⟨i,t,rfl,rfl⟩ | ⟨x,t,rfl,rfl⟩
  ·rcases Dr hv with ⟨j,u,rfl,rfl⟩ | ⟨y,u,rfl,rfl⟩
   ·rw[Xgo] at h;exact mJ h
   ·rw[Xgq] at h;exact SeqAt.EqAt.int_str i t y u _ _ _ _ h
  ·rcases Dr hv with ⟨j,u,rfl,rfl⟩ | ⟨y,u,rfl,rfl⟩
   ·rw[Xgr] at h;exact SeqAt.EqAt.str_int x t j u _ _ _ _ h
   ·rw[Xgp] at h;exact wpAny_eqBool_str h
 «strs»:=λk x t v h=>by
  rcases Dr h with ⟨i,u,rfl,e⟩ | ⟨y,u,rfl,e⟩
  ·exact nomatch e
  ·injection e with e1 _
   subst e1;cases v<;>rfl
def Xgs(prog)(w)(i)(t):(Bf prog w).is (.inl i) (.int i t)=true:=Xgm i t
def Xgt(prog)(w)(x)(t):(Bf prog w).is (.inr x) (.str x t)=true:=Xgn x t
inductive V where
 | non | bl (b:Bool) | int (i:Int) | str (x:aq) | byt (b:Array UInt8) | flt (b:UInt64) | ref (a:ae) | ty (n:String)
 deriving DecidableEq
def Ah:V->aa->Prop
 | .non,u=>u=aa.none
 | .bl b,u=>u=aa.bool b
 | .int i,u=>∃t,u=aa.int i t
 | .str x,u=>∃t,u=aa.str x t
 | .byt b,u=>∃t,u=aa.bytes b t
 | .flt b,u=>∃t,u=aa.float b t
 | .ref a,u=>u=aa.ref a
 | .ty n,u=>u=aa.type n
abbrev Vals:List V->List aa->Prop:=Paired Ah
def Vals.length{xs}(r:Vals xs us):xs.length=us.length:=Paired.length r
theorem Vals.get:∀{xs:List V} {us:List aa} {i:Nat} {x:V},Vals xs us->xs[i]? = some x->∃u,us[i]? = some u/\Ah x u
 | _,_,_,_,.nil,e=>by simp at e
 | _,_,0,_,.cons r _,e=>by simp at e;subst e;exact⟨_,rfl,r⟩
 | _,_,i+1,x,.cons _ t,e=>by
  obtain⟨u,h1,h2⟩:=Vals.get (i:=i) (x:=x) t (by simpa using e);exact⟨u,by simpa using h1,h2⟩
theorem Vals.set  (r:Ah x u):∀{xs:List V} {us:List aa} (i:Nat),Vals xs us->Vals (xs.set i x) (us.set i u)
 | _,_,_,.nil=>.nil
 | _,_,0,.cons _ t=>.cons r t
 | _,_,i+1,.cons q t=>.cons q (Vals.set r i t)
theorem Vals.append:∀{xs ys:List V} {us ws:List aa},Vals xs us->Vals ys ws->Vals (xs++ys) (us++ws)
 | _,_,_,_,.nil,s=>s
 | _,_,_,_,.cons r t,s=>.cons r (Vals.append t s)
theorem Vals.take:∀{xs:List V} {us:List aa} (n:Nat),Vals xs us->Vals (xs.take n) (us.take n)
 | _,_,0,_=>.nil
 | _,_,_+1,.nil=>.nil
 | _,_,n+1,.cons r t=>.cons r (Vals.take n t)
theorem Vals.drop:∀{xs:List V} {us:List aa} (n:Nat),Vals xs us->Vals (xs.drop n) (us.drop n)
 | _,_,0,r=>r
 | _,_,_+1,.nil=>.nil
 | _,_,n+1,.cons _ t=>Vals.drop n t
def Cs:Option V->Option aa->Prop
 | some v,some u=>Ah v u
 | none,none=>True
 | _,_=>False
def KV {κ : Type}:List (κ × V)->List (κ × aa)->Prop:=Paired λ(p : κ × V) (q : κ × aa)=>p.1=q.1/\Ah p.2 q.2
def kV:Key->V
 | .inl i=>.int i
 | .inr x=>.str x
inductive HO where
 | lst (xs:List V)
 | tup (xs:List V)
 | dK (kvs:List (Key×V)) | dT (kvs:List (List Key×V))
 | set (S:Int->Bool) (n:Nat)
 | ins (C dx:ae) (fs:List (aq×V))
 | own (x:ae)
 | xd (fs:List (aq×V))
 | met (f x:ae)
 | rng (lo hi:Int)
 | frz (o:aU) (u:HO)
 | tbl (ps:Array aa)
 | ext (φ : ar->Prop)
abbrev Hp:=ae->Option HO
def upd (H:Hp) (a:ae) (o:HO):Hp:=λb=>if b=a then some o else H b
def Ab{H}{a}{o}:upd H a o a=some o:=by unfold upd;rw[T7 rfl]
def Ad{H}{o}(h:b≠a):upd H a o b=H b:=by unfold upd;rw[T6 h]
def Xaa{H:Hp}  (h:H a=some o)(h':H b=some u)(d:o≠u):a≠b:=by
 intro e;subst e;rw[h] at h';exact d (Pd h')
def Au{H:Hp}{a b}{o}(h:H a=some o)(h':H b=none):a≠b:=by
 intro e;subst e;rw[h] at h';cases h'
section
variable (P:av) (w:a8)
def A3 (H:Hp) (h:ar) (a:ae):HO->Prop
 | .lst xs=>xs.length<=sizeLine/\∃(aC:List aa) (n:Nat),Vals xs aC/\h.get? a=some {cls:=.type "list",data:=.seq aC.toArray n}
 | .tup xs=>xs.length<=sizeLine/\∃aC:List aa,Vals xs aC/\cX h a aC.toArray
 | .dK kvs=>kvs.length<=sizeLine/\(a==bD)=false/\∃vs,KV kvs vs/\h.DictOf (Bf P w) a vs
 | .dT kvs=>kvs.length<=sizeLine/\(a==bD)=false/\∃xs:List (List Key×ae×aa),
   Paired (λ(p:List Key×V) (q:List Key×ae×aa)=>p.1=q.1/\H q.2.1=some (.tup (p.1.map kV))/\Ah p.2 q.2.2) kvs xs /\
   ∃o es ep,h.get? a=some o/\o.ExactDict/\o.data = .dict es ep/\es.toList=xs.map (entryOfKey (dw (Bf P w)))/\(xs.map (·.1)).Nodup
 | .set S n=>h.SetOf (intKind P w) a S n
 | .ins C dx fs=>H dx=some (.own a)/\fs.length<=1000/\dx≠a/\h.get? a=some (LP C dx) /\
   ∃mA,h.Ns1 dx mA/\(∀f,Cs (fs.lookup f) (mA f))/\PySem.Within mA (fs.map (·.1))
 | .own _=>∃o,h.get? a=some o
 | .xd fs=>∃mA,h.Ns1 a mA/\∀f,Cs (fs.lookup f) (mA f)
 | .rng lo hi=>∃t u v,h.get? a=some {cls:=.type "range",data:=.fields #[.int lo t,.int hi u,.int 1 v]}
 | .frz o u=>h.get? a=some o/\A3 H h a u
 | .tbl ps=>h.get? a=some {cls:=.none,data:=.fields ps}
 | .met f x=>h.get? a=some (LM (.ref f) (.ref x))
 | .ext φ => φ h/\(∃o,h.get? a=some o)/\∀h1 h2:ar, φ h1->(∀o,h1.get? a=some o->h2.get? a=some o) -> φ h2
def HOk (H:Hp) (h:ar):Prop:=∀a o,H a=some o->A3 P w H h a o
end
section
variable {P:av}{w:a8}{H H':Hp}{h h':ar}{a:ae}{o:HO}
def A3.lt(x:A3 P w H h a o):a<h.objs.size:=by
 cases o with
 | lst xs=>obtain⟨_,_,_,_,e⟩:=x;exact Uc e
 | tup xs=>obtain⟨_,_,_,p⟩:=x;exact p.lt
 | dK kvs=>obtain⟨_,_,_,_,o,_,_,e,_⟩:=x;exact Uc e
 | dT kvs=>obtain⟨_,_,_,_,o,_,_,e,_⟩:=x;exact Uc e
 | set S n=>obtain⟨o,_,_,_,e,_⟩:=x;exact Uc e
 | ins C dx fs=>obtain⟨_,_,_,e,_⟩:=x;exact Uc e
 | own y=>obtain⟨_,e⟩:=x;exact Uc e
 | xd fs=>obtain⟨_,⟨_,_,_,e,_⟩,_⟩:=x;exact Uc e
 | rng lo hi=>obtain⟨_,_,_,e⟩:=x;exact Uc e
 | frz ob u=>obtain⟨e,_⟩:=x;exact Uc e
 | tbl ps=>exact Uc (show h.get? a=some _ from x)
 | met f y=>exact Uc (show h.get? a=some _ from x)
 | ext φ=>obtain⟨_,⟨_,e⟩,_⟩:=x;exact Uc e
theorem Paired.mapP{α β : Type}{F G}:∀{l₁ : List α} {l₂ : List β},Paired F l₁ l₂->(∀a b,F a b->G a b)->Paired G l₁ l₂
 | _,_,.nil,_=>.nil
 | _,_,.cons r t,f=>.cons (f _ _ r) (Paired.mapP t f)
def A3.stay(x:A3 P w H h a o)(k:∀b u,(b=a\/H b=some (.own a))->h.get? b=some u->h'.get? b=some u)
  (ho:∀b,H b=some (.own a)->H' b=some (.own a)) (ht:∀b xs,H b=some (.tup xs)->H' b=some (.tup xs)):A3 P w H' h' a o:=by
 induction o with
 | lst xs=>obtain⟨z,aC,n,r,e⟩:=x;exact⟨z,aC,n,r,k _ _ (.inl rfl) e⟩
 | tup xs=>obtain⟨z,aC,r,ob,e,c⟩:=x;exact⟨z,aC,r,ob,k _ _ (.inl rfl) e,c⟩
 | dK kvs=>obtain⟨z,y,vs,r,ob,es,ep,e,c⟩:=x;exact⟨z,y,vs,r,ob,es,ep,k _ _ (.inl rfl) e,c⟩
 | dT kvs=>
  obtain⟨z,y,xs,r,ob,es,ep,e,c⟩:=x;exact⟨z,y,xs,Paired.mapP r λp q z=>⟨z.1,ht _ _ z.2.1,z.2.2⟩,ob,es,ep,k _ _ (.inl rfl) e,c⟩
 | set S n=>obtain⟨ob,es,ep,t,e,c⟩:=x;exact⟨ob,es,ep,t,k _ _ (.inl rfl) e,c⟩
 | ins C dx fs=>
  obtain⟨d,z,ne,e,mA,⟨od,es,ep,e2,c⟩,r⟩:=x;exact⟨ho _ d,z,ne,k _ _ (.inl rfl) e,mA,⟨od,es,ep,k _ _ (.inr d) e2,c⟩,r⟩
 | own y=>obtain⟨ob,e⟩:=x;exact⟨ob,k _ _ (.inl rfl) e⟩
 | xd fs=>obtain⟨mA,⟨od,es,ep,e,c⟩,r⟩:=x;exact⟨mA,⟨od,es,ep,k _ _ (.inl rfl) e,c⟩,r⟩
 | rng lo hi=>obtain⟨t,u,v,e⟩:=x;exact⟨t,u,v,k _ _ (.inl rfl) e⟩
 | frz ob u ih=>obtain⟨e,q⟩:=x;exact⟨k _ _ (.inl rfl) e,ih q⟩
 | tbl ps=>
  have e:h.get? a=some {cls:=.none,data:=.fields ps}:=x;show h'.get? a=some {cls:=.none,data:=.fields ps};exact k a _ (.inl rfl) e
 | met f y=>
  have e:h.get? a=some (LM (.ref f) (.ref y)):=x;show h'.get? a=some (LM (.ref f) (.ref y));exact k a _ (.inl rfl) e
 | ext φ=>obtain⟨p,⟨o,e⟩,st⟩:=x;exact⟨st _ _ p λo q=>k _ _ (.inl rfl) q,⟨o,k _ _ (.inl rfl) e⟩,st⟩
def HOk.lt(x:HOk P w H h)(e:H a=some o):a<h.objs.size:=(x a o e).lt
def HOk.fresh(x:HOk P w H h)(e:h.objs.size<=a):H a=none:=by
 cases q:H a with
 | none=>rfl
 | some u=>exact absurd (Pg (x.lt q) e) (Qg _)
def HOk.kept(x:HOk P w H h)(k:∀b u,h.get? b=some u->h'.get? b=some u):HOk P w H h':=λa o e=>
 (x a o e).stay (λb u _ q=>k b u q) (λ_ q=>q) λ_ _ q=>q
def HOk.laid(x:HOk P w H h)(k:∀b u,h.get? b=some u->h'.get? b=some u)(hp:h.objs.size<=a)(new:A3 P w (upd H a o) h' a o):HOk P w (upd H a o) h':=λb u e=>by
 have hn:=x.fresh hp;by_cases hb:b=a
 ·subst hb;rw[Ab] at e;cases e;exact new
 ·rw[Ad hb] at e;exact(x b u e).stay (λc v _ q=>k c v q) (λc q=>by rw[Ad (Au q hn)];exact q) λc xs q=>by rw[Ad (Au q hn)];exact q
end
def Rd (H:Hp) (a:ae) (u:HO):Prop:=H a=some u \/ ∃o,H a=some (.frz o u)
def Rd.ok      (r:Rd H a u) (x:HOk P w H h):A3 P w H h a u:=by
 rcases r with r | ⟨o,r⟩
 ·exact x a u r
 ·obtain⟨_,q⟩:=x a _ r;exact q
def Mut:Option HO->Prop
 | some (.lst _)=>True
 | some (.dK _)=>True
 | some (.dT _)=>True
 | some (.set _ _)=>True
 | some (.ins _ _ _)=>True
 | some (.ext _)=>True
 | _=>False
section
variable {P:av}{w:a8}{H:Hp}{h h':ar}{x e:ae}{o':HO}
def HOk.write(ok:HOk P w H h)(mu:Mut (H x))(he:e=x\/H e=some (.own x))(k:∀b u,b≠e->h.get? b=some u->h'.get? b=some u)(oG:∃u,h'.get? e=some u)
  (new:A3 P w (upd H x o') h' x o'):HOk P w (upd H x o') h':=λb u q=>by
 have pS:∀c y,H c=some (.own y)->c≠x:=λc y r z=>by subst z;rw[r] at mu;exact mu
 have ntup:∀c xs,H c=some (.tup xs)->c≠x:=λc xs r z=>by subst z;rw[r] at mu;exact mu
 by_cases hb:b=x
 ·subst hb;rw[Ab] at q;cases q;exact new
 ·rw[Ad hb] at q;by_cases mK:b=e
  ·have q':H b=some (.own x):=by
    rcases he with z | z
    ·exact absurd (mK.trans z) hb
    ·rw[mK];exact z
   rw[q] at q';cases q';obtain⟨v,hv⟩:=oG;exact⟨v,by rw[mK];exact hv⟩
  ·refine(ok b u q).stay (λc v hc r=>k c v ?_ r) (λc r=>by rw[Ad (pS c b r)];exact r) λc xs r=>by rw[Ad (ntup c xs r)];exact r
   rcases hc with rfl | hc
   ·exact mK
   ·rintro rfl;rcases he with z | z
    ·exact pS c b hc z
    ·rw[hc] at z;cases z;exact hb rfl
end
structure Un (fs ex:List ae) (H H':Hp) (h h':ar):Prop where
 keep:∀b o,h.get? b=some o->H b=none->b∉fs->b∉ex->h'.get? b=some o
 slot:∀b o,h.get? b=some o->H b=none->b∈fs->b∉ex->∃sl,h'.get? b=some {o with slots:=sl}
 free:∀b o,h.get? b=some o->H b=none->b∉ex->H' b=none
 there:∀b o,h.get? b=some o->b∉ex->∃o',h'.get? b=some o'
 tups:∀b xs,H b=some (.tup xs)->H' b=some (.tup xs)
 frzs:∀b o u,H b=some (.frz o u)->H' b=some (.frz o u)
 tbls:∀b ps,H b=some (.tbl ps)->∃bS,H' b=some (.tbl (ps++bS))
section
variable {fs gZ ex xO:List ae}{H H1 H2:Hp}{h h1 h2 h':ar}{a x e:ae}{o:HO}
def Un.any(u:Un fs ex H H1 h h1)  (q:h.get? b=some ob)(n:H b=none)(hx:b∉ex):∃sl,h1.get? b=some {ob with slots:=sl}:=by
 by_cases hb:b∈fs
 ·exact u.slot b ob q n hb hx
 ·exact⟨ob.slots,u.keep b ob q n hb hx⟩
def Un.kept(k:∀b u,h.get? b=some u->h'.get? b=some u):Un fs ex H H h h':=
 ⟨λb ob q _ _ _=>k b ob q,λb ob q _ _ _=>⟨ob.slots,k b ob q⟩,λ_ _ _ n _=>n,λb ob q _=>⟨ob,k b ob q⟩,λ_ _ q=>q,λ_ _ _ q=>q,λ_ ps q=>⟨#[],by rw[q];simp⟩⟩
def Un.refl:Un fs ex H H h h:=Un.kept λ_ _ q=>q
def Un.laid(k:∀b u,h.get? b=some u->h'.get? b=some u)(hp:h.objs.size<=a)(hn:H a=none):Un fs ex H (upd H a o) h h' where
 keep:=λb u q _ _ _=>k b u q
 slot:=λb u q _ _ _=>⟨u.slots,k b u q⟩
 free:=λb u q n _=>by rw[Ad (O6 (Pg (Uc q) hp))];exact n
 there:=λb u q _=>⟨u,k b u q⟩
 tups:=λb xs q=>by rw[Ad (Au q hn)];exact q
 frzs:=λb u xs q=>by rw[Ad (Au q hn)];exact q
 tbls:=λb ps q=>⟨#[],by rw[Ad (Au q hn),q];simp⟩
def Un.write(mu:Mut (H x))(he:e=x\/H e=some (.own x))(k:∀b u,b≠e->h.get? b=some u->h'.get? b=some u)(oG:∃u,h'.get? e=some u):Un fs ex H (upd H x o) h h':=by
 have hx:∀b,H b=none->b≠x:=λb n z=>by subst z;rw[n] at mu;exact mu
 have hb:∀b,H b=none->b≠e:=λb n z=>by
  subst z;rcases he with r | r
  ·exact hx b n r
  ·rw[n] at r;cases r
 have hm:∀b u,H b=some u->¬Mut (some u)->b≠x:=λb u q nm z=>by subst z;rw[q] at mu;exact nm mu
 refine⟨λb u q n _ _=>k b u (hb b n) q,λb u q n _ _=>⟨u.slots,k b u (hb b n) q⟩,λb u q n _=>by rw[Ad (hx b n)];exact n,λb u q _=>?_,
  λb xs q=>by rw[Ad (hm b _ q λz=>z)];exact q,λb u xs q=>by rw[Ad (hm b _ q λz=>z)];exact q,λb ps q=>⟨#[],by rw[Ad (hm b _ q λz=>z),q];simp⟩⟩
 by_cases mK:b=e
 ·subst mK;exact oG
 ·exact⟨u,k b u mK q⟩
end
def trk (h:ar) (H:Hp):List ae:=(List.range h.objs.size).filter λa=>(H a).isSome
def Ds (h:ar) (H:Hp):ar:=LQ h (trk h H)
def Xgu(h)(H):(Ds h H).objs.size=h.objs.size:=PySem.W.hideAll_size _ _
def Xgv    (e:h.get? b=some o) (n:H b=none):(Ds h H).get? b=some o:=
 LN _ e λhm=>by
  have q:(H b).isSome=true:=(O7.mp hm).2;rw[n] at q;simp at q
def Xgw    (e:(Ds h H).get? b=some o):h.get? b=some o/\H b=none:=by
 have e':h.get? b=some o:=LR (trk h H) e;refine⟨e',?_⟩;cases q:H b with
 | none=>rfl
 | some x=>
  have hm:b∈trk h H:=O7.mpr ⟨Qb.mpr (Uc e'),by simp[q]⟩;have z:(Ds h H).get? b=none:=PySem.W.hideAll_none (trk h H) hm;rw[z] at e;cases e
def Xgx (g h:ar) (L:ae):List (ae×aU):=(List.range h.objs.size).filterMap λa=>if a=L\/(g.get? a).isSome=true then none else (h.get? a).map λo=>(a,o)
def rest (g h:ar) (L d:ae):List (ae×aU):=(Xgx g h L).filter λp=>decide (p.1≠d)
structure Mod (K:KQ) (mg:aq->Option aa) (base:ar):Prop where
 kin:K.In base
 glob:base.Ns au mg
 blt:∃mb,base.Ns cQ mb/\∀x:aq,x ≠ "__name__" -> mb x=bG x
 nolimit:base.NoLimit
structure Cx where
 prog:av
 w:a8
 K:KQ
 mg:aq->Option aa
 base:ar
 A:aB
 N:Za
 s₀ : ak
 H₀ : Hp
 env:eV
 outer:List eV
 stack:List eV
 ex:List ae
 fn:aq->Bool
 calm:Bool
 pn:List (ae×aU)
 xe:Zb
def frs (l:List eV):List ae:=l.filterMap (·.frame)
abbrev Cx.fs (X:Cx):List ae:=frs X.outer
def Vis (sc:cx) (x:aq):Prop:=sc.names.lookup x=some .local\/sc.names.lookup x=some .cell\/sc.names.lookup x=some .free
def Loc (sc:cx) (x:aq):Prop:=sc.names.lookup x=some .local\/sc.names.lookup x=some .cell
def Look (env:eV) (h:ar) (m:aq->Option aa) (x:aq) (u:aa):Prop:=
 (env.kindOf x=some .local/\m x=some u)\/((env.kindOf x=some .cell\/env.kindOf x=some .free)/\∃c,env.cells.lookup x=some c/\h.IsCell c (some u))
structure Cx.Ok (X:Cx):Prop where
 mod:Mod X.K X.mg X.base
 kind:X.env.scope.kind = .function
 glob:X.env.globals=au
 blt:X.env.builtins=cQ
 above:X.s₀.heap.objs.size<=X.env.locals
 inj:∀x y c,X.env.cells.lookup x=some c->X.env.cells.lookup y=some c->x=y
 has:∀x,(X.env.kindOf x=some .cell\/X.env.kindOf x=some .free)->∃c,X.env.cells.lookup x=some c
 cab:∀x c,X.fn x=true->X.env.cells.lookup x=some c->X.s₀.heap.objs.size<=c
 hd:X.calm=true->X.A.handled=none
 frames:X.A.frames=some X.stack
 stk:X.stack=X.outer\/(X.stack=X.env::X.outer/\X.env.frame=some X.env.locals)
 exf:∀b∈X.ex,b≠X.env.locals/\∀x c,X.env.cells.lookup x=some c->c≠b
 bs:∀b o,X.base.get? b=some o->X.s₀.heap.get? b=some o/\X.H₀ b=none
 bsz:X.base.objs.size<=X.s₀.heap.objs.size
 noex:∀b o,X.base.get? b=some o->b∉X.ex
 exfs:∀b∈X.ex,b∉X.fs
 funs:X.s₀.heap.FunFrames X.base X.outer
 frf:∀b∈X.fs,X.H₀ b=none
structure Inv (X:Cx) (pins:List (ae×aU)) (Z:List (Option V)) (H:Hp) (s:ak):Prop where
 ok:X.Ok
 os:s.os=X.s₀.os
 bare:cF s.gens
 base:Un X.fs X.ex X.H₀ H X.s₀.heap s.heap
 loc:∃m,s.heap.Ns X.env.locals m/\∀(i:Nat) (x:aq) (v:V),X.N[i]? = some x -> Z[i]? = some (some v)->Vis X.env.scope x->∃u,Ah v u/\Look X.env s.heap m x u
 cell:∀x c,X.env.cells.lookup x=some c->∃v,s.heap.IsCell c v
 free:H X.env.locals=none
 freeC:∀x c,X.env.cells.lookup x=some c->H c=none
 pin:∀p∈X.pn++pins,s.heap.get? p.1=some p.2/\H p.1=none/\p.1≠X.env.locals/\p.1∉X.fs/\∀v,p.2.data ≠ .cell v
 hok:HOk X.prog X.w H s.heap
 len : Z.length=X.N.length
section
variable {X:Cx}{pins:List (ae×aU)}{Z:List (Option V)}{H H':Hp}{s:ak}{h':ar}
def Cx.Ok.nofr(ok:X.Ok)  (e:X.base.get? b=some o):b∉X.fs:=λhb=>by
 have:=(ok.funs.mem hb).1;rw[e] at this;cases this
def Inv.bs(I:Inv X pins Z H s):∀b o,X.base.get? b=some o->s.heap.get? b=some o/\H b=none:=λb o e=>
 ⟨I.base.keep b o (I.ok.bs b o e).1 (I.ok.bs b o e).2 (I.ok.nofr e) (I.ok.noex b o e),I.base.free b o (I.ok.bs b o e).1 (I.ok.bs b o e).2 (I.ok.noex b o e)⟩
def Inv.bk(I:Inv X pins Z H s):∀b o,X.base.get? b=some o->s.heap.get? b=some o:=λb o e=>(I.bs b o e).1
def Inv.mod(I:Inv X pins Z H s):Mod X.K X.mg X.base:=I.ok.mod
def Inv.kIn(I:Inv X pins Z H s):X.K.In s.heap:=I.ok.mod.kin.keeps I.bk
def Inv.lt(I:Inv X pins Z H s):X.env.locals<s.heap.objs.size:=let ⟨_,hn,_⟩:=I.loc;hn.lt
def Inv.sz(I:Inv X pins Z H s):X.s₀.heap.objs.size<=s.heap.objs.size:=Pu I.ok.above (Si I.lt)
def Inv.nofs(I:Inv X pins Z H s)(h:s.heap.objs.size<=a):a∉X.fs:=λhb=>by
 obtain⟨_,o,ho,_⟩:=I.ok.funs.mem hb;exact absurd (Pg (Uc ho) (Pu I.sz h)) (Qg _)
def Inv.cne(I:Inv X pins Z H s):∀x c,X.env.cells.lookup x=some c->c≠X.env.locals:=λx c e z=>by
 obtain⟨v,o,ho,hd⟩:=I.cell x c e;obtain⟨m,⟨o',es,ep,dW,gK,_⟩,_⟩:=I.loc;rw[z,dW] at ho;cases ho;rw[gK] at hd;cases hd
def Inv.funs(I:Inv X pins Z H s):s.heap.FunFrames X.base X.outer:=by
 have all:∀(l:List eV),(∀b∈frs l,b∈X.fs)->X.s₀.heap.FunFrames X.base l->s.heap.FunFrames X.base l:=by
  intro l
  induction l with
  | nil=>intro _ _;trivial
  | cons env r ih=>
   intro hs hl;obtain⟨hk,⟨L,o,hf,hn,ho,hd⟩,hr⟩:=hl;have hL:L∈X.fs:=hs L (by unfold frs;rw[Ql,hf];exact O3);obtain⟨sl,e⟩:=I.base.slot L o ho (I.ok.frf L hL) hL λz=>I.ok.exfs L z hL;exact⟨hk,⟨L,_,hf,hn,e,hd⟩,ih (λb hb=>hs b (by unfold frs;rw[Ql,hf];exact O4 _ hb)) hr⟩
 exact all X.outer (λ_ hb=>hb) I.ok.funs
def Inv.stack(I:Inv X pins Z H s):s.heap.FunFrames X.base X.stack:=by
 rcases I.ok.stk with e | ⟨e,hf⟩
 ·rw[e];exact I.funs
 ·rw[e];obtain⟨m,hn,_⟩:=I.loc;refine .cons (by rw[I.ok.kind];decide) hf hn ?_ I.funs;exact ar.get?_none_of_le (Pu I.ok.bsz I.ok.above)
def Inv.stkSub(I:Inv X pins Z H s):∀b∈frs X.stack,b∈X.env.locals::X.fs:=λb hb=>by
 rcases I.ok.stk with e | ⟨e,hf⟩
 ·rw[e] at hb;exact O4 _ hb
 ·rw[e] at hb;unfold frs at hb;rw[Ql,hf] at hb;exact hb
def Inv.stkFree(I:Inv X pins Z H s):∀b∈frs X.stack,H b=none:=λb hb=>by
 rcases Ph.mp (I.stkSub b hb) with e | hb
 ·rw[e];exact I.free
 ·obtain⟨_,o,ho,_⟩:=I.ok.funs.mem hb;exact I.base.free b o ho (I.ok.frf b hb) λz=>I.ok.exfs b z hb
def Inv.step{g'}{t'}{d'}{ch:List ae}(I:Inv X pins Z H s)
  (jZ:∀b∈ch,(b∈X.ex\/X.s₀.heap.objs.size<=b)/\b≠X.env.locals/\(∀x c,X.env.cells.lookup x=some c->c≠b)/\∀p∈X.pn++pins,p.1≠b)
  (keep:∀b o,b≠X.env.locals->b∉X.fs->b∉ch->s.heap.get? b=some o->H b=none->h'.get? b=some o)
  (slot:∀b o,b≠X.env.locals->b∈X.fs->b∉ch->s.heap.get? b=some o->H b=none->∃sl,h'.get? b=some {o with slots:=sl}) (free:∀b o,b∉ch->s.heap.get? b=some o->H b=none->H' b=none)
  (there:∀b o,b∉ch->s.heap.get? b=some o->∃o',h'.get? b=some o')
  (tups:∀b xs,H b=some (.tup xs)->H' b=some (.tup xs)) (frzs:∀b o u,H b=some (.frz o u)->H' b=some (.frz o u)) (tbls:∀b ps,H b=some (.tbl ps)->∃bS,H' b=some (.tbl (ps++bS)))
  (ns:∀m,s.heap.Ns X.env.locals m->h'.Ns X.env.locals m) (hok:HOk X.prog X.w H' h') (hg:cF g'):
  Inv X pins Z H' {s with heap:=h',gens:=g',drawn:=d',toks:=t'}:=by
 have xP:∀b o,X.s₀.heap.get? b=some o->b≠X.env.locals:=λb o e=>O6 (Pg (Uc e) I.ok.above);have tj:∀b o,X.s₀.heap.get? b=some o->b∉X.ex->b∉ch:=λb o e hx hb=>by
  rcases (jZ b hb).1 with z | z
  ·exact hx z
  ·exact absurd (Pg (Uc e) z) (Qg _)
 have lT:∀x c,X.env.cells.lookup x=some c->∀v,s.heap.IsCell c v->h'.IsCell c v:=λx c e v ⟨o,ho,hd⟩=>by
  have pT:c∉ch:=λz=>(jZ c z).2.2.1 x c e rfl;by_cases hc:c∈X.fs
  ·obtain⟨sl,q⟩:=slot c o (I.cne x c e) hc pT ho (I.freeC x c e);exact⟨_,q,hd⟩
  ·exact⟨o,keep c o (I.cne x c e) hc pT ho (I.freeC x c e),hd⟩
 refine⟨I.ok,I.os,hg,⟨λb o e n hb hx=>?_,λb o e n hb hx=>?_,λb o e n hx=>?_,λb o e hx=>?_,λb xs e=>tups b xs (I.base.tups b xs e),λb o xs e=>frzs b o xs (I.base.frzs b o xs e),λb ps e=>?_⟩,?_,λx c e=>?_,?_,λx c e=>?_,λp hp=>?_,hok,I.len⟩
 ·exact keep b o (xP b o e) hb (tj b o e hx) (I.base.keep b o e n hb hx) (I.base.free b o e n hx)
 ·obtain⟨sl,e1⟩:=I.base.slot b o e n hb hx;obtain⟨gM,e2⟩:=slot b _ (xP b o e) hb (tj b o e hx) e1 (I.base.free b o e n hx);exact⟨gM,e2⟩
 ·obtain⟨o',e1⟩:=I.base.there b o e hx;exact free b o' (tj b o e hx) e1 (I.base.free b o e n hx)
 ·obtain⟨o',e1⟩:=I.base.there b o e hx;exact there b o' (tj b o e hx) e1
 ·obtain⟨m1,e1⟩:=I.base.tbls b ps e;obtain⟨m2,e2⟩:=tbls b _ e1;exact⟨m1++m2,by rw[e2,Array.append_assoc]⟩
 ·obtain⟨m,hn,hl⟩:=I.loc;refine⟨m,ns m hn,λi x v e1 e2 e3=>?_⟩;obtain⟨u,r,l⟩:=hl i x v e1 e2 e3;refine⟨u,r,?_⟩;rcases l with l | ⟨k,c,e,z⟩
  ·exact .inl l
  ·exact .inr ⟨k,c,e,lT x c e _ z⟩
 ·obtain⟨v,z⟩:=I.cell x c e;exact⟨v,lT x c e v z⟩
 ·obtain⟨m,⟨o,_,_,ho,_⟩,_⟩:=I.loc;exact free _ o (λz=>(jZ _ z).2.1 rfl) ho I.free
 ·obtain⟨v,o,ho,hd⟩:=I.cell x c e;exact free c o (λz=>(jZ c z).2.2.1 x c e rfl) ho (I.freeC x c e)
 ·obtain⟨e,n,ne,nf,d⟩:=I.pin p hp;have pT:p.1∉ch:=λz=>(jZ p.1 z).2.2.2 p hp rfl;exact⟨keep p.1 p.2 ne nf pT e n,free p.1 p.2 pT e n,ne,nf,d⟩
def Inv.un{t'}(I:Inv X pins Z H s)(u:Un X.fs [] H H' s.heap h')(hok:HOk X.prog X.w H' h'):Inv X pins Z H' {s with heap:=h',toks:=t'}:=by
 obtain⟨m,⟨o,es,ep,ho,r⟩,_⟩:=id I.loc;obtain⟨sl,hL⟩:=u.any ho I.free (by simp);exact I.step (g':=s.gens) (d':=s.drawn) (ch:=[]) (λ_ z=>nomatch z) (λb o _ hb _ e n=>u.keep b o e n hb (by simp)) (λb o _ hb _ e n=>u.slot b o e n hb (by simp)) (λb o _ e n=>u.free b o e n (by simp)) (λb o _ e=>u.there b o e (by simp)) u.tups u.frzs u.tbls (λm' hm=>by
  obtain⟨o',cC,ka,dW,r'⟩:=hm;rw[ho] at dW;cases dW;exact⟨_,cC,ka,hL,r'⟩) hok I.bare
def Inv.call{g'}{t'}{d'}{ch}(I:Inv X pins Z H s)(u:Un (frs X.stack) ch H H' s.heap h')(hok:HOk X.prog X.w H' h')(hg:cF g')
  (jZ:∀b∈ch,(b∈X.ex\/X.s₀.heap.objs.size<=b)/\b≠X.env.locals/\(∀x c,X.env.cells.lookup x=some c->c≠b)/\∀p∈X.pn++pins,p.1≠b):
  Inv X pins Z H' {s with heap:=h',gens:=g',drawn:=d',toks:=t'}:=by
 obtain⟨m,⟨o,es,ep,ho,r⟩,_⟩:=id I.loc;obtain⟨sl,hL⟩:=u.any ho I.free λz=>(jZ _ z).2.1 rfl;exact I.step (ch:=ch) jZ (λb o hL hb hc e n=>u.keep b o e n (λz=>(Ph.mp (I.stkSub b z)).elim hL hb) hc) (λb o _ _ hc e n=>u.any e n hc) (λb o hc e n=>u.free b o e n hc) (λb o hc e=>u.there b o e hc) u.tups u.frzs u.tbls (λm' hm=>by
  obtain⟨o',cC,ka,dW,r'⟩:=hm;rw[ho] at dW;cases dW;exact⟨_,cC,ka,hL,r'⟩) hok hg
def Inv.turned{t'}(I:Inv X pins Z H s)(k:∀b o,b≠it->s.heap.get? b=some o->h'.get? b=some o)(hn:H it=none)(hL:it≠X.env.locals)
  (h1:it∈X.ex\/X.s₀.heap.objs.size<=it) (h2:∀x c,X.env.cells.lookup x=some c->c≠it) (h3:∀p∈X.pn++pins,p.1≠it):Inv X pins Z H {s with heap:=h',toks:=t'}:=by
 have xQ:∀b u,H b=some u->b≠it:=λb u e z=>by rw[z,hn] at e;cases e
 refine I.step (g':=s.gens) (d':=s.drawn) (ch:=[it]) (λb hb=>?_) (λb o _ _ hc e _=>k b o (λz=>hc (by simp[z])) e) (λb o _ _ hc e _=>⟨o.slots,k b o (λz=>hc (by simp[z])) e⟩) (λ_ _ _ _ n=>n)
  (λb o hc e=>⟨o,k b o (λz=>hc (by simp[z])) e⟩) (λ_ _ e=>e) (λ_ _ _ e=>e) (λb ps e=>⟨#[],by rw[e];simp⟩) (λm hm=>?_) (λb u e=>?_) I.bare
 ·have e:b=it:=by simpa using hb
  subst e;exact⟨h1,hL,h2,h3⟩
 ·obtain⟨o,es,ep,ho,r⟩:=hm;exact⟨o,es,ep,k _ o (Ne.symm hL) ho,r⟩
 ·refine(I.hok b u e).stay (λc v hc q=>k c v ?_ q) (λ_ q=>q) λ_ _ q=>q;rcases hc with z | z
  ·rw[z];exact xQ b u e
  ·exact xQ c _ z
def Inv.tok(I:Inv X pins Z H s)(t):Inv X pins Z H {s with toks:=t}:=I.un (h':=s.heap) (t':=t) Un.refl I.hok
def Inv.kept{t'}(I:Inv X pins Z H s)(k:∀b u,s.heap.get? b=some u->h'.get? b=some u):Inv X pins Z H {s with heap:=h',toks:=t'}:=I.un (Un.kept k) (I.hok.kept k)
def Inv.laid{a:ae}{o}{t'}(I:Inv X pins Z H s)(k:∀b u,s.heap.get? b=some u->h'.get? b=some u)(hp:s.heap.objs.size<=a)(new:A3 X.prog X.w (upd H a o) h' a o):
  Inv X pins Z (upd H a o) {s with heap:=h',toks:=t'}:=I.un (Un.laid k hp (I.hok.fresh hp)) (I.hok.laid k hp new)
def Inv.write{x e}  (I:Inv X pins Z H s)(mu:Mut (H x))(he:e=x\/H e=some (.own x))(k:∀b u,b≠e->s.heap.get? b=some u->h'.get? b=some u)(oG:∃u,h'.get? e=some u)
  (new:A3 X.prog X.w (upd H x o) h' x o):Inv X pins Z (upd H x o) {s with heap:=h',toks:=t'}:=I.un (Un.write mu he k oG) (I.hok.write mu he k oG new)
def Inv.pins_of(I:Inv X pins Z H s)(h:∀p∈pins',s.heap.get? p.1=some p.2/\H p.1=none/\p.1≠X.env.locals/\p.1∉X.fs/\∀v,p.2.data ≠ .cell v):Inv X pins' Z H s:=
 ⟨I.ok,I.os,I.bare,I.base,I.loc,I.cell,I.free,I.freeC,λp hp=>(O5.mp hp).elim (λz=>I.pin p (Qc _ z)) (h p),I.hok,I.len⟩
def La{N:Za}(hN:N.Nodup){i j:Nat}(a:N[i]? = some x)(b:N[j]? = some x):i=j:=by
 obtain⟨h1,e1⟩:=O8.mp a;obtain⟨h2,e2⟩:=O8.mp b;exact(Sg hN).mp (e1.trans e2.symm)
def Lb        (I:Inv X pins Z H s) (hN:X.N.Nodup) (hi:X.N[i]? = some x) (hx:Loc X.env.scope x) (r:Ah v u)
  (h:∀s',Inv X pins (Z.set i (some v)) H s'->(∃a,ar.SameBut a s.heap s'.heap/\(a=X.env.locals\/X.env.cells.lookup x=some a))->Q () s') (hf:X.fn x=true\/X.env.scope.names.lookup x=some .local:=by first | exact .inl rfl | exact .inr rfl | assumption):aj M A (IJ X.env x u) Q E s:=by
 obtain⟨m,hn,hl⟩:=id I.loc;have fz:(X.env.scope.kind == .class||(X.env.scope.kind == .module&&X.env.locals != X.env.globals))=false:=by rw[I.ok.kind];rfl
 have tq:i < Z.length:=by rw[I.len];exact(O8.mp hi).1
 have cne:=I.cne;have iA:∀{a:ae} {h':ar},(∃o,s.heap.get? a=some o/\H a=none)->ar.SameBut a s.heap h'->HOk X.prog X.w H h':=λ{a h'} ha hs b ob e=>by
  obtain⟨_,_,lU⟩:=ha;refine(I.hok b ob e).stay (λc w' hc q=>(hs.2 c ?_).trans q) (λ_ q=>q) λ_ _ q=>q;rintro rfl;rcases hc with rfl | hc
  ·rw[lU] at e;cases e
  ·rw[lU] at hc;cases hc
 rcases hx with hk | hk
 ·refine wpAny_storeName_local hk hn (λh' u5 hs=>?_) fz;obtain⟨oL,_,_,kH,_⟩:=id hn;refine h _ ⟨I.ok,I.os,I.bare,⟨λb o e n hb hx=>?_,λb o e n hb hx=>?_,I.base.free,λb o e hx=>?_,I.base.tups,I.base.frzs,I.base.tbls⟩,⟨_,u5,λj y v' e1 e2 e3=>?_⟩,λy c e=>?_,I.free,I.freeC,λp hp=>?_,iA ⟨oL,kH,I.free⟩ hs,by simpa using I.len⟩ ⟨_,hs,.inl rfl⟩
  ·exact(hs.2 b (O6 (Pg (Uc e) I.ok.above))).trans (I.base.keep b o e n hb hx)
  ·obtain⟨sl,e1⟩:=I.base.slot b o e n hb hx;exact⟨sl,(hs.2 b (O6 (Pg (Uc e) I.ok.above))).trans e1⟩
  ·obtain⟨o',e1⟩:=I.base.there b o e hx;exact⟨o',(hs.2 b (O6 (Pg (Uc e) I.ok.above))).trans e1⟩
  ·by_cases hj:j=i
   ·subst hj;rw[hi] at e1;cases e1;rw[Sq tq] at e2;cases e2;exact⟨u,r,.inl ⟨hk,by simp⟩⟩
   ·rw[Sw (Ne.symm hj)] at e2;obtain⟨u',r',q⟩:=hl j y v' e1 e2 e3;refine⟨u',r',?_⟩;rcases q with ⟨k,e⟩ | ⟨k,c,e,z⟩
    ·refine .inl ⟨k,?_⟩;have:y≠x:=λe=>hj (La hN e1 (e ▸ hi));simp[this,e]
    ·exact .inr ⟨k,c,e,z.sameBut hs (cne y c e)⟩
  ·obtain⟨w',z⟩:=I.cell y c e;exact⟨w',z.sameBut hs (cne y c e)⟩
  ·obtain⟨e,n,ne,nf,d⟩:=I.pin p hp;exact⟨(hs.2 p.1 ne).trans e,n,ne,nf,d⟩
 ·have u6:X.fn x=true:=by
   rcases hf with z | z
   ·exact z
   ·rw[z] at hk;cases hk
  obtain⟨c,hc⟩:=I.ok.has x (.inl hk);obtain⟨w',z⟩:=I.cell x c hc;refine wpAny_storeName_cell I.ok.kind hk hc z (λh' tw hs=>?_);obtain⟨oc,kK,u7⟩:=id z;refine h {s with heap:=h'} ⟨I.ok,I.os,I.bare,⟨λb o e n hb hx=>?_,λb o e n hb hx=>?_,I.base.free,λb o e hx=>?_,I.base.tups,I.base.frzs,I.base.tbls⟩,⟨m,hn.sameBut hs (Ne.symm (cne x c hc)),λj y v' e1 e2 e3=>?_⟩,λy c' e=>?_,I.free,I.freeC,λp hp=>?_,iA ⟨oc,kK,I.freeC x c hc⟩ hs,by simpa using I.len⟩ ⟨c,hs,.inr hc⟩
  ·exact(hs.2 b (O6 (Pg (Uc e) (I.ok.cab x c u6 hc)))).trans (I.base.keep b o e n hb hx)
  ·obtain⟨sl,e1⟩:=I.base.slot b o e n hb hx;exact⟨sl,(hs.2 b (O6 (Pg (Uc e) (I.ok.cab x c u6 hc)))).trans e1⟩
  ·obtain⟨o',e1⟩:=I.base.there b o e hx;exact⟨o',(hs.2 b (O6 (Pg (Uc e) (I.ok.cab x c u6 hc)))).trans e1⟩
  ·by_cases hj:j=i
   ·subst hj;rw[hi] at e1;cases e1;rw[Sq tq] at e2;cases e2;exact⟨u,r,.inr ⟨.inl hk,c,hc,tw⟩⟩
   ·rw[Sw (Ne.symm hj)] at e2;obtain⟨u',r',q⟩:=hl j y v' e1 e2 e3;refine⟨u',r',?_⟩;rcases q with q | ⟨k,c',e,z'⟩
    ·exact .inl q
    ·refine .inr ⟨k,c',e,z'.sameBut hs ?_⟩;rintro rfl;exact hj (La hN e1 (I.ok.inj _ _ _ e hc ▸ hi))
  ·by_cases xR:c'=c
   ·subst xR;exact⟨_,tw⟩
   ·obtain⟨w2,z2⟩:=I.cell y c' e;exact⟨w2,z2.sameBut hs xR⟩
  ·obtain⟨e,n,ne,nf,d⟩:=I.pin p hp;refine⟨(hs.2 p.1 ?_).trans e,n,ne,nf,d⟩;intro q;rw[q,kK] at e;have q':oc=p.2:=Pd e;exact d w' (by rw[<-q'];exact u7)
def Xab        (I:Inv X pins Z H s) (hN:X.N.Nodup) (hi:X.N[i]? = some x) (hx:Loc X.env.scope x) (r:Ah v u)
  (h:∀s',Inv X pins (Z.set i (some v)) H s'->Q () s') (hf:X.fn x=true\/X.env.scope.names.lookup x=some .local:=by first | exact .inl rfl | exact .inr rfl | assumption):aj M A (IJ X.env x u) Q E s:=
 Lb I hN hi hx r (λs' I' _=>h s' I') hf
def Inv.call'{ch}(I:Inv X pins Z H s)(ho:s'.os=s.os)(u:Un (frs X.stack) ch H H' s.heap s'.heap)(hok:HOk X.prog X.w H' s'.heap)(hg:cF s'.gens)
  (jZ:∀b∈ch,(b∈X.ex\/X.s₀.heap.objs.size<=b)/\b≠X.env.locals/\(∀x c,X.env.cells.lookup x=some c->c≠b)/\∀p∈X.pn++pins,p.1≠b):Inv X pins Z H' s':=by
 obtain⟨h',g',d',t',o'⟩:=s';have e:o'=s.os:=ho;subst e;exact I.call (g':=g') (t':=t') (d':=d') u hok hg jZ
end
abbrev XK:=aa->Option ae->Hp->Prop
abbrev St:=List (Option V)
abbrev VK:=V->Hp->Prop
abbrev TE:=St->Hp->VK->Prop
abbrev TT:=St->Hp->(Bool->Hp->Prop)->Prop
abbrev TA:=St->Hp->(List V->Hp->Prop)->Prop
structure Ends where
 nx:St->Hp->Prop
 rt:VK
 bk:St->Hp->Prop:=λ_ _=>False
 ct:St->Hp->Prop:=λ_ _=>False
abbrev TS:=Ends->St->Hp->Prop
def EP (X:Cx) (pins:List (ae×aU)) (Z:St) (Q:VK) (u:aa) (s':ak):Prop:=∃v H',Inv X pins Z H' s'/\Ah v u/\Q v H'
def TP (X:Cx) (pins:List (ae×aU)) (Z:St) (Q:Bool->Hp->Prop) (b:Bool) (s':ak):Prop:=∃H',Inv X pins Z H' s'/\Q b H'
def AP (X:Cx) (pins:List (ae×aU)) (Z:St) (Q:List V->Hp->Prop) (us:List aa) (s':ak):Prop:=∃vs H',Inv X pins Z H' s'/\Vals vs us/\Q vs H'
def SP (X:Cx) (pins:List (ae×aU)) (D:Ends) (f:Flow) (s':ak):Prop:=
 match f with
 | .next=>∃Z' H',Inv X pins Z' H' s'/\D.nx Z' H'
 | .brk=>∃Z' H',Inv X pins Z' H' s'/\D.bk Z' H'
 | .cont=>∃Z' H',Inv X pins Z' H' s'/\D.ct Z' H'
 | .ret u=>∃v Z' H',Inv X pins Z' H' s'/\Ah v u/\D.rt v H'
def PE (X:Cx) (e:aL) (t:TE):Prop:=
 ∀pins s Z H (Q:VK),Inv X pins Z H s->t Z H Q->aj (ai X.prog X.w) X.A (eval e X.env) (EP X pins Z Q) X.xe s
def PT (X:Cx) (e:aL) (t:TT):Prop:=
 ∀pins s Z H (Q:Bool->Hp->Prop),Inv X pins Z H s->t Z H Q->aj (ai X.prog X.w) X.A (isTrue e X.env (eval e X.env)) (TP X pins Z Q) X.xe s
def PW (X:Cx) (e:aL) (t:TT):Prop:=
 ∀(iB:f8 aa) (pins:List (ae×aU)) (s:ak) (Z:St) (H:Hp) (Q:Bool->Hp->Prop),Inv X pins Z H s->t Z H Q->aj (ai X.prog X.w) X.A (isTrue e X.env iB) (TP X pins Z Q) X.xe s
def PW.pt   (h:PW X e t):PT X e t:=h _
def PA (X:Cx) (es:List aL) (t:TA):Prop:=
 ∀(pos:cN) (pins:List (ae×aU)) (s:ak) (Z:St) (H:Hp) (Q:List V->Hp->Prop),Inv X pins Z H s->t Z H Q->aj (ai X.prog X.w) X.A (spliced (bw pos (az es X.env))) (AP X pins Z Q) X.xe s
def PS (X:Cx) (st:aV) (t:TS):Prop:=
 ∀pins s Z H (D:Ends),Inv X pins Z H s->t D Z H->aj (ai X.prog X.w) X.A (exec st X.env) (SP X pins D) X.xe s
def PSs (X:Cx) (st:List aV) (t:TS):Prop:=
 ∀pins s Z H (D:Ends),Inv X pins Z H s->t D Z H->aj (ai X.prog X.w) X.A (execs st X.env) (SP X pins D) X.xe s
def thn{α : Type}{t:f8 α}{Q Q'}    (h:aj M A t Q E s)(hQ:∀a s,Q a s->Q' a s):aj M A t Q' E s:=aN h hQ λ_ _ x=>x
section
variable {X:Cx}
def Co (i:Nat):TE:=fun Z H Q=>∃v, Z[i]? = some (some v)/\Q v H
def tC (v:V):TE:=λ_ H Q=>Q v H
def Xgy   (hN:X.N[i]? = some x) (hv:Vis X.env.scope x) (hd:(x==("__debug__" : aq))=false:=by decide) (gN:(x==("__classdict__" : aq))=false:=by decide):PE X (.Name x pos) (Co i):=by
 intro pins s Z H Q I h;obtain⟨v,e,h⟩:=h;obtain⟨m,hn,hl⟩:=I.loc;obtain⟨u,r,l⟩:=hl i x v hN e hv;have fin:EP X pins Z Q u s:=⟨v,H,I,r,h⟩;rcases l with ⟨hk,hm⟩ | ⟨hk,c,hc,lV⟩
 ·exact kM (wpAny_loadName_local I.ok.kind hk hn hm fin) hd
 ·rcases hk with hk | hk
  ·exact kM (wpAny_loadName_cell I.ok.kind hk hc lV fin) hd
  ·exact kM (wpAny_loadName_free I.ok.kind hk hc lV fin gN) hd
def Af{i j pos}:PE X (.Constant (.int i) j pos) (tC (.int i)):=λ_ _ _ H _ I h=>wpAny_Constant_int ⟨.int i,H,I.tok _,⟨_,rfl⟩,h⟩
def Dt:PE X (.Constant (.bool b) j pos) (tC (.bl b)):=λ_ _ _ H _ I h=>Constant_bool ⟨.bl b,H,I,rfl,h⟩
def A7:PE X (.Constant (.str x) j pos) (tC (.str x)):=λ_ _ _ H _ I h=>Calls.Constant_str ⟨.str x,H,I.tok _,⟨_,rfl⟩,h⟩
def Gl (X:Cx) (x:aq):Prop:=X.env.kindOf x=some .globalImplicit
def G8         (I:Inv X pins Z H s) (hg:Gl X x) (hm:X.mg x=some u) (h:Q u s)
  (hd:(x==("__debug__" : aq))=false:=by decide):aj (ai X.prog X.w) X.A (eval (.Name x pos) X.env) Q E s:=
 Calls.Name_function_global I.ok.kind hg (Calls.loadGlobal_global (by rw[I.ok.glob];exact I.mod.glob.keeps I.bk) hm h) hd
def F7         (I:Inv X pins Z H s) (hg:Gl X x) (hm:X.mg x=none) (hv:bG x=some u) (h:Q u s)
  (hn:x ≠ "__name__" := by decide) (hd:(x==("__debug__" : aq))=false:=by decide):aj (ai X.prog X.w) X.A (eval (.Name x pos) X.env) Q E s:=by
 obtain⟨mb,h1,h2⟩:=I.mod.blt;exact Calls.Name_function_global I.ok.kind hg (Calls.loadGlobal_builtin (by rw[I.ok.glob];exact I.mod.glob.keeps I.bk) hm (by rw[I.ok.blt];exact h1.keeps I.bk) ((h2 x hn).trans hv) h) hd
def Lc  {v:V}  (hg:Gl X x) (hm:X.mg x=some u) (r:Ah v u) (hd:(x==("__debug__" : aq))=false:=by decide):PE X (.Name x pos) (tC v):=
 λ_ _ _ H _ I h=>G8 I hg hm ⟨v,H,I,r,h⟩ hd
def Ld  {v:V}  (hg:Gl X x) (hm:X.mg x=none) (hv:bG x=some u) (r:Ah v u) (hn:x ≠ "__name__" := by decide) (hd:(x==("__debug__" : aq))=false:=by decide):PE X (.Name x pos) (tC v):=
 λ_ _ _ H _ I h=>F7 I hg hm hv ⟨v,H,I,r,h⟩ hn hd
def t2I (ta tb:TE) (k:Int->Int->Hp->Prop):St->Hp->Prop:=fun Z H=>ta Z H λx H1=>tb Z H1 λy H2=>∃i j,x = .int i/\y = .int j/\k i j H2
def tMul (ta tb:TE):TE:=fun Z H Q=>t2I ta tb (λi j H2=>(-(2 ^ 64)<i/\i<2 ^ 64)/\Q (.int (i * j)) H2) Z H
variable {a b:aL}{ta tb:TE}{pos:cN}
def PC (X:Cx) (op:CmpOp) (a b:aL) (t:TE):Prop:=
 ∀pins s Z H (Q:VK),Inv X pins Z H s->t Z H Q ->
  aj (ai X.prog X.w) X.A (eval a X.env) (λv s₁=>aj (ai X.prog X.w) X.A (eval b X.env) (λu s₂=>aj (ai X.prog X.w) X.A (aJ op v u) (EP X pins Z Q) X.xe s₂) X.xe s₁) X.xe s
def tIsN (ta:TE):TE:=fun Z H Q=>ta Z H λx H1=>Q (.bl (decide (x = .non))) H1
def tB (t:TE):TT:=fun Z H Q=>t Z H λx H1=>∃c,x = .bl c/\Q c H1
def Xgz  (h:PC X op a b t) (h1:cJ op b=false:=by first | exact pU _ (by decide) (by decide) | rfl):PE X (.Compare a [op] [b] pos) t:=λpins s Z H Q I hw=>pV (h pins s Z H Q I hw) h1
def Fe  (h:PE X e t) (he:∀iB,isTrue e X.env iB=(do       let v <-iB;cR e.pos;holding [v] (truthy v)):=by intro _;rfl):PT X e (tB t):=by
 intro pins s Z H Q I hw;refine isTrue_plain (thn (h pins s Z H _ I hw) λv s1 ⟨x,H1,I1,r1,q1⟩=>?_) (he _);obtain⟨d,rfl,q⟩:=q1;cases r1;exact aR ⟨H1,I1,q⟩
variable {tA t0:TT}{rest:List aL}
def tAnd (t u:TT):TT:=fun Z H Q=>t Z H λc H1=>if c=true then u Z H1 Q else Q false H1
def tOr (t u:TT):TT:=fun Z H Q=>t Z H λc H1=>if c=true then Q true H1 else u Z H1 Q
def tNot (t:TT):TT:=fun Z H Q=>t Z H λc H1=>Q (!c) H1
def Ff(ha:PT X a tA):PW X (.BoolOp .And [a] pos) tA:=by
 intro wh pins s Z H Q I h;refine zU (thn (ha pins s Z H Q I h) λc s1 e=>?_);cases c with
 | true=>exact isTrue_and_nil e
 | false=>exact e
def Fg(ha:PT X a tA):PW X (.BoolOp .Or [a] pos) tA:=by
 intro wh pins s Z H Q I h;refine IK (thn (ha pins s Z H Q I h) λc s1 e=>?_);cases c with
 | false=>exact isTrue_or_nil e
 | true=>exact e
def Fh(ha:PT X a tA)(hb:PW X (.BoolOp .And (b::rest) pos) t0):PW X (.BoolOp .And (a::b::rest) pos) (tAnd tA t0):=by
 intro wh pins s Z H Q I h;refine zU (thn (ha pins s Z H _ I h) λc s1 ⟨H1,I1,q1⟩=>?_);cases c with
 | true=>exact hb wh pins s1 Z H1 Q I1 q1
 | false=>exact⟨H1,I1,q1⟩
def Ep(ha:PT X a tA)(hb:PW X (.BoolOp .Or (b::rest) pos) t0):PW X (.BoolOp .Or (a::b::rest) pos) (tOr tA t0):=by
 intro wh pins s Z H Q I h;refine IK (thn (ha pins s Z H _ I h) λc s1 ⟨H1,I1,q1⟩=>?_);cases c with
 | true=>exact⟨H1,I1,q1⟩
 | false=>exact hb wh pins s1 Z H1 Q I1 q1
def G9(ha:PT X a tA):PT X (.UnaryOp .Not a pos) (tNot tA):=by
 intro pins s Z H Q I h;exact isTrue_not (ha pins s Z H (λc H1=>Q (!c) H1) I h)
def Xg0 (ta tb:TE):TE:=fun Z H Q=>ta Z H λx H1=>∃c,x = .bl c/\if c=true then tb Z H1 Q else Q (.bl false) H1
def tOrV (ta tb:TE):TE:=fun Z H Q=>ta Z H λx H1=>∃c,x = .bl c/\if c=true then Q (.bl true) H1 else tb Z H1 Q
def Xg1 (ta:TE):TE:=fun Z H Q=>ta Z H λx H1=>∃c,x = .bl c/\Q (.bl (!c)) H1
def Lf  (h:PE X a t):PE X (.BoolOp op [a] pos) t:=λpins s Z H Q I hw=>BoolOp_one (h pins s Z H Q I hw)
def Xac(ha:PE X a ta)(hb:PE X (.BoolOp .And (b::rest) pos) tb):PE X (.BoolOp .And (a::b::rest) pos) (Xg0 ta tb):=by
 intro pins s Z H Q I h;refine BoolOp_and (thn (ha pins s Z H _ I h) λv s1 ⟨x,H1,I1,r1,q1⟩=>?_);obtain⟨c,rfl,q1⟩:=q1;cases r1;refine aR ?_;cases c with
 | true=>exact hb pins s1 Z H1 Q I1 q1
 | false=>exact⟨.bl false,H1,I1,rfl,q1⟩
def Xg2(ha:PE X a ta)(hb:PE X (.BoolOp .Or (b::rest) pos) tb):PE X (.BoolOp .Or (a::b::rest) pos) (tOrV ta tb):=by
 intro pins s Z H Q I h;refine BoolOp_or (thn (ha pins s Z H _ I h) λv s1 ⟨x,H1,I1,r1,q1⟩=>?_);obtain⟨c,rfl,q1⟩:=q1;cases r1;refine aR ?_;cases c with
 | false=>exact hb pins s1 Z H1 Q I1 q1
 | true=>exact⟨.bl true,H1,I1,rfl,q1⟩
def Xg3(ha:PE X a ta):PE X (.UnaryOp .Not a pos) (Xg1 ta):=by
 intro pins s Z H Q I h;refine UnaryOp_ (thn (ha pins s Z H _ I h) λv s1 ⟨x,H1,I1,r1,q1⟩=>?_);obtain⟨c,rfl,q1⟩:=q1;cases r1;exact not_of (aR ⟨.bl (!c),H1,I1,rfl,q1⟩)
def tIf (t:TT) (ta tb:TE):TE:=fun Z H Q=>t Z H λc H1=>if c=true then ta Z H1 Q else tb Z H1 Q
def Iz(hc:PT X c tA)(ha:PE X a ta)(hb:PE X b tb):PE X (.IfExp c a b pos) (tIf tA ta tb):=by
 intro pins s Z H Q I h;refine wpAny_IfExp (thn (hc pins s Z H _ I h) λd s1 ⟨H1,I1,q1⟩=>?_);cases d with
 | true=>exact ha pins s1 Z H1 Q I1 q1
 | false=>exact hb pins s1 Z H1 Q I1 q1
end
def SqL (K:KQ) (H:Hp) (a:ae) (xs:List V):Prop:=
 Rd H a (.lst xs) \/
  ∃(o:aU) (aC:Array aa) (n:Nat),K.lookup a=some o/\o.cls = .type "list" /\ o.dict=none/\o.data = .seq aC n/\aC.size<=sizeLine/\Vals xs aC.toList
def SqT (K:KQ) (H:Hp) (a:ae) (xs:List V):Prop:=
 Rd H a (.tup xs) \/
  ∃(o:aU) (aC:Array aa) (n:Nat),K.lookup a=some o/\o.cls = .type "tuple" /\ o.data = .seq aC n/\aC.size<=sizeLine/\Vals xs aC.toList
def absV:aa->Option V
 | .none=>some .non
 | .bool b=>some (.bl b)
 | .int i _=>some (.int i)
 | .str x _=>some (.str x)
 | .bytes b _=>some (.byt b)
 | .float b _=>some (.flt b)
 | .ref a=>some (.ref a)
 | .type n=>some (.ty n)
 | _=>none
def Ah.abs  (r:Ah x u):absV u=some x:=by
 cases x with
 | non=>cases r;rfl
 | bl _=>cases r;rfl
 | int _=>obtain⟨t,rfl⟩:=r;rfl
 | str _=>obtain⟨t,rfl⟩:=r;rfl
 | byt _=>obtain⟨t,rfl⟩:=r;rfl
 | flt _=>obtain⟨t,rfl⟩:=r;rfl
 | ref _=>cases r;rfl
 | ty _=>cases r;rfl
def Ah.inj{x y}(r:Ah x u)(q:Ah y u):x=y:=Pd (r.abs.symm.trans q.abs)
theorem Vals.inj:∀{xs ys:List V} {us:List aa},Vals xs us->Vals ys us->xs=ys
 | _,_,_,.nil,.nil=>rfl
 | _,_,_,.cons r t,.cons r' t'=>by rw[r.inj r',Vals.inj t t']
section
variable {X:Cx}{pins:List (ae×aU)}{Z:St}{H:Hp}{s:ak}{a:ae}{xs ys:List V}
def SqL.of{K}(h:H a=some (.lst xs)):SqL K H a xs:=.inl (.inl h)
def SqT.of{K}(h:H a=some (.tup xs)):SqT K H a xs:=.inl (.inl h)
def Inv.list(I:Inv X pins Z H s)(h:SqL X.K H a xs):∃aC:List aa,Vals xs aC/\PlainL s.heap a aC.toArray/\xs.length<=sizeLine:=by
 rcases h with h | ⟨o,aC,n,hk,hc,hd,hs,hz,r⟩
 ·obtain⟨z,aC,n,r,e⟩:=h.ok I.hok;exact⟨aC,r,⟨_,n,e,rfl,rfl,rfl⟩,z⟩
 ·refine⟨aC.toList,r,⟨o,n,I.kIn a o hk,hc,hd,by simpa using hs⟩,?_⟩;have e:=r.length;simp only[O1] at e
  lia
def Inv.tuple(I:Inv X pins Z H s)(h:SqT X.K H a xs):∃aC:List aa,Vals xs aC/\cX s.heap a aC.toArray/\xs.length<=sizeLine:=by
 rcases h with h | ⟨o,aC,n,hk,hc,hs,hz,r⟩
 ·obtain⟨z,aC,r,p⟩:=h.ok I.hok;exact⟨aC,r,p,z⟩
 ·refine⟨aC.toList,r,⟨o,I.kIn a o hk,hc,n,by simpa using hs⟩,?_⟩;have e:=r.length;simp only[O1] at e
  lia
def Inv.list_inj(I:Inv X pins Z H s)(h:SqL X.K H a xs)(h':SqL X.K H a ys):xs=ys:=by
 obtain⟨aC,r,⟨o,n,e,_,_,d⟩,_⟩:=I.list h;obtain⟨its',r',⟨o',n',e',_,_,d'⟩,_⟩:=I.list h';rw[e] at e';cases e';rw[d] at d';injection d' with d1 _
 have:aC=its':=by simpa using congrArg Array.toList d1
 subst this;exact r.inj r'
def Inv.tuple_inj(I:Inv X pins Z H s)(h:SqT X.K H a xs)(h':SqT X.K H a ys):xs=ys:=by
 obtain⟨aC,r,⟨o,e,_,n,d⟩,_⟩:=I.tuple h;obtain⟨its',r',⟨o',e',_,n',d'⟩,_⟩:=I.tuple h';rw[e] at e';cases e';rw[d] at d';injection d' with d1 _
 have:aC=its':=by simpa using congrArg Array.toList d1
 subst this;exact r.inj r'
end
abbrev Cx.wish (X:Cx) (E:Zb):Cx:={X with xe:=E}
abbrev Cx.nox (X:Cx):Cx:=X.wish λ_ _=>False
def Cx.Ok.wish{X:Cx}(ok:X.Ok)(E):(X.wish E).Ok:=
 ⟨ok.mod,ok.kind,ok.glob,ok.blt,ok.above,ok.inj,ok.has,ok.cab,ok.hd,ok.frames,ok.stk,ok.exf,ok.bs,ok.bsz,ok.noex,ok.exfs,ok.funs,ok.frf⟩
def Cx.Ok.unwish{X:Cx}(ok:(X.wish E).Ok):X.Ok:=
 ⟨ok.mod,ok.kind,ok.glob,ok.blt,ok.above,ok.inj,ok.has,ok.cab,ok.hd,ok.frames,ok.stk,ok.exf,ok.bs,ok.bsz,ok.noex,ok.exfs,ok.funs,ok.frf⟩
section
variable {X:Cx}{pins:List (ae×aU)}{Z:St}{H:Hp}{s:ak}{E:Zb}
def Inv.wish(I:Inv X pins Z H s)(E):Inv (X.wish E) pins Z H s:=⟨I.ok.wish E,I.os,I.bare,I.base,I.loc,I.cell,I.free,I.freeC,I.pin,I.hok,I.len⟩
def Inv.unwish(I:Inv (X.wish E) pins Z H s):Inv X pins Z H s:=⟨I.ok.unwish,I.os,I.bare,I.base,I.loc,I.cell,I.free,I.freeC,I.pin,I.hok,I.len⟩
def SP.unwish   (h:SP (X.wish E) pins D f s'):SP X pins D f s':=by
 cases f with
 | next=>obtain⟨Z',H',I,q⟩:=h;exact⟨Z',H',I.unwish,q⟩
 | brk=>obtain⟨Z',H',I,q⟩:=h;exact⟨Z',H',I.unwish,q⟩
 | cont=>obtain⟨Z',H',I,q⟩:=h;exact⟨Z',H',I.unwish,q⟩
 | ret u=>obtain⟨v, Z',H',I,r,q⟩:=h;exact⟨v, Z',H',I.unwish,r,q⟩
def PSs.nox{st}(h:PSs X.nox st t):PSs X st t:=λpins s Z H D I hw=>
 aN (h pins s Z H D (I.wish _) hw) (λ_ _ q=>q.unwish) λ_ _ z=>False.elim z
end
section
variable {X:Cx}{st:aV}{rest:List aV}{t u:TS}{e:aL}{te:TE}{pos:cN}
def Fi:TS:=λD Z H=>D.nx Z H
def Ja (t u:TS):TS:=λD Z H=>t {D with nx:=u D} Z H
def Bb:PSs X [] Fi:=λ_ _ Z H _ I h=>cY ⟨Z,H,I,h⟩
def Ae(h1:PS X st t)(h2:PSs X rest u):PSs X (st::rest) (Ja t u):=by
 intro pins s Z H D I h;refine mL (thn (h1 pins s Z H {D with nx:=u D} I h) λf s1 q=>?_);cases f with
 | next=>
  obtain⟨Z',H',I',q⟩:=q;exact h2 pins s1 Z' H' D I' q
 | ret v=>exact q
 | brk=>exact q
 | cont=>exact q
def Ag(h1:PS X st t):PSs X [st] t:=by
 intro pins s Z H D I h;refine mL (thn (h1 pins s Z H D I h) λf s1 q=>?_);cases f with
 | next=>exact cY q
 | ret v=>exact q
 | brk=>exact q
 | cont=>exact q
def Inv.quiet    (I:Inv X pins Z H s):interactive X.env=false:=by simp[interactive,I.ok.kind]
def Xad (te:TE):TS:=λD Z H=>te Z H λ_ H1=>D.nx Z H1
def He(he:PE X e te)(hs:dy e none pos.line X.env=pure false:=by rfl):PS X (.Expr e pos) (Xad te):=by
 intro pins s Z H D I h;exact wpAny_Expr_any (thn (he pins s Z H _ I h) λv s1 ⟨x,H1,I1,r1,q1⟩=>⟨Z,H1,I1,q1⟩) I.quiet hs
def Xae (te:TE):TS:=λD Z H=>te Z H D.rt
def Ap(he:PE X e te):PS X (.Return (some e) pos) (Xae te):=by
 intro pins s Z H D I h;exact wpAny_Return_some (thn (he pins s Z H _ I h) λv s1 ⟨x,H1,I1,r1,q1⟩=>⟨x, Z,H1,I1,r1,q1⟩)
def Jb (c:TT) (t u:TS):TS:=λD Z H=>c Z H λb H1=>if b=true then t D Z H1 else u D Z H1
def A8   (hc:PT X c tc) (ha:PSs X a t) (hb:PSs X b u):PS X (.If c a b pos) (Jb tc t u):=by
 intro pins s Z H D I h;refine wpAny_If (thn (hc pins s Z H _ I h) λd s1 ⟨H1,I1,q1⟩=>?_);cases d with
 | true=>exact ha pins s1 Z H1 D I1 q1
 | false=>exact hb pins s1 Z H1 D I1 q1
def Xq1:TS:=λ_ _ _=>False
end
abbrev TG:=V->St->Hp->(St->Hp->Prop)->Prop
abbrev TGs:=List V->St->Hp->(St->Hp->Prop)->Prop
def PG (X:Cx) (mM:aL) (t:TG):Prop:=
 ∀pins s Z H (v:V) (u:aa) (Q:St->Hp->Prop),Inv X pins Z H s->Ah v u->t v Z H Q ->
  aj (ai X.prog X.w) X.A (assign mM X.env u) (λ_ s'=>∃Z' H',Inv X pins Z' H' s'/\Q Z' H') X.xe s
def PGs (X:Cx) (ts:List aL) (t:TGs):Prop:=
 ∀pins s Z H (vs:List V) (us:List aa) (Q:St->Hp->Prop),Inv X pins Z H s->Vals vs us->t vs Z H Q ->
  aj (ai X.prog X.w) X.A (assignInOrder ((bx ts X.env).map (·.2)) us) (λ_ s'=>∃Z' H',Inv X pins Z' H' s'/\Q Z' H') X.xe s
abbrev TSet:=V->V->V->Hp->(Hp->Prop)->Prop
def PSet (X:Cx) (t:TSet):Prop:=
 ∀pins s Z H (o i v:V) (ov iv u:aa) (Q:Hp->Prop),Inv X pins Z H s->Ah o ov->Ah i iv->Ah v u->t o i v H Q ->
  aj (ai X.prog X.w) X.A (u8 ov iv u) (λ_ s'=>∃H',Inv X pins Z H' s'/\Q H') X.xe s
abbrev TIp:=V->V->Hp->VK->Prop
section
variable {X:Cx}{pos:cN}
def Bm (i:Nat):TG:=λv Z H Q=>Q (Z.set i (some v)) H
def Az{i:Nat}(hN:X.N.Nodup)(hi:X.N[i]? = some x)(hx:Loc X.env.scope x)(hf:X.fn x=true\/X.env.scope.names.lookup x=some .local:=by first | exact .inl rfl | exact .inr rfl | assumption):PG X (.Name x pos) (Bm i):=by
 intro pins s Z H v u Q I r h;exact lW (Xab I hN hi hx r (λs' I'=>⟨_,H,I',h⟩) hf)
def Xaf:TGs:=λvs Z H Q=>vs=[]/\Q Z H
def Lg (t:TG) (u:TGs):TGs:=λvs Z H Q=>∃v r,vs=v::r/\t v Z H fun Z' H'=>u r Z' H' Q
def Jc:PGs X [] Xaf:=by
 intro pins s Z H vs us Q I r h;obtain⟨e,h⟩:=h;subst e;cases r;exact assignInOrder_nil ⟨Z,H,I,h⟩
def D9    (h1:PG X e t) (h2:PGs X es u)
  (hs:(bx (e::es) X.env).map (·.2)=assign e X.env::(bx es X.env).map (·.2):=by rfl):PGs X (e::es) (Lg t u):=by
 intro pins s Z H vs us Q I r h;obtain⟨v,vr,e1,h⟩:=h;subst e1;cases r with
 | cons r rr=>
  rw[hs];refine assignInOrder_cons (thn (h1 pins s Z H _ _ _ I r h) λ_ s1 ⟨Z1,H1,I1,q1⟩=>?_);exact h2 pins s1 Z1 H1 _ _ Q I1 rr q1
def Lh (K:KQ) (n:Nat) (t:TGs):TG:=λv Z H Q=>∃a xs,v = .ref a/\SqT K H a xs/\xs.length=n/\t xs Z H Q
def Xag   {n:Nat} (hc:X.calm=true) (h:PGs X es t)
  (hn:(bx es X.env).length=n:=by rfl) (bv:(bx es X.env).findIdx? (·.1)=none:=by rfl):PG X (.Tuple es k pos) (Lh X.K n t):=by
 intro pins s Z H v u Q I r hw;obtain⟨a,xs,e1,hq,hl,hw⟩:=hw;subst e1;cases r;obtain⟨aC,rv,ht,hz⟩:=I.tuple hq;refine assign_Tuple_tuple (I.ok.hd hc) ht (by simp[hn,<-hl,rv.length]) bv λh' hx=>?_;have I1:Inv X pins Z H {s with heap:=h'}:=I.kept (t':=s.toks) λb o e=>hx b o (O6 (Uc e)) e;exact h pins _ Z H xs _ Q I1 (by simpa using rv) hw
def gSub (to ti:TE) (t:TSet):TG:=λv Z H Q=>to Z H λo H1=>ti Z H1 λi H2=>t o i v H2 λH3=>Q Z H3
def Fj   (ho:PE X o to) (hi:PE X i ti) (hs:PSet X t)
  (ha:∀v,assign (.Subscript o i pos) X.env v=(do
   let ov <-holding [v] (eval o X.env)
   let iv <-holding [v,ov] (eval i X.env)
   cR pos
   holding [v,ov,iv] (u8 ov iv v)
   release [v,ov,iv] []):=by intro _;rfl):PG X (.Subscript o i pos) (gSub to ti t):=by
 intro pins s Z H v u Q I r h;rw[ha];refine Tz (aA (thn (ho pins s Z H _ I h) λov s1 ⟨x,H1,I1,r1,q1⟩=>?_));refine Tz (aA (thn (hi pins s1 Z H1 _ I1 q1) λiv s2 ⟨y,H2,I2,r2,q2⟩=>?_));refine Tz (bd (Tz (aA (thn (hs pins s2 Z H2 x y v ov iv u _ I2 r1 r2 r q2) λ_ s3 ⟨H3,I3,q3⟩=>?_))));exact wpAny_release ⟨Z,H3,I3,q3⟩
def Li (te:TE) (g:TG):TS:=λD Z H=>te Z H λx H1=>g x Z H1 D.nx
def Er   (he:PE X e te) (hg:PG X tg g) (hs:swapsWithSole [tg] e pos.line X.env=pure false:=by rfl) (hw:swappedStores [tg] e X.env=pure none:=by rfl)
  (h1:(bx [tg] X.env).map (·.2)=[assign tg X.env]:=by rfl):PS X (.Assign [tg] e pos) (Li te g):=by
 intro pins s Z H D I h;refine wpAny_Assign_stores (thn (he pins s Z H _ I h) λv s1 ⟨x,H1,I1,r1,q1⟩=>?_) hs hw;rw[h1];exact thn (hg pins s1 Z H1 x v _ I1 r1 q1) λ_ s2 q=>q
def Ao{i:Nat}    (hN:X.N.Nodup)(hi:X.N[i]? = some x)(hx:Loc X.env.scope x)(he:PE X e te)(hs:dy e (some (.Name x js)) pos.line X.env=pure false:=by rfl)(hf:X.fn x=true\/X.env.scope.names.lookup x=some .local:=by first | exact .inl rfl | exact .inr rfl | assumption):
  PS X (.Assign [.Name x js] e pos) (Li te (Bm i)):=by
 intro pins s Z H D I h;refine wpAny_Assign_Name (thn (he pins s Z H _ I h) λv s1 ⟨y,H1,I1,r1,q1⟩=>?_) hs;exact Xab I1 hN hi hx r1 (λs2 I2=>⟨_,H1,I2,q1⟩) hf
def tPar (i j:Nat) (ta:TA):TS:=λD Z H=>ta Z H λvs H1=>∃v w,vs=[v,w]/\D.nx ((Z.set i (some v)).set j (some w)) H1
def tAug (i:Nat) (te:TE) (ti:TIp):TS:=λD Z H=>∃x, Z[i]? = some (some x)/\te Z H λy H1=>ti x y H1 λz H2=>D.nx (Z.set i (some z)) H2
def tAugS (to ti te:TE) (u9:V->V->Hp->VK->Prop) (zV:TIp) (uA:TSet):TS:=λD Z H=>to Z H λo H1=>ti Z H1 λi H2=>u9 o i H2 λx H3=>te Z H3 λy H4=>zV x y H4 λz H5=>uA o i z H5 λH6=>D.nx Z H6
def PGet (X:Cx) (t:V->V->Hp->VK->Prop):Prop:=
 ∀pins s Z H (o i:V) (ov iv:aa) (Q:VK),Inv X pins Z H s->Ah o ov->Ah i iv->t o i H Q ->
  aj (ai X.prog X.w) X.A (bU ov iv) (EP X pins Z Q) X.xe s
def ipI (f:Int->Int->Int):TIp:=λx y H Q=>∃i j,x = .int i/\y = .int j/\Q (.int (f i j)) H
end
section
variable {X:Cx}{pos:cN}
def Xq2 (c:TT) (tb:TS):TS:=λD Z H=>∃W:Nat->St->Hp->Prop,(∃m,W m Z H)/\∀m Z H,W m Z H ->
 c Z H λb H1=>if b=true then ∃N:St->Hp->Prop,(∀Z' H',N Z' H'->∃m',m'<m/\W m' Z' H')/\tb {D with nx:=N,ct:=N,bk:=D.nx} Z H1 else D.nx Z H1
end
structure It where
 go:Nat->Hp->Prop
 yld:Nat->Hp->V->Hp->Prop
 stop:Nat->Hp->Prop
def FpOk (X:Cx) (pins:List (ae×aU)) (H:Hp) (b:ae):Prop:=
 H b=none/\b≠X.env.locals/\b∉X.fs/\(b∈X.ex\/X.s₀.heap.objs.size<=b)/\(∀x c,X.env.cells.lookup x=some c->c≠b)/\∀p∈X.pn++pins,p.1≠b
def Inv.fpOk      (I:Inv X pins Z H s) (hb:s.heap.objs.size<=b) (hn:H' b=none):FpOk X pins H' b:=by
 refine⟨hn,Tv (Pg I.lt hb),I.nofs hb,.inr (Pu I.sz hb),λx c e z=>?_,λp hp z=>?_⟩
 ·obtain⟨v,q⟩:=I.cell x c e;exact absurd (Pg q.lt (by rw[z];exact hb)) (Qg _)
 ·exact absurd (Pg (Uc (I.pin p hp).1) (by rw[z];exact hb)) (Qg _)
structure Turn (P:av) (w:a8) (K:KQ) (tg:aL) (J:It) (fp:List ae) (it:ae) (tn:Nat->ar->Prop):Prop where
 mem:it∈fp
 obj:∀i h,tn i h->∀b∈fp,∃o,h.get? b=some o/\∀v,o.data ≠ .cell v
 keep:∀i h h',tn i h->(∀b∈fp,∀o,h.get? b=some o->h'.get? b=some o)->tn i h'
 item:∀(X:Cx),X.prog=P->X.w=w->X.K=K->X.calm=true->∀(i:Nat) (pins:List (ae×aU)) (s:ak) (Z:St) (H:Hp) (E:Zb),Inv X pins Z H s->(∀b∈fp,FpOk X pins H b)->tn i s.heap->J.go i H ->
  aj (ai P w) X.A (dL (.ref it)) (λr s1=>∃u,r=some u /\
   aj (ai P w) X.A (cn tg (.ref it) u) (λ_ s2=>∃x H',Inv X pins Z H' s2/\Ah x u/\J.yld i H x H'/\tn (i+1) s2.heap/\∀b∈fp,H' b=none) E s1) E s
 done:∀(X:Cx),X.prog=P->X.w=w->X.K=K->X.calm=true->∀(i:Nat) (pins:List (ae×aU)) (s:ak) (Z:St) (H:Hp) (E:Zb),Inv X pins Z H s->(∀b∈fp,FpOk X pins H b)->tn i s.heap->J.stop i H ->
  aj (ai P w) X.A (dL (.ref it)) (λr s1=>r=none/\Inv X pins Z H s1) E s
 self:∀(A:aB) (i:Nat) (s:ak) (Q:Zb) (E:Zb),tn i s.heap->Q (.ref it) s->aj (ai P w) A (fU (.ref it)) Q E s
abbrev TI:=St->Hp->(It->Hp->Prop)->Prop
def PIE (X:Cx) (pins:List (ae×aU)) (Z:St) (tg:aL) (R:It->Hp->Prop) (lX:aa) (s2:ak):Prop:=
 ∃(it:ae) (fp:List ae) (tn:Nat->ar->Prop) (J:It) (H':Hp),lX = .ref it/\Inv X pins Z H' s2/\Turn X.prog X.w X.K tg J fp it tn/\tn 0 s2.heap/\(∀b∈fp,FpOk X pins H' b)/\R J H'
def PI (X:Cx) (tg iter:aL) (wi:TI):Prop:=
 ∀pins s Z H (R:It->Hp->Prop),Inv X pins Z H s->wi Z H R ->
  aj (ai X.prog X.w) X.A (eval iter X.env) (λv s1=>aj (ai X.prog X.w) X.A (fU v) (PIE X pins Z tg R) X.xe s1) X.xe s
def Jd    {s}     {n}  (ho:s.heap.get? it=some o) (hc:o.cls = .type n) (hd:o.data = .fields vs)
    (hn:["enumerate", "zip", "dict_itemiterator", "dict_reverseitemiterator", "odict_iterator", "itertools.zip_longest", "itertools.pairwise"].contains n=false) (hQ:Q () s):aj M A (cn tg (.ref it) u) Q E s:=by
  unfold cn;cases tg<;>first
    | exact T0 hQ
    | (cases u<;>first
        | exact T0 hQ
        | (refine Tz (kN ho ?_)
           rw[hc,hd];show aj M A (if (["enumerate", "zip", "dict_itemiterator", "dict_reverseitemiterator", "odict_iterator", "itertools.zip_longest", "itertools.pairwise"].contains n&&vs[0]? == some (be _))=true then _ else _) Q E s;rw[T6 (by intro h;rw[hn,Qj] at h;cases h)];exact T0 hQ))
def Itl (K:KQ) (a:ae):It:=
 ⟨λi H=>∃xs x,SqL K H a xs/\xs[i]? = some x,λi H x H'=>H'=H/\∀xs,SqL K H a xs->xs[i]? = some x,λi H=>∃xs,SqL K H a xs/\xs.length<=i⟩
def Itt (K:KQ) (a:ae):It:=
 ⟨λi H=>∃xs x,SqT K H a xs/\xs[i]? = some x,λi H x H'=>H'=H/\∀xs,SqT K H a xs->xs[i]? = some x,λi H=>∃xs,SqT K H a xs/\xs.length<=i⟩
def Itr (lo:Int) (n:Nat):It:=⟨λi _=>i<n,λi H x H'=>H'=H/\x = .int (lo+i),λi _=>n<=i⟩
def Xg4{P:av}{w:a8}{K:KQ}{tg:aL}(a it:ae):Turn P w K tg (Itl K a) [it] it (λi h=>h.IsListIter it a i) where
 mem:=by simp
 obj:=λi h st b hb=>by
  have e:b=it:=by simpa using hb
  subst e;obtain⟨o,e,c,d⟩:=st;exact⟨o,e,λv z=>by rw[d] at z;cases z⟩
 keep:=λi h h' st k=>st.at λo e=>k it (by simp) o e
 item:=by
  intro X hP hw hK hc i pins s Z H E I hf st hg;subst hP hw hK;obtain⟨xs,x,hq,hx⟩:=hg;obtain⟨aC,rv,p,hz⟩:=I.list hq;obtain⟨u,hu,ru⟩:=rv.get hx;obtain⟨f0,f1,f2,f3,f4,f5⟩:=hf it (by simp);refine wpAny_pyNext_list_item st p.isList (x:=u) (by simpa using hu) λh' aD sb=>?_;have I1:Inv X pins Z H {s with heap:=h'}:=I.turned (t':=s.toks) (λb o hb e=>(sb.2 b hb).trans e) f0 f1 f3 f4 f5;obtain⟨o,e,c,d⟩:=id aD;exact⟨u,rfl,Jd (s:={s with heap:=h'}) e c d (by decide) ⟨x,H,I1,ru,⟨rfl,λys hy=>by rw[I.list_inj hy hq];exact hx⟩,aD,λb hb=>(hf b hb).1⟩⟩
 done:=by
  intro X hP hw hK hc i pins s Z H E I hf st hg;subst hP hw hK;obtain⟨xs,hq,hx⟩:=hg;obtain⟨aC,rv,p,hz⟩:=I.list hq;obtain⟨f0,f1,f2,f3,f4,f5⟩:=hf it (by simp);have hl:=rv.length;exact wpAny_pyNext_list_end (I.ok.hd hc) st p.isList (by simp;lia) λh' eb=>⟨rfl,I.turned (t':=s.toks) (λb o hb e=>eb b o hb e) f0 f1 f3 f4 f5⟩
 self:=λ_ _ _ _ _ st h=>wpAny_pyIter_listiter st h
def Xg5{P:av}{w:a8}{K:KQ}{tg:aL}(a it:ae):Turn P w K tg (Itt K a) [it] it (λi h=>h.IsTupleIter it a i) where
 mem:=by simp
 obj:=λi h st b hb=>by
  have e:b=it:=by simpa using hb
  subst e;obtain⟨o,e,c,d⟩:=st;exact⟨o,e,λv z=>by rw[d] at z;cases z⟩
 keep:=λi h h' st k=>st.at λo e=>k it (by simp) o e
 item:=by
  intro X hP hw hK hc i pins s Z H E I hf st hg;subst hP hw hK;obtain⟨xs,x,hq,hx⟩:=hg;obtain⟨aC,rv,p,hz⟩:=I.tuple hq;obtain⟨u,hu,ru⟩:=rv.get hx;obtain⟨f0,f1,f2,f3,f4,f5⟩:=hf it (by simp);refine wpAny_pyNext_tuple_item st (show s.heap.IsTuple a aC.toArray from p) (x:=u) (by simpa using hu) λh' aD sb=>?_;have I1:Inv X pins Z H {s with heap:=h'}:=I.turned (t':=s.toks) (λb o hb e=>(sb.2 b hb).trans e) f0 f1 f3 f4 f5;obtain⟨o,e,c,d⟩:=id aD;exact⟨u,rfl,Jd (s:={s with heap:=h'}) e c d (by decide) ⟨x,H,I1,ru,⟨rfl,λys hy=>by rw[I.tuple_inj hy hq];exact hx⟩,aD,λb hb=>(hf b hb).1⟩⟩
 done:=by
  intro X hP hw hK hc i pins s Z H E I hf st hg;subst hP hw hK;obtain⟨xs,hq,hx⟩:=hg;obtain⟨aC,rv,p,hz⟩:=I.tuple hq;obtain⟨f0,f1,f2,f3,f4,f5⟩:=hf it (by simp);have hl:=rv.length;exact wpAny_pyNext_tuple_end (I.ok.hd hc) st (show s.heap.IsTuple a aC.toArray from p) (by simp;lia) λh' eb=>⟨rfl,I.turned (t':=s.toks) (λb o hb e=>eb b o hb e) f0 f1 f3 f4 f5⟩
 self:=λ_ _ _ _ _ st h=>wpAny_pyIter_tupleiter st h
def Xg6{P:av}{w:a8}{K:KQ}{tg:aL}(it:ae)(lo:Int)(n:Nat):Turn P w K tg (Itr lo n) [it] it (λi h=>xT h it (lo+(i:Nat) * 1) ((n:Int) - (i:Nat)) 1) where
 mem:=by simp
 obj:=λi h st b hb=>by
  have e:b=it:=by simpa using hb
  subst e;exact⟨_,st,λv z=>by
   have z':uB.fields _=uB.cell v:=z;cases z'⟩
 keep:=λi h h' st k=>k it (by simp) _ st
 item:=by
  intro X hP hw hK hc i pins s Z H E I hf st hg;subst hP hw hK;obtain⟨f0,f1,f2,f3,f4,f5⟩:=hf it (by simp);have W:=lY.range (prog:=X.prog) (w:=X.w) (I.ok.hd hc) it lo 1 n;refine W.item i s _ _ hg st λv h' tk hv aD kk=>?_;obtain⟨t,rfl⟩:=hv;have I1:Inv X pins Z H {s with heap:=h',toks:=tk}:=I.turned (λb o hb e=>kk b o (by simpa using hb) e) f0 f1 f3 f4 f5;refine⟨_,rfl,Jd (s:={s with heap:=h',toks:=tk}) (n := "range_iterator") aD rfl rfl (by decide) ⟨.int (lo+i),H,I1,⟨t,?_⟩,⟨rfl,rfl⟩,aD,λb hb=>(hf b hb).1⟩⟩;rw[Int.mul_one]
 done:=by
  intro X hP hw hK hc i pins s Z H E I hf st hg;subst hP hw hK;obtain⟨f0,f1,f2,f3,f4,f5⟩:=hf it (by simp);exact wpAny_pyNext_range_end (I.ok.hd hc) st (by have:n<=i:=hg;lia) λh' eb=>⟨rfl,I.turned (t':=s.toks) (λb o hb e=>eb b o hb e) f0 f1 f3 f4 f5⟩
 self:=λ_ _ _ _ _ st h=>wpAny_pyIter_rangeiter st h
section
variable {X:Cx}{tg:aL}
def Xg7 (K:KQ) (tl:TE):TI:=fun Z H R=>tl Z H λx H1=>∃a,x = .ref a/\(∃xs,SqL K H1 a xs)/\R (Itl K a) H1
def iTup (K:KQ) (tl:TE):TI:=fun Z H R=>tl Z H λx H1=>∃a,x = .ref a/\(∃xs,SqT K H1 a xs)/\R (Itt K a) H1
def Cf  (hl:PE X l tl):PI X tg l (Xg7 X.K tl):=by
 intro pins s Z H R I h;refine thn (hl pins s Z H _ I h) λv s1 ⟨x,H1,I1,r1,q1⟩=>?_;obtain⟨a,e,⟨xs,hq⟩,q⟩:=q1;subst e;cases r1;obtain⟨aC,rv,p,hz⟩:=I1.list hq;refine cG p.isList ?_;refine⟨s1.heap.objs.size,[s1.heap.objs.size],_,_,H1,rfl,I1.kept (t':=s1.toks) λb o e=>Ud _ e,Xg4 a _,⟨_,ar.get?_push_size _ rfl,rfl,rfl⟩,λb hb=>?_,q⟩;have e:b=s1.heap.objs.size:=by simpa using hb
 subst e;exact I1.fpOk (Oy _) (I1.hok.fresh (Oy _))
def F8  (hl:PE X l tl):PI X tg l (iTup X.K tl):=by
 intro pins s Z H R I h;refine thn (hl pins s Z H _ I h) λv s1 ⟨x,H1,I1,r1,q1⟩=>?_;obtain⟨a,e,⟨xs,hq⟩,q⟩:=q1;subst e;cases r1;obtain⟨aC,rv,p,hz⟩:=I1.tuple hq;refine kO (show s1.heap.IsTuple a aC.toArray from p) ?_;refine⟨s1.heap.objs.size,[s1.heap.objs.size],_,_,H1,rfl,I1.kept (t':=s1.toks) λb o e=>Ud _ e,Xg5 a _,⟨_,ar.get?_push_size _ rfl,rfl,rfl⟩,λb hb=>?_,q⟩;have e:b=s1.heap.objs.size:=by simpa using hb
 subst e;exact I1.fpOk (Oy _) (I1.hok.fresh (Oy _))
def Xg8       {lo hi}  (I:Inv X pins Z H s) (h1 : -(2 ^ 62)<=lo) (h2:lo<2 ^ 62) (h3 : -(2 ^ 62)<=hi) (h4:hi<2 ^ 62)
  (q:R (Itr lo (hi - lo).toNat) H):aj (ai X.prog X.w) X.A (fU (.ref s.heap.objs.size)) (PIE X pins Z tg R) E {s with heap:=s.heap.push {cls:=.type "range",data:=.fields #[.int lo t,.int hi u,.int 1 v]},toks:=tk}:=by
 refine wpAny_pyIter_range (IsRange.new ..) (small_one h1 h2 h3 h4) ?_;have I1:Inv X pins Z H {s with heap:=s.heap.push {cls:=.type "range",data:=.fields #[.int lo t,.int hi u,.int 1 v]},toks:=tk}:=I.kept λb o e=>Ud _ e;refine⟨(s.heap.push {cls:=.type "range",data:=.fields #[.int lo t,.int hi u,.int 1 v]}).objs.size,[(s.heap.push {cls:=.type "range",data:=.fields #[.int lo t,.int hi u,.int 1 v]}).objs.size],_,_,H,rfl,
  I1.kept (t':=tk) λb o e=>Ud _ e,Xg6 _ lo (hi - lo).toNat,?_,λb hb=>?_,q⟩
 ·have e1:lo+((0:Nat):Int) * 1=lo:=by simp
  have e2:(((hi - lo).toNat:Nat):Int) - ((0:Nat):Int)=am.Range.rangeSize lo hi 1:=by rw[rangeSize_one];split<;>lia
  show xT _ _ (lo+((0:Nat):Int) * 1) ((((hi - lo).toNat:Nat):Int) - ((0:Nat):Int)) 1;rw[e1,e2];exact ar.get?_push_size _ rfl
 ·have e:b=(s.heap.push {cls:=.type "range",data:=.fields #[.int lo t,.int hi u,.int 1 v]}).objs.size:=by simpa using hb
  subst e;exact I1.fpOk (Oy _) (I1.hok.fresh (Oy _))
def Xg9 (ta:TA):TI:=fun Z H R=>ta Z H λvs H1=>∃j:Int,vs=[.int j] /\ -(2 ^ 62)<=j/\j<2 ^ 62/\R (Itr 0 j.toNat) H1
def Je   (hg:Gl X "range") (hm:X.mg "range" = none) (ha:PA X [a] ta) (hs:az [a] X.env=[(false,eval a X.env)]:=by rfl):PI X tg (.Call (.Name "range" p) [a] [] pos) (Xg9 ta):=by
 intro pins s Z H R I h;refine Call_ (F7 I hg hm boot_range (PyProof.Rows.callWith_type1 (thn (ha pos pins s Z H _ I h) λus s1 ⟨vs,H1,I1,r1,q1⟩=>?_) hs rfl));obtain⟨j,e,q1,q2,q⟩:=q1;subst e;cases r1 with
 | cons r rr=>
  cases rr;obtain⟨t,rfl⟩:=r;exact call_range_1 (Xg8 I1 (by lia) (by lia) q1 q2 (by simpa using q))
def tFor (wi:TI) (g:TG) (tb:TS):TS:=λD Z H=>wi Z H λJ H1=>∃W:Nat->Nat->St->Hp->Prop,(∃m,W 0 m Z H1)/\∀i m Z H,W i m Z H ->
 (J.stop i H/\D.nx Z H)\/(J.go i H/\∃N:St->Hp->Prop,(∀Z' H',N Z' H'->∃m',m'<m/\W (i+1) m' Z' H')/\∀x H',J.yld i H x H'->g x Z H' fun Z2 H2=>tb {D with nx:=N,ct:=N,bk:=D.nx} Z2 H2)
def Hf (fp:List ae) (h:ar):List (ae×aU):=fp.filterMap λb=>(h.get? b).map λo=>(b,o)
def Jf    (hb:b∈fp) (e:h.get? b=some o):(b,o)∈Hf fp h:=Tb.mpr ⟨b,hb,by rw[e];rfl⟩
def Xha   (hp:p∈Hf fp h):p.1∈fp/\h.get? p.1=some p.2:=by
 obtain⟨b,hb,e⟩:=Tb.mp hp;cases q:h.get? b with
 | none=>rw[q] at e;cases e
 | some o=>
  rw[q] at e;have e':(b,o)=p:=Pd e;subst e';exact⟨hb,q⟩
def Inv.pinned     (I:Inv X pins Z H s) (hf:∀b∈fp,FpOk X pins H b) (ho:∀b∈fp,∃o,s.heap.get? b=some o/\∀v,o.data ≠ .cell v):Inv X (pins++Hf fp s.heap) Z H s:=
 I.pins_of λp hp=>(O5.mp hp).elim (λz=>I.pin p (Pr _ z)) λz=>by
  obtain⟨hb,e⟩:=Xha z;obtain⟨f0,f1,f2,_⟩:=hf p.1 hb;obtain⟨o,e',d⟩:=ho p.1 hb;rw[e] at e';cases e';exact⟨e,f0,f1,f2,d⟩
def Inv.unpinned    (I:Inv X (pins++pl) Z H s):Inv X pins Z H s:=I.pins_of λp hp=>I.pin p (Pr _ (Qc _ hp))
def Dg      (hp:bB (ai X.prog X.w) X.A X.env X.xe) (hc:X.calm=true) (hi:PI X tg iter wi) (hg:PG X tg g) (hb:PSs X body tb)
  (hs:∀x,aH iter X.env x=pure x:=by intro _;rfl):PS X (.For tg iter body [] pos) (tFor wi g tb):=by
 intro pins s Z H D I h;refine wpAny_For (thn (hi pins s Z H _ I h) λv s1 h1=>thn h1 λlX s2 h2=>?_) hs;obtain⟨it,fp,tn,J,H2,e,I2,T,dG,f2,W,⟨m0,w0⟩,turn⟩:=h2;subst e;have h8:∀{H':Hp},(∀b∈fp,H' b=none)->∀b∈fp,FpOk X pins H' b:=λhn b hb=>⟨hn b hb,(f2 b hb).2⟩;refine codeAny_forLoop_any (λn s'=>∃i Z' H',Inv X pins Z' H' s'/\tn i s'.heap/\(∀b∈fp,H' b=none)/\W i n Z' H') ?_ m0 ⟨0, Z,H2,I2,dG,λb hb=>(f2 b hb).1,w0⟩;rintro n s3 ⟨i, Z3,H3,I3,oH,xU,w3⟩;rcases turn i n Z3 H3 w3 with ⟨stop,qn⟩ | ⟨go,N,hN,step⟩
 ·refine cq hp (thn (T.done X rfl rfl rfl hc i pins s3 Z3 H3 X.xe I3 (h8 xU) oH stop) λr s4 ⟨hr,I4⟩=>?_);subst hr;exact cY ⟨Z3,H3,I4,qn⟩
 ·refine cq hp (thn (T.item X rfl rfl rfl hc i pins s3 Z3 H3 X.xe I3 (h8 xU) oH go) λr s4 ⟨u,hr,h4⟩=>?_);subst hr;refine cq hp (thn h4 λ_ s5 ⟨x,H5,I5,r5,y5,mO,uC⟩=>?_);have uD:=I5.pinned (h8 uC) (T.obj _ _ mO);refine cq hp (thn (hg _ s5 Z3 H5 x u _ uD r5 (step x H5 y5)) λ_ s6 ⟨Z6,H6,I6,q6⟩=>?_);refine cq hp (thn (hb _ s6 Z6 H6 _ I6 q6) λf s7 q7=>?_);have again:∀{Z7:St} {H7:Hp},Inv X (pins++Hf fp s5.heap) Z7 H7 s7->N Z7 H7->∃m,m<n/\∃i Z' H',Inv X pins Z' H' s7/\tn i s7.heap/\(∀b∈fp,H' b=none)/\W i m Z' H':=λ{Z7 H7} I7 n7=>by
   obtain⟨m',hm,w7⟩:=hN Z7 H7 n7;refine⟨m',hm,i+1, Z7,H7,I7.unpinned,T.keep _ _ _ mO λb hb o e=>(I7.pin (b,o) (Pr _ (Pr _ (Jf hb e)))).1,λb hb=>?_,w7⟩;obtain⟨o,e,d⟩:=T.obj _ _ mO b hb;exact(I7.pin (b,o) (Pr _ (Pr _ (Jf hb e)))).2.1
  cases f with
  | next=>obtain⟨Z7,H7,I7,n7⟩:=q7;exact again I7 n7
  | cont=>obtain⟨Z7,H7,I7,n7⟩:=q7;exact again I7 n7
  | brk=>obtain⟨Z7,H7,I7,q7⟩:=q7;exact⟨Z7,H7,I7.unpinned,q7⟩
  | ret v=>obtain⟨x7, Z7,H7,I7,r7,q7⟩:=q7;exact⟨x7, Z7,H7,I7.unpinned,r7,q7⟩
end
def Fl{K}{a}{xs}{g:TG}{tb:TS}{D:Ends}  (Pv:Nat->St->Hp->Prop)(h0:Pv 0 Z H)(hl:∀i Z H,i<=xs.length->Pv i Z H->SqL K H a xs)
  (hs:∀i x Z H,xs[i]? = some x->Pv i Z H->g x Z H fun Z2 H2=>tb {D with nx:=Pv (i+1),ct:=Pv (i+1),bk:=D.nx} Z2 H2) (hd:∀Z H,Pv xs.length Z H->D.nx Z H):
  ∃W:Nat->Nat->St->Hp->Prop,(∃m,W 0 m Z H)/\∀i m Z H,W i m Z H ->
   ((Itl K a).stop i H/\D.nx Z H)\/((Itl K a).go i H/\∃N:St->Hp->Prop,(∀Z' H',N Z' H'->∃m',m'<m/\W (i+1) m' Z' H')/\∀x H',(Itl K a).yld i H x H'->g x Z H' fun Z2 H2=>tb {D with nx:=N,ct:=N,bk:=D.nx} Z2 H2):=by
 refine⟨λi m Z H=>m=xs.length - i/\i<=xs.length/\Pv i Z H,⟨xs.length,by simp,Px _,h0⟩,?_⟩;rintro i m Z H ⟨rfl,hi,p⟩;have q:=hl i Z H hi p;by_cases bo:i<xs.length
 ·refine .inr ⟨⟨xs,xs[i],q,by simp[bo]⟩,Pv (i+1),fun Z' H' p'=>⟨xs.length - (i+1),by lia,rfl,bo,p'⟩,λx H' y=>?_⟩;obtain⟨e,y⟩:=y;subst e;exact hs i x Z _ (y xs q) p
 ·have e:i=xs.length:=by lia
  subst e;exact .inl ⟨⟨xs,q,Oy _⟩,hd Z H p⟩
def Jg{lo}{n}{g:TG}{tb:TS}{D:Ends}  (Pv:Nat->St->Hp->Prop)(h0:Pv 0 Z H)
  (hs:∀i Z H,i<n->Pv i Z H->g (.int (lo+i)) Z H fun Z2 H2=>tb {D with nx:=Pv (i+1),ct:=Pv (i+1),bk:=D.nx} Z2 H2) (hd:∀Z H,Pv n Z H->D.nx Z H):
  ∃W:Nat->Nat->St->Hp->Prop,(∃m,W 0 m Z H)/\∀i m Z H,W i m Z H ->
   ((Itr lo n).stop i H/\D.nx Z H)\/((Itr lo n).go i H/\∃N:St->Hp->Prop,(∀Z' H',N Z' H'->∃m',m'<m/\W (i+1) m' Z' H')/\∀x H',(Itr lo n).yld i H x H'->g x Z H' fun Z2 H2=>tb {D with nx:=N,ct:=N,bk:=D.nx} Z2 H2):=by
 refine⟨λi m Z H=>m=n - i/\i<=n/\Pv i Z H,⟨n,by simp,Px _,h0⟩,?_⟩;rintro i m Z H ⟨rfl,hi,p⟩;by_cases bo:i<n
 ·refine .inr ⟨bo,Pv (i+1),fun Z' H' p'=>⟨n - (i+1),by lia,rfl,bo,p'⟩,λx H' y=>?_⟩;obtain⟨e,y⟩:=y;subst e y;exact hs i Z _ bo p
 ·have e:i=n:=by lia
  subst e;exact .inl ⟨Oy _,hd Z H p⟩
abbrev R2:=V->V->Hp->VK->Prop
def OpR (X:Cx) (f:aa->aa->f8 aa) (r:R2):Prop:=
 ∀pins s Z H (x y:V) (v u:aa) (Q:VK),Inv X pins Z H s->Ah x v->Ah y u->r x y H Q ->
  aj (ai X.prog X.w) X.A (f v u) (EP X pins Z Q) X.xe s
def UnR (X:Cx) (f:aa->f8 aa) (r:V->Hp->VK->Prop):Prop:=
 ∀pins s Z H (x:V) (v:aa) (Q:VK),Inv X pins Z H s->Ah x v->r x H Q ->
  aj (ai X.prog X.w) X.A (f v) (EP X pins Z Q) X.xe s
def Bw (X:Cx) (f:aa) (r:List V->Hp->VK->Prop):Prop:=
 ∀pins s Z H (xs:List V) (us:List aa) (Q:VK),Inv X pins Z H s->Vals xs us->r xs H Q ->
  aj (ai X.prog X.w) X.A (call f us) (EP X pins Z Q) X.xe s
def TruR (X:Cx) (r:V->Hp->(Bool->Hp->Prop)->Prop):Prop:=
 ∀pins s Z H (x:V) (v:aa) (Q:Bool->Hp->Prop),Inv X pins Z H s->Ah x v->r x H Q ->
  aj (ai X.prog X.w) X.A (truthy v) (TP X pins Z Q) X.xe s
def tOp (r:R2) (ta tb:TE):TE:=fun Z H Q=>ta Z H λx H1=>tb Z H1 λy H2=>r x y H2 Q
def tUn (r:V->Hp->VK->Prop) (ta:TE):TE:=fun Z H Q=>ta Z H λx H1=>r x H1 Q
def rI (C:Int->Int->Prop) (g:Int->Int->V):R2:=λx y H Q=>∃i j,x = .int i/\y = .int j/\C i j/\Q (g i j) H
def rI0 (g:Int->Int->V):R2:=λx y H Q=>∃i j,x = .int i/\y = .int j/\Q (g i j) H
def rU (g:Int->V):V->Hp->VK->Prop:=λx H Q=>∃i,x = .int i/\Q (g i) H
section
variable {X:Cx}{a b c:aL}{ta tb tc:TE}{pos:cN}
def binT(ha:PE X a ta)(hb:PE X b tb)     {R:V->V->Hp->Prop}(I:Inv X pins Z H s)
  (h:ta Z H λx H1=>tb Z H1 λy H2=>R x y H2) {f:aa->aa->f8 aa}
  (hf:∀v u s2 x y H2,Inv X pins Z H2 s2->Ah x v->Ah y u->R x y H2->aj (ai X.prog X.w) X.A (f v u) Q X.xe s2):
  aj (ai X.prog X.w) X.A (eval a X.env) (λv s₁=>aj (ai X.prog X.w) X.A (eval b X.env) (λu s₂=>aj (ai X.prog X.w) X.A (f v u) Q X.xe s₂) X.xe s₁) X.xe s:=by
 refine thn (ha pins s Z H _ I h) λv s1 ⟨x,H1,I1,r1,q1⟩=>?_;refine thn (hb pins s1 Z H1 _ I1 q1) λu s2 ⟨y,H2,I2,r2,q2⟩=>?_;exact hf v u s2 x y H2 I2 r1 r2 q2
def Ak  (ho:OpR X (bg op) r) (ha:PE X a ta) (hb:PE X b tb):PE X (.BinOp a op b pos) (tOp r ta tb):=by
 intro pins s Z H Q I h;exact wpAny_BinOp (binT ha hb I h λv u s2 x y H2 I2 rx ry q=>ho pins s2 Z H2 x y v u Q I2 rx ry q)
def Lj  (ho:UnR X (unaryOp op) r) (ha:PE X a ta):PE X (.UnaryOp op a pos) (tUn r ta):=by
 intro pins s Z H Q I h;exact UnaryOp_ (thn (ha pins s Z H _ I h) λv s1 ⟨x,H1,I1,r1,q1⟩=>ho pins s1 Z H1 x v Q I1 r1 q1)
def opI  {g:Int->Int->Int}
  (rule:∀(i j:Int) (t u:IL) (s:ak) (Q:Zb) (E:Zb),C i j->Q (.int (g i j) s.toks) {s with toks:=s.toks+1}->aj (ai X.prog X.w) X.A (f (.int i t) (.int j u)) Q E s):
  OpR X f (rI C λi j=>.int (g i j)):=by
 intro pins s Z H x y v u Q I rx ry h;obtain⟨i,j,rfl,rfl,hc,q⟩:=h;obtain⟨t,rfl⟩:=rx;obtain⟨t',rfl⟩:=ry;exact rule i j t t' s _ _ hc ⟨.int (g i j),H,I.tok _,⟨_,rfl⟩,q⟩
def Xah{g:Int->Int->Int}
  (rule:∀(i j:Int) (t u:IL) (s:ak) (Q:Zb) (E:Zb),Q (.int (g i j) s.toks) {s with toks:=s.toks+1}->aj (ai X.prog X.w) X.A (f (.int i t) (.int j u)) Q E s):
  OpR X f (rI0 λi j=>.int (g i j)):=by
 intro pins s Z H x y v u Q I rx ry h;obtain⟨i,j,rfl,rfl,q⟩:=h;obtain⟨t,rfl⟩:=rx;obtain⟨t',rfl⟩:=ry;exact rule i j t t' s _ _ ⟨.int (g i j),H,I.tok _,⟨_,rfl⟩,q⟩
def Jh{g:Int->Int->Bool}
  (rule:∀(i j:Int) (t u:IL) (s:ak) (Q:Zb) (E:Zb),Q (.bool (g i j)) s->aj (ai X.prog X.w) X.A (f (.int i t) (.int j u)) Q E s):
  OpR X f (rI0 λi j=>.bl (g i j)):=by
 intro pins s Z H x y v u Q I rx ry h;obtain⟨i,j,rfl,rfl,q⟩:=h;obtain⟨t,rfl⟩:=rx;obtain⟨t',rfl⟩:=ry;exact rule i j t t' s _ _ ⟨.bl (g i j),H,I,rfl,q⟩
def CDiv (i j:Int):Prop:=0<j/\j<1073741824
def CPow (i j:Int):Prop:=0<=j/\j<=1000000/\i.natAbs<2 ^ 64
def CMul (i j:Int):Prop:=(-(2 ^ 64)<i/\i<2 ^ 64)\/(-(2 ^ 64)<j/\j<2 ^ 64)
def CMul.ok(h:CMul i j):IntMulOk i j:=by
 rcases h with ⟨h1,h2⟩ | ⟨h1,h2⟩
 ·exact .of_left (t6 h1 h2)
 ·exact .of_right (t6 h1 h2)
def B6:OpR X (bg .Add) (rI0 λi j=>.int (i+j)):=Xah λ_ _ _ _ _ _ _ q=>add_int q
def Xai:OpR X (bg .Sub) (rI0 λi j=>.int (i - j)):=Xah λ_ _ _ _ _ _ _ q=>sub_int q
def Xaj:OpR X (bg .Mult) (rI CMul λi j=>.int (i * j)):=opI λ_ _ _ _ _ _ _ hc q=>mul_int q hc.ok
def Xak:OpR X (bg .FloorDiv) (rI CDiv λi j=>.int (i / j)):=opI λi j _ _ _ _ _ hc q=>by
 have h1:(0:Int)<j:=hc.1;have h2:j<1073741824:=hc.2;exact floordiv_int (by lia) (by rw[Int.fdiv_eq_ediv_of_nonneg i (by lia)];exact q) (.inl (PyProof.noPylong_small (by lia)))
def F9:OpR X (bg .Mod) (rI (λ_ j=>0<j) λi j=>.int (i % j)):=opI λi j _ _ _ _ _ hc q=>by
 have h1:(0:Int)<j:=hc;exact mod_int' (by lia) (by rw[Int.fmod_eq_emod_of_nonneg i (by lia)];exact q)
def Xal:OpR X (bg .Pow) (rI CPow λi j=>.int (i ^ j.toNat)):=opI λ_ _ _ _ _ _ _ hc q=>pow_int_small hc.1 hc.2.1 hc.2.2 q
def unI{g:Int->Int}
  (rule:∀(i:Int) (t:IL) (s:ak) (Q:Zb) (E:Zb),Q (.int (g i) s.toks) {s with toks:=s.toks+1}->aj (ai X.prog X.w) X.A (f (.int i t)) Q E s):
  UnR X f (rU λi=>.int (g i)):=by
 intro pins s Z H x v Q I rx h;obtain⟨i,rfl,q⟩:=h;obtain⟨t,rfl⟩:=rx;exact rule i t s _ _ ⟨.int (g i),H,I.tok _,⟨_,rfl⟩,q⟩
def Lk:UnR X (unaryOp .USub) (rU λi=>.int (-i)):=unI λ_ _ _ _ _ q=>neg_int q
end
def scal:V->V->Bool
 | .non,.non=>true | .non,.int _=>true | .int _,.non=>true | .non,.bl _=>true | .bl _,.non=>true | .non,.str _=>true | .str _,.non=>true
 | .int _,.int _=>true | .bl _,.bl _=>true | .str _,.str _=>true | .byt _,.byt _=>true
 | .int _,.str _=>true | .str _,.int _=>true | .bl _,.str _=>true | .str _,.bl _=>true
 | _,_=>false
def rEq:R2:=λx y H Q=>scal x y=true/\Q (.bl (decide (x=y))) H
def rNe:R2:=λx y H Q=>scal x y=true/\Q (.bl (!decide (x=y))) H
def Xam:decide (V.int i=V.int j)=(i==j):=by
 rw[Qu];simp
def Ll:decide (V.bl i=V.bl j)=(i==j):=by
 rw[Qu];simp
def Xan:decide (V.str i=V.str j)=(i==j):=by
 rw[Qu];simp
def Xao:decide (V.byt i=V.byt j)=(i.toList==j.toList):=by
 rw[Qu];cases i;cases j;simp
section
variable {X:Cx}{a b c:aL}{ta tb tc:TE}{pos:cN}
def A9      (I:Inv X pins Z H s) (q:Q (.bl k) H) (e:k=k'):EP X pins Z Q (.bool k') s:=by
 subst e;exact⟨.bl k,H,I,rfl,q⟩
def Bp:OpR X (aJ .Eq) rEq:=by
 intro pins s Z H x y v u Q I rx ry h;obtain⟨hs,q⟩:=h;cases x with
 | non=>
  cases rx;cases y with
  | non=>cases ry;exact PySem.EqNone.eq_none_none (A9 I q (by simp))
  | bl j=>cases ry;exact PySem.EqNone.eq_none_bool (A9 I q (by simp))
  | int j=>obtain⟨t',rfl⟩:=ry;exact PySem.EqNone.eq_none_int (A9 I q (by simp))
  | str j=>obtain⟨t',rfl⟩:=ry;exact PySem.EqNone.eq_none_str (A9 I q (by simp))
  | _=>exact absurd (show false=true from hs) Pe
 | bl i=>
  cases rx;cases y with
  | non=>cases ry;exact PySem.EqNone.eq_bool_none (A9 I q (by simp))
  | bl j=>cases ry;exact eq_bool (A9 I q Ll)
  | str j=>obtain⟨t',rfl⟩:=ry;exact PySem.EqMixed.eq_bool_str (A9 I q (by simp))
  | _=>exact absurd (show false=true from hs) Pe
 | int i=>
  obtain⟨t,rfl⟩:=rx;cases y with
  | non=>cases ry;exact PySem.EqNone.eq_int_none (A9 I q (by simp))
  | int j=>obtain⟨t',rfl⟩:=ry;exact eq_int (A9 I q Xam)
  | str j=>obtain⟨t',rfl⟩:=ry;exact PySem.EqMixed.eq_int_str (A9 I q (by simp))
  | _=>exact absurd (show false=true from hs) Pe
 | str i=>
  obtain⟨t,rfl⟩:=rx;cases y with
  | non=>cases ry;exact PySem.EqNone.eq_str_none (A9 I q (by simp))
  | bl j=>cases ry;exact PySem.EqMixed.eq_str_bool (A9 I q (by simp))
  | int j=>obtain⟨t',rfl⟩:=ry;exact PySem.EqMixed.eq_str_int (A9 I q (by simp))
  | str j=>obtain⟨t',rfl⟩:=ry;exact eq_str (A9 I q Xan)
  | _=>exact absurd (show false=true from hs) Pe
 | byt i=>
  obtain⟨t,rfl⟩:=rx;cases y with
  | byt j=>obtain⟨t',rfl⟩:=ry;exact PySem.W.eq_bytes (A9 I q Xao)
  | _=>exact absurd (show false=true from hs) Pe
 | _=>cases y<;>exact absurd (show false=true from hs) Pe
def Ji:OpR X (aJ .NotEq) rNe:=by
 intro pins s Z H x y v u Q I rx ry h;obtain⟨hs,q⟩:=h;cases x with
 | non=>
  cases rx;cases y with
  | non=>cases ry;exact PySem.EqNone.ne_none_none (A9 I q (by simp))
  | bl j=>cases ry;exact PySem.EqNone.ne_none_bool (A9 I q (by simp))
  | int j=>obtain⟨t',rfl⟩:=ry;exact PySem.EqNone.ne_none_int (A9 I q (by simp))
  | str j=>obtain⟨t',rfl⟩:=ry;exact PySem.EqNone.ne_none_str (A9 I q (by simp))
  | _=>exact absurd (show false=true from hs) Pe
 | bl i=>
  cases rx;cases y with
  | non=>cases ry;exact PySem.EqNone.ne_bool_none (A9 I q (by simp))
  | bl j=>cases ry;exact ne_bool (A9 I q (congrArg not Ll))
  | str j=>obtain⟨t',rfl⟩:=ry;exact PySem.EqMixed.ne_bool_str (A9 I q (by simp))
  | _=>exact absurd (show false=true from hs) Pe
 | int i=>
  obtain⟨t,rfl⟩:=rx;cases y with
  | non=>cases ry;exact PySem.EqNone.ne_int_none (A9 I q (by simp))
  | int j=>obtain⟨t',rfl⟩:=ry;exact ne_int (A9 I q (congrArg not Xam))
  | str j=>obtain⟨t',rfl⟩:=ry;exact PySem.EqMixed.ne_int_str (A9 I q (by simp))
  | _=>exact absurd (show false=true from hs) Pe
 | str i=>
  obtain⟨t,rfl⟩:=rx;cases y with
  | non=>cases ry;exact PySem.EqNone.ne_str_none (A9 I q (by simp))
  | bl j=>cases ry;exact PySem.EqMixed.ne_str_bool (A9 I q (by simp))
  | int j=>obtain⟨t',rfl⟩:=ry;exact PySem.EqMixed.ne_str_int (A9 I q (by simp))
  | str j=>obtain⟨t',rfl⟩:=ry;exact ne_str (A9 I q (congrArg not Xan))
  | _=>exact absurd (show false=true from hs) Pe
 | byt i=>
  obtain⟨t,rfl⟩:=rx;cases y with
  | byt j=>obtain⟨t',rfl⟩:=ry;exact PySem.W.ne_bytes (A9 I q (congrArg not Xao))
  | _=>exact absurd (show false=true from hs) Pe
 | _=>cases y<;>exact absurd (show false=true from hs) Pe
def Ct:OpR X (aJ .Lt) (rI0 λi j=>.bl (decide (i<j))):=Jh λ_ _ _ _ _ _ _ q=>lt_int q
def Jj:OpR X (aJ .LtE) (rI0 λi j=>.bl (decide (i<=j))):=Jh λ_ _ _ _ _ _ _ q=>le_int q
def Xap:OpR X (aJ .Gt) (rI0 λi j=>.bl (decide (j<i))):=Jh λ_ _ _ _ _ _ _ q=>gt_int q
def Xaq:OpR X (aJ .GtE) (rI0 λi j=>.bl (decide (j<=i))):=Jh λ_ _ _ _ _ _ _ q=>ge_int q
def Xar:OpR X (aJ .Lt) (λx y H Q=>∃i j,x = .str i/\y = .str j/\Q (.bl (decide (i.cps.toList<j.cps.toList))) H):=by
 intro pins s Z H x y v u Q I rx ry h;obtain⟨i,j,rfl,rfl,q⟩:=h;obtain⟨t,rfl⟩:=rx;obtain⟨t',rfl⟩:=ry;exact lt_str (A9 I q rfl)
def isObj:HO->Bool
 | .lst _=>true
 | .ins _ _ _=>true
 | _=>false
def Ar(b:aL)(h:op ≠ .In:=by decide)(h2:op ≠ .NotIn:=by decide):cJ op b=false:=by
 have e1:(op==CmpOp.In)=false:=by cases op<;>first | rfl | exact absurd rfl h
 have e2:(op==CmpOp.NotIn)=false:=by cases op<;>first | rfl | exact absurd rfl h2
 cases b<;>simp[cJ,e1,e2]
def Ea  (ho:OpR X (aJ op) r) (ha:PE X a ta) (hb:PE X b tb) (hm:cJ op b=false):PE X (.Compare a [op] [b] pos) (tOp r ta tb):=by
 intro pins s Z H Q I h;exact pV (binT ha hb I h λv u s2 x y H2 I2 rx ry q=>ho pins s2 Z H2 x y v u Q I2 rx ry q) hm
def Lm (t:TE):TT:=fun Z H Q=>t Z H λx H'=>∃k,x = .bl k/\Q k H'
def Aq  (ho:OpR X (aJ op) r) (ha:PE X a ta) (hb:PE X b tb) (hm:cJ op b=false):PT X (.Compare a [op] [b] pos) (Lm (tOp r ta tb)):=by
 intro pins s Z H Q I h;refine wpAny_isTrue_Compare1 (thn (ha pins s Z H _ I h) λv s1 ⟨x,H1,I1,r1,q1⟩=>thn (hb pins s1 Z H1 _ I1 q1) λu s2 ⟨y,H2,I2,r2,q2⟩=>
  thn (ho pins s2 Z H2 x y v u _ I2 r1 r2 q2) λc s3 ⟨z,H3,I3,r3,k,e,q3⟩=>?_) hm
 subst e;cases r3;exact aR ⟨H3,I3,q3⟩
def Ln (r r':R2) (ta tb tc:TE):TE:=fun Z H Q=>ta Z H λx H1=>tb Z H1 λy H2=>r x y H2 λz H3=>∃k,z = .bl k /\
 (if k=true then tc Z H3 λw' H4=>r' y w' H4 Q else Q (.bl false) H3)
def Xas  (ho:OpR X (aJ op) r) (dW:OpR X (aJ pY) r') (ha:PE X a ta) (hb:PE X b tb) (hc:PE X c tc)
  (hm:IM [op,pY] [b,c]=false:=by with_unfolding_all rfl):PE X (.Compare a [op,pY] [b,c] pos) (Ln r r' ta tb tc):=by
 intro pins s Z H Q I h;refine Compare_chain (thn (ha pins s Z H _ I h) λv s1 ⟨x,H1,I1,r1,q1⟩=>chain_link (thn (hb pins s1 Z H1 _ I1 q1) λu s2 ⟨y,H2,I2,r2,q2⟩=>
  thn (ho pins s2 Z H2 x y v u _ I2 r1 r2 q2) λd s3 ⟨z,H3,I3,r3,k,e,q3⟩=>?_)) hm
 subst e;cases r3;refine aR ?_;cases k with
 | false=>exact ite_ff ⟨.bl false,H3,I3,rfl,q3⟩
 | true=>exact ite_tt (chain_last (thn (hc pins s3 Z H3 _ I3 q3) λw' s4 ⟨z',H4,I4,r4,q4⟩=>dW pins s4 Z H4 y z' u w' Q I4 r2 r4 q4))
def Lo  (ho:OpR X (aJ op) r) (dW:OpR X (aJ pY) r') (ha:PE X a ta) (hb:PE X b tb) (hc:PE X c tc)
  (hm:IM [op,pY] [b,c]=false:=by with_unfolding_all rfl):PT X (.Compare a [op,pY] [b,c] pos) (Lm (Ln r r' ta tb tc)):=by
 intro pins s Z H Q I h;refine isTrue_chain (thn (ha pins s Z H _ I h) λv s1 ⟨x,H1,I1,r1,q1⟩=>test_link (thn (hb pins s1 Z H1 _ I1 q1) λu s2 ⟨y,H2,I2,r2,q2⟩=>
  thn (ho pins s2 Z H2 x y v u _ I2 r1 r2 q2) λd s3 ⟨z,H3,I3,r3,k,e,q3⟩=>?_)) hm
 subst e;cases r3;refine aR ?_;cases k with
 | false=>
  obtain⟨k',e',q'⟩:=q3;cases e';exact ite_ff ⟨H3,I3,q'⟩
 | true=>
  refine ite_tt (test_last (thn (hc pins s3 Z H3 _ I3 q3) λw' s4 ⟨z',H4,I4,r4,q4⟩=>thn (dW pins s4 Z H4 y z' u w' _ I4 r2 r4 q4) λd' s5 ⟨z2,H5,I5,r5,k2,e2,q5⟩=>?_));subst e2;cases r5;exact aR ⟨H5,I5,q5⟩
def TruV (K:KQ) (x:V) (H:Hp) (k:Bool):Prop:=
 match x with
 | .non=>k=false
 | .bl b=>k=b
 | .int i=>k=(i != 0)
 | .str y=>y.length<=sizeLine/\k=((y.length:Int) != 0)
 | .byt y=>y.size<=sizeLine/\k=((y.size:Int) != 0)
 | .ref p=>(∃xs,SqL K H p xs/\k = !xs.isEmpty)\/(∃xs,SqT K H p xs/\k = !xs.isEmpty) \/ ∃kvs,H p=some (.dK kvs)/\k = !kvs.isEmpty
 | _=>False
def line63:(sizeLine:Nat)<2 ^ 63:=by rw[T5];decide
def Jk:OpR X (bg .Add) (λx y H Q=>∃i j,x = .str i/\y = .str j/\i.length+j.length<=sizeLine/\Q (.str (i++j)) H):=by
 intro pins s Z H x y v u Q I rx ry h;obtain⟨i,j,rfl,rfl,hz,q⟩:=h;obtain⟨t,rfl⟩:=rx;obtain⟨t',rfl⟩:=ry;exact add_str (λt' tk=>⟨.str (i++j),H,I.tok _,⟨_,rfl⟩,q⟩) hz
def Cg  (r:Vals [x] us):∃u,us=[u]/\Ah x u:=by
 cases r with
 | cons r1 r2=>cases r2;exact⟨_,rfl,r1⟩
def vals2  (r:Vals [x,y] us):∃u w',us=[u,w']/\Ah x u/\Ah y w':=by
 cases r with
 | cons r1 r2=>
  cases r2 with
  | cons r3 r4=>cases r4;exact⟨_,_,rfl,r1,r3⟩
def Xhb(hc:X.calm=true):Bw X (.builtin "min") (λxs H Q=>∃i j,xs=[.int i,.int j]/\Q (.int (if j<i then j else i)) H):=by
 intro pins s Z H xs us Q I r h;obtain⟨i,j,rfl,q⟩:=h;obtain⟨u,w',rfl,⟨t,rfl⟩,⟨t',rfl⟩⟩:=vals2 r;refine min_two_ints (I.ok.hd hc) λh' tk k=>⟨_,H,I.kept k,?_,q⟩;by_cases hj:j<i
 ·rw[T7 hj,T7 hj];exact⟨_,rfl⟩
 ·rw[T6 hj,T6 hj];exact⟨_,rfl⟩
def Xat:Bw X (.type "int") (λxs H Q=>(∃i,xs=[.int i]/\Q (.int i) H) \/ ∃k,xs=[.bl k]/\Q (.int (if k then 1 else 0)) H):=by
 intro pins s Z H xs us Q I r h;rcases h with ⟨i,rfl,q⟩ | ⟨k,rfl,q⟩
 ·obtain⟨u,rfl,t,rfl⟩:=Cg r;exact call_int_int ⟨.int i,H,I,⟨_,rfl⟩,q⟩
 ·obtain⟨u,rfl,r1⟩:=Cg r;cases r1;exact call_int_bool ⟨.int (if k then 1 else 0),H,I.tok _,⟨_,rfl⟩,q⟩
def LenV (K:KQ) (x:V) (H:Hp) (n:Nat):Prop:=
 match x with
 | .str y=>y.length<=sizeLine/\n=y.length
 | .byt y=>y.size<=sizeLine/\n=y.size
 | .ref p=>(∃xs,SqL K H p xs/\n=xs.length) \/ ∃xs,SqT K H p xs/\n=xs.length
 | _=>False
end
structure ObjM (h:ar) (x dx C:ae) (mA:aq->Option aa):Prop where
 obj:h.get? x=some (LP C dx)
 ns:h.Ns1 dx mA
 ne:dx≠x
def Xhc{h:ar}  (n:h.Ns1 dx mA):∃od,h.get? dx=some od/\∀name,LV name od=some (mA name):=by
 obtain⟨o,es,ep,ho,hd,hk,_,hm⟩:=n;refine⟨o,ho,λname=>?_⟩;have e:=hm name;unfold nsFind findBy at e;rw[<-Array.find?_toList] at e;unfold LV;rw[hd];dsimp only;split
 ·rename_i y q;rw[q] at e;exact congrArg some e
 ·rename_i q;rw[q] at e;have a:es.toList.any (·.refKey)=false:=by
   rw[List.any_eq_false];intro y hy;obtain⟨z,t,fV⟩:=hk y (Array.mem_toList_iff.mp hy);simp[mP.refKey,fV]
  have a':¬es.toList.any (·.refKey)=true:=by rw[a];exact Pe
  rw[T6 a'];exact congrArg some e
def ObjM.look  {x dx C} (I:ObjM h x dx C mA):∃od,PySem.W.InstAt h x (LP C dx) C (some od)/\∀name,LV name od=some (mA name):=
 let ⟨od,ho,hl⟩:=Xhc I.ns
 ⟨od,⟨I.obj,rfl,rfl,ho⟩,hl⟩
section
variable {prog:av}{w:a8}{A:aB}{E:Zb}{s:ak}{K:KQ}{x dx C f:ae}{mA:aq->Option aa}{name:aq}{v:aa}
end
def Lp (f:aq) (v:V):List (aq×V)->List (aq×V)
 | []=>[(f,v)]
 | (g,x)::r=>if g=f then (g,v)::r else (g,x)::Lp f v r
def Cs.some_of{v}{o}(r:Cs (some v) o):∃u,o=some u/\Ah v u:=by
 cases o with
 | none=>exact(show False from r).elim
 | some u=>exact⟨u,rfl,r⟩
section
variable {P:av}{w:a8}{H H':Hp}{h h':ar}{a C dx:ae}{fs gZ:List (aq×V)}
def Xhd(hok:HOk P w H h)(e:H a=some (.ins C dx fs)):∃mA,ObjM h a dx C mA/\(∀f,Cs (fs.lookup f) (mA f))/\PySem.Within mA (fs.map (·.1))/\fs.length<=1000/\H dx=some (.own a):=by
 obtain⟨d,z,ne,ob,mA,n,r,q⟩:=(show A3 P w H h a (.ins C dx fs) from hok a _ e);exact⟨mA,⟨ob,n,ne⟩,r,q,z,d⟩
end
structure Cls (K:KQ) (C:ae):Prop where
 pg:LZ K C aq.empty=true
 hd:PySem.W.hasDictIn K C=true
 po:PySem.W.plainOver K C=true
 sa:Le K (.ref C) "__setattr__" = some (some (.builtin "object.__setattr__"))
def Cls.get{K}(c:Cls K C)(f):LZ K C f=true:=c.pg
def Lq (K:KQ) (C:ae) (f:aq):Prop:=Le K (.ref C) f=some none
structure Con (K:KQ) (C:ae) (f:aq) (v:V) (u:aa):Prop where
 jt:Le K (.ref C) f=some (some u)
 dX:Ah v u
 get:LW K u "__get__" = some none
 cp:PySem.W.copiedNames.contains f=false
structure Meth (K:KQ) (C:ae) (m:aq) (f:ae):Prop where
 jt:Le K (.ref C) m=some (some (.ref f))
 fn:MD K (.ref f)=true
 kp:KU K (.ref f)=true
section
variable {X:Cx}{pins:List (ae×aU)}{Z:St}{H:Hp}{s:ak}{a C dx:ae}{fs:List (aq×V)}{f:aq}{v:V}{A:aB}{E:Zb}
end
def tFld (K:KQ) (ta:TE) (f:aq):TE:=fun Z H Q=>ta Z H λx H1=>∃a C dx fs v,x = .ref a/\H1 a=some (.ins C dx fs)/\Cls K C/\Lq K C f/\fs.lookup f=some v/\Q v H1
def tCon (K:KQ) (ta:TE) (f:aq):TE:=fun Z H Q=>ta Z H λx H1=>∃a C dx fs v u,x = .ref a/\H1 a=some (.ins C dx fs)/\Cls K C/\Con K C f v u/\fs.lookup f=none/\Q v H1
def sFld (K:KQ) (ta tv:TE) (f:aq):TS:=λD Z H=>tv Z H λy H1=>ta Z H1 λx H2=>∃a C dx fs,x = .ref a/\H2 a=some (.ins C dx fs)/\Cls K C/\Lq K C f/\fs.length<1000 /\
 D.nx Z (upd H2 a (.ins C dx (Lp f y fs)))
def InOp (X:Cx) (op:Operator) (rd:V->V->Hp->VK->Prop):Prop:=
 ∀pins s Z H (x y:V) (u v:aa) (Q:VK),Inv X pins Z H s->Ah x u->Ah y v->rd x y H Q->aj (ai X.prog X.w) X.A (inplaceOp op u v) (EP X pins Z Q) X.xe s
def Xq3 (K:KQ) (ta tv:TE) (rd:V->V->Hp->VK->Prop) (f:aq):TS:=λD Z H=>ta Z H λx H1=>∃a C dx fs v,x = .ref a/\H1 a=some (.ins C dx fs)/\Cls K C/\Lq K C f/\fs.lookup f=some v /\
 tv Z H1 λy H2=>rd v y H2 λz H3=>∃xV gZ,H3 a=some (.ins C xV gZ)/\gZ.length<1000/\D.nx Z (upd H3 a (.ins C xV (Lp f z gZ)))
section
variable {X:Cx}{o e value:aL}{f:aq}{pos js uE:cN}{ta tv:TE}
end
section
variable {X:Cx}{pins:List (ae×aU)}{Z:St}{H:Hp}{s:ak}{A:aB}{E:Zb}{Q:Zb}{c:aa}{b:Bool}
inductive TyOf (K:KQ) (H:Hp):V->aa->Prop where
 | non:TyOf K H .non (.type "NoneType")
 | bl (x:Bool):TyOf K H (.bl x) (.type "bool")
 | int (i:Int):TyOf K H (.int i) (.type "int")
 | str (x:aq):TyOf K H (.str x) (.type "str")
 | flt (x:UInt64):TyOf K H (.flt x) (.type "float")
 | lst {a:ae} {xs:List V} (e:H a=some (.lst xs)):TyOf K H (.ref a) (.type "list")
 | frz {a:ae} {o:aU} {xs:List V} (e:H a=some (.frz o (.lst xs))):TyOf K H (.ref a) (.type "list")
 | tup {a:ae} {xs:List V} (e:H a=some (.tup xs)):TyOf K H (.ref a) (.type "tuple")
 | dK {a:ae} {kvs:List (Key×V)} (e:H a=some (.dK kvs)):TyOf K H (.ref a) (.type "dict")
 | dT {a:ae} {kvs:List (List Key×V)} (e:H a=some (.dT kvs)):TyOf K H (.ref a) (.type "dict")
 | ins {a C dx:ae} {fs:List (aq×V)} (e:H a=some (.ins C dx fs)) (cl:Cls K C) (ha:Le K (.ref C) "__class__" = some (some (.builtin "object.__class__")))
   (hn:LW K (.builtin "object.__class__") "__get__" = some (some (.builtin "getset_descriptor.__get__"))) (jk:PySem.W.takesIn K (.builtin "object.__class__")=some true)
   (hm:PySem.W.mroIn K C (.type "object")=some true):TyOf K H (.ref a) (.ref C)
def Xhe  (I:Inv X pins Z H s) (rx:Ah x u) (ty:TyOf X.K H x t) (e:KZ X.K t c=some b) (h:∀tk,Q (.bool b) {s with toks:=tk}):
  aj (ai X.prog X.w) A (call (.builtin "isinstance") [u,c]) Q E s:=by
 cases ty with
 | non=>cases (show u=aa.none from rx);exact KW PySem.W.kitx_none I.kIn True.intro e (λz=>nomatch z) h
 | bl y=>cases (show u=aa.bool y from rx);exact KW PySem.W.kitx_bool I.kIn True.intro e (λz=>nomatch z) h
 | int i=>obtain⟨t,q⟩:=(show ∃t,u=aa.int i t from rx);cases q;exact KW PySem.W.kitx_int I.kIn True.intro e (λz=>nomatch z) h
 | str y=>obtain⟨t,q⟩:=(show ∃t,u=aa.str y t from rx);cases q;exact KW PySem.W.kitx_str I.kIn True.intro e (λz=>nomatch z) h
 | flt y=>obtain⟨t,q⟩:=(show ∃t,u=aa.float y t from rx);cases q;exact KW PySem.W.kitx_float I.kIn True.intro e (λz=>nomatch z) h
 | @lst a xs ea=>
  cases (show u=aa.ref a from rx);obtain⟨_,_,n,_,h1⟩:=(show A3 X.prog X.w H s.heap a (.lst xs) from I.hok a _ ea);exact KW LX I.kIn ⟨_,h1,rfl⟩ e (λz=>nomatch z) h
 | @frz a ob xs ea=>
  cases (show u=aa.ref a from rx);obtain⟨_,_,_,n,_,h1⟩:=(show A3 X.prog X.w H s.heap a (.frz ob (.lst xs)) from I.hok a _ ea);exact KW LX I.kIn ⟨_,h1,rfl⟩ e (λz=>nomatch z) h
 | @tup a xs ea=>
  cases (show u=aa.ref a from rx);obtain⟨_,_,_,p⟩:=(show A3 X.prog X.w H s.heap a (.tup xs) from I.hok a _ ea);obtain⟨o,h1,h2,_⟩:=p;exact KW PySem.W.kitx_tuple I.kIn ⟨o,h1,h2⟩ e (λz=>nomatch z) h
 | @dK a kvs ea=>
  cases (show u=aa.ref a from rx);obtain⟨_,_,vs,_,p⟩:=(show A3 X.prog X.w H s.heap a (.dK kvs) from I.hok a _ ea);obtain⟨o,es,ep,h1,h2,_⟩:=p;exact KW LY I.kIn ⟨o,h1,h2.1⟩ e (λz=>nomatch z) h
 | @dT a kvs ea=>
  cases (show u=aa.ref a from rx);obtain⟨_,_,xs,_,o,es,ep,h1,h2,_⟩:=(show A3 X.prog X.w H s.heap a (.dT kvs) from I.hok a _ ea);exact KW LY I.kIn ⟨o,h1,h2.1⟩ e (λz=>nomatch z) h
 | @ins a C dx fs ea cl ha hn jk hm=>
  cases (show u=aa.ref a from rx);obtain⟨mA,O,_⟩:=Xhd I.hok ea;obtain⟨od,J,_⟩:=O.look;exact KW (PySem.W.kitx_own (cl.get _) cl.hd ha hn jk hm) I.kIn J e (λz=>nomatch z) h
end
structure Room (k:Nat) (A:aB):Prop where
 hd:A.handled=none
 dp:A.depth+3 * k+5<pZ
 un:A.units+16 * k+200<bz
 gd:A.guards=some []
def Room.mono  (r:Room k A) (h:j<=k):Room j A:=⟨r.hd,by have:=r.dp;lia,by have:=r.un;lia,r.gd⟩
def Room.deeper  (r:Room (k+1) A) (env):Room k (A.deeper env):=
 ⟨r.hd,by have:=r.dp;show A.depth+1+3 * k+5<_;lia,by have:=r.un;show A.units+3+16 * k+200<_;lia,r.gd⟩
def Room.in1{k}{A}(r:Room (k+1) A):Room k A.in1:=
 ⟨r.hd,by have:=r.dp;show A.depth+3 * k+5<_;lia,by have:=r.un;show A.units+1+16 * k+200<_;lia,r.gd⟩
def Room.depth  (r:Room k A):A.depth<pZ:=by have:=r.dp;lia
def Room.units  (r:Room k A):A.units+64<bz:=by have:=r.un;lia
def Room.units0  (r:Room k A):A.units<bz:=by have:=r.un;lia
def Fm:TA:=λ_ H Q=>Q [] H
def Eb (ta:TE) (tr:TA):TA:=fun Z H Q=>ta Z H λx H1=>tr Z H1 λxs H2=>Q (x::xs) H2
section
variable {X:Cx}{e:aL}{es:List aL}{te:TE}{t:TA}{pos:cN}
def Ac:PA X [] Fm:=λ_ _ _ _ H Q I h=>Calls.spliced_nil ⟨[],H,I,.nil,h⟩
def Aa(ha:PE X e te)(hr:PA X es t)(hs:az (e::es) X.env=(false,eval e X.env)::az es X.env:=by rfl):PA X (e::es) (Eb te t):=by
 intro pos pins s Z H Q I h;rw[hs];show aj _ _ (spliced ((false,eval e X.env)::bw pos (az es X.env))) _ _ s;refine Calls.spliced_cons (thn (ha pins s Z H _ I h) λu s1 ⟨x,H1,I1,r1,q1⟩=>?_);exact thn (hr pos pins s1 Z H1 _ I1 q1) λus s2 ⟨xs,H2,I2,r2,q2⟩=>⟨x::xs,H2,I2,.cons r1 r2,q2⟩
def Lr (t:TA):TE:=fun Z H Q=>t Z H λxs H1=>xs.length<=sizeLine/\∀p,H1 p=none->Q (.ref p) (upd H1 p (.tup xs))
def tLst (t:TA):TE:=fun Z H Q=>t Z H λxs H1=>xs.length<=sizeLine/\∀p,H1 p=none->Q (.ref p) (upd H1 p (.lst xs))
def Ca(h:PA X es t):PE X (.Tuple es x1 pos) (Lr t):=by
 intro pins s Z H Q I hq;refine wpAny_Tuple_spliced (thn (h pos pins s Z H _ I hq) λus s1 ⟨xs,H1,I1,r,z,q⟩=>⟨by rw[<-r.length];exact z,?_⟩);have hf:H1 s1.heap.objs.size=none:=I1.hok.fresh (Oy _);refine⟨.ref s1.heap.objs.size,upd H1 s1.heap.objs.size (.tup xs),I1.laid (t':=s1.toks) (λb u e=>Ud _ e) (Oy _) ?_,rfl,q _ hf⟩;exact⟨z,us,r,⟨_,ar.get?_push_size _ rfl,rfl,_,rfl⟩⟩
def B7(h:PA X es t):PE X (.List es pos) (tLst t):=by
 intro pins s Z H Q I hq;refine wpAny_List_spliced (thn (h pos pins s Z H _ I hq) λus s1 ⟨xs,H1,I1,r,z,q⟩=>⟨by rw[<-r.length];exact z,?_⟩);have hf:H1 s1.heap.objs.size=none:=I1.hok.fresh (Oy _);refine⟨.ref s1.heap.objs.size,upd H1 s1.heap.objs.size (.lst xs),I1.laid (t':=s1.toks) (λb u e=>Ud _ e) (Oy _) ?_,rfl,q _ hf⟩;exact⟨z,us,0,r,ar.get?_push_size _ rfl⟩
end
abbrev Sp:=List V->Hp->VK->XK->Prop
abbrev CXT:=List eV->Hp->ak->XK->aa->ak->Prop
structure Env0 (P:av) (w:a8) (K:KQ) (mg:aq->Option aa) (base:ar) (A:aB) (outer:List eV) (s:ak) (H:Hp):Prop where
 frames:A.frames=some outer
 mod:Mod K mg base
 bs:∀b o,base.get? b=some o->s.heap.get? b=some o/\H b=none
 bsz:base.objs.size<=s.heap.objs.size
 funs:s.heap.FunFrames base outer
 frf:∀b∈frs outer,H b=none
 hok:HOk P w H s.heap
 bare:cF s.gens
def CE (outer:List eV) (P:av) (w:a8) (H:Hp) (s:ak) (Q:VK) (u:aa) (s':ak):Prop:=
 ∃v H',s'.os=s.os/\cF s'.gens/\Un (frs outer) [] H H' s.heap s'.heap/\HOk P w H' s'.heap/\Ah v u/\Q v H'
def CR (CX:CXT) (outer:List eV) (P:av) (w:a8) (H:Hp) (s:ak) (Q:VK) (E:XK) (r:iN) (s':ak):Prop:=
 match r with
 | .ok (.ret u)=>CE outer P w H s Q u s'
 | .ok _=>False
 | .error e=>CX outer H s E e s'
structure FnOk (P:av) (w:a8) (K:KQ) (mg:aq->Option aa) (base:ar) (CX:CXT) (k:Nat) (f:ae) (fd:bK) (ps:Za) (sp:Sp):Prop where
 len:∀vs H Q E,sp vs H Q E->vs.length=ps.length
 run:∀(A:aB) (outer:List eV) (s:ak) (H:Hp) (args:Args) (us:List aa) (vs:List V) (Q:VK) (E:XK),Room k A->Env0 P w K mg base A outer s H->eh s fd args (ps.zip us)->Vals vs us->sp vs H Q E ->
  br (ai P w) A (.call (.ref f) args) (CR CX outer P w H s Q E) s
def Env0.in1   {K}   {A}  {s} (e:Env0 P w K mg base A outer s H):
  Env0 P w K mg base A.in1 outer s H:=⟨e.frames,e.mod,e.bs,e.bsz,e.funs,e.frf,e.hok,e.bare⟩
section
variable {X:Cx}{pins:List (ae×aU)}{Z:St}{H:Hp}{s s':ak}
def Inv.env0(I:Inv X pins Z H s):Env0 X.prog X.w X.K X.mg X.base X.A X.stack s H:=
 ⟨I.ok.frames,I.ok.mod,I.bs,Pu I.ok.bsz I.sz,I.stack,I.stkFree,I.hok,I.bare⟩
def Inv.after  (I:Inv X pins Z H s) (h:CE X.stack X.prog X.w H s Q u s'):EP X pins Z Q u s':=by
 obtain⟨v,H',os,bare,un,hok,r,q⟩:=h;obtain⟨hh,g,d,t,zW⟩:=s';obtain rfl:zW=s.os:=os;exact⟨v,H',I.call (h':=hh) (g':=g) (d':=d) (t':=t) (ch:=[]) un hok bare (λb z=>absurd z (by simp)),r,q⟩
end
def Ls (sp:Sp) (f9:List V) (E:XK) (t:TA):TE:=fun Z H Q=>t Z H λvs H1=>sp (vs++f9) H1 Q E
def tMeth (C:ae) (m:aq) (sp:Sp) (f9:List V) (E:XK) (ta:TE) (t:TA):TE:=fun Z H Q=>ta Z H λx H1=>∃a dx fs,x = .ref a/\H1 a=some (.ins C dx fs)/\fs.lookup m=none /\
 t Z H1 λvs H2=>sp (x::(vs++f9)) H2 Q E
def tMake (C:ae) (sp:Sp) (f9:List V) (E:XK) (t:TA):TE:=fun Z H Q=>t Z H λvs H1=>∀x dx,H1 x=none->H1 dx=none->dx≠x ->
 sp (.ref x::(vs++f9)) (upd (upd H1 dx (.own x)) x (.ins C dx [])) (λv H2=>v = .non/\Q (.ref x) H2) E
def Binds (K:KQ) (fd:bK) (ps:Za) (ds:List aa):Prop:=
 ∀(s:ak) (us:List aa),K.In s.heap->(us++ds).length=ps.length->eh s fd ⟨us,[]⟩ (ps.zip (us++ds))
def Binds.all{K}  (h:∀us:List aa,us.length=ps.length->el fd ⟨us,[]⟩=pure (ps.zip us)):Binds K fd ps []:=λs us _ hl=>by
 rw[P3] at hl ⊢;exact .of_eq (h us hl)
def Passes (CX:CXT) (X:Cx) (E:XK):Prop:=∀(pins:List (ae×aU)) (Z:St) (H:Hp) (s:ak) (e:aa) (s':ak),Inv X pins Z H s->CX X.stack H s E e s'->X.xe e s'
section
variable {X:Cx}{CX:CXT}{k:Nat}{f C:ae}{fd:bK}{ps:Za}{sp:Sp}{f9:List V}{ds:List aa}{E:XK}{x m:aq}{p pos d9:cN}{e o:aL}{es:List aL}{ta:TE}{t:TA}
def Xhf       (F:FnOk X.prog X.w X.K X.mg X.base CX k f fd ps sp) (hr:Room k X.A) (hb:Binds X.K fd ps ds) (hd:Vals f9 ds) (hx:Passes CX X E)
  (I:Inv X pins Z H s) (r:Vals vs us) (h:sp (vs++f9) H Q E):aj (ai X.prog X.w) X.A (call (.ref f) us) (EP X pins Z Q) X.xe s:=by
 have r2:Vals (vs++f9) (us++ds):=r.append hd;have hl:(us++ds).length=ps.length:=by rw[<-r2.length];exact F.len _ _ _ _ h
 refine dM (bh (F.run X.A X.stack s H ⟨us,[]⟩ (us++ds) (vs++f9) Q E hr I.env0 (hb s us I.kIn hl) r2 h) λr s' hq=>?_);cases r with
 | error e=>exact hx pins Z H s e s' I hq
 | ok fl=>
  cases fl with
  | ret u=>exact I.after hq
  | next=>exact False.elim hq
  | brk=>exact False.elim hq
  | cont=>exact False.elim hq
def Xhg(F:FnOk X.prog X.w X.K X.mg X.base CX k f fd ps sp)(hr:Room k X.A)(hg:Gl X x)(hm:X.mg x=some (.ref f))(hk:KU X.K (.ref f)=true)(hb:Binds X.K fd ps ds)(hd:Vals f9 ds)(hx:Passes CX X E)
  (ha:PA X (e::es) t) (h9:(x==("__debug__" : aq))=false:=by decide) (he:az (e::es) X.env=(false,eval e X.env)::az es X.env:=by rfl) (cj:(bw pos (az es X.env)).any (·.1)=false:=by rfl):
  PE X (.Call (.Name x p) (e::es) [] pos) (Ls sp f9 E t):=by
 intro pins s Z H Q I h;refine bM (G8 I hg hm ?_ h9);refine LS (h₀:=X.base) I.ok.mod.kin hk (thn (ha pos pins s Z H _ I h) λus s1 ⟨vs,H1,I1,r,q⟩=>⟨I1.kIn,?_⟩) he cj;exact Xhf F hr hb hd hx I1 r q
structure Mk (K:KQ) (C f:ae):Prop where
 makes:PySem.W.makesIn K C=true
 init:Le K (.ref C) "__init__" = some (some (.ref f))
 fn:MD K (.ref f)=true
 kp:KU K (.ref C)=true
end
def PK (X:Cx) (kb:List cH) (t:TA):Prop:=
 ∀(pos:cN) (pins:List (ae×aU)) (s:ak) (Z:St) (H:Hp) (Q:List V->Hp->Prop),Inv X pins Z H s->t Z H Q->aj (ai X.prog X.w) X.A (evalAll ((c8 pos (bE kb X.env)).map (·.2))) (AP X pins Z Q) X.xe s
section
variable {X:Cx}{CX:CXT}{k:Nat}{f C:ae}{fd:bK}{ps ks:Za}{sp:Sp}{E:XK}{x m:aq}{p pos d9 uF:cN}{e o:aL}{es:List aL}{kb:List cH}{te ta:TE}{t tk:TA}{nm:Option aq}
def Xau:PK X [] Fm:=λ_ _ _ _ H Q I h=>wpAny_evalAll_nil ⟨[],H,I,.nil,h⟩
def Xav(ha:PE X e te)(hr:PK X kb t):PK X (⟨nm,e,uF⟩::kb) (Eb te t):=by
 intro pos pins s Z H Q I h
 show aj _ _ (evalAll ((do    let v <-eval e X.env;cR pos;pure v)::(c8 pos (bE kb X.env)).map (·.2))) _ _ s;refine wpAny_evalAll_cons (Tz (thn (ha pins s Z H _ I h) λu s1 ⟨x,H1,I1,r1,q1⟩=>Tz (bd (T0 ?_))));exact thn (hr pos pins s1 Z H1 _ I1 q1) λus s2 ⟨xs,H2,I2,r2,q2⟩=>⟨x::xs,H2,I2,.cons r1 r2,q2⟩
structure KBinds (K:KQ) (fd:bK) (ps ks:Za) (g:List aa->List aa->List aa) (gV:List V->List V->List V):Prop where
 to:∀(s:ak) (us ws:List aa),K.In s.heap->(g us ws).length=ps.length->eh s fd ⟨us,ks.zip ws⟩ (ps.zip (g us ws))
 dX:∀{vs:List V} {us:List aa} {zs:List V} {ws:List aa},Vals vs us->Vals zs ws->Vals (gV vs zs) (g us ws)
variable {g:List aa->List aa->List aa}{gV:List V->List V->List V}
end
structure FnScope (N P:Za) (sc:cx):Prop where
 kind:sc.kind = .function
 co:sc.isCoroutine=false
 gen:sc.isGenerator=false
 nd:N.Nodup
 pre:N.take P.length=P
 par:∀x∈P,sc.names.lookup x=some .local\/sc.names.lookup x=some .cell
 nofree:∀y∈sc.names,y.2 ≠ .free
theorem Xaw{kindOf}:∀{binds:List (aq×aa)} {m:aq->Option aa},(∀v,(x,v)∉binds)->iC kindOf binds m x=m x
 | [],_,_=>rfl
 | (n,v)::r,m,h=>by
  unfold iC;rw[Xaw λw hw=>h w (O4 _ hw)];split
  ·have:x≠n:=by rintro rfl;exact h v O3
   simp[this]
  ·rfl
theorem Xax{kindOf}:∀{binds:List (aq×aa)} {m:aq->Option aa},(∀v,(x,v)∉binds)->iD kindOf binds m x=m x
 | [],_,_=>rfl
 | (n,v)::r,m,h=>by
  unfold iD;rw[Xax λw hw=>h w (O4 _ hw)];split
  ·rfl
  ·have:x≠n:=by rintro rfl;exact h v O3
   simp[this]
theorem Xay{kindOf}  : ∀{P:Za} {vs:List aa} {i:Nat} {m:aq->Option aa},P.Nodup->P[i]? = some x->vs[i]? = some v->kindOf x=some .local ->
  iC kindOf (P.zip vs) m x=some v
 | [],_,_,_,_,h,_,_=>by simp at h
 | _::_,[],_,_,_,_,h,_=>by simp at h
 | p::P,w::vs,0,m,nd,h1,h2,hk=>by
  simp at h1 h2;subst h1;subst h2;show iC kindOf ((p,w)::P.zip vs) m p=_;unfold iC;rw[Xaw λv hv=>(Qn.mp nd).1 (S6 hv).1,T7 hk];simp
 | p::P,w::vs,i+1,m,nd,h1,h2,hk=>by
  show iC kindOf ((p,w)::P.zip vs) m x=_;unfold iC;exact Xay (i:=i) (Qn.mp nd).2 (by simpa using h1) (by simpa using h2) hk
theorem Xaz{kindOf}  : ∀{P:Za} {vs:List aa} {i:Nat} {m:aq->Option aa},P.Nodup->P[i]? = some x->vs[i]? = some v->kindOf x≠some .local ->
  iD kindOf (P.zip vs) m x=some v
 | [],_,_,_,_,h,_,_=>by simp at h
 | _::_,[],_,_,_,_,h,_=>by simp at h
 | p::P,w::vs,0,m,nd,h1,h2,hk=>by
  simp at h1 h2;subst h1;subst h2;show iD kindOf ((p,w)::P.zip vs) m p=_;unfold iD;rw[Xax λv hv=>(Qn.mp nd).1 (S6 hv).1,T6 hk];simp
 | p::P,w::vs,i+1,m,nd,h1,h2,hk=>by
  show iD kindOf ((p,w)::P.zip vs) m x=_;unfold iD;exact Xaz (i:=i) (Qn.mp nd).2 (by simpa using h1) (by simpa using h2) hk
def start (N:Za) (vs:List V):St:=vs.map some++List.replicate (N.length - vs.length) none
def Cp (CX:CXT) (P:av) (w:a8) (K:KQ) (mg:aq->Option aa) (base:ar) (N:Za) (qual:aq) (scope:cx) (f:ae) (cd:aa) (A:aB) (outer:List eV) (s:ak) (H:Hp) (E:XK):Cx where
 prog:=P
 w:=w
 K:=K
 mg:=mg
 base:=base
 A:=A.deeper (aM qual scope s.heap.objs.size f cd)
 N:=N
 s₀:=s
 H₀:=H
 env:=aM qual scope s.heap.objs.size f cd
 outer:=outer
 stack:=aM qual scope s.heap.objs.size f cd::outer
 ex:=[]
 calm:=true
 fn:=λ_=>true
 pn:=[]
 xe:=λe s'=>aj (ai P w) (A.deeper (aM qual scope s.heap.objs.size f cd)) (leaving (aM qual scope s.heap.objs.size f cd) e) (λ_ mQ=>CX outer H s E e mQ) (λe' mQ=>CX outer H s E e' mQ) s'
def Xa0{sc:cx}{n}(h:sc.names.lookup x=some .cell):∃c,(bH n sc.names []).lookup x=some c:=by
 have q:=L' sc.names n [] (.inl h);exact Q9.mp q
def Xa1    {K}              (S:FnScope N ps scope) (hd:A.handled=none) (e0:Env0 P w K mg base A outer s H) (hl:vs.length=ps.length) (r:Vals vs us)
  (x:InCallC s s.heap.objs.size (iC (aM qual scope s.heap.objs.size f cd).kindOf (ps.zip us) λ_=>none) (bH (s.heap.objs.size+1) scope.names []) (iD (aM qual scope s.heap.objs.size f cd).kindOf (ps.zip us) λ_=>none) s1):
  Inv (Cp CX P w K mg base N qual scope f cd A outer s H E) [] (start N vs) H s1:=by
 have cj:ps.length<=N.length:=by have:=congrArg List.length S.pre;rw[Pc] at this;lia
 obtain⟨h1,tk,rfl,hk⟩:=x.done;have qa:∀b:ae,b∉(Cp CX P w K mg base N qual scope f cd A outer s H E).ex:=λb z=>absurd (show b∈([]:List ae) from z) (by simp);refine⟨⟨e0.mod,S.kind,rfl,rfl,Oy _,λy z c h1 h2=>?_,λy hy=>?_,λy c _ h=>?_,λ_=>hd,aB.frames_deeper e0.frames,.inr ⟨rfl,rfl⟩,λb z=>absurd z (qa b),e0.bs,e0.bsz,λb _ _=>qa b,λb z=>absurd z (qa b),e0.funs,e0.frf⟩,
  rfl,e0.bare,Un.kept hk,⟨_,x.toInCall.ns,λi y v h1 h2 h3=>?_⟩,λy c h=>⟨_,x.cell y c h⟩,e0.hok.fresh (Oy _),λy c h=>?_,λp hp=>absurd (show p∈([]:List (ae×aU)) from hp) (by simp),e0.hok.kept hk,?_⟩
 ·exact name_of_addr x.apart (PySem.mem_of_lookup h1) (PySem.mem_of_lookup h2)
 ·have hy:scope.names.lookup y=some .cell\/scope.names.lookup y=some .free:=hy;rcases hy with hy | hy
  ·exact Xa0 hy
  ·exact absurd rfl (S.nofree _ (PySem.mem_of_lookup hy))
 ·exact Si (x.above y c (PySem.mem_of_lookup h))
 ·have hi:i<vs.length:=by
   unfold start at h2;by_cases hi:i<vs.length
   ·exact hi
   ·rw[Rk (by simpa using hi)] at h2;rw[List.getElem?_replicate] at h2;split at h2<;>cases h2
  have ha:vs[i]? = some v:=by
   unfold start at h2;rw[Qh (by simpa using hi),Pf] at h2;cases e:vs[i]? with
   | none=>rw[e] at h2;cases h2
   | some a=>rw[e] at h2;cases h2;rfl
  obtain⟨u,hu,rv⟩:=r.get ha;have hp:ps[i]? = some y:=by
   rw[<-S.pre,List.getElem?_take_of_lt (by lia)];exact h1
  have xW:ps.Nodup:=by rw[<-S.pre];exact S.nd.sublist (Qe _ _)
  refine⟨u,rv,?_⟩;rcases S.par y (Rt hp) with k | k
  ·exact .inl ⟨k,Xay xW hp hu k⟩
  ·obtain⟨c,e⟩:=Xa0 (n:=s.heap.objs.size+1) k;refine .inr ⟨.inl k,c,e,?_⟩;have q:=x.cell y c e;rw[Xaz xW hp hu (by show scope.names.lookup y≠_;rw[k];decide)] at q;exact q
 ·exact e0.hok.fresh (Si (x.above y c (PySem.mem_of_lookup h)))
 ·unfold start;show _=N.length;rw[O2,Ow,List.length_replicate]
  lia
def Lu    {K}         {dV kV cZ pm cdv ct oc}    (lk:K.lookup f=some ⟨oc,od,.func (LD name qual params body scope dV kV cZ pm an cdv ct),iE⟩) (gN:LG K cdv qual=true) (S:FnScope N ps scope)
  (len:∀vs H Q E,sp vs H Q E->vs.length=ps.length)
  (er:∀(A:aB) (outer:List eV) (s:ak) (H:Hp) (vs:List V) (Q:VK) (E:XK),Room k (A.deeper (aM qual scope s.heap.objs.size f cdv))->sp vs H Q E ->
   ∃t,PSs (Cp CX P w K mg base N qual scope f cdv A outer s H E) body t/\t {nx:=λ_ H'=>Q .non H',rt:=Q} (start N vs) H):
  FnOk P w K mg base CX (k+1) f (LD name qual params body scope dV kV cZ pm an cdv ct) ps sp:=by
 refine⟨len,λA outer s H args us vs Q E hr e0 hb r gO=>?_⟩;have hl:=len _ _ _ _ gO;have KX:K.In s.heap:=e0.mod.kin.keeps λb o e=>(e0.bs b o e).1;have uG:s.heap.NoLimit:=e0.mod.nolimit.keeps λb o e=>(e0.bs b o e).1;have fq:∀y∈ps.zip us,scope.names.lookup y.1=some .local\/(scope.names.lookup y.1=some .cell/\((bH (s.heap.objs.size+1) scope.names []).lookup y.1).isSome=true):=λ⟨n,v⟩ hy=>by
  rcases S.par n (S6 hy).1 with q | q
  ·exact .inl q
  ·exact .inr ⟨q,L' _ _ _ (.inl q)⟩
 refine codeAny_call_function hr.depth (KX _ _ lk) rfl S.co S.gen rfl (PySem.W.codeRec_of KX gN) (hb _ _ _ _ ?_);refine fW S.kind fq λenv he s1 x=>?_;subst he;refine⟨uG.keeps x.toInCall.keep,codeAny_func ?_⟩;obtain⟨t,ht,hq⟩:=er A outer s H vs Q E (hr.deeper _) gO;have I:Inv (Cp CX P w K mg base N qual scope f cdv A outer s H E) [] (start N vs) H s1:=Xa1 S hr.hd e0 hl r x;refine aN (ht [] s1 (start N vs) H _ I hq) (λfl s' hs=>?_) λe s' hs=>hs;have fin:∀{Z':St} {H':Hp} {v:V} {u:aa},Inv (Cp CX P w K mg base N qual scope f cdv A outer s H E) [] Z' H' s'->Ah v u->Q v H'->CE outer P w H s Q u s':=
  λ{Z' H' v u} J rv q=>⟨v,H',J.os,J.bare,J.base,J.hok,rv,q⟩
 cases fl with
 | ret u=>
  obtain⟨v, Z',H',J,rv,q⟩:=hs;exact fin J rv q
 | next=>
  obtain⟨Z',H',J,q⟩:=hs;exact fin (v:=V.non) (u:=aa.none) J rfl q
 | brk=>
  obtain⟨_,_,_,q⟩:=hs;exact False.elim q
 | cont=>
  obtain⟨_,_,_,q⟩:=hs;exact False.elim q
section
variable {X:Cx}{x:aq}{p pos:cN}{e:aL}{es:List aL}{t:TA}{id T:String}{r:List V->Hp->VK->Prop}
def tCB (r:List V->Hp->VK->Prop) (t:TA):TE:=fun Z H Q=>t Z H λvs H1=>r vs H1 Q
def Ax(hc:Bw X (.builtin id) r)(hg:Gl X x)(hm:X.mg x=none)(hv:bG x=some (.builtin id))(ha:PA X (e::es) t)(hn:x ≠ "__name__" := by decide)(h9:(x==("__debug__" : aq))=false:=by decide)
  (he:az (e::es) X.env=(false,eval e X.env)::az es X.env:=by rfl) (cj:(bw pos (az es X.env)).any (·.1)=false:=by rfl):PE X (.Call (.Name x p) (e::es) [] pos) (tCB r t):=by
 intro pins s Z H Q I h;refine bM (F7 I hg hm hv ?_ hn h9);exact PyProof.Rows.callWith_builtin1 (thn (ha pos pins s Z H _ I h) λus s1 ⟨vs,H1,I1,r1,q1⟩=>hc pins s1 Z H1 vs us Q I1 r1 q1) he cj
def B1(hc:Bw X (.type T) r)(hg:Gl X x)(hm:X.mg x=none)(hv:bG x=some (.type T))(ha:PA X (e::es) t)(hn:x ≠ "__name__" := by decide)(h9:(x==("__debug__" : aq))=false:=by decide)
  (he:az (e::es) X.env=(false,eval e X.env)::az es X.env:=by rfl) (cj:(bw pos (az es X.env)).any (·.1)=false:=by rfl):PE X (.Call (.Name x p) (e::es) [] pos) (tCB r t):=by
 intro pins s Z H Q I h;refine bM (F7 I hg hm hv ?_ hn h9);exact PyProof.Rows.callWith_type1 (thn (ha pos pins s Z H _ I h) λus s1 ⟨vs,H1,I1,r1,q1⟩=>hc pins s1 Z H1 vs us Q I1 r1 q1) he cj
end
end L2
namespace HT
open PySem PyProof.Rows
def Xhh:List Int->List Int->Bool
 | [],[]=>false
 | [],_::_=>true
 | _::_,[]=>false
 | x::xs,y::ys=>if x=y then Xhh xs ys else decide (x<y)
section
open PySem.SeqAt
open PySem.AutoSeq1 (wpAny_loadPart')
open PySem.MeetsSeq PySem.MeetsSeq2 PySem.MeetsSeq3
end
section
variable {prog:av}{w:a8}{A:aB}{E:Zb}{s:ak}
def cat_tup   (ht:cX s.heap t vs.toArray) (hb:cX s.heap b ws.toArray) (hv:vs≠[])
  (h1:ws=[]->Q (.ref t) s) (h2:ws≠[]->Q (.ref s.heap.objs.size) {s with heap:=s.heap.push {cls:=.type "tuple",data:=.seq (vs++ws).toArray} })
  (hsz:vs.length+ws.length<=sizeLine):aj (ai prog w) A (bg .Add (.ref t) (.ref b)) Q E s:=by
 obtain⟨⟨cls,dd,data,sl⟩,ho,hc,n,hd⟩:=id ht;obtain⟨⟨qb,lZ,data2,me⟩,jl,fX,n2,cS⟩:=id hb;simp only at hc hd fX cS;subst hc hd fX cS;have e:vs.toArray++ws.toArray=(vs++ws).toArray:=by simp
 by_cases hw:ws=[]
 ·exact iO ⟨_,ho,rfl⟩ ⟨_,jl,rfl⟩ eW hJ PySem.F.slot_tuple_add PySem.F.entry_tuple_add (PySem.F.args_tuple_add_2 _ _)
   (tuple_addW1 t b vs.toArray ws.toArray n n2 dd lZ sl me (by simpa using hv) (by simp[hw])) ⟨ho,jl,h1 hw⟩
 ·refine iO ⟨_,ho,rfl⟩ ⟨_,jl,rfl⟩ eW hJ PySem.F.slot_tuple_add PySem.F.entry_tuple_add (PySem.F.args_tuple_add_2 _ _)
   (tuple_addW2 t b vs.toArray ws.toArray n n2 dd lZ sl me (by simpa using hv) (by simpa using hw) (by rw[O0,O0];exact hsz)) ⟨ho,jl,?_⟩
  rw[e];exact h2 hw
def sIx (n d:Nat):Option Int->Nat
 | none=>d
 | some v=>if v<0 then (v+(n:Int)).toNat else min v.toNat n
def sIx_none(n d):sIx n d none=d:=rfl
def sIx_nat(n d k:Nat):sIx n d (some (k:Int))=min k n:=by
 show (if (k:Int)<0 then ((k:Int)+(n:Int)).toNat else min (k:Int).toNat n)=min k n;rw[T6 (by lia),Sd]
def Xhi(n d)(hd:d<=n)(o):sIx n d o<=n:=by
 cases o with
 | none=>exact hd
 | some v=>
  show (if v<0 then (v+(n:Int)).toNat else min v.toNat n)<=n;by_cases hv:v<0
  ·rw[T7 hv];lia
  ·rw[T6 hv];exact Nat.min_le_right _ _
def Xa2(v)(n d:Nat):(if v<0 then max (v+(n:Int)) 0 else min v (n:Int))=((sIx n d (some v):Nat):Int):=by
 show (if v<0 then max (v+(n:Int)) 0 else min v (n:Int))=(((if v<0 then (v+(n:Int)).toNat else min v.toNat n):Nat):Int);by_cases hv:v<0
 ·simp only[T7 hv];lia
 ·simp only[T6 hv];lia
def Xhj(lo hi)(n:Nat):am.Slice.sliceAdjust lo hi 1 (n:Int)=(((sIx n 0 lo:Nat):Int),((sIx n n hi:Nat):Int)):=by
 have h1:¬((1:Int)<0):=by lia
 unfold am.Slice.sliceAdjust;simp only[h1,if_false];refine Tx ?_ ?_
 ·cases lo with
  | none=>rfl
  | some v=>exact Xa2 v n 0
 ·cases hi with
  | none=>rfl
  | some v=>exact Xa2 v n n
def Xhk(i j:Nat):am.Slice.slicePlaces (i:Int) (j:Int) 1=j - i:=by
 unfold am.Slice.slicePlaces;have h1:(1:Int) > 0:=by lia
 simp only[h1,if_true,Int.ediv_one];split<;>lia
def Xa3   (p:db v o) (h:Q o s):aj (ai prog w) A (am.Slice.slicePartIndex v) Q E s:=by
 cases p with
 | none=>exact dc h
 | int i t=>exact t7 h
def Xa4   {lo hi} {n:Nat} (hs:s.heap.IsSliceOf sl vl vu .none) (pl:db vl lo) (pu:db vu hi)
  (h:Q (((sIx n 0 lo:Nat):Int),1,sIx n n hi - sIx n 0 lo) s):aj (ai prog w) A (am.Slice.sliceApplied (.ref sl) (pure (n:Int))) Q E s:=by
 obtain⟨os,fr,mR,kf⟩:=id hs;unfold am.Slice.sliceApplied am.Slice.sliceFields;refine Tz (Tz (cI fr kf (x:=vl) rfl (Tz (cI fr kf (x:=vu) rfl (Tz (cI fr kf (x:=.none) rfl (T0 ?_)))))));refine Tz (dc ?_);show aj _ _ (if ((1:Int)==0)=true then _ else _) _ _ s;rw[T6 (by decide)];refine Tz (Xa3 pl (Tz (Xa3 pu (Tz (T0 ?_)))));show aj _ _ (match am.Slice.sliceAdjust lo hi 1 (n:Int) with | (lo,hi)=>pure (lo,(1:Int),am.Slice.slicePlaces lo hi 1)) _ _ s;rw[Xhj lo hi n];show aj _ _ (pure (((sIx n 0 lo:Nat):Int),(1:Int),am.Slice.slicePlaces ((sIx n 0 lo:Nat):Int) ((sIx n n hi:Nat):Int) 1)) _ _ s;rw[Xhk];exact T0 h
def Xhl(xs:Array aa)(i k:Nat):((List.range k).filterMap λ(m:Nat)=>xs[((i:Int)+(m:Int) * 1).toNat]?).toArray=((xs.toList.drop i).take k).toArray:=by
 have e:(λ(m:Nat)=>xs[((i:Int)+(m:Int) * 1).toNat]?)=λm=>xs[i+m]?:=by
  funext m;have:((i:Int)+(m:Int) * 1).toNat=i+m:=by lia
  rw[this]
 rw[e];have:=pick_run xs i k;rw[Tc] at this;have e2:((λx=>xs[x]?) ∘ λx=>i+x)=λm=>xs[i+m]?:=rfl;rw[e2] at this;rw[this]
def getItem_tuple_cut    {lo hi} (ht:cX s.heap t ax) (hs:s.heap.IsSliceOf sl vl vu .none) (pl:db vl lo) (pu:db vu hi)
  (hw:¬(sIx ax.size 0 lo=0/\sIx ax.size ax.size hi=ax.size))
  (h:Q (.ref s.heap.objs.size) {s with heap:=s.heap.push {cls:=.type "tuple",data:=.seq ((ax.toList.drop (sIx ax.size 0 lo)).take (sIx ax.size ax.size hi - sIx ax.size 0 lo)).toArray} })
  (hsz:ax.size<=sizeLine):aj (ai prog w) A (bU (.ref t) (.ref sl)) Q E s:=by
 have df:sizeOk (.seq ((ax.toList.drop (sIx ax.size 0 lo)).take (sIx ax.size ax.size hi - sIx ax.size 0 lo)).toArray):=by
  show ((ax.toList.drop (sIx ax.size 0 lo)).take (sIx ax.size ax.size hi - sIx ax.size 0 lo)).toArray.size<=sizeLine;rw[O0,Pc,P2,O1]
  lia
 have hj:sIx ax.size ax.size hi<=ax.size:=Xhi _ _ (Oy _) hi;obtain⟨os,fr,mR,kf⟩:=id hs;have kg:s.TypeIs (.ref sl) "slice" := ⟨os,fr,mR⟩;unfold bU
 try with_reducible refine aA ?_
 first | refine Tz (T0 ?_) | skip
 refine Tz (eu ht.typeIs (by decide) ?_);refine Tz (bu (name:=aq.ofString "__getitem__") ht.typeIs PyProof.Rows.slot_tuple_getitem
  (aP PyProof.Rows.slot_tuple_getitem ht.typeIs dA ?_ (dN _ _)))
 show aj _ _ (am.Tuple.tupleItemsOf (.ref t) >>= _) _ _ s;refine Tz (hW ht ?_);refine Tz (bi kg ?_);rw[T7 (by decide)];refine Tz (Xa4 hs pl pu ?_);have eF:¬((((sIx ax.size 0 lo:Nat):Int)==0&&(1:Int)==1&&(sIx ax.size ax.size hi - sIx ax.size 0 lo)==ax.size)=true):=by
  intro q;rw[Pa,Pa] at q;have q1:((sIx ax.size 0 lo:Nat):Int)=0:=eq_of_beq q.1.1;have q2:sIx ax.size ax.size hi - sIx ax.size 0 lo=ax.size:=eq_of_beq q.2;exact hw ⟨by lia,by lia⟩
 show aj _ _ (if (((sIx ax.size 0 lo:Nat):Int)==0&&(1:Int)==1&&(sIx ax.size ax.size hi - sIx ax.size 0 lo)==ax.size)=true then _ else _) _ _ s;rw[T6 eF,Xhl]
 first
  | exact Tz (m:=am.Tuple.tupleExact _) (aG (T0 ⟨_,rfl,T0 h⟩) df)
  | exact Tz (m:=am.Tuple.tupleExact _) (aG (Tz (T0 (T0 ⟨_,rfl,T0 h⟩))) df)
  | exact Tz (Tz (m:=am.Tuple.tupleExact _) (aG (T0 (T0 ⟨_,rfl,T0 h⟩)) df))
  | exact Tz (Tz (m:=am.Tuple.tupleExact _) (aG (T0 ⟨_,rfl,T0 h⟩) df))
end
end HT
namespace L2
abbrev TO:=St->Hp->(Option Int->Hp->Prop)->Prop
def PO (X:Cx) (e:Option aL) (t:TO):Prop:=
 ∀pins s Z H (Q:Option Int->Hp->Prop),Inv X pins Z H s->t Z H Q ->
  aj (ai X.prog X.w) X.A (evalPart e X.env) (λu s'=>∃o H',Inv X pins Z H' s'/\db u o/\Q o H') X.xe s
def Lv:TO:=λ_ H Q=>Q none H
def Lw (t:TE):TO:=fun Z H Q=>t Z H λx H1=>∃i,x = .int i/\Q (some i) H1
section
variable {X:Cx}{e:aL}{te:TE}{lo hi:Option aL}{tl th:TO}{pos p2:cN}
def Bx:PO X none Lv:=by
 intro pins s Z H Q I h;rw[dH];exact T0 ⟨none,H,I,.none,h⟩
def Bq(h:PE X e te):PO X (some e) (Lw te):=by
 intro pins s Z H Q I hw;rw[hX];refine thn (h pins s Z H _ I hw) λu s1 ⟨x,H1,I1,r1,q1⟩=>?_;obtain⟨i,rfl,q⟩:=q1;obtain⟨t,rfl⟩:=r1;exact⟨some i,H1,I1,.int i t,q⟩
def SlR (X:Cx) (r:V->Option Int->Option Int->Hp->VK->Prop):Prop:=
 ∀pins s Z H (x:V) (v vl vu:aa) (lo hi:Option Int) (sl:ae) (Q:VK),Inv X pins Z H s->Ah x v->s.heap.IsSliceOf sl vl vu .none->db vl lo->db vu hi->r x lo hi H Q ->
  ∃T id,kP (.type T) "__getitem__" = pure (some (.builtin id))/\s.TypeIs v T/\aj (ai X.prog X.w) X.A (bU v (.ref sl)) (EP X pins Z Q) X.xe s
def tSl (r:V->Option Int->Option Int->Hp->VK->Prop) (te:TE) (tl th:TO):TE:=fun Z H Q=>te Z H λx H1=>tl Z H1 λl H2=>th Z H2 λu H3=>r x l u H3 Q
def Bt(hr:SlR X r)(he:PE X e te)(hl:PO X lo tl)(hu:PO X hi th):PE X (.Subscript e (.Slice lo hi none p2) pos) (tSl r te tl th):=by
 intro pins s Z H Q I h;refine dO (thn (he pins s Z H _ I h) λv s1 ⟨x,H1,I1,r1,q1⟩=>?_);refine ju (thn (hl pins s1 Z H1 _ I1 q1) λvl s2 ⟨l,H2,I2,pl,q2⟩=>thn (hu pins s2 Z H2 _ I2 q2) λvu s3 ⟨u,H3,I3,pu,q3⟩=>?_);rw[dH];refine T0 ?_;have I4:Inv X pins Z H3 {s3 with heap:=s3.heap.push {cls:=.type "slice",data:=.fields #[vl,vu,.none]} }:=I3.kept (t':=s3.toks) λb ob q=>Ud _ q;obtain⟨T,id,hT,ht,hg⟩:=hr pins {s3 with heap:=s3.heap.push {cls:=.type "slice",data:=.fields #[vl,vu,.none]} } Z H3 x v vl vu l u s3.heap.objs.size Q I4 r1 (ar.IsSliceOf.new ..) pl pu q3;show aj (ai X.prog X.w) X.A (ia e (.Slice lo hi none p2) v (.ref s3.heap.objs.size)) (EP X pins Z Q) X.xe {s3 with heap:=s3.heap.push {cls:=.type "slice",data:=.fields #[vl,vu,.none]} };exact jv (ops:=[.ref s3.heap.objs.size,v]) ht hT hg (by with_unfolding_all rfl)
def B8 (xs:List V) (lo hi:Option Int):List V:=(xs.drop (HT.sIx xs.length 0 lo)).take (HT.sIx xs.length xs.length hi - HT.sIx xs.length 0 lo)
def Xa5(xs)(lo hi):(B8 xs lo hi).length<=xs.length:=by
 unfold B8;rw[Pc,P2]
 lia
def rSlT (K:KQ):V->Option Int->Option Int->Hp->VK->Prop:=λx lo hi H Q=>∃a xs,x = .ref a/\SqT K H a xs /\
 ¬(HT.sIx xs.length 0 lo=0/\HT.sIx xs.length xs.length hi=xs.length)/\∀p,H p=none->Q (.ref p) (upd H p (.tup (B8 xs lo hi)))
def Xhm:SlR X (rSlT X.K):=by
 intro pins s Z H x v vl vu lo hi sl Q I rx hs pl pu h;obtain⟨a,xs,rfl,hx,hw,q⟩:=h;cases rx;obtain⟨aC,r,ht,hz⟩:=I.tuple hx;have aO:aC.toArray.size=xs.length:=by rw[O0];exact r.length.symm
 refine⟨"tuple",_,PyProof.Rows.slot_tuple_getitem.lookup,ht.typeIs,?_⟩;refine HT.getItem_tuple_cut ht hs pl pu (by rw[aO];exact hw) ?_ (by rw[aO];exact hz);rw[aO];refine⟨.ref s.heap.objs.size,_,I.laid (t':=s.toks) (o:=.tup (B8 xs lo hi)) (λb ob q=>Ud _ q) (Oy _) ?_,rfl,q _ (I.hok.fresh (Oy _))⟩;exact⟨Pu (Xa5 xs lo hi) hz,_,(r.drop (HT.sIx xs.length 0 lo)).take (HT.sIx xs.length xs.length hi - HT.sIx xs.length 0 lo),cX.new _ _⟩
def Xhn (K:KQ):R2:=λx y H Q=>∃a b xs ys,x = .ref a/\y = .ref b/\SqT K H a xs/\SqT K H b ys/\xs≠[]/\xs.length+ys.length<=sizeLine /\
 (ys=[]->Q (.ref a) H)/\(ys≠[]->∀p,H p=none->Q (.ref p) (upd H p (.tup (xs++ys))))
def Vals.nil_iff  (r:Vals xs us):us=[]↔xs=[]:=by
 cases r with
 | nil=>simp
 | cons _ _=>simp
def Xho:OpR X (bg .Add) (Xhn X.K):=by
 intro pins s Z H x y v u Q I rx ry h;obtain⟨a,b,xs,ys,rfl,rfl,ha,hb,hx,hz,q1,q2⟩:=h;cases rx;cases ry;obtain⟨aC,r1,p1,_⟩:=I.tuple ha;obtain⟨ib,r2,p2,_⟩:=I.tuple hb;refine HT.cat_tup p1 p2 (λz=>hx (r1.nil_iff.mp z)) (λz=>⟨.ref a,H,I,rfl,q1 (r2.nil_iff.mp z)⟩) (λz=>?_) (by rw[<-r1.length,<-r2.length];exact hz);refine⟨.ref s.heap.objs.size,_,I.laid (t':=s.toks) (o:=.tup (xs++ys)) (λb ob q=>Ud _ q) (Oy _) ?_,rfl,q2 (λw=>z (r2.nil_iff.mpr w)) _ (I.hok.fresh (Oy _))⟩;exact⟨by rw[O2];exact hz,_,r1.append r2,cX.new _ _⟩
end
def ixN (n:Nat) (i:Int):Option Nat:=if 0<=i then (if i<n then some i.toNat else none) else if -(n:Int)<=i then some (i+n).toNat else none
def atI {α : Type} (xs:List α) (i:Int):Option α:=(ixN xs.length i).bind λj=>xs[j]?
def Xa6   (h:ixN n i=some j):IN i n=some j/\j<n /\ -(n:Int)<=i/\i<n:=by
 unfold ixN at h;by_cases h0:0<=i
 ·rw[T7 h0] at h;by_cases h1:i<n
  ·rw[T7 h1] at h;have e:i.toNat=j:=Pd h;exact⟨by rw[jw h0 h1,e],by lia,by lia,h1⟩
  ·rw[T6 h1] at h;cases h
 ·rw[T6 h0] at h;by_cases h1 : -(n:Int)<=i
  ·rw[T7 h1] at h;have e:(i+n).toNat=j:=Pd h;exact⟨by rw[seqIndex_neg (by lia) h1,e],by lia,h1,by lia⟩
  ·rw[T6 h1] at h;cases h
def Lx{α : Type}{xs}{v : α}(h:atI xs i=some v):∃j,IN i xs.length=some j/\xs[j]? = some v/\j<xs.length /\ -(xs.length:Int)<=i/\i<xs.length:=by
 unfold atI at h;cases e:ixN xs.length i with
 | none=>rw[e] at h;cases h
 | some j=>
  rw[e] at h;obtain⟨h1,h2,h3,h4⟩:=Xa6 e;exact⟨j,h1,h,h2,h3,h4⟩
def Du{α : Type}{xs}{j:Nat}{v : α}(h:xs[j]? = some v):atI xs (j:Int)=some v:=by
 have hj:j<xs.length:=(O8.mp h).1;have e:ixN xs.length (j:Int)=some j:=by
  unfold ixN;rw[T7 (by lia),T7 (by lia)];simp
 unfold atI;rw[e];exact h
def Xhp (b:aL):Prop:=∀o i,subscripted b false o i=operate [o,i] (bU o i)
def IxR (X:Cx) (r:R2):Prop:=
 ∀(value slice:aL) (pins:List (ae×aU)) (s:ak) (Z:St) (H:Hp) (x y:V) (v u:aa) (Q:VK),Inv X pins Z H s->Ah x v->Ah y u->r x y H Q ->
  subscripted slice false v u=operate [v,u] (bU v u)->aj (ai X.prog X.w) X.A (ia value slice v u) (EP X pins Z Q) X.xe s
def MtR (X:Cx) (id:String) (r:V->List V->Hp->VK->Prop):Prop:=
 ∀pins s Z H (x:V) (xs:List V) (v:aa) (us:List aa) (Q:VK),Inv X pins Z H s->Ah x v->Vals xs us->r x xs H Q ->
  aj (ai X.prog X.w) X.A (call (.builtin id) (v::us)) (EP X pins Z Q) X.xe s
section
variable {X:Cx}{a b:aL}{ta tb:TE}{pos:cN}
def A0(hr:IxR X r)(ha:PE X a ta)(hb:PE X b tb)(hs:Xhp b):PE X (.Subscript a b pos) (tOp r ta tb):=by
 intro pins s Z H Q I h;exact dO (binT ha hb I h λv u s2 x y H2 I2 rx ry q=>hr a b pins s2 Z H2 x y v u Q I2 rx ry q (hs _ _))
def Xa7 (K:KQ):R2:=λx y H Q=>∃p xs i v,x = .ref p/\y = .int i/\SqL K H p xs/\atI xs i=some v/\Q v H
def Ly (K:KQ):R2:=λx y H Q=>∃p xs i v,x = .ref p/\y = .int i/\SqT K H p xs/\atI xs i=some v/\Q v H
def Xa8:R2:=λx y H Q=>∃z i c,x = .str z/\y = .int i/\z.length<=sizeLine/\atI z.cps.toList i=some c/\Q (.str ⟨#[c]⟩) H
def Bh:IxR X (Xa7 X.K):=by
 intro value slice pins s Z H x y v u Q I rx ry h hs;obtain⟨p,xs,i,z,rfl,rfl,hq,he,q⟩:=h;cases rx;obtain⟨t,rfl⟩:=ry;obtain⟨aC,r,pl,hz⟩:=I.list hq;obtain⟨j,h1,h2,h3,h4,h5⟩:=Lx he;obtain⟨w,ew,jx⟩:=r.get h2;have hl:=r.length;have hn:=line63;have fin:EP X pins Z Q w s:=⟨z,H,I,jx,q⟩;by_cases h0:0<=i
 ·have hj:i.toNat=j:=by
   rw[jw h0 h5] at h1;exact Pd h1
  exact item_listR pl.isList h0 (by lia) (by rw[hj];simpa using ew) fin hs
 ·have hj:(i+(aC.toArray.size:Int)).toNat=j:=by
   rw[seqIndex_neg (by lia) h4] at h1;rw[O0,<-hl];exact Pd h1
  exact iP (x:=w) pl.isList.typeIs eI.lookup
   (wpAny_getItem_list_neg (Q:=λr s'=>r=w/\EP X pins Z Q r s') pl.isList (by lia) (by rw[O0]<;>lia) (by lia) (by rw[hj];simpa using ew) ⟨rfl,fin⟩) hs
def Jl:IxR X (Ly X.K):=by
 intro value slice pins s Z H x y v u Q I rx ry h hs;obtain⟨p,xs,i,z,rfl,rfl,hq,he,q⟩:=h;cases rx;obtain⟨t,rfl⟩:=ry;obtain⟨aC,r,pl,hz⟩:=I.tuple hq;obtain⟨j,h1,h2,h3,h4,h5⟩:=Lx he;obtain⟨w,ew,jx⟩:=r.get h2;have hl:=r.length;have hn:=line63;have fin:EP X pins Z Q w s:=⟨z,H,I,jx,q⟩;exact iP (x:=w) pl.typeIs slot_tuple_getitem.lookup
  (getItem_tuple (j:=j) (Q:=λr s'=>r=w/\EP X pins Z Q r s') pl (by lia) (by lia) (by rw[O0,<-hl];exact h1) (by simpa using ew) ⟨rfl,fin⟩) hs
def Xhq:IxR X Xa8:=by
 intro value slice pins s Z H x y v u Q I rx ry h hs;obtain⟨z,i,c,rfl,rfl,hz,he,q⟩:=h;obtain⟨t,rfl⟩:=rx;obtain⟨t',rfl⟩:=ry;obtain⟨j,h1,h2,h3,h4,h5⟩:=Lx he;have hl:z.cps.toList.length=z.length:=by simp[aq.length]
 rw[hl] at h1 h4 h5;have hn:=line63;exact jv (kQ s z t) slot_str_getitem.lookup (getItem_str (c:=c) (by
  have e1:decide (i < -(2 ^ 63:Int))=false:=T9 (by lia);have e2:decide (i ≥ 2 ^ 63)=false:=T9 (by lia);rw[e1,e2,Tt]) (by rw[h1];simpa using h2) ⟨.str ⟨#[c]⟩,H,I.tok _,⟨_,rfl⟩,q⟩) hs
def rIx (K:KQ):R2:=λx y H Q=>Xa7 K x y H Q\/Ly K x y H Q\/Xa8 x y H Q
def Xhr(aC:List aa)(n j)(u):aU.mapSeq (·.setIfInBounds j u) {cls:=.type "list",data:=.seq aC.toArray n} = {cls:=.type "list",data:=.seq (aC.set j u).toArray n}:=by
 simp[aU.mapSeq]
def Inv.lst{pins}{Z:St}{H}{s}{p}{xs}(I:Inv X pins Z H s)(h:H p=some (.lst xs)):
  ∃(aC:List aa) (n:Nat),Vals xs aC/\s.heap.get? p=some {cls:=.type "list",data:=.seq aC.toArray n}/\xs.length<=sizeLine:=by
 obtain⟨z,aC,n,r,e⟩:=I.hok p _ h;exact⟨aC,n,r,e,z⟩
def Inv.lstUpd       {aC its':List aa}  (I:Inv X pins Z H s) (h:H p=some (.lst xs))
  (ho:s.heap.get? p=some {cls:=.type "list",data:=.seq aC.toArray n}) (hf:f {cls:=.type "list",data:=.seq aC.toArray n} = {cls:=.type "list",data:=.seq its'.toArray n'}) (r:Vals ys its') (hz:ys.length<=sizeLine) (t):
  Inv X pins Z (upd H p (.lst ys)) {s with heap:=s.heap.update p f,toks:=t}:=by
 have e:(s.heap.update p f).get? p=some {cls:=.type "list",data:=.seq its'.toArray n'}:=by
  rw[ar.get?_update_self f ho (by rw[hf]<;>rfl),hf]
 refine I.write (x:=p) (e:=p) (by rw[h];trivial) (.inl rfl) (λb u hb q=>(ar.get?_update_other _ _ (Ne.symm hb)).trans q) ⟨_,e⟩ ?_;exact⟨hz,its',n',r,e⟩
def Xhs:V->V->V->Hp->(Hp->Prop)->Prop:=λo i v H Q=>∃p xs k j,o = .ref p/\i = .int k/\H p=some (.lst xs)/\ixN xs.length k=some j/\Q (upd H p (.lst (xs.set j v)))
def Fo:PSet X Xhs:=by
 intro pins s Z H o i v ov iv u Q I ro ri rv h;obtain⟨p,xs,k,j,rfl,rfl,hp,hj,q⟩:=h;cases ro;obtain⟨t,rfl⟩:=ri;obtain⟨aC,n,r,ho,hz⟩:=I.lst hp;obtain⟨h1,h2,h3,h4⟩:=Xa6 hj;have hl:=r.length;have hn:=line63;have I':Inv X pins Z (upd H p (.lst (xs.set j v))) {s with heap:=s.heap.update p (aU.mapSeq (·.setIfInBounds j u))}:=
  I.lstUpd hp ho (Xhr aC n j u) (r.set rv j) (by rw[List.length_set];exact hz) s.toks
 by_cases h0:0<=k
 ·have hk:k.toNat=j:=by
   rw[jw h0 h4] at h1;exact Pd h1
  exact PySem.W.ki_setAt ho h0 (by lia) (by rw[O0,<-hl];exact h4) (by rw[hk];exact⟨_,I',q⟩)
 ·have hk:(k+(aC.toArray.size:Int)).toNat=j:=by
   rw[seqIndex_neg (by lia) h3] at h1;rw[O0,<-hl];exact Pd h1
  exact PySem.W.ki_setBack ho (by lia) (by rw[O0,<-hl];exact h3) (by lia) (by rw[hk];exact⟨_,I',q⟩)
def Xht(lo hi)(n):(ce lo hi none n).1=((HT.sIx n 0 lo:Nat):Int)/\(ce lo hi none n).2.1=((HT.sIx n n hi:Nat):Int)/\(ce lo hi none n).2.2=1:=by
 refine⟨?_,?_,rfl⟩
 ·cases lo with
  | none=>simp[ce,HT.sIx]
  | some i=>
   simp only[ce,HT.sIx,Option.getD_none,show (1:Int) > 0 by decide,if_true];by_cases h:i<0
   ·simp only[h,if_true]<;>lia
   ·simp only[h,if_false]<;>lia
 ·cases hi with
  | none=>simp[ce,HT.sIx]
  | some i=>
   simp only[ce,HT.sIx,Option.getD_none,show (1:Int) > 0 by decide,if_true];by_cases h:i<0
   ·simp only[h,if_true]<;>lia
   ·simp only[h,if_false]<;>lia
def Xhu(aC:List aa)(lo hi):IP aC.toArray lo hi none=((aC.drop (HT.sIx aC.length 0 lo)).take (HT.sIx aC.length aC.length hi - HT.sIx aC.length 0 lo)).toArray:=by
 obtain⟨h1,h2,h3⟩:=Xht lo hi aC.toArray.size;unfold IP;rw[h1,h2,h3];simp only[sliceRange_one,pick_run,O0]<;>rfl
def rSlL (K:KQ):V->Option Int->Option Int->Hp->VK->Prop:=λx lo hi H Q=>∃a xs,x = .ref a/\SqL K H a xs/\∀p,H p=none->Q (.ref p) (upd H p (.lst (B8 xs lo hi)))
def Ci:SlR X (rSlL X.K):=by
 intro pins s Z H x v vl vu lo hi sl Q I rx hs pl pu h;obtain⟨a,xs,rfl,hx,q⟩:=h;cases rx;obtain⟨aC,r,ht,hz⟩:=I.list hx;have aO:=r.length;refine⟨"list",_,eI.lookup,ht.isList.typeIs,?_⟩;refine ie ht.isList hs pl pu .none (by simp) ?_ (by rw[O0]<;>lia);rw[Xhu,<-aO];refine⟨.ref s.heap.objs.size,_,I.laid (t':=s.toks) (o:=.lst (B8 xs lo hi)) (λb ob q=>Ud _ q) (Oy _) ?_,rfl,q _ (I.hok.fresh (Oy _))⟩;exact⟨Pu (Xa5 xs lo hi) hz,_,0,(r.drop (HT.sIx xs.length 0 lo)).take (HT.sIx xs.length xs.length hi - HT.sIx xs.length 0 lo),ar.get?_push_size _ rfl⟩
def B2:V->Bool
 | .non=>true
 | .bl _=>true
 | .int _=>true
 | .str _=>true
 | _=>false
def eqV:V->V->Bool
 | .non,.non=>true
 | .bl a,.bl b=>a==b
 | .bl a,.int b=>(if a then 1 else 0)==b
 | .int a,.bl b=>a==(if b then 1 else 0)
 | .int a,.int b=>a==b
 | .str a,.str b=>a==b
 | _,_=>false
def Xa9    (ry:Ah y u) (rx:Ah x v) (fy:B2 y=true) (fx:B2 x=true):SeqAt.EqAt A s u v (eqV y x):=by
 cases y with
 | non=>
  cases ry;cases x with
  | non=>cases rx;exact SeqAt.EqAt.same _
  | bl b=>cases rx;exact SeqAt.EqAt.none_bool b
  | int b=>obtain⟨t,rfl⟩:=rx;exact SeqAt.EqAt.none_int b t
  | str b=>obtain⟨t,rfl⟩:=rx;exact SeqAt.EqAt.none_str b t
  | _=>exact absurd (show false=true from fx) Pe
 | bl a=>
  cases ry;cases x with
  | non=>cases rx;exact SeqAt.EqAt.bool_none a
  | bl b=>cases rx;exact SeqAt.EqAt.bool_bool a b
  | int b=>obtain⟨t,rfl⟩:=rx;exact SeqAt.EqAt.bool_int a b t
  | str b=>obtain⟨t,rfl⟩:=rx;exact SeqAt.EqAt.bool_str a b t
  | _=>exact absurd (show false=true from fx) Pe
 | int a=>
  obtain⟨t',rfl⟩:=ry;cases x with
  | non=>cases rx;exact SeqAt.EqAt.int_none a t'
  | bl b=>cases rx;exact SeqAt.EqAt.int_bool a t' b
  | int b=>obtain⟨t,rfl⟩:=rx;exact SeqAt.EqAt.int_int a t' b t
  | str b=>obtain⟨t,rfl⟩:=rx;exact SeqAt.EqAt.int_str a t' b t
  | _=>exact absurd (show false=true from fx) Pe
 | str a=>
  obtain⟨t',rfl⟩:=ry;cases x with
  | non=>cases rx;exact SeqAt.EqAt.str_none a t'
  | bl b=>cases rx;exact SeqAt.EqAt.str_bool a t' b
  | int b=>obtain⟨t,rfl⟩:=rx;exact SeqAt.EqAt.str_int a t' b t
  | str b=>obtain⟨t,rfl⟩:=rx;exact SeqAt.EqAt.str_str a t' b t
  | _=>exact absurd (show false=true from fx) Pe
 | _=>exact absurd (show false=true from fy) Pe
def eqU (x:V) (u:aa):Bool:=match u with
 | .none=>eqV .non x
 | .bool b=>eqV (.bl b) x
 | .int i _=>eqV (.int i) x
 | .str z _=>eqV (.str z) x
 | _=>false
def Jm  (r:Ah y u) (f:B2 y=true):eqU x u=eqV y x:=by
 cases y with
 | non=>cases r;rfl
 | bl b=>cases r;rfl
 | int i=>obtain⟨t,rfl⟩:=r;rfl
 | str z=>obtain⟨t,rfl⟩:=r;rfl
 | _=>exact absurd (show false=true from f) Pe
theorem Hg:∀{xs:List V} {us:List aa},Vals xs us->xs.all B2=true->us.any (eqU x)=xs.any λy=>eqV y x
 | _,_,.nil,_=>rfl
 | y::xs,u::us,.cons r t,f=>by
  rw[Tu,Pa] at f;rw[S5,S5,Jm r f.1,Hg t f.2]
theorem Fp    (rx:Ah x v) (fx:B2 x=true):∀{xs:List V} {us:List aa},Vals xs us->xs.all B2=true->∀u∈us,SeqAt.EqAt A s u v (eqU x u)
 | _,_,.nil,_=>λu hu=>by cases hu
 | y::xs,u::us,.cons r t,f=>λu' hu=>by
  rw[Tu,Pa] at f;rcases Ph.mp hu with rfl | hu
  ·rw[Jm r f.1];exact Xa9 r rx f.1 fx
  ·exact Fp rx fx t f.2 u' hu
def inV (x:V) (xs:List V):Bool:=xs.any λy=>eqV y x
def rIn (K:KQ) (zX:Bool):R2:=λx y H Q=>∃p xs,y = .ref p/\(SqL K H p xs\/SqT K H p xs)/\B2 x=true/\xs.all B2=true/\Q (.bl (if zX then !inV x xs else inV x xs)) H
def Lz:OpR X (aJ .In) (rIn X.K false):=by
 intro pins s Z H x y v u Q I rx ry h;obtain⟨p,xs,rfl,hq,fx,fs,q⟩:=h;cases ry;rcases hq with hq | hq
 ·obtain⟨aC,r,pl,hz⟩:=I.list hq;refine SeqAt.in_listAt (eqU x) pl.isList (λw hw=>Fp rx fx r fs w (by simpa using hw)) ⟨.bl _,H,I,rfl,?_⟩;rw[show aC.toArray.any (eqU x)=aC.any (eqU x) by simp,Hg r fs];exact q
 ·obtain⟨aC,r,pl,hz⟩:=I.tuple hq;refine SeqAt.in_tupleAt (eqU x) pl (λw hw=>Fp rx fx r fs w (by simpa using hw)) ⟨.bl _,H,I,rfl,?_⟩;rw[show aC.toArray.any (eqU x)=aC.any (eqU x) by simp,Hg r fs];exact q
def Jn:OpR X (aJ .NotIn) (rIn X.K true):=by
 intro pins s Z H x y v u Q I rx ry h;obtain⟨p,xs,rfl,hq,fx,fs,q⟩:=h;cases ry;rcases hq with hq | hq
 ·obtain⟨aC,r,pl,hz⟩:=I.list hq;refine SeqAt.notIn_listAt (eqU x) pl.isList (λw hw=>Fp rx fx r fs w (by simpa using hw)) ⟨.bl _,H,I,rfl,?_⟩;rw[show aC.toArray.any (eqU x)=aC.any (eqU x) by simp,Hg r fs];exact q
 ·obtain⟨aC,r,pl,hz⟩:=I.tuple hq;refine SeqAt.notIn_tupleAt (eqU x) pl (λw hw=>Fp rx fx r fs w (by simpa using hw)) ⟨.bl _,H,I,rfl,?_⟩;rw[show aC.toArray.any (eqU x)=aC.any (eqU x) by simp,Hg r fs];exact q
def Br:Bw X (.builtin "len") (λxs H Q=>∃p ys,xs=[.ref p]/\(SqL X.K H p ys\/SqT X.K H p ys)/\Q (.int ys.length) H):=by
 intro pins s Z H xs us Q I r h;obtain⟨p,ys,rfl,hq,q⟩:=h;obtain⟨u,rfl,rx⟩:=Cg r;cases rx;have hn:=line63;rcases hq with hq | hq
 ·obtain⟨aC,r',pl,hz⟩:=I.list hq;have aO:=r'.length;exact Calls.call_len_list pl.isList (by simp only[O0]<;>lia) ⟨.int ys.length,H,I.tok _,⟨s.toks+1,by rw[O0,aO]⟩,q⟩
 ·obtain⟨aC,r',pl,hz⟩:=I.tuple hq;have aO:=r'.length;exact len_tuple pl (by simp only[O0]<;>lia) ⟨.int ys.length,H,I.tok _,⟨s.toks+1,by rw[O0,aO]⟩,q⟩
def Jo:Bw X (.type "list") (λxs H Q=>∃p ys,xs=[.ref p]/\(SqL X.K H p ys\/SqT X.K H p ys)/\∀l,H l=none->Q (.ref l) (upd H l (.lst ys))):=by
 intro pins s Z H xs us Q I r h;obtain⟨p,ys,rfl,hq,q⟩:=h;obtain⟨u,rfl,rx⟩:=Cg r;cases rx;have fin:∀(aC:List aa),Vals ys aC->ys.length<=sizeLine->∀(h':ar) (c':Nat),(∀b o',s.heap.get? b=some o'->h'.get? b=some o') ->
   h'.get? s.heap.objs.size=some {cls:=.type "list",dict:=none,data:=.seq aC.toArray c',slots := #[]}->EP X pins Z Q (.ref s.heap.objs.size) {s with heap:=h'}:=λaC r' hz h' c' kp e=>
  ⟨.ref s.heap.objs.size,_,I.laid (t':=s.toks) kp (Oy _) (show A3 X.prog X.w _ h' _ (.lst ys) from ⟨hz,aC,c',r',e⟩),rfl,q _ (I.hok.fresh (Oy _))⟩
 rcases hq with hq | hq
 ·obtain⟨aC,r',pl,hz⟩:=I.list hq;have aO:=r'.length;obtain⟨o,ho,hc,n,hd⟩:=pl.isList;exact t8 p (.inl rfl) ho hc hd (λh' c' kp e=>fin aC r' hz h' c' kp e) (by simp only[O0]<;>lia)
 ·obtain⟨aC,r',pl,hz⟩:=I.tuple hq;have aO:=r'.length;obtain⟨o,ho,hc,n,hd⟩:=pl;exact t8 p (.inr rfl) ho hc hd (λh' c' kp e=>fin aC r' hz h' c' kp e) (by simp only[O0]<;>lia)
def Es:Bw X (.type "tuple") (λxs H Q=>∃p ys,xs=[.ref p]/\((SqL X.K H p ys/\∀l,H l=none->Q (.ref l) (upd H l (.tup ys)))\/(SqT X.K H p ys/\Q (.ref p) H))):=by
 intro pins s Z H xs us Q I r h;obtain⟨p,ys,rfl,h⟩:=h;obtain⟨u,rfl,rx⟩:=Cg r;cases rx;rcases h with ⟨hq,q⟩ | ⟨hq,q⟩
 ·obtain⟨aC,r',pl,hz⟩:=I.list hq;have aO:=r'.length;refine call_tuple_list pl.isList (λh' kp=>?_) (by simp only[O0]<;>lia);have I1:Inv X pins Z H {s with heap:=h'}:=I.kept (t':=s.toks) kp;have I2:Inv X pins Z (upd H h'.objs.size (.tup ys)) {s with heap:=h'.push {cls:=.type "tuple",data:=.seq aC.toArray} }:=
   I1.laid (t':=s.toks) (λb o e=>Ud _ e) (Oy _) (show A3 X.prog X.w _ _ _ (.tup ys) from ⟨hz,aC,r',cX.new _ _⟩)
  exact⟨.ref h'.objs.size,_,I2,rfl,q _ (I1.hok.fresh (Oy _))⟩
 ·obtain⟨aC,r',pl,hz⟩:=I.tuple hq;exact call_tuple_same pl ⟨.ref p,H,I,rfl,q⟩
def tyV (K:KQ) (T:String) (x:V) (H:Hp):Prop:=match x with
 | .str _=>T = "str"
 | .int _=>T = "int"
 | .ref p=>(T = "list" /\ ∃xs,SqL K H p xs)\/(T = "tuple" /\ ∃o,K.lookup p=some o/\o.cls = .type "tuple" /\ o.dict=none) \/
   (T = "dict" /\ ((∃kvs,H p=some (.dK kvs)) \/ ∃kvs,H p=some (.dT kvs)))\/(T = "set" /\ ∃S n,H p=some (.set S n))
 | _=>False
def Xhv       (I:Inv X pins Z H s) (r:Ah x v) (ty:tyV X.K T x H):
  s.TypeIs v T/\∀a,v = .ref a->∃ob,s.heap.get? a=some ob/\ob.dict=none:=by
 cases x with
 | str z=>
  obtain⟨t,rfl⟩:=r;cases (show T = "str" from ty);exact⟨kQ s z t,λ_ e=>nomatch e⟩
 | int i=>
  obtain⟨t,rfl⟩:=r;cases (show T = "int" from ty);exact⟨kT s i t,λ_ e=>nomatch e⟩
 | ref p=>
  cases r;rcases ty with ⟨rfl,xs,hq⟩ | ⟨rfl,o,hk,hc,hd⟩ | ⟨rfl,hk⟩ | ⟨rfl,S,n,hk⟩
  ·obtain⟨aC,_,pl,_⟩:=I.list hq;refine⟨pl.isList.typeIs,λa e=>?_⟩;cases e;obtain⟨o,n,e,c,hd,_⟩:=pl;exact⟨o,e,hd⟩
  ·refine⟨⟨o,I.kIn p o hk,hc⟩,λa e=>?_⟩;cases e;exact⟨o,I.kIn _ o hk,hd⟩
  ·have z:∃o,s.heap.get? p=some o/\o.ExactDict:=by
    rcases hk with ⟨kvs,hk⟩ | ⟨kvs,hk⟩
    ·obtain⟨_,_,_,_,o,_,_,e,ex,_⟩:=I.hok p _ hk;exact⟨o,e,ex⟩
    ·obtain⟨_,_,_,_,o,_,_,e,ex,_⟩:=I.hok p _ hk;exact⟨o,e,ex⟩
   obtain⟨o,e,ex⟩:=z;refine⟨⟨o,e,ex.1⟩,λa e2=>?_⟩;cases e2;exact⟨o,e,ex.2.1⟩
  ·obtain⟨o,_,_,_,e,ex,_⟩:=I.hok p _ hk;refine⟨⟨o,e,ex.1⟩,λa e2=>?_⟩;cases e2;exact⟨o,e,ex.2.1⟩
 | _=>exact False.elim ty
def tBM (K:KQ) (T:String) (r:V->List V->Hp->VK->Prop) (to:TE) (t:TA):TE:=fun Z H Q=>to Z H λx H1=>tyV K T x H1/\t Z H1 λxs H2=>r x xs H2 Q
variable {o e:aL}{es:List aL}{to:TE}{t:TA}{name:aq}{d9 bJ:cN}{T id:String}{r:V->List V->Hp->VK->Prop}
def L3(pa:zY T)(slot:zZ T name id)(uH:qc (.builtin id)=pure (.type "method_descriptor"))(hm:MtR X id r)(ho:PE X o to)(ha:PA X (e::es) t)
  (eJ:dI o name X.env (eval o X.env)=eval o X.env:=by rfl)
  (mS:((bw bJ (az (e::es) X.env)).all (λx => !x.1)&&(c8 bJ (bE [] X.env)).all (λx=>x.1.isSome)
   && decide ((e::es).length+([]:List cH).length+(if ([]:List cH).isEmpty then 0 else 1)<30))=true:=by rfl)
  (jy:(d9.endLine==bJ.line)=true:=by rfl) (hs:az (e::es) X.env=(false,eval e X.env)::az es X.env:=by rfl) (eK:(bw bJ (az es X.env)).any (·.1)=false:=by rfl):
  PE X (.Call (.Attribute o name d9) (e::es) [] bJ) (tBM X.K T r to t):=by
 intro pins s Z H Q I h;refine wpAny_Call_method_late eJ mS jy rfl (thn (ho pins s Z H _ I h) λv s1 ⟨x,H1,I1,r1,ty,q1⟩=>?_);obtain⟨h1,h2⟩:=Xhv I1 r1 ty;refine⟨T,id,pa,slot,uH,h1,h2,?_⟩;have hA:=ha bJ pins s1 Z H1 _ I1 q1;rw[hs] at hA ⊢;refine Calls.callWith_builtin (by show (false||(bw bJ (az es X.env)).any (·.1))=false;rw[eK]<;>rfl) (Calls.evalArgs_plain ?_);exact thn hA λus s2 ⟨vs,H2,I2,r2,q2⟩=>hm pins s2 Z H2 x vs v us Q I2 r1 r2 q2
end
def MtM (X:Cx) (id:String) (r:V->List V->Hp->VK->Prop):Prop:=
 ∀pins s Z H (x:V) (xs:List V) (v:aa) (us:List aa) (Q:VK),Inv X pins Z H s->Ah x v->Vals xs us->r x xs H Q ->
  aj (ai X.prog X.w) X.A (call (.builtin id) (v::us)) (EP X pins Z Q) X.xe s
theorem Vals.one:∀{x:V} {us:List aa},Vals [x] us->∃u,us=[u]/\Ah x u
 | _,_,.cons r .nil=>⟨_,rfl,r⟩
def Vals.two  (h:Vals [x,y] us):∃u v,us=[u,v]/\Ah x u/\Ah y v:=by
 cases h with
 | cons r t=>
  cases t with
  | cons q z=>cases z;exact⟨_,_,rfl,r,q⟩
def Vals.reverse  (h:Vals xs us):Vals xs.reverse us.reverse:=by
 induction h with
 | nil=>exact .nil
 | cons r t ih=>rw[Tl,Tl];exact Vals.append ih (.cons r .nil)
theorem Vals.rep  (h:Vals xs us):∀k:Nat,Vals (List.replicate k xs).flatten (List.replicate k us).flatten
 | 0=>.nil
 | k+1=>by
  rw[Q4,Q4,Ss,Ss];exact Vals.append h (Vals.rep h k)
theorem Xba(aC):∀(k:Nat) (acc:List aa),
  List.foldl (λx1 x2=>x1++x2) acc.toArray (List.replicate k aC.toArray)=(acc++(List.replicate k aC).flatten).toArray
 | 0,acc=>by simp
 | k+1,acc=>by
  have e:acc.toArray++aC.toArray=(acc++aC).toArray:=by simp
  have e2:(acc++aC)++(List.replicate k aC).flatten=acc++(List.replicate (k+1) aC).flatten:=by
   rw[Q4,Ss,Pp]
  rw[<-e2,<-Xba aC k (acc++aC),<-e,Q4,R7]
section
variable {X:Cx}{pins:List (ae×aU)}{Z:St}{H:Hp}{s:ak}{l b:ae}{xs ys zs:List V}
def Inv.lset{aC its':List aa}{f}{t'}(I:Inv X pins Z H s)(hH:H l=some (.lst xs))
  (e:s.heap.get? l=some {cls:=.type "list",data:=.seq aC.toArray n}) (hf:f aC.toArray=its'.toArray) (hv:Vals ys its') (hz:ys.length<=sizeLine):
  Inv X pins Z (upd H l (.lst ys)) {s with heap:=s.heap.update l (aU.mapSeq f),toks:=t'}:=by
 have q:=PySem.IsL.update e f;rw[hf] at q;refine I.write (x:=l) (e:=l) (by rw[hH];exact trivial) (.inl rfl) (λb' u hb hu=>(ar.get?_update_other s.heap (aU.mapSeq f) (Ne.symm hb)).trans hu) ⟨_,q⟩ ?_;exact⟨hz,its',_,hv,q⟩
def Inv.lnew{t'}(I:Inv X pins Z H s)(hv:Vals ys aC)(hz:ys.length<=sizeLine):
  Inv X pins Z (upd H s.heap.objs.size (.lst ys)) {s with heap:=s.heap.push {cls:=.type "list",data:=.seq aC.toArray},toks:=t'}:=
 I.laid (λ_ _ q=>Ud _ q) (Oy _) ⟨hz,aC,0,hv,ar.get?_push_size _ rfl⟩
def Inv.fresh(I:Inv X pins Z H s):H s.heap.objs.size=none:=I.hok.fresh (Oy _)
def Inv.lstM(I:Inv X pins Z H s)(hH:H l=some (.lst xs)):xs.length<=sizeLine/\∃(aC:List aa) (n:Nat),Vals xs aC/\xs.length=aC.length/\s.heap.get? l=some {cls:=.type "list",data:=.seq aC.toArray n}:=by
 obtain⟨z,aC,n,r,e⟩:=I.hok l _ hH;exact⟨z,aC,n,r,r.length,e⟩
def Xhw(h:n<=sizeLine):am.List.listTooLong n=false:=by
 unfold am.List.listTooLong;exact T9 (by lia)
end
section
variable {X:Cx}
def L4:V->List V->Hp->VK->Prop:=λx vs H Q=>∃l xs y,x = .ref l/\vs=[y]/\H l=some (.lst xs)/\xs.length<sizeLine/\Q .non (upd H l (.lst (xs++[y])))
def L5:MtM X "list.append" L4:=by
 intro pins s Z H x vs v us Q I rx rv h;obtain⟨l,xs,y,rfl,rfl,hH,hz,q⟩:=h;cases rx;obtain⟨u,rfl,ru⟩:=rv.one;obtain⟨z,aC,n,r,hl,e⟩:=I.lstM hH;refine dP F.slot_list_append ⟨_,e,rfl⟩ F.entry_list_append (F.args_list_append_2 _ _) (PySem.list_append l aC.toArray n u (by rw[O0];lia)) ⟨e,?_⟩;refine⟨.non,_,I.lset (its':=aC++[u]) hH e (by simp) (r.append (.cons ru .nil)) ?_,rfl,q⟩;rw[O2,P9]
 lia
def rCat:R2:=λx y H Q=>∃l b xs zs,x = .ref l/\y = .ref b/\H l=some (.lst xs)/\H b=some (.lst zs)/\xs.length+zs.length<=sizeLine/\∀p,H p=none->Q (.ref p) (upd H p (.lst (xs++zs)))
def B3:OpR X (bg .Add) rCat:=by
 intro pins s Z H x y v u Q I rx ry h;obtain⟨l,b,xs,zs,rfl,rfl,hH,hB,hz,q⟩:=h;cases rx;cases ry;obtain⟨z,aC,n,r,hl,e⟩:=I.lstM hH;obtain⟨z2,ib,n2,r2,iF,e2⟩:=I.lstM hB;refine PySem.P.add_list e e2 ?_ (by rw[O0,O0];lia);have ea:aC.toArray++ib.toArray=(aC++ib).toArray:=by simp
 rw[ea];exact⟨.ref _,_,I.lnew (t':=s.toks) (r.append r2) (by rw[O2];lia),rfl,q _ I.fresh⟩
def Xbb:R2:=λx y H Q=>∃l k xs,x = .ref l/\y = .int k/\H l=some (.lst xs) /\ -(2 ^ 63)<=k/\k<2 ^ 63/\xs.length * k.toNat<=sizeLine /\
 ∀p,H p=none->Q (.ref p) (upd H p (.lst (List.replicate k.toNat xs).flatten))
def Xhx{α : Type}(xs:List α)(k):(List.replicate k xs).flatten.length=k * xs.length:=by
 induction k with
 | zero=>simp
 | succ k ih=>rw[Q4,Ss,O2,ih,Nat.succ_mul,Nat.add_comm]
def Xbc:OpR X (bg .Mult) Xbb:=by
 intro pins s Z H x y v u Q I rx ry h;obtain⟨l,k,xs,rfl,rfl,hH,h1,h2,hz,q⟩:=h;cases rx;obtain⟨t,rfl⟩:=ry;obtain⟨z,aC,n,r,hl,e⟩:=I.lstM hH;have aO:aC.toArray.size * k.toNat<=sizeLine:=by rw[O0,<-hl];exact hz
 have uI:¬aC.toArray.size * k.toNat > (2 ^ 63 - 1) / 8:=by
  have:(sizeLine:Nat)<=(2 ^ 63 - 1) / 8:=by decide
  lia
 have kU:¬(!am.List.listFitsIndex k)=true:=by
  rw[fitsIndex_both h1 h2];exact Pe
 have qd:¬am.List.listTooLong (aC.toArray.size * k.toNat)=true:=by
  rw[Xhw aO];exact Pe
 have jz:List.foldl (λx1 x2=>x1++x2) #[] (List.replicate (if aC.toArray.isEmpty=true then 0 else k.toNat) aC.toArray)=(List.replicate k.toNat aC).flatten.toArray:=by
  have f0:∀m:Nat,List.foldl (λx1 x2=>x1++x2) #[] (List.replicate m aC.toArray)=(List.replicate m aC).flatten.toArray:=λm=>by
   have:=Xba aC m [];rw[Ru] at this;exact this
  rw[f0];cases aC with
  | nil=>simp
  | cons a r'=>rw[T6 (by simp)]
 refine wpAny_binaryOp_repeat_ref (T := "list") (U := "int") (by decide) ⟨_,e,rfl⟩ (λs'=>kT s' k t) noFill_list_mul F.fills_int_mul F.slot_int_rmul repeat_list F.slot_int_index.lookup
  (dP F.slot_int_rmul (kT s k t) F.entry_int_rmul (F.args_int_rmul_2 _ _) (int___rmul___int_list k t l aC.toArray n)
   ⟨e,rfl,⟨_,e,rfl⟩,dP F.slot_list_mul ⟨_,e,rfl⟩ F.entry_list_mul (F.args_list_mul_2 _ _) (AutoListH.list___mul___list_int_3 l aC.toArray n k t kU uI qd) ⟨e,?_⟩⟩)
 rw[jz];exact⟨.ref _,_,I.lnew (t':=s.toks) (r.rep k.toNat) (by rw[Xhx,Nat.mul_comm];exact hz),rfl,q _ I.fresh⟩
end
section
variable {prog:av}{w:a8}{A:aB}{E:Zb}{s:ak}
end
section
variable {X:Cx}
end
section
variable {κ : Type} [DecidableEq κ]
def Av (kvs:List (κ × V)) (k : κ):Option V:=(kvs.find? λkv=>decide (kv.1=k)).map (·.2)
def Bj (kvs:List (κ × V)) (k : κ) (v:V):List (κ × V):=
 if (kvs.any λkv=>decide (kv.1=k))=true then kvs.map (λkv=>if kv.1=k then (kv.1,v) else kv) else kvs++[(k,v)]
def Xbd (kvs:List (κ × V)) (k : κ):List (κ × V):=kvs.filter λkv=>decide (kv.1≠k)
def Dh{p}{k : κ}(e:p.1=k):Av (p::r) k=some p.2:=by simp[Av,R8,e]
def Di{p}{k : κ}(e:¬p.1=k):Av (p::r) k=Av r k:=by simp[Av,R8,e]
theorem Et(k):∀kvs:List (κ × V),(kvs.any λkv=>decide (kv.1=k))=(Av kvs k).isSome
 | []=>rfl
 | p::r=>by
  rw[S5];by_cases e:p.1=k
  ·simp only[Dh e,T8 e,Bool.true_or,Td]
  ·rw[Di e,T9 e,Bool.false_or];exact Et k r
theorem Xbe(k j)(y):∀kvs:List (κ × V),Av (kvs.map λkv=>if kv.1=k then (kv.1,y) else kv) j=(Av kvs j).map λx=>if j=k then y else x
 | []=>rfl
 | p::r=>by
  have ih:=Xbe k j y r;rw[Pw];by_cases h:p.1=k
  ·rw[T7 h];by_cases e:p.1=j
   ·rw[Dh (p:=(p.1,y)) e,Dh e,Rf,T7 (e.symm.trans h)]
   ·rw[Di (p:=(p.1,y)) e,Di e,ih]
  ·rw[T6 h];by_cases e:p.1=j
   ·rw[Dh (p:=p) e,Dh e,Rf,T6 (λz=>h (e.trans z))]
   ·rw[Di (p:=p) e,Di e,ih]
theorem Xbf(k j)(y):∀kvs:List (κ × V),Av kvs k=none->Av (kvs++[(k,y)]) j=if j=k then some y else Av kvs j
 | [],_=>by
  by_cases e:k=j
  ·rw[T7 e.symm];exact Dh (p:=(k,y)) e
  ·rw[T6 (λz=>e z.symm)];exact Di (p:=(k,y)) e
 | p::r,hn=>by
  rw[List.cons_append];have hk:¬p.1=k:=λz=>by rw[Dh z] at hn;cases hn
  rw[Di hk] at hn;have ih:=Xbf k j y r hn;by_cases e:p.1=j
  ·rw[Dh e,Dh e,T6 (λz=>hk (e.trans z))]
  ·rw[Di e,Di e,ih]
def Jp(kvs)(k j : κ)(y):Av (Bj kvs k y) j=if j=k then some y else Av kvs j:=by
 unfold Bj;by_cases a:(kvs.any λkv=>decide (kv.1=k))=true
 ·rw[T7 a,Xbe];rw[Et] at a;by_cases e:j=k
  ·obtain⟨x,hx⟩:=Q9.mp a;rw[T7 e,e,hx,Rf,T7 rfl]
  ·rw[T6 e];cases Av kvs j with
   | none=>rfl
   | some x=>rw[Rf,T6 e]
 ·rw[T6 a];refine Xbf k j y kvs ?_;rw[Et] at a;cases q:Av kvs k with
  | none=>rfl
  | some x=>rw[q] at a;exact(a rfl).elim
def Jq(kvs)(k : κ)(v):(Bj kvs k v).length<=kvs.length+1:=by
 unfold Bj;split
 ·rw[Ow];lia
 ·rw[O2,Pj,Q8];lia
def Jr{k : κ}(v)(h:Av kvs k=none):Bj kvs k v=kvs++[(k,v)]:=by
 unfold Bj;rw[Et,h];exact T6 (by decide)
def Cs.isSome_eq  (r:Cs o u):o.isSome=u.isSome:=by
 cases o with
 | none=>cases u with
  | none=>rfl
  | some _=>exact(show False from r).elim
 | some _=>cases u with
  | none=>exact(show False from r).elim
  | some _=>rfl
def Cs.getD{o}   (r:Cs o u)(rd:Ah d d'):Ah (o.getD d) (u.getD d'):=by
 cases o with
 | none=>cases u with
  | none=>exact rd
  | some _=>exact(show False from r).elim
 | some _=>cases u with
  | none=>exact(show False from r).elim
  | some _=>exact r
def KV.val  (r:KV kvs vs) (k : κ):Cs (Av kvs k) (eL vs k):=by
 unfold KV at r
 induction r with
 | nil=>exact True.intro
 | @cons p q ps qs h t ih=>
  obtain⟨h1,h2⟩:=h;by_cases e:p.1=k
  ·have e':q.1=k:=h1.symm.trans e;have b:eL (q::qs) k=some q.2:=by simp[eL,R8,e']
   rw[Dh e,b];exact h2
  ·have e':¬q.1=k:=λz=>e (h1.trans z);have b:eL (q::qs) k=eL qs k:=by simp[eL,R8,e']
   rw[Di e,b];exact ih
def KV.any  (r:KV kvs vs) (k : κ):(kvs.any λkv=>decide (kv.1=k))=vs.any λkv=>decide (kv.1=k):=by
 unfold KV at r
 induction r with
 | nil=>rfl
 | cons h t ih=>rw[S5,S5,ih,h.1]
def KV.repl   (r:KV kvs vs) (k : κ)  (ry:Ah y u):
  KV (kvs.map λkv=>if kv.1=k then (kv.1,y) else kv) (vs.map λkv=>if kv.1=k then (kv.1,u) else kv):=by
 unfold KV at r ⊢
 induction r with
 | nil=>exact .nil
 | @cons p q ps qs h t ih=>
  rw[Pw,Pw];refine .cons ?_ ih;obtain⟨h1,h2⟩:=h;by_cases e:p.1=k
  ·rw[T7 e,T7 (h1.symm.trans e)];exact⟨h1,ry⟩
  ·rw[T6 e,T6 (λz=>e (h1.trans z))];exact⟨h1,h2⟩
def KV.put   (r:KV kvs vs) (k : κ)  (ry:Ah y u):KV (Bj kvs k y) (stored vs k u):=by
 unfold Bj stored;rw[r.any k];by_cases e:(vs.any λkv=>decide (kv.1=k))=true
 ·rw[T7 e,T7 e];exact r.repl k ry
 ·rw[T6 e,T6 e];exact Paired.snoc r ⟨rfl,ry⟩
def KV.keys{kvs:List (κ × V)}(r:KV kvs vs):kvs.map (·.1)=vs.map (·.1):=by
 unfold KV at r
 induction r with
 | nil=>rfl
 | cons h t ih=>rw[Pw,Pw,ih,h.1]
def KV.length{kvs:List (κ × V)}(r:KV kvs vs):kvs.length=vs.length:=Paired.length r
end
def Ga    (r:Ah (kV k) u):(Bf P w).is k u=true:=by
 cases k with
 | inl i=>obtain⟨t,e⟩:=(show ∃t,u=aa.int i t from r);subst e;exact Xgs P w i t
 | inr x=>obtain⟨t,e⟩:=(show ∃t,u=aa.str x t from r);subst e;exact Xgt P w x t
theorem Xbg  : ∀{ks:List Key} {us:List aa},Vals (ks.map kV) us->ItemsAre (Bf P w) ks us
 | [],_,r=>by rw[List.map_nil] at r;cases r;exact .nil
 | k::ks,_,r=>by
  rw[Pw] at r;cases r with
  | cons h t=>exact .cons (Ga h) (Xbg t)
abbrev KT (H:Hp):List (List Key×V)->List (List Key×ae×aa)->Prop:=Paired λp q=>p.1=q.1/\H q.2.1=some (.tup (p.1.map kV))/\Ah p.2 q.2.2
def KT.val   (r:KT H kvs xs) (k):Cs (Av kvs k) ((fZ xs k).map (·.2)):=by
 induction r with
 | nil=>exact True.intro
 | @cons p q ps qs h t ih=>
  obtain⟨h1,_,h2⟩:=h;by_cases e:p.1=k
  ·have e':q.1=k:=h1.symm.trans e;have b:fZ (q::qs) k=some q.2:=by simp[fZ,R8,e']
   rw[Dh e,b];exact h2
  ·have e':¬q.1=k:=λz=>e (h1.trans z);have b:fZ (q::qs) k=fZ qs k:=by simp[fZ,R8,e']
   rw[Di e,b];exact ih
def KT.repl    (r:KT H kvs xs) (k)  (ry:Ah y u):
  KT H (kvs.map λkv=>if kv.1=k then (kv.1,y) else kv) (xs.map (putAt k u)):=by
 induction r with
 | nil=>exact .nil
 | @cons p q ps qs h t ih=>
  rw[Pw,Pw];refine .cons ?_ ih;obtain⟨h1,h2,h3⟩:=h;unfold putAt;by_cases e:p.1=k
  ·rw[T7 e,T7 (h1.symm.trans e)];exact⟨h1,h2,ry⟩
  ·rw[T6 e,T6 (λz=>e (h1.trans z))];exact⟨h1,h2,h3⟩
def KT.put    (r:KT H kvs xs) (k)   (hb:H b=some (.tup (k.map kV))) (ry:Ah y u):
  KT H (Bj kvs k y) (storedH xs k b u):=by
 have e:(kvs.any λkv=>decide (kv.1=k))=(fZ xs k).isSome:=by
  rw[Et,(r.val k).isSome_eq,Option.isSome_map]
 unfold Bj storedH;rw[e];by_cases q:(fZ xs k).isSome=true
 ·rw[T7 q,T7 q];exact r.repl k ry
 ·rw[T6 q,T6 q];exact Paired.snoc r ⟨rfl,hb,ry⟩
def KT.keeps   (r:KT H kvs xs) (ht:∀b ys,H b=some (.tup ys)->H' b=some (.tup ys)):KT H' kvs xs:=
 Paired.mapP r λ_ _ z=>⟨z.1,ht _ _ z.2.1,z.2.2⟩
section
variable {P:av}{w:a8}{H:Hp}{h:ar}{a:ae}
def Xbh(ok:HOk P w H h)(e:Rd H a u):A3 P w H h a u:=e.ok ok
def Fq(ok:HOk P w H h)(e:Rd H a (.dK kvs)):kvs.length<=sizeLine/\(a==bD)=false/\∃vs,KV kvs vs/\h.DictOf (Bf P w) a vs:=
 show A3 P w H h a (.dK kvs) from Xbh ok e
def Xbi(ok:HOk P w H h)(e:H a=some (.dK kvs)):kvs.length<=sizeLine/\(a==bD)=false/\∃vs,KV kvs vs/\h.DictOf (Bf P w) a vs:=Fq ok (.inl e)
def Hh(ok:HOk P w H h)(e:H a=some (.tup (ks.map kV))):(dw (Bf P w)).is h ks a:=by
 obtain⟨_,aC,r,o,h1,h2,n,h3⟩:=(show A3 P w H h a (.tup (ks.map kV)) from ok a _ e);exact⟨o,aC.toArray,n,h1,h2,h3,by simpa using Xbg r⟩
def Gb(ok:HOk P w H h)(e:Rd H a (.dT kvs)):kvs.length<=sizeLine/\(a==bD)=false /\
  ∃xs,KT H kvs xs/\h.DictOfH (dw (Bf P w)) a xs:=by
 obtain⟨z,y,xs,r,o,es,ep,h1,h2,h3,h4,h5⟩:=(show A3 P w H h a (.dT kvs) from Xbh ok e);refine⟨z,y,xs,r,o,es,ep,h1,h2,h3,h4,λx hx=>?_,h5⟩;have all:∀{l:List (List Key×V)} {m:List (List Key×ae×aa)},KT H l m->∀x∈m,(dw (Bf P w)).is h x.1 x.2.1:=by
  intro l m q
  induction q with
  | nil=>intro x hx;exact nomatch hx
  | @cons p q ps qs hq t ih=>
   intro x hx;rcases Ph.mp hx with e | hx
   ·subst e;exact Hh ok (by rw[<-hq.1];exact hq.2.1)
   ·exact ih x hx
 exact all r x hx
def Xhy(ok:HOk P w H h)(e:H a=some (.dT kvs)):kvs.length<=sizeLine/\(a==bD)=false /\
  ∃xs,KT H kvs xs/\h.DictOfH (dw (Bf P w)) a xs:=Gb ok (.inl e)
end
def DGet (H:Hp) (a:ae) (y:V) (r:Option V):Prop:=
 (∃kvs k,Rd H a (.dK kvs)/\y=kV k/\r=Av kvs k) \/ ∃kvs k b,Rd H a (.dT kvs)/\y = .ref b/\H b=some (.tup (k.map kV))/\r=Av kvs k
def DPut (H:Hp) (a:ae) (y v:V) (H':Hp):Prop:=
 (∃kvs k,H a=some (.dK kvs)/\y=kV k/\kvs.length<sizeLine/\H'=upd H a (.dK (Bj kvs k v))) \/
 ∃kvs k b,H a=some (.dT kvs)/\y = .ref b/\H b=some (.tup (k.map kV))/\kvs.length<sizeLine/\H'=upd H a (.dT (Bj kvs k v))
def DGet.k   {k} (e:H a=some (.dK kvs)):DGet H a (kV k) (Av kvs k):=.inl ⟨kvs,k,.inl e,rfl,rfl⟩
def DPut.k   {k} {v} (e:H a=some (.dK kvs)) (hl:kvs.length<sizeLine):DPut H a (kV k) v (upd H a (.dK (Bj kvs k v))):=.inl ⟨kvs,k,e,rfl,hl,rfl⟩
section
variable {X:Cx}{pins:List (ae×aU)}{Z:St}{H:Hp}{s:ak}{a:ae}{y v:V}{u r:aa}{o:Option V}{A:aB}{E:Zb}
def Inv.big(I:Inv X pins Z H s):bD<s.heap.objs.size:=by
 have h:au<s.heap.objs.size:=(I.mod.glob.keeps I.bk).lt;exact Rx (by decide) h
def d_getItem(hu:A.units+1<bz)(I:Inv X pins Z H s)(g:DGet H a y (some v))(ry:Ah y u)(h:∀w' s',Inv X pins Z H s'->Ah v w'->Q w' s'):
  aj (ai X.prog X.w) A (bU (.ref a) u) Q E s:=by
 rcases g with ⟨kvs,k,e,ey,l⟩ | ⟨kvs,k,b,e,ey,eb,l⟩
 ·subst ey;obtain⟨z,hd,vs,dX,dd⟩:=Fq I.hok e;obtain⟨w',hw,jx⟩:=Cs.some_of (v:=v) (o:=eL vs k) (by rw[l];exact dX.val k);exact wpAny_getItem_of (Ga ry) dd.mapOf hw (h w' _ (I.tok _) jx)
 ·subst ey;cases (show u=aa.ref b from ry);obtain⟨z,hd,xs,dX,dd⟩:=Gb I.hok e;obtain⟨w',hw,jx⟩:=Cs.some_of (v:=v) (o:=(fZ xs k).map (·.2)) (by rw[l];exact dX.val k);obtain⟨p,hp,mT⟩:=Sr.mp hw;refine wpAny_getItem_heap (c9 hu) (Hh I.hok eb) dd hp ?_;rw[mT];exact h w' _ (I.tok _) jx
def Xhz(hu:A.units+1<bz)(I:Inv X pins Z H s)(g:DGet H a y o)(ry:Ah y u)(h:∀s',Inv X pins Z H s'->Q (.bool (!o.isSome)) s'):
  aj (ai X.prog X.w) A (aJ .NotIn u (.ref a)) Q E s:=by
 rcases g with ⟨kvs,k,e,ey,l⟩ | ⟨kvs,k,b,e,ey,eb,l⟩
 ·subst ey;obtain⟨z,hd,vs,dX,dd⟩:=Fq I.hok e;refine wpAny_notIn_of (Ga ry) hd dd.mapOf ?_;rw[<-(dX.val k).isSome_eq,<-l];exact h _ (I.tok _)
 ·subst ey;cases (show u=aa.ref b from ry);obtain⟨z,hd,xs,dX,dd⟩:=Gb I.hok e;refine wpAny_notIn_heap (c9 hu) (Hh I.hok eb) hd dd ?_;have q:=(dX.val k).isSome_eq;rw[Option.isSome_map] at q;rw[<-q,<-l];exact h _ (I.tok _)
def L6   (I:Inv X pins Z H s) (mu:Mut (H a)) (hs:ar.SameBut a s.heap h') (he:∃q,h'.get? a=some q) (new:A3 X.prog X.w (upd H a ob) h' a ob):
  Inv X pins Z (upd H a ob) {s with heap:=h',toks:=t'}:=
 I.write (x:=a) (e:=a) mu (.inl rfl) (λb q hb z=>(hs.2 b hb).trans z) he new
def Xbj      (z:kvs.length<=sizeLine) (hd:(a==bD)=false) (dX:KV kvs vs) (dd:h'.DictOf (Bf P w) a vs):
  A3 P w H' h' a (.dK kvs):=⟨z,hd,vs,dX,dd⟩
def Xh0  (hu:A.units+1<bz) (I:Inv X pins Z H s) (g:DPut H a y v H') (ry:Ah y u) (rv:Ah v r) (h:∀s',Inv X pins Z H' s'->Q () s'):
  aj (ai X.prog X.w) A (u8 (.ref a) u r) Q E s:=by
 rcases g with ⟨kvs,k,e,ey,l,eH⟩ | ⟨kvs,k,b,e,ey,eb,l,eH⟩
 ·subst ey eH;obtain⟨z,hd,vs,dX,dd⟩:=Xbi I.hok e;have hz:vs.length<=sizeLine:=by rw[<-dX.length];exact z
  have hl:(Bj kvs k v).length<=sizeLine:=by have:=Jq kvs k v;lia
  refine wpAny_setItem_pairs (hsz:=hz) (Ga ry) dd λh' mU hs=>h _ ?_;have he:∃q,h'.get? a=some q:=let ⟨q,_,_,hq,_⟩:=mU; ⟨q,hq⟩;exact L6 I (by rw[e];exact True.intro) hs he (Xbj hl hd (dX.put k rv) mU)
 ·subst ey eH;cases (show u=aa.ref b from ry);obtain⟨z,hd,xs,dX,dd⟩:=Xhy I.hok e;have hz:xs.length<=sizeLine:=by rw[<-Paired.length dX];exact z
  have hl:(Bj kvs k v).length<=sizeLine:=by have:=Jq kvs k v;lia
  refine wpAny_setItem_heap (hsz:=hz) (c9 hu) (Hh I.hok eb) dd λh' mU hs=>h _ ?_;obtain⟨q,es,ep,hq,h2,h3,h4,_,h5⟩:=mU;refine L6 I (by rw[e];exact True.intro) hs ⟨q,hq⟩ ⟨hl,hd,_,(dX.put k eb rv).keeps λc ys ec=>?_,q,es,ep,hq,h2,h3,h4,h5⟩;rw[Ad (Xaa ec e (λz=>nomatch z))];exact ec
end
section
variable {X:Cx}{pins:List (ae×aU)}{Z:St}{H:Hp}{s:ak}{a:ae}{kvs:List (Key×V)}{k:Key}{u:aa}{A:aB}{E:Zb}
end
def Xbk (i:aL):Prop:=∀ov iv,subscripted i false ov iv=operate [ov,iv] (bU ov iv)
def Xh1         {T id} (hl:kP (.type T) "__getitem__" = pure (some (.builtin id))) (hs:Xbk slice)
  (h:aj (ai prog w) A (eval value env) (λo s₁=>aj (ai prog w) A (eval slice env) (λi s₂=>s₂.TypeIs o T/\aj (ai prog w) A (bU o i) Q E s₂) E s₁) E s):
  aj (ai prog w) A (eval (.Subscript value slice pos) env) Q E s:=by
 refine dO (aN h (λo s₁ h₁=>aN h₁ (λi s₂ h₂=>?_) λ_ _ x=>x) λ_ _ x=>x);obtain⟨hT,h₂⟩:=h₂;unfold ia;refine Tz ?_;rw[getitemInPython_of_ne hT.not_modules];refine Tz (oI hT hl ?_);have fin:aj (ai prog w) A (subscripted slice false o i) (λr s₃=>aj (ai prog w) A (letTemporaryGo value o r >>= λ_=>pure r) Q E s₃) E s₂:=by
  rw[hs o i];exact wpAny_operating (aN h₂ (λr s₃ h₃=>Tz (wpAny_letTemporaryGo (T0 h₃))) λ_ _ x=>x)
 first
  | exact T0 (Tz fin)
  | exact Tz (T0 (Tz fin))
  | exact Tz fin
def Xh2        (I:Inv X pins Z H s) (g:DGet H a y o):s.TypeIs (.ref a) "dict" := by
 rcases g with ⟨kvs,k,e,_,_⟩ | ⟨kvs,k,b,e,_,_,_⟩
 ·obtain⟨_,_,vs,_,dd⟩:=Fq I.hok e;exact dd.typeIs
 ·obtain⟨_,_,xs,_,dd⟩:=Gb I.hok e;exact dd.typeIs
def Xh3 (td ty:TE):TE:=fun Z H Q=>td Z H λx H1=>ty Z H1 λy H2=>∃a v,x = .ref a/\DGet H2 a y (some v)/\Q v H2
def tDIn (ty td:TE):TE:=fun Z H Q=>ty Z H λy H1=>td Z H1 λx H2=>∃a o,x = .ref a/\DGet H2 a y o/\Q (.bl o.isSome) H2
def Xh4 (ty td:TE):TE:=fun Z H Q=>ty Z H λy H1=>td Z H1 λx H2=>∃a o,x = .ref a/\DGet H2 a y o/\Q (.bl (!o.isSome)) H2
def Xh5 (td ty tv:TE):TS:=λD Z H=>tv Z H λv H1=>td Z H1 λx H2=>ty Z H2 λy H3=>∃a H4,x = .ref a/\DPut H3 a y v H4/\D.nx Z H4
def sDAug (td ty tv:TE) (rd:V->V->Hp->VK->Prop):TS:=λD Z H=>td Z H λx H1=>ty Z H1 λy H2=>∃a v,x = .ref a/\DGet H2 a y (some v) /\
 tv Z H2 λy2 H3=>rd v y2 H3 λz H4=>∃H5,DPut H4 a y z H5/\D.nx Z H5
def sDDel (td ty:TE):TS:=λD Z H=>td Z H λx H1=>ty Z H1 λy H2=>∃a kvs k,x = .ref a/\H2 a=some (.dK kvs)/\y=kV k/\(Av kvs k).isSome=true/\D.nx Z (upd H2 a (.dK (Xbd kvs k)))
section
variable {X:Cx}{o i e value:aL}{pos js uE:cN}{td ty tv:TE}
def Cu(hu:X.A.units+1<bz)(ho:PE X o td)(hi:PE X i ty)(hs:Xbk i):PE X (.Subscript o i pos) (Xh3 td ty):=by
 intro pins s Z H Q I h;refine Xh1 PySem.F.slot_dict_getitem.lookup hs (thn (ho pins s Z H _ I h) λu s1 ⟨x,H1,I1,rx,q1⟩=>thn (hi pins s1 Z H1 _ I1 q1) λiv s2 ⟨y,H2,I2,ry,a,v,ex,g,q2⟩=>?_);subst ex;obtain rfl:u=aa.ref a:=rx;exact⟨Xh2 I2 g,d_getItem hu I2 g ry λw' s3 I3 jx=>⟨v,H2,I3,jx,q2⟩⟩
def Xh6(hu:X.A.units+1<bz)(hi:PE X i ty)(ho:PE X o td):PC X .NotIn i o (Xh4 ty td):=by
 intro pins s Z H Q I h;refine thn (hi pins s Z H _ I h) λiv s1 ⟨y,H1,I1,ry,q1⟩=>thn (ho pins s1 Z H1 _ I1 q1) λu s2 ⟨x,H2,I2,rx,a,ov,ex,g,q2⟩=>?_;subst ex;obtain rfl:u=aa.ref a:=rx;exact Xhz hu I2 g ry λs3 I3=>⟨.bl (!ov.isSome),H2,I3,rfl,q2⟩
def Xh7(hu:X.A.units+1<bz)(ho:PE X o td)(hi:PE X i ty)(hv:PE X value tv)(hs:dy value (some (.Subscript o i js)) pos.line X.env=pure false):
  PS X (.Assign [.Subscript o i js] value pos) (Xh5 td ty tv):=by
 intro pins s Z H D I h;refine wpAny_Assign_Subscript (thn (hv pins s Z H _ I h) λr s1 ⟨v,H1,I1,rv,q1⟩=>thn (ho pins s1 Z H1 _ I1 q1) λu s2 ⟨x,H2,I2,rx,q2⟩=>thn (hi pins s2 Z H2 _ I2 q2) λiv s3 ⟨y,H3,I3,ry,a,H4,ex,g,q3⟩=>?_) hs;subst ex;obtain rfl:u=aa.ref a:=rx;exact Xh0 hu I3 g ry rv λs4 I4=>⟨Z,H4,I4,q3⟩
end
def Xbl   (h:ar) (hb:bD<h.objs.size):A3 P w H (h.push {cls:=.type "dict",data:=.dict #[]}) h.objs.size (.dK []):=
 ⟨Px _,beq_eq_false_iff_ne.mpr (Ne.symm (O6 hb)),[],.nil,ar.DictOf.new h⟩
def Xh8:TE:=λ_ H Q=>∀p,H p=none->Q (.ref p) (upd H p (.dK []))
section
variable {X:Cx}{pos:cN}
def Xh9:PE X (.Dict [] [] pos) Xh8:=λpins s Z H Q I h=>
 wpAny_Dict_empty ⟨.ref s.heap.objs.size,_,I.laid (a:=s.heap.objs.size) (o:=.dK []) (t':=s.toks) (λ_ _ q=>Ud _ q) (Oy _) (Xbl s.heap I.big),rfl,h _ (I.hok.fresh (Oy _))⟩
end
def Xbm:List (TE×TE)->St->Hp->(List (V×V)->Hp->Prop)->Prop
 | [],_,H,Q=>Q [] H
 | (tk,tv)::r, Z,H,Q=>tk Z H λx H1=>tv Z H1 λy H2=>Xbm r Z H2 λps H3=>Q ((x,y)::ps) H3
def Xia (kvs bS:List (Key×V)):List (Key×V):=bS.foldl (λacc kv=>Bj acc kv.1 kv.2) kvs
def tDisp (As:List (TE×TE)):TE:=fun Z H Q=>∀p,H p=none->Xbm As Z (upd H p (.dK [])) λps H2=>H2 p=some (.dK [])/\∃kvs:List (Key×V),ps=kvs.map (λkv=>(kV kv.1,kv.2))/\kvs.length<=15/\Q (.ref p) (upd H2 p (.dK (Xia [] kvs)))
structure M1 (X:Cx) (o:aL) (m:aq) (d9:cN) (e:aL) (bJ:cN):Prop where
 base:dI o m X.env (eval o X.env)=eval o X.env
 few:((bw bJ (az [e] X.env)).all (λx => !x.1)&&(c8 bJ (bE [] X.env)).all (λx=>x.1.isSome)
  && decide (([e]:List aL).length+([]:List cH).length+(if ([]:List cH).isEmpty then 0 else 1)<30))=true
 line:(d9.endLine==bJ.line)=true
 trees:bw bJ (az [e] X.env)=[(false,eval e X.env)]
structure M2 (X:Cx) (o:aL) (m:aq) (d9:cN) (e f:aL) (bJ:cN):Prop where
 base:dI o m X.env (eval o X.env)=eval o X.env
 few:((bw bJ (az [e,f] X.env)).all (λx => !x.1)&&(c8 bJ (bE [] X.env)).all (λx=>x.1.isSome)
  && decide (([e,f]:List aL).length+([]:List cH).length+(if ([]:List cH).isEmpty then 0 else 1)<30))=true
 line:(d9.endLine==bJ.line)=true
 trees:bw bJ (az [e,f] X.env)=[(false,eval e X.env),(false,eval f X.env)]
def IsD (H:Hp) (a:ae):Prop:=(∃kvs,Rd H a (.dK kvs)) \/ ∃kvs,Rd H a (.dT kvs)
def Xib      (I:Inv X pins Z H s) (d:IsD H a):
  s.TypeIs (.ref a) "dict" /\ (∀b,aa.ref a = .ref b->∃ob,s.heap.get? b=some ob/\ob.dict=none)/\(a==bD)=false:=by
 rcases d with ⟨kvs,e⟩ | ⟨kvs,e⟩
 ·obtain⟨_,hd,vs,_,dd⟩:=Fq I.hok e;refine⟨dd.typeIs,λb q=>?_,hd⟩;cases q;obtain⟨ob,_,_,h1,h2,_⟩:=dd;exact⟨ob,h1,h2.2.1⟩
 ·obtain⟨_,hd,xs,_,dd⟩:=Gb I.hok e;refine⟨dd.typeIs,λb q=>?_,hd⟩;cases q;obtain⟨ob,_,_,h1,h2,_⟩:=dd;exact⟨ob,h1,h2.2.1⟩
section
variable {X:Cx}{pins:List (ae×aU)}{Z:St}{H:Hp}{s:ak}{a:ae}{y d:V}{u r:aa}{o:Option V}{A:aB}{E:Zb}
def Xic(hu:A.units+1<bz)(I:Inv X pins Z H s)(g:DGet H a y o)(ry:Ah y u)(rd:Ah d r)(h:∀w' s',Inv X pins Z H s'->Ah (o.getD d) w'->Q w' s'):
  aj (ai X.prog X.w) A (call (.builtin "dict.get") [.ref a,u,r]) Q E s:=by
 rcases g with ⟨kvs,k,e,ey,l⟩ | ⟨kvs,k,b,e,ey,eb,l⟩
 ·subst ey;obtain⟨z,hd,vs,dX,dd⟩:=Fq I.hok e;refine uJ PySem.F.slot_dict_get dd.typeIs PySem.F.entry_dict_get (PySem.F.args_dict_get_3 _ _ _) (meets_dict_get_default (Bf X.prog X.w) a (Ga ry) hd r) ⟨_,dd.mapOf,h _ _ (I.tok _) ?_⟩;rw[l];exact(dX.val k).getD rd
 ·subst ey;cases (show u=aa.ref b from ry);obtain⟨z,hd,xs,dX,dd⟩:=Gb I.hok e;refine uJ PySem.F.slot_dict_get dd.typeIs PySem.F.entry_dict_get (PySem.F.args_dict_get_3 _ _ _) (meetsH_dict_get_default (dw (Bf X.prog X.w)) a b hd r) ⟨c9 hu,k,xs,Hh I.hok eb,dd,h _ _ (I.tok _) ?_⟩;rw[l];exact(dX.val k).getD rd
end
def Xid (td ty tx:TE):TE:=fun Z H Q=>td Z H λx H1=>∃a,x = .ref a/\IsD H1 a/\ty Z H1 λy H2=>tx Z H2 λz H3=>∃o,DGet H3 a y o/\Q (o.getD z) H3
def Xq4 (td ty:TE):TE:=fun Z H Q=>td Z H λx H1=>∃a,x = .ref a/\IsD H1 a/\ty Z H1 λy H2=>∃kvs k v,H2 a=some (.dK kvs)/\y=kV k/\Av kvs k=some v/\Q v (upd H2 a (.dK (Xbd kvs k)))
section
variable {X:Cx}{o e f:aL}{d9 bJ:cN}{td ty tx:TE}
def Xie(hu:X.A.units+1<bz)(ho:PE X o td)(he:PE X e ty)(hf:PE X f tx)(m:M2 X o "get" d9 e f bJ):PE X (.Call (.Attribute o "get" d9) [e,f] [] bJ) (Xid td ty tx):=by
 intro pins s Z H Q I h;refine wpAny_Call_method m.base m.few m.line PySem.F.plainAttrs_dict PySem.F.slot_dict_get PySem.F.type_dict_get (thn (ho pins s Z H _ I h) λu s1 ⟨x,H1,I1,rx,a,ex,d,q1⟩=>?_);subst ex;obtain rfl:u=aa.ref a:=rx;obtain⟨t1,t2,_⟩:=Xib I1 d;refine⟨t1,t2,?_⟩;rw[m.trees];refine Calls.callWith_builtin rfl (Calls.evalArgs_plain (Calls.spliced_cons (thn (he pins s1 Z H1 _ I1 q1) λiv s2 ⟨y,H2,I2,ry,q2⟩=>
  Calls.spliced_cons (thn (hf pins s2 Z H2 _ I2 q2) λfv s3 ⟨z,H3,I3,rz,ov,g,q3⟩=>Calls.spliced_nil ?_))))
 exact Xic hu I3 g ry rz λw' s4 I4 jx=>⟨_,H3,I4,jx,q3⟩
end
section
variable {X:Cx}{pins:List (ae×aU)}{Z:St}{H:Hp}{s:ak}{a:ae}{kvs:List (Key×V)}{A:aB}{E:Zb}
end
section
variable {X:Cx}{pins:List (ae×aU)}{Z:St}{H:Hp}{s:ak}{a:ae}{y:V}{u:aa}{A:aB}{E:Zb}
end
end L2
namespace Att
open PySem PySem.W PySem.Calls PyProof.Rows
def Xif  : ∀ns vs,WellAll P h vs (ns.map WData.int)->iQ vs ns:=by
 intro ns
 induction ns with
 | nil=>
  intro vs w;rw[List.map_nil] at w;cases w;exact .nil
 | cons n ns ih=>
  intro vs w;rw[Pw] at w;cases w with
  | cons a b=>
   cases a;exact .cons _ _ (ih _ b)
def Xig{l:OpenLaw}  (hn:l.most=some n)    (kW:l.row.toRowW.claim.pre args=true)(qf:WellAll P h qg args):
  ∃a vs ns,qg=[aa.ref a]/\args=[WData.list (ns.map WData.int)]/\h.get? a=some {cls:=.type "list",data:=.seq vs.toArray}/\iQ vs ns/\ns.length<=n:=by
 have At:WShape.hasAll [] args [.list .int]=true:=(pre_splitW kW).1;have hc:l.pre.holds [] {args:=args}=true:=(pre_splitW kW).2;obtain⟨d,r,rfl,h1,h2⟩:=hasAllW_cons At;obtain rfl:=hasAllW_nil h2;obtain⟨xs,rfl,h3⟩:=hasW_list h1;obtain⟨ns,rfl⟩:=items_int h3;have aO:ns.length<=n:=by
  unfold OpenLaw.pre at hc;have h4:(WTm.not (.lt (.lit (.int (n:Int))) (.len (.arg 0)))).holds [] {args:=[.list (ns.map .int)]}=true:=by
   have h4:=(holds_andW hc).1;rw[hn] at h4;exact h4
  have h5:=condW_of h4 (w_not (w_lt w_lit (w_len_list (w_arg rfl))));rw[Ow] at h5;refine Nat.le_of_not_lt λq=>?_;have q':(n:Int)<((ns.length:Nat):Int):=by lia
  first
   | (rw[T8 q'] at h5;exact absurd h5 (by decide))
   | (simp at h5;lia)
 cases qf with
 | cons w1 w2=>
  cases w2;cases w1 with
  | list ho c6=>exact⟨_,_,ns,rfl,rfl,ho,Xif ns _ c6,aO⟩
def Xih(l:OpenLaw)(args):l.row.toRowW.claim.post args (.bool true) args=true:=
 postW_of (r:=l.row.toRowW) (X:=(true==true))
  (show WShape.has [] (.bool true) .bool=true by first | rfl | decide | simp[WShape.has,WShape.arms,WShape.armsAll])
  (show (WTm.eq .res (.lit (.bool true))).value [] {args:=args,res:=some (.bool true),after:=args}=some (.bool (true==true)) from w_eq_bool (w_res rfl) w_lit) rfl
def attach_call{l:OpenLaw}      (hn:l.most=some n)(qh:d.params.defaults=[])
  (call:∀(w:a8) (s₀ s₁ : ak) (mg mb:aq->Option aa) (fa:ae) (o:aU) (pm cd cZ:aa) (a:ae) (vs:List aa) (ns:List Int),
   Ground q loose [] XP w s₀ mg mb s₁.heap->YP w s₁.heap ->
   s₁.heap.get? fa=some o->o.data = .func (docDef d.name d.params d.body d.scope pm cd cZ)->s₁.heap.CodeRec cd d.name->mg d.name=some (.ref fa) ->
   s₁.heap.get? a=some {cls:=.type "list",data:=.seq vs.toArray}->iQ vs ns->ns.length<=n->s₁.gens = #[] ->
   br (ai l.prog w) eM (.call (.ref fa) ⟨[.ref a],[]⟩) (λr s'=>r = .ok (.ret (.bool true))/\AA s₁.heap s'.heap/\s'.os=s₁.os/\cF s'.gens) s₁):
  WalkO q loose XP YP l.row.toRowW d [] (λf vs=>PySem.call f vs):=by
 intro w s₀ s₁ mg mb G Y fa o pm cd cZ dV kV ho hd gN hD hmg hg args qg as kW qi IQ qf iG;obtain rfl:dV = .none:=Dflts.none hD qh;obtain rfl:kV = .none:=Dflts.noKw hD;obtain⟨a,vs,ns,rfl,rfl,mV,j4,aO⟩:=Xig hn kW qf;refine enter_call (bh (call w s₀ s₁ mg mb fa o pm cd cZ a vs ns G Y ho (fd_plain hd) gN hmg mV j4 aO hg) λr s' hq=>?_);obtain⟨rfl,h2,h3,h4⟩:=hq;exact⟨.inl ⟨.bool true,.bool true,[],rfl,λ_=>rfl,.bool true,Xih l _,λ_=>⟨List.Pairwise.nil,λ_ hm=>(nomatch hm)⟩⟩,h2,h3,h4⟩
section
variable {prog:av}{w:a8}{A:aB}{E:Zb}{s:ak}{K:Frag}
def ledger (h:ar) (L d:ae):List (ae×aU):=(List.range h.objs.size).filterMap λa=>if a=L\/a=d then none else (h.get? a).map λo=>(a,o)
end
end Att
namespace L2
theorem Xbn:∀{vs:List aa} {ns:List Int},iQ vs ns->Vals (ns.map V.int) vs
 | _,_,.nil=>.nil
 | _,_,.cons n t h=>.cons ⟨t,rfl⟩ (Xbn h)
def Only (H:Hp):Prop:=∀b,H b=none \/ ∃o xs,H b=some (.frz o (.lst xs))
abbrev KOf {K:KQ} {h:ar} (_:K.In h):KQ:=K
def Xq5 (s:aV) (j:Nat):aV:=match s with
 | .ClassDef _ _ _ body _ _ _ _ _ _ _=>body.getD j (.Pass ⟨0,0,0,0⟩)
 | _=>.Pass ⟨0,0,0,0⟩
def Ec (s:aV):mW:=match s with
 | .FunctionDef _ a _ _ _ _ _ _ _ _=>a
 | _=>{posonlyargs:=[],args:=[],vararg:=none,kwonlyargs:=[],kw_defaults:=[],kwarg:=none,defaults:=[]}
def Cv (s:aV):List aV:=match s with
 | .FunctionDef _ _ b _ _ _ _ _ _ _=>b
 | _=>[]
def defScope (s:aV):cx:=match s with
 | .FunctionDef _ _ _ _ _ _ sc _ _ _=>sc
 | _=>{kind:=.function,names:=[],isGenerator:=false,isCoroutine:=false}
abbrev CX0:CXT:=λ_ _ _ _ _ _=>False
abbrev E0:XK:=λ_ _ _=>False
def Am:Passes CX0 X E0:=λ_ _ _ _ _ _ _ h=>h.elim
structure Fun (K:KQ) (x qual:aq) (st:aV) (f:ae) (fd:bK):Prop where
 ex:∃(oc:aa) (od:Option ae) (kV cZ pm:aa) (an:Option ae) (cdv ct:aa) (iE:Array (Option aa)),
  fd=LD x qual (Ec st) (Cv st) (defScope st) .none kV cZ pm an cdv ct/\K.lookup f=some ⟨oc,od,.func fd,iE⟩/\LG K cdv qual=true
 kp:KU K (.ref f)=true
section
variable {P:av}{w:a8}{K:KQ}{mg:aq->Option aa}{base:ar}
def Fun.ok{x qual}{st}  {fd}   (F:Fun K x qual st f fd)(S:FnScope N ps (defScope st))(len:∀vs H Q E,sp vs H Q E->vs.length=ps.length)
  (er:∀(cdv:aa) (A:aB) (outer:List eV) (s:ak) (H:Hp) (vs:List V) (Q:VK) (E:XK),Room k (A.deeper (aM qual (defScope st) s.heap.objs.size f cdv))->sp vs H Q E ->
   ∃t,PSs (Cp CX0 P w K mg base N qual (defScope st) f cdv A outer s H E).nox (Cv st) t/\t {nx:=λ_ H'=>Q .non H',rt:=Q} (start N vs) H):FnOk P w K mg base CX0 (k+1) f fd ps sp:=by
 obtain⟨oc,od,kV,cZ,pm,an,cdv,ct,iE,rfl,lk,gN⟩:=F.ex;refine Lu lk gN S len λA outer s H vs Q E hr gO=>?_;obtain⟨t,h,q⟩:=er cdv A outer s H vs Q E hr gO;exact⟨t,h.nox,q⟩
def Fun.binds  {st}   (F:Fun K x qual st f fd)
  (h:∀(kV cZ pm:aa) (an:Option ae) (cdv ct:aa) (us:List aa),us.length=ps.length->el (LD x qual (Ec st) (Cv st) (defScope st) .none kV cZ pm an cdv ct) ⟨us,[]⟩=pure (ps.zip us)):Binds K fd ps []:=by
 obtain⟨oc,od,kV,cZ,pm,an,cdv,ct,iE,rfl,lk,gN⟩:=F.ex;exact .all (h kV cZ pm an cdv ct)
def Xbo  {st}    {kV cZ pm cdv ct} (l:K.lookup f=some ⟨oc,od,.func (LD x qual (Ec st) (Cv st) (defScope st) .none kV cZ pm an cdv ct),iE⟩)
  (c:LG K cdv qual=true) (k:KU K (.ref f)=true):Fun K x qual st f (LD x qual (Ec st) (Cv st) (defScope st) .none kV cZ pm an cdv ct):=⟨⟨oc,od,kV,cZ,pm,an,cdv,ct,iE,rfl,l,c⟩,k⟩
end
def Ed  (hr:Room k A):A.units+1<bz:=Te (Nat.add_le_add_left (by decide:1<=64) _) hr.units
section
variable {X:Cx}
def pv(i:Nat)  (hN:X.N[i]? = some x:=by rfl)(hv:Vis X.env.scope x:=by first | exact Or.inl rfl | exact Or.inr (.inl rfl) | exact Or.inr (.inr rfl))(hd:(x==("__debug__" : aq))=false:=by decide)
  (gN:(x==("__classdict__" : aq))=false:=by decide):PE X (.Name x pos) (Co i):=Xgy hN hv hd gN
end
def Bz{A B:Prop}(h:B):if false=true then A else B:=by
 rw[T6 Pe];exact h
def Cb{A B:Prop}(h:A):if true=true then A else B:=by
 rw[T7 rfl];exact h
def Xii{c A B:Prop}[Decidable c](hc:c)(h:B):if (!decide c)=true then A else B:=by
 rw[T8 hc];exact Bz h
def Same (H H':Hp):Prop:=∀b o,H b=some o->H' b=some o
def Same.refl(H):Same H H:=λ_ _ h=>h
def Same.trans(a:Same H H1)(b:Same H1 H2):Same H H2:=λc o h=>b c o (a c o h)
def Same.free  (e:Same H H') (h:H' l=Option.none):H l=Option.none:=by
 cases q:H l with
 | none=>rfl
 | some o=>
  rw[e l o q] at h;cases h
def Same.seq{K}   (e:Same H H')(h:SqL K H a xs):SqL K H' a xs:=by
 rcases h with (h | ⟨o,h⟩) | h
 ·exact .inl (.inl (e _ _ h))
 ·exact .inl (.inr ⟨o,e _ _ h⟩)
 ·exact .inr h
section
variable {X:Cx}
end
section
variable {κ : Type} [DecidableEq κ]
def Xij{k : κ}(h:Av kvs k=none):¬k∈kvs.map (·.1):=by
 intro m;obtain⟨p,hp,e⟩:=Pq.mp m;have q:(kvs.any λkv=>decide (kv.1=k))=true:=Rm.mpr ⟨p,hp,T8 e⟩;rw[Et,h] at q;exact absurd q (by simp)
def Hi  {k : κ} (h:Av kvs k=some v):k∈kvs.map (·.1):=by
 have q:(kvs.any λkv=>decide (kv.1=k))=true:=by
  rw[Et,h]
  all_goals rfl
 obtain⟨p,hp,e⟩:=Rm.mp q;exact Pq.mpr ⟨p,hp,Ua e⟩
theorem nd_snoc:∀{l:List κ} {k : κ},l.Nodup->¬k∈l->(l++[k]).Nodup
 | [],k,_,_=>by simp
 | a::r,k,h,hk=>by
  obtain⟨h1,h2⟩:=Qn.mp h;show (a::(r++[k])).Nodup;refine Qn.mpr ⟨λm=>?_,nd_snoc h2 λm=>hk (Ph.mpr (Or.inr m))⟩;rcases O5.mp m with q | q
  ·exact h1 q
  ·exact hk (Ph.mpr (Or.inl (Oz.mp q).symm))
def Xik{k : κ}(v)(hn:(kvs.map (·.1)).Nodup)(h:Av kvs k=none):((Bj kvs k v).map (·.1)).Nodup:=by
 rw[Jr v h,O9];exact nd_snoc hn (Xij h)
end
def Cj (env:eV):List (aq×aI)->List (aq×ae)->List (aq×ae)
 | [],cs=>cs
 | (n,k)::r,cs=>if k == .free then Cj env r ((n,(env.cells.lookup n).getD 0)::cs) else Cj env r cs
theorem L7:∀names cs,(∀x∈names,x.2 = .free->∃c,env.cells.lookup x.1=some c) ->
  (forIn names cs fun (x : aq × aI) r => (if (x.2 == .free) = true then do        let c <- qj env x.1; pure (ForInStep.yield ((x.1, c) :: r)) else pure (ForInStep.yield r) : f8 (ForInStep (List (aq × ae))))) = pure (Cj env names cs)
 | [],cs,_=>rfl
 | (n,k)::r,cs,h=>by
  rw[S7];cases hk:(k==aI.free) with
  | true=>
   have gQ:k = .free:=by simpa using hk
   obtain⟨c,hc⟩:=h (n,k) O3 gQ;have e1:qj env n=pure c:=by unfold qj;rw[hc]
   simp only[hk,if_true,e1,pure_bind];rw[L7 r _ λx hx=>h x (O4 _ hx)];show _=pure (if (k==aI.free)=true then _ else _);rw[hk,T7 rfl,hc];rfl
  | false=>
   simp only[hk,Pt,if_false,pure_bind];rw[L7 r _ λx hx=>h x (O4 _ hx)];show _=pure (if (k==aI.free)=true then _ else _);rw[hk,T6 Pe]
def Xbp  (h:∀x∈scope.names,x.2 = .free->∃c,env.cells.lookup x.1=some c):kX scope env=pure (Cj env scope.names []):=by
 have e:=L7 scope.names [] h
 have q : kX scope env = (forIn scope.names [] fun (x : aq × aI) r => (if (x.2 == .free) = true then do                let c <- qj env x.1; pure (ForInStep.yield ((x.1, c) :: r)) else pure (ForInStep.yield r) : f8 (ForInStep (List (aq × ae))))) >>= fun cs => pure cs := rfl
 rw[q,e];rfl
theorem L8   : ∀names cs,(∀x∈names,x.2 = .free->∃c,env.cells.lookup x.1=some c) ->
  (Cj env names cs).lookup x=some c->cs.lookup x=some c\/env.cells.lookup x=some c
 | [],cs,_,h=>.inl h
 | (n,k)::r,cs,hf,h=>by
  unfold Cj at h;split at h
  ·rename_i hk;rcases L8 r _ (λx hx=>hf x (O4 _ hx)) h with q | q
   ·rw[Qf] at q;split at q
    ·rename_i e;have e':x=n:=by simpa using e
     subst e';obtain⟨c',hc⟩:=hf (x,k) O3 (by simpa using hk);have tw:env.cells.lookup x=some c':=hc;rw[tw] at q ⊢;exact .inr q
    ·exact .inl q
   ·exact .inr q
  ·exact L8 r _ (λx hx=>hf x (O4 _ hx)) h
theorem L9  : ∀names cs,((cs.lookup x).isSome=true\/(x,aI.free)∈names)->((Cj env names cs).lookup x).isSome=true
 | [],cs,h=>by
  rcases h with h | h
  ·exact h
  ·cases h
 | (n,k)::r,cs,h=>by
  unfold Cj;split
  ·refine L9 r _ ?_;rw[Qf];rcases h with h | h
   ·left;split
    ·rfl
    ·exact h
   ·rcases Ph.mp h with e | h
    ·left;cases e;simp
    ·exact .inr h
  ·rename_i hk;refine L9 r _ ?_;rcases h with h | h
   ·exact .inl h
   ·rcases Ph.mp h with e | h
    ·cases e;exact absurd rfl hk
    ·exact .inr h
theorem Xbq{env:eV}{x:aq}{k':aI}:∀{names:List (aq×aI)},
  (names.map λ(n,k)=>if (k==aI.free&&env.scope.kind == .function&&env.kindOf n==some .cell) then (n,aI.cell) else (n,k)).lookup x=some k'->∃k,names.lookup x=some k/\(k'=k\/k = .free)
 | [],h=>by simp at h
 | (n,k)::r,h=>by
  have ih := @Xbq env x k' r;have h':List.lookup x ((if (k==aI.free&&env.scope.kind == .function&&env.kindOf n==some .cell)=true then (n,aI.cell) else (n,k))::_)=_:=h;rw[Qf];by_cases hc:(k==aI.free&&env.scope.kind == .function&&env.kindOf n==some .cell)=true
  ·rw[T7 hc,Qf] at h';cases hx:x==n with
   | true=>
    have hk:k = .free:=by
     simp only[Pa,beq_iff_eq] at hc;exact hc.1.1
    exact⟨k,rfl,.inr hk⟩
   | false=>
    rw[hx] at h';exact ih h'
  ·rw[T6 hc,Qf] at h';cases hx:x==n with
   | true=>
    rw[hx] at h';exact⟨k,rfl,.inl (Pd h').symm⟩
   | false=>
    rw[hx] at h';exact ih h'
theorem Ma:∀(names:List (aq×aI)) (h:ar) (acc:List (aq×ae)) (x:aq) (c:ae),(bH h.objs.size names acc).lookup x=some c ->
  (h.objs.size<=c/\(x,aI.cell)∈names/\(bP h names).IsCell c none)\/acc.lookup x=some c
 | [],_,_,_,_,e=>.inr e
 | (name,kind)::r,h,acc,x,c,e=>by
  unfold bH at e;unfold bP;by_cases hk:(kind==aI.cell)=true
  ·rw[T7 hk] at e ⊢;have gQ:kind = .cell:=by simpa using hk
   have sz:(h.push {cls:=.type "cell",data:=.cell none}).objs.size=h.objs.size+1:=ar.size_push ..;rw[<-sz] at e;rcases Ma r _ _ x c e with ⟨a1,a2,a3⟩ | a
   ·exact .inl ⟨by lia,O4 _ a2,a3⟩
   ·rw[Qf] at a;cases hx:x==name with
    | true=>
     rw[hx] at a;cases a;have:x=name:=by simpa using hx
     subst this;refine .inl ⟨Oy _,by rw[gQ];exact O3,?_⟩;exact⟨_,da r _ _ _ (ar.get?_push_size _ rfl),rfl⟩
    | false=>rw[hx] at a;exact .inr a
  ·rw[T6 hk] at e ⊢;rcases Ma r h acc x c e with ⟨a1,a2,a3⟩ | a
   ·exact .inl ⟨a1,O4 _ a2,a3⟩
   ·exact .inr a
theorem Mb:∀(names:List (aq×aI)) (n:Nat) (acc:List (aq×ae)),(∀x y c,acc.lookup x=some c->acc.lookup y=some c->x=y)->(∀x c,acc.lookup x=some c->c<n) ->
  ∀x y c,(bH n names acc).lookup x=some c->(bH n names acc).lookup y=some c->x=y
 | [],_,_,h,_=>h
 | (name,kind)::r,n,acc,h,hb=>by
  unfold bH;by_cases hk:(kind==aI.cell)=true
  ·rw[T7 hk];refine Mb r (n+1) _ (λx y c e1 e2=>?_) (λx c e=>?_)
   ·rw[Qf] at e1 e2;cases hx:x==name with
    | true=>
     cases hy:y==name with
     | true=>rw[beq_iff_eq.mp hx,beq_iff_eq.mp hy]
     | false=>
      rw[hx] at e1;rw[hy] at e2;cases e1;exact absurd (hb y _ e2) (Qg _)
    | false=>
     cases hy:y==name with
     | true=>
      rw[hx] at e1;rw[hy] at e2;cases e2;exact absurd (hb x _ e1) (Qg _)
     | false=>rw[hx] at e1;rw[hy] at e2;exact h x y c e1 e2
   ·rw[Qf] at e;cases hx:x==name with
    | true=>rw[hx] at e;cases e;exact Nat.lt_succ_self _
    | false=>rw[hx] at e;exact Qr (hb x c e)
  ·rw[T6 hk];exact Mb r n acc h hb
theorem Mc   : ∀names cs,(Cj env names cs).lookup x=some c->cs.lookup x=some c\/(x,aI.free)∈names
 | [],cs,h=>.inl h
 | (n,k)::r,cs,h=>by
  unfold Cj at h;split at h
  ·rename_i hk;have gQ:k = .free:=by simpa using hk
   rcases Mc r _ h with q | q
   ·rw[Qf] at q;cases hx:x==n with
    | true=>
     have:x=n:=by simpa using hx
     subst this;exact .inr (by rw[gQ];exact O3)
    | false=>rw[hx] at q;exact .inl q
   ·exact .inr (O4 _ q)
  ·rcases Mc r _ h with q | q
   ·exact .inl q
   ·exact .inr (O4 _ q)
def Xil          (h:Q (newEnv scope s.heap.objs.size globals (bH (s.heap.objs.size+1) scope.names kY) qual none .none (some outer) cQ) {s with heap:=bP (s.heap.push {cls:=.type "dict",data:=.dict #[]}) scope.names}):
  aj M A (gc scope globals kY [] qual none .none (some outer)) Q E s:=by
 simp only[gc,Td,if_true];refine Tz (j5 ?_);refine Tz (wpAny_layCells _ (λname kind cells=>by cases AB:kind==aI.cell<;>simp[AB]) _ _ _ _ ?_);rw[show ({s with heap:=s.heap.push {cls:=.type "dict",data:=.dict #[]} }:ak).heap.objs.size=s.heap.objs.size+1 from ar.size_push ..];refine Tz ?_;rw[Tj];exact T0 (T0 h)
def Hj (X:Cx) (scope:cx) (s0:ak):List (aq×ae):=bH (s0.heap.objs.size+1) scope.names (Cj X.env scope.names [])
def Cx.comp (X:Cx) (N:Za) (scope:cx) (s0:ak) (H0:Hp) (ex:List ae):Cx where
 prog:=X.prog
 w:=X.w
 K:=X.K
 mg:=X.mg
 base:=X.base
 A:=X.A
 N:=N
 s₀:=s0
 H₀:=H0
 env:=qk scope (Hj X scope s0) s0.heap.objs.size X.env
 outer:=X.stack
 stack:=X.stack
 ex:=ex
 fn:=λx=>decide (scope.names.lookup x=some .cell)
 calm:=X.calm
 pn:=[]
 xe:=λ_ _=>False
def Bu (cap:List (Option Nat)) (Z:St):St:=cap.map λo=>o.bind λj=>(Z[j]?).join
structure CompScope (X:Cx) (N:Za) (cap:List (Option Nat)) (scope:cx):Prop where
 kind:scope.kind = .function
 uniq:∀y∈scope.names,scope.names.lookup y.1=some y.2
 free:∀y∈scope.names,y.2 = .free->X.env.kindOf y.1=some .cell\/X.env.kindOf y.1=some .free
 len:cap.length=N.length
 cap:∀(i:Nat) (x:aq) (j:Nat),N[i]? = some x->cap[i]? = some (some j)->X.N[j]? = some x/\scope.names.lookup x=some .free
def PIfs (X:Cx) (cr:List aL) (t:TT):Prop:=
 ∀pins s Z H (Q:Bool->Hp->Prop),Inv X pins Z H s->t Z H Q ->
  aj (ai X.prog X.w) X.A (forIn cr true fun c r => if r = true then do        let ok <- isTrue c X.env (eval c X.env); pure (ForInStep.yield ok) else pure (ForInStep.yield r)) (TP X pins Z Q) X.xe s
def Fs:TT:=λ_ H Q=>Q true H
def C7:PIfs X [] Fs:=λ_ _ _ H _ I h=>wpAny_tests_nil ⟨H,I,h⟩
def Dj   (h:PT X c t):PIfs X [c] t:=λpins s Z H Q I hw=>wpAny_tests_one (h pins s Z H Q I hw)
def Ft (cap:List (Option Nat)) (g:TG) (tt:TT) (te:TE) (J:It) (Z:St) (H1:Hp) (F:ae->Hp->Prop):Prop:=
 ∀D,H1 D=none->∃W:Nat->Nat->St->Hp->Prop,(∃m,W 0 m (Bu cap Z) (upd H1 D (.lst [])))/\∀i m Z1 H2,W i m Z1 H2 ->
  (J.stop i H2/\F D H2)\/(J.go i H2/\∀x H3,J.yld i H2 x H3->g x Z1 H3 fun Z2 H4=>tt Z2 H4 λb H5=>
   if b=true then te Z2 H5 λy H6=>∃ys,H6 D=some (.lst ys)/\ys.length<sizeLine/\∃m',m'<m/\W (i+1) m' Z2 (upd H6 D (.lst (ys++[y])))
   else ∃m',m'<m/\W (i+1) m' Z2 H5)
theorem Xbr{env:eV}{x:aq}:∀{names:List (aq×aI)} {k:aI},names.lookup x=some k ->
  (names.map λ(n,k)=>if (k==aI.free&&env.scope.kind == .function&&env.kindOf n==some .cell) then (n,aI.cell) else (n,k)).lookup x=some (if (k==aI.free&&env.scope.kind == .function&&env.kindOf x==some .cell) then aI.cell else k)
 | [],_,h=>by simp at h
 | (n,q)::r,k,h=>by
  have ih := @Xbr env x r k;show List.lookup x ((if (q==aI.free&&env.scope.kind == .function&&env.kindOf n==some .cell)=true then (n,aI.cell) else (n,q))::_)=_;rw[Qf] at h;cases hx:x==n with
  | true=>
   rw[hx] at h;cases h;have:x=n:=by simpa using hx
   subst this;by_cases hc:(q==aI.free&&env.scope.kind == .function&&env.kindOf x==some .cell)=true
   ·rw[T7 hc,T7 hc,Qf,hx]
   ·rw[T6 hc,T6 hc,Qf,hx]
  | false=>
   rw[hx] at h;by_cases hc:(q==aI.free&&env.scope.kind == .function&&env.kindOf n==some .cell)=true
   ·rw[T7 hc,Qf,hx];exact ih h
   ·rw[T6 hc,Qf,hx];exact ih h
section
variable {X:Cx}{N:Za}{cap:List (Option Nat)}{scope:cx}{pins:List (ae×aU)}{Z:St}{H H':Hp}{s s':ak}{fp:List ae}
def Md(C:CompScope X N cap scope)(ok:X.Ok):∀x∈scope.names,x.2 = .free->∃c,X.env.cells.lookup x.1=some c:=λx hx hf=>ok.has x.1 (C.free x hx hf)
def Js(C:CompScope X N cap scope)(ok:X.Ok)  (h:(Cj X.env scope.names []).lookup x=some c):X.env.cells.lookup x=some c:=by
 rcases L8 scope.names [] (Md C ok) h with q | q
 ·simp at q
 ·exact q
def Xbs(C:CompScope X N cap scope)(ok:X.Ok)(h:scope.names.lookup x=some .free):∃c,(Cj X.env scope.names []).lookup x=some c:=
 Q9.mp (L9 scope.names [] (.inr (PySem.mem_of_lookup h)))
def Xbt(C:CompScope X N cap scope)(ok:X.Ok)  (hz:h.objs.size=s.heap.objs.size+1)  (e:(Hj X scope s).lookup x=some c):
  (s.heap.objs.size<c/\scope.names.lookup x=some .cell/\(bP h scope.names).IsCell c none)\/(scope.names.lookup x=some .free/\X.env.cells.lookup x=some c):=by
 unfold Hj at e;rw[<-hz] at e;rcases Ma scope.names h _ x c e with ⟨a1,a2,a3⟩ | a
 ·exact .inl ⟨by lia,C.uniq _ a2,a3⟩
 ·refine .inr ⟨?_,Js C ok a⟩;rcases Mc scope.names [] a with q | q
  ·simp at q
  ·exact C.uniq _ q
def Xim(C:CompScope X N cap scope)(I:Inv X pins Z H s)(hf:∀b∈fp,FpOk X pins H b)(gR:∀b∈fp,b<s.heap.objs.size){tk}:
  Inv (X.comp N scope s H fp) [] (Bu cap Z) H {s with heap:=bP (s.heap.push {cls:=.type "dict",data:=.dict #[]}) scope.names,toks:=tk}:=by
 have hC:H s.heap.objs.size=none:=I.hok.fresh (Oy _);have hz:(s.heap.push {cls:=.type "dict",data:=.dict #[]}).objs.size=s.heap.objs.size+1:=ar.size_push ..;have oJ:(bP (s.heap.push {cls:=.type "dict",data:=.dict #[]}) scope.names).Ns s.heap.objs.size λ_=>none:=(ar.Ns.new s.heap (.type "dict")).keeps (da _ _);have hk:∀b o,s.heap.get? b=some o->(bP (s.heap.push {cls:=.type "dict",data:=.dict #[]}) scope.names).get? b=some o:=λb o e=>da _ _ b o (Ud _ e);have look:∀{x c},(X.comp N scope s H fp).env.cells.lookup x=some c->_:=λ{x c} h=>Xbt (s:=s) C I.ok hz h;have AC:∀x c,X.env.cells.lookup x=some c->c<s.heap.objs.size:=λx c h=>by
  obtain⟨v,q⟩:=I.cell x c h;exact q.lt
 have kind:∀x k,(relabel scope X.env).names.lookup x=some k->k = .cell\/k = .free->scope.names.lookup x=some .cell\/scope.names.lookup x=some .free:=λx k e hk=>by
  obtain⟨k0,e0,z⟩:=Xbq e;rcases z with z | z
  ·rw[<-z] at e0;rcases hk with q | q
   ·rw[q] at e0;exact .inl e0
   ·rw[q] at e0;exact .inr e0
  ·rw[z] at e0;exact .inr e0
 refine⟨⟨I.ok.mod,C.kind,I.ok.glob,I.ok.blt,Oy _,?inj,λx hx=>?has,λx c h e=>?cab,I.ok.hd,I.ok.frames,.inl rfl,λb hb=>⟨O6 (gR b hb),λx c h=>?exf⟩,
   I.bs,Pu I.ok.bsz I.sz,λb o e hb=>?noex,λb hb hs=>?exfs,I.stack,I.stkFree⟩,
  rfl,I.bare,Un.kept hk,⟨_,oJ,λi x v AD h2 h3=>?loc⟩,λx c h=>?cell,hC,λx c h=>?freeC,λp hp=>absurd (show p∈([]:List (ae×aU)) from hp) (by simp),I.hok.kept hk,?len⟩
 case inj=>
  refine Mb scope.names _ _ (λx y c e1 e2=>I.ok.inj x y c (Js C I.ok e1) (Js C I.ok e2)) λx c e=>Qr (AC x c (Js C I.ok e))
 case has=>
  have kh:(relabel scope X.env).names.lookup x=some .cell\/(relabel scope X.env).names.lookup x=some .free:=hx;refine Q9.mp (L' scope.names _ _ ?_);rcases (kh.elim (λq=>kind x _ q (.inl rfl)) λq=>kind x _ q (.inr rfl)) with q | q
  ·exact .inl q
  ·obtain⟨c,hc⟩:=Xbs C I.ok q;exact .inr (by rw[hc];rfl)
 case cab=>
  have h:scope.names.lookup x=some .cell:=Ua h;rcases look e with ⟨a,_⟩ | ⟨a,_⟩
  ·exact Si a
  ·rw[h] at a;cases a
 case exf=>
  rcases look h with ⟨a,_⟩ | ⟨_,a⟩
  ·exact λz=>Qg _ (Rx a (by rw[z];exact gR b hb))
  ·exact(hf b hb).2.2.2.2.1 x c a
 case noex=>
  obtain⟨_,_,_,z,_⟩:=hf b hb;rcases z with z | z
  ·exact I.ok.noex b o e z
  ·exact absurd (Pg (Uc e) (Pu I.ok.bsz z)) (Qg _)
 case exfs=>
  obtain⟨_,f1,f2,_⟩:=hf b hb;rcases Ph.mp (I.stkSub b hs) with e | e
  ·exact f1 e
  ·exact f2 e
 case loc=>
  have ig:(cap.map λo=>o.bind λj=>(Z[j]?).join)[i]? = some (some v):=h2;rw[Pf] at ig;cases hc:cap[i]? with
  | none=>rw[hc] at ig;cases ig
  | some o=>
   rw[hc] at ig;cases o with
   | none=>cases ig
   | some j=>
    have kZ:(Z[j]?).join=some v:=Pd ig;have hZ : Z[j]? = some (some v):=by
     cases hj : Z[j]? with
     | none=>rw[hj] at kZ;cases kZ
     | some o=>rw[hj] at kZ;exact congrArg some kZ
    obtain⟨hN,iR⟩:=C.cap i x j AD hc;obtain⟨m,hn,hl⟩:=I.loc;have fq:X.env.kindOf x=some .cell\/X.env.kindOf x=some .free:=C.free (x,.free) (PySem.mem_of_lookup iR) rfl;obtain⟨u,r,l⟩:=hl j x v hN hZ (by rcases fq with q | q;exact .inr (.inl q);exact .inr (.inr q));refine⟨u,r,.inr ⟨?_,?_⟩⟩
    ·show (relabel scope X.env).names.lookup x=some .cell\/(relabel scope X.env).names.lookup x=some .free;have:=Xbr (env:=X.env) iR;have e:(relabel scope X.env).names.lookup x=_:=this;rw[e];split
     ·exact .inl rfl
     ·exact .inr rfl
    ·obtain⟨c,iH⟩:=Xbs C I.ok iR;obtain⟨c2,fX⟩:=Q9.mp (L' scope.names (s.heap.objs.size+1) (Cj X.env scope.names []) (x:=x) (.inr (by rw[iH];rfl)));rcases look (x:=x) (c:=c2) fX with ⟨_,a,_⟩ | ⟨_,a⟩
     ·rw[iR] at a;cases a
     ·rcases l with ⟨k,_⟩ | ⟨_,c',e,z⟩
      ·rcases fq with q | q
       ·rw[k] at q;cases q
       ·rw[k] at q;cases q
      ·rw[a] at e;cases e;obtain⟨o,ho,hd⟩:=z;exact⟨c2,fX,o,hk c2 o ho,hd⟩
 case cell=>
  rcases look h with ⟨_,_,a⟩ | ⟨_,a⟩
  ·exact⟨none,a⟩
  ·obtain⟨v,o,ho,hd⟩:=I.cell x c a;exact⟨v,o,hk c o ho,hd⟩
 case freeC=>
  rcases look h with ⟨a,_⟩ | ⟨_,a⟩
  ·exact I.hok.fresh (Si a)
  ·exact I.freeC x c a
 case len=>
  show (cap.map _).length=N.length;rw[Ow,C.len]
end
def Xin (cap:List (Option Nat)) (wi:TI) (g:TG) (tt:TT) (te:TE):TE:=fun Z H Q=>wi Z H λJ H1=>Ft cap g tt te J Z H1 λD H2=>Q (.ref D) H2
def Xio (i:Nat) (cap:List (Option Nat)) (wi:TI) (g:TG) (tt:TT) (te:TE):TS:=λD Z H=>wi Z H λJ H1=>Ft cap g tt te J Z H1 λl H2=>D.nx (Z.set i (some (.ref l))) H2
def A3.there      (x:A3 P w H h a o):∃u,h.get? a=some u:=by
 cases o with
 | lst xs=>obtain⟨_,_,_,_,e⟩:=x;exact⟨_,e⟩
 | tup xs=>obtain⟨_,_,_,o,e,_⟩:=x;exact⟨_,e⟩
 | dK kvs=>obtain⟨_,_,_,_,o,_,_,e,_⟩:=x;exact⟨_,e⟩
 | dT kvs=>obtain⟨_,_,_,_,o,_,_,e,_⟩:=x;exact⟨_,e⟩
 | set S n=>obtain⟨o,_,_,_,e,_⟩:=x;exact⟨_,e⟩
 | ins C dx fs=>obtain⟨_,_,_,e,_⟩:=x;exact⟨_,e⟩
 | own y=>exact x
 | xd fs=>obtain⟨_,⟨_,_,_,e,_⟩,_⟩:=x;exact⟨_,e⟩
 | rng lo hi=>obtain⟨_,_,_,e⟩:=x;exact⟨_,e⟩
 | frz ob u=>obtain⟨e,_⟩:=x;exact⟨_,e⟩
 | tbl ps=>exact⟨_,(show h.get? a=some _ from x)⟩
 | met f y=>exact⟨_,(show h.get? a=some _ from x)⟩
 | ext φ=>obtain⟨_,e,_⟩:=x;exact e
structure Flown (P:av) (w:a8) (outer:List eV) (H:Hp) (hc:ar) (H':Hp) (ex C:ae) (B:ar) (a0:aa) (h:ar):Prop where
 un:Un (frs outer) [] H H' hc h
 hok:HOk P w H' h
 fly:ar.FlyingW B outer ex (.ref C) a0 h
 inB:∀b o,h.get? b=some o->b∉frs outer->((∃o',hc.get? b=some o')\/H' b≠none)->B.get? b=some o
 frf:∀b∈frs outer,H' b=none
def Flown.move       (F:Flown P w outer H hc H' ex C B a0 h) (st:B.StaysIn h') (up:h.UpToSlots h'):
  Un (frs outer) [] H H' hc h'/\HOk P w H' h'/\∀b o,h'.get? b=some o->b∉frs outer->((∃o',hc.get? b=some o')\/H' b≠none)->B.get? b=some o:=by
 have nf:∀b∈frs outer,∀o,h.get? b=some o->∀vs,o.data ≠ .fields vs:=λb hb o e=>by
  obtain⟨_,o',e',d⟩:=F.fly.2.2.1.mem hb;rw[e] at e';cases e';exact d
 have tr:∀b o,H' b=some o->b∉frs outer:=λb o e hb=>by rw[F.frf b hb] at e;cases e
 have ii:∀b,(∃o',hc.get? b=some o')\/H' b≠none->∃o,h.get? b=some o:=λb hb=>by
  rcases hb with ⟨o',e⟩ | hb
  ·obtain⟨o,e'⟩:=F.un.there b o' e (by simp);exact⟨o,e'⟩
  ·cases q:H' b with
   | none=>exact absurd q hb
   | some u=>exact(F.hok b u q).there
 refine⟨⟨λb o e n hb hx=>?_,λb o e n hb hx=>?_,F.un.free,λb o e hx=>?_,F.un.tups,F.un.frzs,F.un.tbls⟩,λa o e=>?_,λb o e hb hw=>?_⟩
 ·exact st b o (F.inB b o (F.un.keep b o e n hb hx) hb (.inl ⟨o,e⟩))
 ·obtain⟨sl,e1⟩:=F.un.slot b o e n hb hx;obtain⟨gM,e2⟩:=up b _ e1 (nf b hb _ e1);exact⟨gM,e2⟩
 ·obtain⟨o1,e1⟩:=F.un.there b o e hx;by_cases hb:b∈frs outer
  ·obtain⟨gM,e2⟩:=up b _ e1 (nf b hb _ e1);exact⟨_,e2⟩
  ·exact⟨o1,st b o1 (F.inB b o1 e1 hb (.inl ⟨o,e⟩))⟩
 ·refine(F.hok a o e).stay (λb u hb q=>?_) (λ_ q=>q) λ_ _ q=>q;have hn:H' b≠none:=by
   rcases hb with z | z
   ·rw[z,e];simp
   ·rw[z];simp
  have dz:b∉frs outer:=λz=>hn (F.frf b z);exact st b u (F.inB b u q dz (.inr hn))
 ·obtain⟨o1,e1⟩:=ii b hw;have e2:=F.inB b o1 e1 hb hw;have e3:=st b o1 e2;rw[e] at e3;cases e3;exact e2
def CX1 (P:av) (w:a8):CXT:=λouter H s E e s'=>
 ∃ex C H' B a0,e = .ref ex/\s'.os=s.os/\cF s'.gens/\Flown P w outer H s.heap H' ex C B a0 s'.heap/\E (.ref C) none H'
section
variable {P:av}{w:a8}{K:KQ}{mg:aq->Option aa}{base:ar}{N:Za}{qual:aq}{scope:cx}{f:ae}{cd:aa}{A:aB}{outer:List eV}{s:ak}{H:Hp}{E:XK}
def Leaves (X:Cx) (E:XK):Prop:=∀(pins:List (ae×aU)) (Z:St) (H:Hp) (s:ak) (h':ar) (ex C:ae) (args:List aa),
 Inv X pins Z H s->ar.MadeExcOf s.heap h' ex (.ref C) args->E (.ref C) none H->X.xe (.ref ex) {s with heap:=h'}
def leaves1:Leaves (Cp (CX1 P w) P w K mg base N qual scope f cd A outer s H E) E:=by
 intro pins Z H1 s1 h' ex C args I hm hE;show aj (ai P w) (A.deeper (aM qual scope s.heap.objs.size f cd)) (leaving (aM qual scope s.heap.objs.size f cd) (.ref ex)) _ _ {s1 with heap:=h'};have bv:(Cp (CX1 P w) P w K mg base N qual scope f cd A outer s H E).stack=aM qual scope s.heap.objs.size f cd::outer:=rfl;have dB:∀env∈(aM qual scope s.heap.objs.size f cd::outer),∀b,env.frame=some b->b∈frs (aM qual scope s.heap.objs.size f cd::outer):=λenv he b hb=>Tb.mpr ⟨env,he,hb⟩;have qm:s1.heap.FunFrames base (aM qual scope s.heap.objs.size f cd::outer):=I.stack;have hB:(LQ s1.heap (frs (aM qual scope s.heap.objs.size f cd::outer))).StaysIn s1.heap:=λb o q=>LR _ q;have lf:∀b o,s1.heap.get? b=some o->b∉frs (aM qual scope s.heap.objs.size f cd::outer)->(LQ s1.heap (frs (aM qual scope s.heap.objs.size f cd::outer))).get? b=some o:=λb o e n=>LN _ e n;have sub:∀b,b∈frs (aM qual scope s.heap.objs.size f cd::outer)->b=s.heap.objs.size\/b∈frs outer:=λb hb=>Ph.mp (I.stkSub b hb);have qp:∀b,b∈frs outer->b∈frs (aM qual scope s.heap.objs.size f cd::outer):=λb hb=>by
  unfold frs at hb ⊢;rw[Ql];split
  ·exact hb
  ·exact O4 _ hb
 have ij:∀b,b∈frs (aM qual scope s.heap.objs.size f cd::outer)->H1 b=none:=λb hb=>I.stkFree b hb;refine wpAny_leaves_madeW (A:=A.deeper (aM qual scope s.heap.objs.size f cd)) (L:=s.heap.objs.size) I.ok.frames rfl hB (PySem.W.funFrames_hide qm dB) hm λAE t f1 _ _ up=>?_;have ii:∀b o,s.heap.get? b=some o->b∉frs outer->b∉frs (aM qual scope s.heap.objs.size f cd::outer):=λb o e nb hb=>by
  rcases sub b hb with z | z
  ·exact absurd (Uc e) (by rw[z];exact Qg _)
  ·exact nb z
 have nf:∀b∈frs (aM qual scope s.heap.objs.size f cd::outer),∀o,s1.heap.get? b=some o->∀vs,o.data ≠ .fields vs:=λb hb o e=>by
  obtain⟨_,o',e',d⟩:=qm.mem hb;rw[e] at e';cases e';exact d
 refine⟨ex,C,H1,_,_,rfl,I.os,I.bare,⟨⟨λb o e n hb hx=>?_,λb o e n hb hx=>?_,I.base.free,λb o e hx=>?_,I.base.tups,I.base.frzs,I.base.tbls⟩,λa o e=>?_,f1,λb o e hb hw=>?_,λb hb=>ij b (qp b hb)⟩,hE⟩
 ·exact f1.1 b o (lf b o (I.base.keep b o e n hb hx) (ii b o e hb))
 ·obtain⟨sl,e1⟩:=I.base.slot b o e n hb hx;obtain⟨gM,e2⟩:=up b _ (hm.keeps _ _ e1) (nf b (qp b hb) _ e1);exact⟨gM,e2⟩
 ·obtain⟨o1,e1⟩:=I.base.there b o e hx;by_cases hb:b∈frs (aM qual scope s.heap.objs.size f cd::outer)
  ·obtain⟨gM,e2⟩:=up b _ (hm.keeps _ _ e1) (nf b hb _ e1);exact⟨_,e2⟩
  ·exact⟨o1,f1.1 b o1 (lf b o1 e1 hb)⟩
 ·refine(I.hok a o e).stay (λb u hb q=>?_) (λ_ q=>q) λ_ _ q=>q;have hn:H1 b≠none:=by
   rcases hb with z | z
   ·rw[z,e];simp
   ·rw[z];simp
  exact f1.1 b u (lf b u q λz=>hn (ij b z))
 ·have:∃o1,s1.heap.get? b=some o1/\b∉frs (aM qual scope s.heap.objs.size f cd::outer):=by
   rcases hw with ⟨o',e'⟩ | hw
   ·obtain⟨o1,e1⟩:=I.base.there b o' e' (λz=>absurd (show b∈([]:List ae) from z) (by simp));exact⟨o1,e1,ii b o' e' hb⟩
   ·cases q:H1 b with
    | none=>exact absurd q hw
    | some u=>
     obtain⟨o1,e1⟩:=(I.hok b u q).there;exact⟨o1,e1,λz=>hw (ij b z)⟩
  obtain⟨o1,e1,nb⟩:=this;have e2:=lf b o1 e1 nb;have e3:=f1.1 b o1 e2;rw[e] at e3;cases e3;exact e2
def pass1:Passes (CX1 P w) (Cp (CX1 P w) P w K mg base N qual scope f cd A outer s H E) E:=by
 intro pins Z H1 s1 e s' I h;obtain⟨ex,C,H',B,a0,rfl,fr,j6,F,hE⟩:=h;show aj (ai P w) (A.deeper (aM qual scope s.heap.objs.size f cd)) (leaving (aM qual scope s.heap.objs.size f cd) (.ref ex)) _ _ s';have sub:∀b,b∈frs (aM qual scope s.heap.objs.size f cd::outer)->b=s.heap.objs.size\/b∈frs outer:=λb hb=>Ph.mp (I.stkSub b hb);have qp:∀b,b∈frs outer->b∈frs (aM qual scope s.heap.objs.size f cd::outer):=λb hb=>by
  unfold frs at hb ⊢;rw[Ql];split
  ·exact hb
  ·exact O4 _ hb
 have ii:∀b o,s.heap.get? b=some o->b∉frs outer->b∉frs (aM qual scope s.heap.objs.size f cd::outer):=λb o e nb hb=>by
  rcases sub b hb with z | z
  ·exact absurd (Uc e) (by rw[z];exact Qg _)
  ·exact nb z
 have F':Flown P w (aM qual scope s.heap.objs.size f cd::outer) H1 s1.heap H' ex C B a0 s'.heap:=F;refine wpAny_leaves_onW (A:=A.deeper (aM qual scope s.heap.objs.size f cd)) (L:=s.heap.objs.size) I.ok.frames rfl F'.fly λAE f1 up=>?_;obtain⟨un,hok,inB⟩:=F'.move f1.1 up;refine⟨ex,C,H',B,a0,rfl,fr.trans I.os,j6,⟨?_,hok,f1,λb o e hb hw=>?_,λb hb=>F'.frf b (qp b hb)⟩,hE⟩
 ·have ki:Un (frs outer) [] H H1 s.heap s1.heap:=I.base;refine⟨λb o e n hb hx=>?_,λb o e n hb hx=>?_,λb o e n hx=>?_,λb o e hx=>?_,λb xs e=>un.tups b xs (ki.tups b xs e),λb ob u e=>un.frzs b ob u (ki.frzs b ob u e),λb ps e=>?_⟩
  ·exact un.keep b o (ki.keep b o e n hb hx) (ki.free b o e n hx) (ii b o e hb) hx
  ·obtain⟨sl,e1⟩:=ki.slot b o e n hb hx;obtain⟨gM,e2⟩:=un.slot b _ e1 (ki.free b o e n hx) (qp b hb) hx;exact⟨gM,e2⟩
  ·obtain⟨o1,e1⟩:=ki.there b o e hx;exact un.free b o1 e1 (ki.free b o e n hx) hx
  ·obtain⟨o1,e1⟩:=ki.there b o e hx;exact un.there b o1 e1 hx
  ·obtain⟨m1,e1⟩:=ki.tbls b ps e;obtain⟨m2,e2⟩:=un.tbls b _ e1;exact⟨m1++m2,by rw[e2,Array.append_assoc]⟩
 ·refine inB b o e ?_ ?_
  ·rcases hw with ⟨o',e'⟩ | hw
   ·exact ii b o' e' hb
   ·intro z;exact hw (F'.frf b z)
  ·rcases hw with ⟨o',e'⟩ | hw
   ·obtain⟨o1,e1⟩:=(show Un (frs outer) [] H H1 s.heap s1.heap from I.base).there b o' e' (by simp);exact .inl ⟨o1,e1⟩
   ·exact .inr hw
end
abbrev bmV:List aa:=[.type "ValueError",.type "Exception",.type "BaseException",.type "object"]
def Xip{K}  {C}  (X:K.In h)(q:LH K C AF qq=true):
  ∃bm N nm q bs hdct sn sub ab col dd k0 k1 k2 k3 k5 mN,h.get? C=some (excClassObj nm q C N bs bm hdct sn sub ab col dd k0 k1 k2 k3 k5 qq)/\h.Ns N mN/\mN "__init__" = none/\OwnTail h AF bm:=by
 unfold LH at q;split at q
 ·rename_i dd cd sl ho;split at q
  ·rename_i C' bm k0 k1 k2 k3 n k5 hm hs;simp only[Pa,beq_iff_eq,Tn] at q;obtain⟨⟨⟨⟨⟨rfl,rfl⟩,qr⟩,ht⟩,hok⟩,t9⟩:=q;obtain⟨nm,bs,mro,ns,qn,hd,sn,sub,ab,col,IR⟩:=cd;dsimp only at hm qr hok t9;subst hm qr;have lg:sl = #[k0,k1,k2,k3,some (.builtin n),k5]:=by
    obtain⟨l⟩:=sl;simp only at hs;rw[hs]
   subst lg;exact⟨bm,ns,nm,qn,bs,hd,sn,sub,ab,col,dd,k0,k1,k2,k3,k5,_,X _ _ ho,.of_isNs (PySem.W.isNs_of_in X hok),PySem.W.nsMap_none_of_in X hok t9,PySem.W.tail_of_in X ht⟩
  ·cases q
 ·cases q
def Xiq (C:ae) (E:XK) (t:TA):TS:=λ_ Z H=>t Z H λvs H1=>vs.length<=sizeLine/\E (.ref C) none H1
def Me  {C:ae} {E:XK}     (hc:LH X.K C bmV "ValueError.__new__" = true) (bp:X.calm=true) (hx:Leaves X E) (hg:Gl X x) (hm:X.mg x=some (.ref C))
  (ha:PA X (e::es) t) (h9:(x==("__debug__" : aq))=false:=by decide) (he:az (e::es) X.env=(false,eval e X.env)::az es X.env:=by rfl) (cj:(bw bJ (az es X.env)).any (·.1)=false:=by rfl):
  PS X (.Raise (some (.Call (.Name x np) (e::es) [] bJ)) none pos) (Xiq C E t):=by
 intro pins s Z H D I h;obtain⟨tl,N,nm,q,bs,hdct,sn,sub,ab,col,dd,k0,k1,k2,k3,k5,mN,hC,hN,t9,T⟩:=Xip I.mod.kin hc;refine wpAny_Raise_call_subT (C:=C) (nm:=nm) (q:=q) (N:=N) (bs:=bs) (bm:=tl) (hdct:=hdct) (sn:=sn) (sub:=sub) (ab:=ab) (col:=col) (dd:=dd) (k0:=k0) (k1:=k1) (k2:=k2) (k3:=k3) (k5:=k5)
  PySem.F.excBase_ValueError (mN:=mN) (T.hasType PySem.F.excBase_ValueError.hasBase) (I.ok.hd bp) (by rw[he];show (false||(bw bJ (az es X.env)).any (·.1))=false;rw[cj];rfl) t9 (G8 I hg hm ⟨rfl,?_⟩ h9)
 have hh:=thn (ha bJ pins s Z H _ I h) (Q':=λvs s₂=>vs.length<=sizeLine/\(∀b o,X.base.get? b=some o->s₂.heap.get? b=some o)/\∀h' e,ar.MadeExcOf s₂.heap h' e (.ref C) vs->X.xe (.ref e) {s₂ with heap:=h'})
  (λus s2 ⟨vs,H2,I2,r2,hl,hE⟩=>⟨by rw[<-r2.length];exact hl,I2.bk,λh' ex qt=>hx pins Z H2 s2 h' ex C us I2 qt hE⟩)
 rw[he] at hh ⊢;exact Calls.evalArgs_plain (aN hh (λvs s₂ h₂=>⟨rfl,h₂.1,h₂.2.1 _ _ hC,hN.keeps h₂.2.1,T.keeps h₂.2.1,h₂.2.2⟩) λ_ _ y=>y)
def Fun.ok1   {K}    {st}     (F:Fun K x qual st f fd) (S:FnScope N ps (defScope st)) (len:∀vs H Q E,sp vs H Q E->vs.length=ps.length)
  (er:∀(cdv:aa) (A:aB) (outer:List eV) (s:ak) (H:Hp) (vs:List V) (Q:VK) (E:XK),Room k (A.deeper (aM qual (defScope st) s.heap.objs.size f cdv))->sp vs H Q E ->
   ∃t,PSs (Cp (CX1 P w) P w K mg base N qual (defScope st) f cdv A outer s H E) (Cv st) t/\t {nx:=λ_ H'=>Q .non H',rt:=Q} (start N vs) H):FnOk P w K mg base (CX1 P w) (k+1) f fd ps sp:=by
 obtain⟨oc,od,kV,cZ,pm,an,cdv,ct,iE,rfl,lk,gN⟩:=F.ex;exact Lu lk gN S len λA outer s H vs Q E hr gO=>er cdv A outer s H vs Q E hr gO
abbrev Cx.re (X:Cx) (pn:List (ae×aU)) (A:aB) (c:Bool) (E:Zb):Cx:={X with pn:=pn,A:=A,calm:=c,xe:=E}
section
variable {X:Cx}{pins pins' pn:List (ae×aU)}{Z:St}{H:Hp}{s:ak}{A:aB}{c:Bool}{E:Zb}
def Inv.as(I:Inv X pins Z H s)(hd:c=true->A.handled=none)(hf:A.frames=some X.stack)(hp:∀p∈pn++pins',p∈X.pn++pins):Inv (X.re pn A c E) pins' Z H s:=
 ⟨⟨I.ok.mod,I.ok.kind,I.ok.glob,I.ok.blt,I.ok.above,I.ok.inj,I.ok.has,I.ok.cab,hd,hf,I.ok.stk,I.ok.exf,I.ok.bs,I.ok.bsz,I.ok.noex,I.ok.exfs,I.ok.funs,I.ok.frf⟩,
  I.os,I.bare,I.base,I.loc,I.cell,I.free,I.freeC,λp jm=>I.pin p (hp p jm),I.hok,I.len⟩
def Inv.back(I:Inv (X.re pn A c E) pins' Z H s)(ok:X.Ok)(hp:∀p∈X.pn++pins,p∈pn++pins'):Inv X pins Z H s:=
 ⟨ok,I.os,I.bare,I.base,I.loc,I.cell,I.free,I.freeC,λp jm=>I.pin p (hp p jm),I.hok,I.len⟩
def Inv.unbind      (I:Inv X pins Z H s) (hN:X.N.Nodup) (hi:X.N[i]? = some n) (hl:X.env.scope.names.lookup n=some .local)
  (hm:∀(j:Nat) (x:aq) (v:V),X.N[j]? = some x -> Z[j]? = some (some v)->Vis X.env.scope x->∃u,Ah v u/\Look X.env s.heap m x u)
  (hn:h'.Ns X.env.locals (λx=>if x=n then v else m x)) (hs:ar.SameBut X.env.locals s.heap h'):Inv X pins (Z.set i none) H {s with heap:=h',toks:=tk}:=by
 have tq:i < Z.length:=by rw[I.len];exact(O8.mp hi).1
 have cne:=I.cne;refine⟨I.ok,I.os,I.bare,⟨λb o e n hb hx=>?_,λb o e n hb hx=>?_,I.base.free,λb o e hx=>?_,I.base.tups,I.base.frzs,I.base.tbls⟩,⟨_,hn,λj y v' e1 e2 e3=>?_⟩,λy c e=>?_,I.free,I.freeC,λp hp=>?_,λb ob e=>?_,by simpa using I.len⟩
 ·exact(hs.2 b (O6 (Pg (Uc e) I.ok.above))).trans (I.base.keep b o e n hb hx)
 ·obtain⟨sl,e1⟩:=I.base.slot b o e n hb hx;exact⟨sl,(hs.2 b (O6 (Pg (Uc e) I.ok.above))).trans e1⟩
 ·obtain⟨o',e1⟩:=I.base.there b o e hx;exact⟨o',(hs.2 b (O6 (Pg (Uc e) I.ok.above))).trans e1⟩
 ·have hj:j≠i:=by
   intro z;subst z;rw[Sq tq] at e2;cases e2
  rw[Sw (Ne.symm hj)] at e2;obtain⟨u,r,l⟩:=hm j y v' e1 e2 e3;refine⟨u,r,?_⟩;rcases l with ⟨k,e⟩ | ⟨k,c,e,z⟩
  ·refine .inl ⟨k,?_⟩;have:y≠n:=λe=>hj (La hN e1 (e ▸ hi));simp[this,e]
  ·exact .inr ⟨k,c,e,z.sameBut hs (cne y c e)⟩
 ·obtain⟨w',z⟩:=I.cell y c e;exact⟨w',z.sameBut hs (cne y c e)⟩
 ·obtain⟨e,n,ne,nf,d⟩:=I.pin p hp;exact⟨(hs.2 p.1 ne).trans e,n,ne,nf,d⟩
 ·refine(I.hok b ob e).stay (λc' w' hc q=>(hs.2 c' ?_).trans q) (λ_ q=>q) λ_ _ q=>q;rintro rfl;rcases hc with z | z
  ·rw[<-z,I.free] at e;cases e
  ·rw[I.free] at z;cases z
def Inv.track{a}(I:Inv X pins Z H s)(hn:H a=none)(h0:X.s₀.heap.get? a=none)(hL:a≠X.env.locals)(hc:∀x c,X.env.cells.lookup x=some c->c≠a)(hp:∀p∈X.pn++pins,p.1≠a)
  (h1 : φ s.heap) (h2:∃o,s.heap.get? a=some o) (h3:∀h1 h2:ar, φ h1->(∀o,h1.get? a=some o->h2.get? a=some o) -> φ h2):Inv X pins Z (upd H a (.ext φ)) s:=by
 refine⟨I.ok,I.os,I.bare,⟨I.base.keep,I.base.slot,λb o e n hx=>?_,I.base.there,λb xs e=>?_,λb o u e=>?_,λb ps e=>?_⟩,I.loc,I.cell,?_,λx c e=>?_,λp jm=>?_,λb ob e=>?_,I.len⟩
 ·rw[Ad (λz=>by rw[z,h0] at e;cases e)];exact I.base.free b o e n hx
 ·have q:=I.base.tups b xs e;rw[Ad (Au q hn)];exact q
 ·have q:=I.base.frzs b o u e;rw[Ad (Au q hn)];exact q
 ·obtain⟨bS,q⟩:=I.base.tbls b ps e;exact⟨bS,by rw[Ad (Au q hn)];exact q⟩
 ·rw[Ad (Ne.symm hL)];exact I.free
 ·rw[Ad (hc x c e)];exact I.freeC x c e
 ·obtain⟨e,n,r⟩:=I.pin p jm;exact⟨e,by rw[Ad (hp p jm)];exact n,r⟩
 ·by_cases hb:b=a
  ·subst hb;rw[Ab] at e;cases e;exact⟨h1,h2,h3⟩
  ·rw[Ad hb] at e;exact(I.hok b ob e).stay (λ_ _ _ q=>q) (λc q=>by rw[Ad (Au q hn)];exact q) λc xs q=>by rw[Ad (Au q hn)];exact q
end
def Dk (ex C:ae) (h:ar):Prop:=∃o vs,h.get? ex=some o/\o.cls = .ref C/\o.data = .fields vs
def Fu (ex C:ae):HO:=.ext (Dk ex C)
def Cx.tryC (X:Cx) (pn:List (ae×aU)) (R:ae->St->Hp->Prop):Cx:=X.re pn X.A X.calm λe s1=>
 ∃Z Hc sc,Inv (X.re pn X.A X.calm λ_ _=>True) [] Z Hc sc/\CX1 X.prog X.w X.stack Hc sc (λc _ H1=>∃C,c = .ref C/\R C Z H1) e s1
def Cx.suite (X:Cx) (pn:List (ae×aU)) (ex:ae):Cx:=X.re pn (X.A.mark (some (.ref ex))) false λ_ _=>False
section
variable {X:Cx}{pn:List (ae×aU)}{R:ae->St->Hp->Prop}{k:Nat}{f:ae}{fd:bK}{ps:Za}{sp:Sp}{f9:List V}{ds:List aa}{x:aq}{p pos:cN}{e:aL}{es:List aL}{t:TA}
def Xir (sp:Sp) (f9:List V) (R:ae->St->Hp->Prop) (t:TA):TE:=fun Z H Q=>t Z H λvs H1=>sp (vs++f9) H1 Q λc _ H'=>∃C,c = .ref C/\R C Z H'
def Xis(F:FnOk X.prog X.w X.K X.mg X.base (CX1 X.prog X.w) k f fd ps sp)(hr:Room k X.A)(hg:Gl X x)(hm:X.mg x=some (.ref f))(hk:KU X.K (.ref f)=true)(hb:Binds X.K fd ps ds)(hd:Vals f9 ds)
  (ha:PA (X.tryC pn R) (e::es) t) (h9:(x==("__debug__" : aq))=false:=by decide) (he:az (e::es) X.env=(false,eval e X.env)::az es X.env:=by rfl) (cj:(bw pos (az es X.env)).any (·.1)=false:=by rfl):
  PE (X.tryC pn R) (.Call (.Name x p) (e::es) [] pos) (Xir sp f9 R t):=by
 intro pins s Z H Q I h;refine bM (G8 I (show Gl (X.tryC pn R) x from hg) hm ?_ h9);refine LS (h₀:=X.base) I.ok.mod.kin hk (thn (ha pos pins s Z H _ I h) λus s1 ⟨vs,H1,I1,r,q⟩=>⟨I1.kIn,?_⟩) he cj;have r2:Vals (vs++f9) (us++ds):=r.append hd;have hl:(us++ds).length=ps.length:=by rw[<-r2.length];exact F.len _ _ _ _ q
 refine dM (bh (F.run X.A X.stack s1 H1 ⟨us,[]⟩ (us++ds) (vs++f9) Q _ hr I1.env0 (hb s1 us I1.kIn hl) r2 q) λr s' hq=>?_);cases r with
 | error e=>exact⟨Z,H1,s1,(Inv.back (X:=X.re pn X.A X.calm λ_ _=>True) (pins:=[]) I1 (I1.as (X:=X.tryC pn R) (pins':=[]) (pn:=pn) (A:=X.A) (c:=X.calm) (E:=λ_ _=>True) I1.ok.hd I1.ok.frames (λp hp=>O5.mpr (.inl (show p∈pn from by simpa using hp)))).ok (λp hp=>O5.mpr (.inl (show p∈pn from by simpa using hp)))),hq⟩
 | ok fl=>
  cases fl with
  | ret u=>exact I1.after hq
  | next=>exact False.elim hq
  | brk=>exact False.elim hq
  | cont=>exact False.elim hq
end
section
variable {X:Cx}{pos np lh:cN}{body:List aV}{b0:aV}{suite:List aV}{n x:aq}{i:Nat}{Cc:ae}{tb:(ae->St->Hp->Prop)->TS}{th:TS}
def tTry (K:KQ) (i:Nat) (Cc:ae) (tb:(ae->St->Hp->Prop)->TS) (th:TS):TS:=λD Z H=>∃R:ae->St->Hp->Prop,tb R D Z H/\∀C Z1 H1,R C Z1 H1->LK K (.ref C) (.ref Cc)=some true /\
 ∀ex,H1 ex=none->th {nx:=fun Z2 H2=>D.nx (Z2.set i none) H2,rt:=D.rt,bk:=fun Z2 H2=>D.bk (Z2.set i none) H2,ct:=fun Z2 H2=>D.ct (Z2.set i none) H2} (Z1.set i (some (.ref ex))) (upd H1 ex (Fu ex C))
def Xit(hex:X.ex=[])(bv:X.stack=X.env::X.outer)(iR:X.env.frame=some X.env.locals)(hN:X.N.Nodup)(hi:X.N[i]? = some n)(hl:X.env.scope.names.lookup n=some .local)(hg:Gl X x)(hm:X.mg x=some (.ref Cc))
  (hb:∀pn R,PSs (X.tryC pn R) body (tb R)) (hh:∀pn ex,PSs (X.suite pn ex) (b0::suite) th) (h9:(x==("__debug__" : aq))=false:=by decide):
  PS X (.Try body [.ExceptHandler (some (.Name x np)) (some n) (b0::suite) lh] [] [] pos) (tTry X.K i Cc tb th):=by
 intro pins s Z H D I h;obtain⟨R,xX,AG⟩:=h;have qu:∀p∈X.pn++pins++[],p∈X.pn++pins:=λp hp=>by simpa using hp
 have j7:∀p∈X.pn++pins,p∈X.pn++pins++[]:=λp hp=>by simpa using hp
 have I0:Inv (X.tryC (X.pn++pins) R) [] Z H s:=I.as I.ok.hd I.ok.frames qu;refine wpAny_Try_except (aN (hb (X.pn++pins) R [] s Z H D I0 xX) (λfl s1 q=>?_) λe s1 q=>?_)
 ·have tD:∀{Z':St} {H':Hp},Inv (X.tryC (X.pn++pins) R) [] Z' H' s1->Inv X pins Z' H' s1:=λJ=>J.back I.ok j7;cases fl with
  | next=>
   obtain⟨Z',H',J,q⟩:=q;exact cY ⟨Z',H',tD J,q⟩
  | brk=>
   obtain⟨Z',H',J,q⟩:=q;exact⟨Z',H',tD J,q⟩
  | cont=>
   obtain⟨Z',H',J,q⟩:=q;exact⟨Z',H',tD J,q⟩
  | ret u=>
   obtain⟨v, Z',H',J,r,q⟩:=q;exact⟨v, Z',H',tD J,r,q⟩
 ·-- it xY here
  obtain⟨Z1,Hc,sc,Ic,ex,c,H1,B,a0,rfl,fr,j6,F,C,hC,hR⟩:=q;cases hC;obtain⟨hx,AH⟩:=AG c Z1 H1 hR;have F':Flown X.prog X.w (X.env::X.outer) Hc sc.heap H1 ex c B a0 s1.heap:=by rw[<-bv];exact F
  have uK:X.A.frames=some (X.env::X.outer):=by rw[<-bv];exact I.ok.frames
  have step:∀(h5:ar) (tk:Nat),B.StaysIn h5->s1.heap.UpToSlots h5->Inv (X.re (X.pn++pins) X.A X.calm λ_ _=>True) [] Z1 H1 {s1 with heap:=h5,toks:=tk}:=λh5 tk st up=>by
   obtain⟨un,hok,_⟩:=F'.move st up;refine Ic.call' (ch:=[]) fr ?_ hok j6 (λb z=>absurd z (by simp));show Un (frs X.stack) [] Hc H1 sc.heap h5;rw[bv];exact un
  refine wpAny_looks_onW (L:=X.env.locals) uK iR F'.fly λh4 uL xZ=>?_;refine wpAny_landsW uL λh5 uM ya=>?_;have I5:=step h5 s1.toks uM.1 (xZ.trans ya);have yb:Inv (X.suite (X.pn++pins) ex) [] Z1 H1 {s1 with heap:=h5}:=Inv.as (X:=X.re (X.pn++pins) X.A X.calm λ_ _=>True) I5 (λz=>absurd z (by decide)) I.ok.frames (λp hp=>hp);have LT:MB (ai X.prog X.w) h5 (qc (.ref ex)) (.ref c):=by
   obtain⟨ob,tE,uN⟩:=uM.there;rw[<-uN];exact(MB.ld tE).andThen .now
  refine wpAny_handleBy_cons (codeAny_handlers_test ?_) (by intro q;cases q);refine G8 (X:=X.suite (X.pn++pins) ex) yb (show Gl (X.suite (X.pn++pins) ex) x from hg) hm ?_ h9;refine(PySem.W.exm_one (yb.kIn) LT hx).here ?_;refine codeAny_handlers_suite_as (lands_againW uM λh6 uO AI=>?_);have qv:=(xZ.trans ya).trans AI;have I6:=step h6 s1.toks uO.1 qv;have AJ:Inv (X.suite (X.pn++pins) ex) [] Z1 H1 {s1 with heap:=h6}:=Inv.as (X:=X.re (X.pn++pins) X.A X.calm λ_ _=>True) I6 (λz=>absurd z (by decide)) I.ok.frames (λp hp=>hp);refine Lb (X:=X.suite (X.pn++pins) ex) AJ hN hi (.inl hl) (show Ah (.ref ex) (.ref ex) from rfl) (λs7 I7 ⟨a7,AK,AL⟩=>?_) (.inr hl);have AM:Inv (X.suite (X.pn++pins) ex) [] (Z1.set i (some (.ref ex))) H1 s7:=I7;obtain⟨f1,f2,f3,oe,vs,T,oT,ts,he,AN,uP,_⟩:=id uO;have j8:ex∉frs (X.env::X.outer):=λz=>by
   obtain⟨_,o',e',d⟩:=f3.mem z;rw[he] at e';cases e';exact d vs uP
  have qw:=(F'.move uO.1 qv).2.2;have qx:H1 ex=none:=by
   cases q:H1 ex with
   | none=>rfl
   | some u=>
    have z:=qw ex oe he j8 (.inr (by rw[q];simp));rw[f2] at z;cases z
  have lj:sc.heap.get? ex=none:=by
   cases q:sc.heap.get? ex with
   | none=>rfl
   | some u=>
    have z:=qw ex oe he j8 (.inl ⟨u,q⟩);rw[f2] at z;cases z
  have uQ:X.s₀.heap.get? ex=none:=by
   cases q:X.s₀.heap.get? ex with
   | none=>rfl
   | some u=>
    obtain⟨o1,e1⟩:=Ic.base.there ex u q (λz=>by
     have z':ex∈X.ex:=z;rw[hex] at z';cases z')
    rw[lj] at e1;cases e1
  have qy:ex≠X.env.locals:=λz=>j8 (by
   unfold frs;rw[Ql,iR,z];exact O3)
  have j9:∀y cc,X.env.cells.lookup y=some cc->cc≠ex:=λy cc e z=>by
   obtain⟨v,o,ho,hd⟩:=I6.cell y cc e;have dW:h6.get? cc=some o:=ho;rw[z,he] at dW;cases dW;rw[uP] at hd;cases hd
  have qz:∀p∈(X.pn++pins)++[],p.1≠ex:=λp hp z=>by
   have:=(Ic.pin p hp).1;rw[z,lj] at this;cases this
  have AO:ex≠a7:=by
   rcases AL with z | z
   ·rw[z];exact qy
   ·exact λq=>j9 n a7 z q.symm
  have yc:s7.heap.get? ex=some oe:=(AK.2 ex AO).trans he;have I8:=AM.track (a:=ex) (φ:=Dk ex c) qx uQ qy j9 qz ⟨oe,vs,yc,AN.1,uP⟩ ⟨oe,yc⟩ (λg1 g2 ⟨o,ws,q1,q2,q3⟩ k=>⟨o,ws,k o q1,q2,q3⟩);have ik:=hh (X.pn++pins) ex [] s7 _ _ _ I8 (AH ex qx);refine aN ik (λfl s9 q9=>?_) λ_ _ z=>z.elim;have lm:∀{Z':St} {H':Hp} {Q:Unit->ak->Prop},Inv (X.suite (X.pn++pins) ex) [] Z' H' s9->(∀jA,Inv X pins (Z'.set i none) H' jA->Q () jA) ->
    aj (ai X.prog X.w) X.A (do       bindName X.env n .none;unbindBehindTheSuite X.env n lh) Q X.xe s9:=λ{Z' H' Q} J k=>by
   have JX:Inv X pins Z' H' s9:=J.back I.ok j7;obtain⟨m,oJ,AQ⟩:=JX.loc;refine wpAny_nameGoes_keeps hl oJ (by rw[I.ok.kind];rfl) λh' v u5 q0=>?_;exact k _ (JX.unbind hN hi hl AQ u5 q0)
  cases fl with
  | next=>
   obtain⟨Z',H',J,q⟩:=q9;exact lm J λjA mX=>⟨_,H',mX,q⟩
  | brk=>
   obtain⟨Z',H',J,q⟩:=q9;exact lm J λjA mX=>⟨_,H',mX,q⟩
  | cont=>
   obtain⟨Z',H',J,q⟩:=q9;exact lm J λjA mX=>⟨_,H',mX,q⟩
  | ret u=>
   obtain⟨v, Z',H',J,r,q⟩:=q9;exact lm J λjA mX=>⟨v,_,H',mX,r,q⟩
end
section
variable {X:Cx}{pos p2:cN}{e:aL}{te:TE}
def tRev (K:KQ) (te:TE):TE:=fun Z H Q=>te Z H λx H1=>∃a xs,x = .ref a/\SqL K H1 a xs/\∀p,H1 p=none->Q (.ref p) (upd H1 p (.lst xs.reverse))
def Mf  (he:PE X e te):PE X (.Subscript e (.Slice none none (some (.UnaryOp .USub (.Constant (.int 1) k p3) p4)) p2) pos) (tRev X.K te):=by
 intro pins s Z H Q I h;refine dO (thn (he pins s Z H _ I h) λv s1 ⟨x,H1,I1,r1,q1⟩=>?_);have jB:PE X (.UnaryOp .USub (.Constant (.int 1) k p3) p4) (tUn (rU λi=>.int (-i)) (tC (.int 1))):=Lj Lk Af;refine ju ?_;rw[dH];refine T0 (T0 ?_);rw[hX];refine thn (jB pins s1 Z H1 (λy H2=>y = .int (-1)/\H2=H1) I1 ⟨1,rfl,rfl,rfl⟩) λu s2 ⟨y,H2,I2,r2,ey,eH⟩=>?_;subst ey eH;obtain⟨t,rfl⟩:=r2;obtain⟨a,xs,ex,hx,q⟩:=q1;subst ex;cases r1;obtain⟨aC,r,ht,hz⟩:=I2.list hx;have I4:Inv X pins Z H2 {s2 with heap:=s2.heap.push {cls:=.type "slice",data:=.fields #[.none,.none,.int (-1) t]} }:=I2.kept (t':=s2.toks) λb ob q=>Ud _ q;obtain⟨uR,r4,ln,oK⟩:=I4.list hx;have aO:=r4.length;refine jv (ops:=[.ref a,.ref s2.heap.objs.size]) ln.isList.typeIs eI.lookup (ie ln.isList (ar.IsSliceOf.new ..) .none .none (.int (-1) t) (by simp) ?_ (by rw[O0]<;>lia)) (by with_unfolding_all rfl);rw[PySem.W.krv_pick];refine⟨.ref _,_,I4.laid (t':=s2.toks) (o:=.lst xs.reverse) (λb ob q=>Ud _ q) (Oy _) ?_,rfl,q _ (I4.hok.fresh (Oy _))⟩;exact⟨by rw[Ry];exact oK,_,0,Vals.reverse r4,ar.get?_push_size _ rfl⟩
def Cd (xs ys:List V):Bool:=(xs.length==ys.length)&&(List.range xs.length).all λj=>eqV (xs.getD j .non) (ys.getD j .non)
def Mg:∀(xs ys:Za),Cd (xs.map V.str) (ys.map V.str)=decide (xs=ys):=by
 intro xs ys;unfold Cd;rw[Ow,Ow];by_cases e:xs=ys
 ·subst e;simp only[beq_self_eq_true,Qp,decide_true];rw[Po];intro j hj;have gf:j<xs.length:=Qb.mp hj;simp[List.getD,gf,eqV]
 ·rw[T9 e];by_cases hl:xs.length=ys.length
  ·cases hb:((xs.length==ys.length)&&(List.range xs.length).all λj=>eqV ((xs.map V.str).getD j .non) ((ys.map V.str).getD j .non)) with
   | false=>rfl
   | true=>
    exfalso;refine e (Ro hl λj h1 h2=>?_);rw[Pa,Po] at hb;have q:=hb.2 j (Qb.mpr h1);simp[List.getD,h1,h2,eqV] at q;exact q
  ·have:(xs.length==ys.length)=false:=by simpa using hl
   rw[this,Qj]
def Xbu (K:KQ) (g:Bool->Bool):R2:=λx y H Q=>∃a b xs ys,x = .ref a/\y = .ref b/\SqL K H a xs/\SqL K H b ys/\(∀v∈xs,B2 v=true)/\(∀v∈ys,B2 v=true)/\Q (.bl (g (Cd xs ys))) H
def Xbv    (rx:Vals xs us) (ry:Vals ys vs) (fx:∀v∈xs,B2 v=true) (fy:∀v∈ys,B2 v=true) (j) (h1:j<us.toArray.size) (h2:j<vs.toArray.size):
  SeqAt.EqAt A s us.toArray[j] vs.toArray[j] (eqV (xs.getD j .non) (ys.getD j .non)):=by
 have l1:=rx.length;have l2:=ry.length;rw[O0] at h1 h2;have g1:xs[j]? = some (xs[j]'(by lia)):=Ox (by lia);have g2:ys[j]? = some (ys[j]'(by lia)):=Ox (by lia);obtain⟨u,hu,ru⟩:=rx.get g1;obtain⟨v,hv,rv⟩:=ry.get g2;have e1:us.toArray[j]=u:=by
  rw[Sx];rw[Ox h1] at hu;exact Pd hu
 have e2:vs.toArray[j]=v:=by
  rw[Sx];rw[Ox h2] at hv;exact Pd hv
 rw[e1,e2];have d1:xs.getD j .non=xs[j]'(by lia):=by simp[List.getD,g1]
 have d2:ys.getD j .non=ys[j]'(by lia):=by simp[List.getD,g2]
 rw[d1,d2];exact Xa9 ru rv (fx _ (Ps _)) (fy _ (Ps _))
def Xiu(hu:X.A.units<bz):OpR X (aJ .Eq) (Xbu X.K id):=by
 intro pins s Z H x y v u Q I rx ry h;obtain⟨a,b,xs,ys,rfl,rfl,hx,hy,fx,fy,q⟩:=h;cases rx;cases ry;obtain⟨us,r1,p1,z1⟩:=I.list hx;obtain⟨vs,r2,p2,z2⟩:=I.list hy;have l1:=r1.length;have l2:=r2.length;by_cases hl:xs.length=ys.length
 ·refine SeqAt.eq_listAt (e:=λj=>eqV (xs.getD j .non) (ys.getD j .non)) p1.isList p2.isList (by rw[O0,O0];lia) hu (λj h1 h2=>Xbv r1 r2 fx fy j h1 h2) ?_;refine⟨.bl (Cd xs ys),H,I,?_,q⟩;show aa.bool _=aa.bool (Cd xs ys);unfold Cd;rw[O0,<-l1,hl,beq_self_eq_true,Qp]
 ·refine SeqAt.eq_list_lengthsAt p1.isList p2.isList (by rw[O0,O0];simpa using (by lia:us.length≠vs.length)) hu ?_;refine⟨.bl (Cd xs ys),H,I,?_,q⟩;show aa.bool _=aa.bool (Cd xs ys);unfold Cd;have:(xs.length==ys.length)=false:=by simpa using hl
  rw[this,Qj]
def Xbw(hu:X.A.units<bz):OpR X (aJ .NotEq) (Xbu X.K not):=by
 intro pins s Z H x y v u Q I rx ry h;obtain⟨a,b,xs,ys,rfl,rfl,hx,hy,fx,fy,q⟩:=h;cases rx;cases ry;obtain⟨us,r1,p1,z1⟩:=I.list hx;obtain⟨vs,r2,p2,z2⟩:=I.list hy;have l1:=r1.length;have l2:=r2.length;by_cases hl:xs.length=ys.length
 ·refine SeqAt.RcNeAt.lists (e:=λj=>eqV (xs.getD j .non) (ys.getD j .non)) p1.isList p2.isList (by rw[O0,O0];lia) hu (λj h1 h2=>Xbv r1 r2 fx fy j h1 h2) _ _ _ _ ?_;refine⟨.bl (!Cd xs ys),H,I,?_,q⟩;show aa.bool _=aa.bool (!Cd xs ys);unfold Cd;rw[O0,<-l1,hl,beq_self_eq_true,Qp]
 ·refine SeqAt.RcNeAt.lists_lengths p1.isList p2.isList (by rw[O0,O0];simpa using (by lia:us.length≠vs.length)) hu _ _ _ _ ?_;refine⟨.bl (!Cd xs ys),H,I,?_,q⟩;show aa.bool _=aa.bool (!Cd xs ys);unfold Cd;have:(xs.length==ys.length)=false:=by simpa using hl
  rw[this,Qj,Bool.not_false]
def Xiv (K:KQ) (n:Nat) (t:TGs):TG:=λv Z H Q=>∃a xs,v = .ref a/\SqL K H a xs/\xs.length=n/\t xs Z H Q
def Xiw    (hc:X.calm=true) (h:PGs X es t)
  (hn:(bx es X.env).length=n:=by rfl) (bv:(bx es X.env).findIdx? (·.1)=none:=by rfl):PG X (.Tuple es k pos) (Xiv X.K n t):=by
 intro pins s Z H v u Q I r hw;obtain⟨a,xs,e1,hq,hl,hw⟩:=hw;subst e1;cases r;obtain⟨aC,rv,ht,hz⟩:=I.list hq;rw[assign_Tuple];refine Tz (bd ?_);unfold unpack;have aO:(bx es X.env).length=aC.toArray.size:=by rw[hn,<-hl,O0];exact rv.length
 rw[aO,bv];refine Tz (aA (PySem.W.kun_itemsOf (I.ok.hd hc) ht.isList λh' hx=>?_));have I1:Inv X pins Z H {s with heap:=h'}:=I.kept (t':=s.toks) λb o e=>hx b o (O6 (Uc e)) e;exact h pins _ Z H xs _ Q I1 (by simpa using rv) hw
def repS (z:aq) (n:Nat):aq:=⟨(List.replicate n z.cps).foldl (· ++ ·) #[]⟩
def Xix(z):repS z 1=z:=by
 obtain⟨c⟩:=z;show (⟨(#[]:Array Nat)++c⟩:aq)=⟨c⟩;rw[Array.empty_append]
theorem Xbx(z):∀(n:Nat) (a:Array Nat),((List.replicate n z).foldl (· ++ ·) a).size=a.size+n * z.size
 | 0,a=>by simp
 | n+1,a=>by
  rw[Q4,R7,Xbx z n,Array.size_append,Nat.succ_mul]
  lia
def Mh(z)(n):(repS z n).length=n * z.length:=by
 have e:=Xbx z.cps n #[];show ((List.replicate n z.cps).foldl (· ++ ·) #[]).size=n * z.cps.size;simpa using e
def Xiy(h:z.length=0)(n):repS z n=z:=by
 have e:=Mh z n;rw[h,Nat.mul_zero] at e;generalize repS z n=y at e;obtain⟨c⟩:=z;obtain⟨d⟩:=y;have h':c.size=0:=h;have e':d.size=0:=e;rw[Array.size_eq_zero_iff] at h' e';rw[h',e']
def Xiz:OpR X (bg .Mult) (λx y H Q=>∃z n,x = .str z/\y = .int n/\0<=n/\n<=1000/\z.length<=1000/\Q (.str (repS z n.toNat)) H):=by
 intro pins s Z H x y v u Q I rx ry h;obtain⟨z,n,rfl,rfl,h0,h1,hz,q⟩:=h;obtain⟨t,rfl⟩:=rx;obtain⟨t',rfl⟩:=ry;have hle:z.length * n.toNat<=1000 * 1000:=Nat.mul_le_mul hz (by lia);refine PySem.P.mul_str ?_ (λhn yd=>?_) (λhn yd=>?_) ?_
 ·have h2:¬n < -(2 ^ 63:Int):=by lia
  have h3:¬n ≥ 2 ^ 63:=by lia
  rw[T9 h2,T9 h3];rfl
 ·have h4:(1000:Int)<=(2 ^ 63 - 1) / n:=by
   refine(Int.le_ediv_iff_mul_le (by lia)).mpr ?_;have:(1000:Int) * n<=1000 * 1000:=by lia
   lia
  lia
 ·show am.Str.tooLong _=false;unfold am.Str.tooLong
  first
   | (refine T9 ?_;have:=hle;rw[T5];lia)
   | (simp;lia)
 ·by_cases hn:n<1
  ·rw[T7 hn];have:n=0:=by lia
   subst this;exact⟨by decide,.str aq.empty,H,I.tok _,⟨_,rfl⟩,q⟩
  ·rw[T6 hn];by_cases hc:(n==1||z.length==0)=true
   ·rw[T7 hc];have e:repS z n.toNat=z:=by
     rcases S8.mp hc with e | e
     ·have e':n=1:=by simpa using e
      subst e';exact Xix z
     ·exact Xiy (by simpa using e) _
    rw[e] at q;exact⟨.str z,H,I,⟨_,rfl⟩,q⟩
   ·rw[T6 hc];refine⟨?_,.str (repS z n.toNat),H,I.tok _,⟨_,rfl⟩,q⟩;show (repS z n.toNat).length<=sizeLine;rw[Mh,Nat.mul_comm,T5]
    lia
def Mi:X.calm=true->Bw X (.builtin "all") (λxs H Q=>∃(a:ae) (bs:List Bool),xs=[.ref a]/\H a=some (.lst (bs.map V.bl))/\Q (.bl (bs.all id)) H):=by
 intro hc pins s Z H xs us Q I r h;obtain⟨a,bs,rfl,ha,q⟩:=h;obtain⟨u,rfl,ru⟩:=Cg r;cases ru;obtain⟨aC,rv,p,hz⟩:=I.list (SqL.of ha);have hl:=rv.length;rw[Ow] at hl;refine call_all_walk (cG p.isList ?_);have bo:a≠s.heap.objs.size:=by
  obtain⟨o,ho,_⟩:=p.isList;exact O6 (Uc ho)
 refine⟨s.heap.objs.size,_,_,_,_,_,λj=>bs.getD j false,rfl,lY.list (A:=X.A.in1) (show X.A.in1.handled=none from I.ok.hd hc) s.heap.objs.size a bo aC.toArray,⟨⟨_,ar.get?_push_size _ rfl,rfl,rfl⟩,p.isList.push _⟩,λi v s' Q' E' hP hQ=>?_,λh' tk k=>?_⟩
 ·have hv:aC[i]? = some v:=by simpa using hP
  have hi:i<aC.length:=(O8.mp hv).1;have g:(bs.map V.bl)[i]? = some (.bl (bs[i]'(by lia))):=by
   rw[Pf,Ox (by lia)];rfl
  obtain⟨u,hu,ru⟩:=rv.get g;rw[hv] at hu;cases hu;cases ru;have e:bs.getD i false=bs[i]'(by lia):=by simp[List.getD,(by lia:i<bs.length)]
  have qA:Q' (bs.getD i false) s':=hQ;rw[e] at qA;exact aR qA
 ·refine⟨.bl (bs.all id),H,I.kept (t':=tk) λb o e=>k b o (λz=>?_) (Ud _ e),?_,q⟩
  ·have z':b=s.heap.objs.size:=by simpa using z
   exact absurd (Uc e) (by rw[z'];exact Qg _)
  ·show aa.bool _=aa.bool _;congr 1;rw[O0,<-hl];rw[Qu,Po,Po];constructor
   ·intro hx b hb;obtain⟨j,hj,rfl⟩:=P7.mp hb;have:=hx j (Qb.mpr hj);simpa [List.getD,hj] using this
   ·intro hx j hj;have gf:=Qb.mp hj;have:=hx _ (Ps gf);simpa [List.getD,gf] using this
end
def Itd (d:ae) (o:aU) (kvs:List (Key×V)):It:=
 ⟨λi H=>H d=some (.frz o (.dK kvs))/\i<kvs.length,λi H x H'=>H'=H/\∃p,kvs[i]? = some p/\x=kV p.1,λi H=>H d=some (.frz o (.dK kvs))/\kvs.length<=i⟩
def Xi0    (h:(Bf P w).is k u=true):Ah (kV k) u:=by
 rcases Dr (show D8 k u=true from h) with ⟨i,t,rfl,rfl⟩ | ⟨x,t,rfl,rfl⟩
 ·exact⟨t,rfl⟩
 ·exact⟨t,rfl⟩
theorem Xby:∀{kvs:List (Key×V)} {vs:List (Key×aa)} {i:Nat} {p:Key×V},KV kvs vs->kvs[i]? = some p->∃u,vs[i]? = some (p.1,u)
 | _,_,_,_,.nil,e=>by simp at e
 | _,_,0,p,.cons (b:=b) r _,e=>by
  simp at e;subst e;obtain⟨k,u⟩:=b;obtain⟨r1,r2⟩:=r;exact⟨u,by simp only[List.getElem?_cons_zero,Option.some.injEq,Prod.mk.injEq];exact⟨r1.symm,trivial⟩⟩
 | _,_,i+1,p,.cons _ t,e=>by
  obtain⟨u,h⟩:=Xby (i:=i) t (by simpa using e);exact⟨u,by simpa using h⟩
def Mj{P:av}{w:a8}{K:KQ}{tg:aL}(d it:ae)(o:aU)(es:Array mP)(ep:Nat)(hd:o.data = .dict es ep)(kvs:List (Key×V))(eZ:d≠it):
  Turn P w K tg (Itd d o kvs) [it] it (λi h=>h.IsKeyIter it d i kvs.length ep) where
 mem:=by simp
 obj:=λi h st b hb=>by
  have e:b=it:=by simpa using hb
  subst e;obtain⟨o,e,c,d⟩:=st;exact⟨o,e,λv z=>by rw[d] at z;cases z⟩
 keep:=λi h h' st k=>by
  obtain⟨o,e,r⟩:=st;exact⟨o,k it (by simp) o e,r⟩
 item:=by
  intro X hP hw hK hc i pins s Z H E I hf st hg;subst hP hw hK;obtain⟨hH,hi⟩:=hg;obtain⟨ho,hz,hm,vs,rv,o',cC,ka,dW,hex,gK,r'⟩:=I.hok d _ hH;rw[ho] at dW;cases dW;rw[hd] at gK;cases gK;have aO:kvs.length=vs.length:=Paired.length rv;obtain⟨f0,f1,f2,f3,f4,f5⟩:=hf it (by simp);have hp:kvs[i]? = some (kvs[i]'hi):=Ox hi;obtain⟨u,hu⟩:=Xby rv hp;rw[aO] at st;refine wpAny_pyNext_dict_item (knd:=Bf X.prog X.w) st ⟨o,es,ho,hex,hd,r'⟩ hu λcT h' hk aD sb=>?_;have I1:Inv X pins Z H {s with heap:=h'}:=I.turned (t':=s.toks) (λb o hb e=>(sb.2 b hb).trans e) f0 f1 f3 f4 f5;obtain⟨o2,e2,c2,d2⟩:=id aD;refine⟨cT,rfl,Jd (s:={s with heap:=h'}) e2 c2 d2 (by decide) ⟨_,H,I1,Xi0 hk,⟨rfl,_,hp,rfl⟩,?_,λb hb=>(hf b hb).1⟩⟩;rw[aO];exact aD
 done:=by
  intro X hP hw hK hc i pins s Z H E I hf st hg;subst hP hw hK;obtain⟨hH,hi⟩:=hg;obtain⟨ho,hz,hm,vs,rv,o',cC,ka,dW,hex,gK,r'⟩:=I.hok d _ hH;rw[ho] at dW;cases dW;rw[hd] at gK;cases gK;have aO:kvs.length=vs.length:=Paired.length rv;obtain⟨f0,f1,f2,f3,f4,f5⟩:=hf it (by simp);rw[aO] at st;exact wpAny_pyNext_dict_end (knd:=Bf X.prog X.w) (I.ok.hd hc) st ⟨o,es,ho,hex,hd,r'⟩ (R9 (by lia)) λh' eb=>⟨rfl,I.turned (t':=s.toks) (λb o hb e=>eb b o hb e) f0 f1 f3 f4 f5⟩
 self:=λA i s Q E st h=>by
  refine eN st.typeIs PySem.F.slot_dict_keyiterator_iter (aP PySem.F.slot_dict_keyiterator_iter st.typeIs PySem.F.entry_dict_keyiterator_iter ?_ (PySem.F.args_dict_keyiterator_iter_1 _));show aj _ _ (ret (.ref it)) _ _ s;exact T0 ⟨_,rfl, "dict_keyiterator",_,st.typeIs,PySem.F.slot_dict_keyiterator_next.lookup,h⟩
section
variable {X:Cx}{tg:aL}
def Inv.freeze       (I:Inv X pins Z H s) (hH:H d=some (.dK kvs)) (ho:s.heap.get? d=some o):Inv X pins Z (upd H d (.frz o (.dK kvs))) s:=by
 have ne:∀{b:ae} {u:HO},H b=some u->(HO.dK kvs≠u)->b≠d:=λ{b u} e n=>Xaa e hH (λz=>n z.symm);refine⟨I.ok,I.os,I.bare,⟨I.base.keep,I.base.slot,λb ob e n hx=>?_,I.base.there,λb xs e=>?_,λb ob u e=>?_,λb ps e=>?_⟩,I.loc,I.cell,?_,λx c e=>?_,λp jm=>?_,λb ob e=>?_,I.len⟩
 ·have q:=I.base.free b ob e n hx;rw[Ad (λz=>by rw[z,hH] at q;cases q)];exact q
 ·have q:=I.base.tups b xs e;rw[Ad (ne q (by simp))];exact q
 ·have q:=I.base.frzs b ob u e;rw[Ad (ne q (by simp))];exact q
 ·obtain⟨bS,q⟩:=I.base.tbls b ps e;exact⟨bS,by rw[Ad (ne q (by simp))];exact q⟩
 ·rw[Ad (λz=>by have:=I.free;rw[z,hH] at this;cases this)];exact I.free
 ·have q:=I.freeC x c e;rw[Ad (λz=>by rw[z,hH] at q;cases q)];exact q
 ·obtain⟨e,n,r⟩:=I.pin p jm;exact⟨e,by rw[Ad (λz=>by rw[z,hH] at n;cases n)];exact n,r⟩
 ·by_cases hb:b=d
  ·subst hb;rw[Ab] at e;cases e;exact⟨ho,(I.hok b _ hH).stay (λ_ _ _ q=>q) (λc q=>by rw[Ad (ne q (by simp))];exact q) λc xs q=>by rw[Ad (ne q (by simp))];exact q⟩
  ·rw[Ad hb] at e;exact(I.hok b ob e).stay (λ_ _ _ q=>q) (λc q=>by rw[Ad (ne q (by simp))];exact q) λc xs q=>by rw[Ad (ne q (by simp))];exact q
def Xi1 (tl:TE):TI:=fun Z H R=>tl Z H λx H1=>∃d kvs,x = .ref d/\H1 d=some (.dK kvs)/\∀o,R (Itd d o kvs) (upd H1 d (.frz o (.dK kvs)))
def Xi2  (hl:PE X l tl):PI X tg l (Xi1 tl):=by
 intro pins s Z H R I h;refine thn (hl pins s Z H _ I h) λv s1 ⟨x,H1,I1,r1,q1⟩=>?_;obtain⟨d,kvs,e,hH,q⟩:=q1;subst e;cases r1;obtain⟨hz,hm,vs,rv,o,es,ep,ho,hex,hd,r⟩:=I1.hok d _ hH;have aO:kvs.length=vs.length:=Paired.length rv;refine eO (knd:=Bf X.prog X.w) hm ⟨o,es,ho,hex,hd,r⟩ ?_;have I2:=I1.freeze hH ho;refine⟨s1.heap.objs.size,[s1.heap.objs.size],_,_,_,rfl,I2.kept (t':=s1.toks) λb o e=>Ud _ e,Mj d _ o es ep hd kvs (O6 (Uc ho)),⟨_,ar.get?_push_size _ rfl,rfl,by rw[aO];rfl⟩,λb hb=>?_,q o⟩;have e:b=s1.heap.objs.size:=by simpa using hb
 subst e;exact I2.fpOk (Oy _) (I2.hok.fresh (Oy _))
end
def PJ (X:Cx) (es:List aL) (t:St->Hp->(Hp->Prop)->Prop):Prop:=
 ∀(out:aq) (pins:List (ae×aU)) (s:ak) (Z:St) (H:Hp) (Q:Hp->Prop),Inv X pins Z H s->t Z H Q->out.length+5000 * es.length<=sizeLine ->
  aj (ai X.prog X.w) X.A (joinParts out (bV es X.env)) (λu s'=>∃z tk H',u = .str z tk/\Inv X pins Z H' s'/\Q H') X.xe s
def Xbz:St->Hp->(Hp->Prop)->Prop:=λ_ H Q=>Q H
def Jt (t:St->Hp->(Hp->Prop)->Prop):St->Hp->(Hp->Prop)->Prop:=t
def Ml (te:TE) (t:St->Hp->(Hp->Prop)->Prop):St->Hp->(Hp->Prop)->Prop:=fun Z H Q=>te Z H λx H1=>∃i,x = .int i /\ -(10 ^ 18)<i/\i<10 ^ 18/\t Z H1 Q
section
variable {X:Cx}{es:List aL}{t:St->Hp->(Hp->Prop)->Prop}{e:aL}{te:TE}{pos:cN}
def Mm:PJ X [] Xbz:=λout pins s Z H Q I h hz=>joinParts_nil ⟨out,_,H,rfl,I.tok _,h⟩ (by simpa using hz)
def Ee(a b:aq):(a++b).length=a.length+b.length:=il a b
def Fv   (hz:z.length<=5000) (h:PJ X es t) (he:bV (.Constant (.str z) k p::es) X.env=eval (.Constant (.str z) k p) X.env::bV es X.env:=by rfl):PJ X (.Constant (.str z) k p::es) (Jt t):=by
 intro out pins s Z H Q I hw hl;rw[he];rw[Pj] at hl;refine dg (Calls.Constant_str ⟨by rw[Ee];lia,?_⟩);exact h (out++z) pins _ Z H Q (I.tok _) hw (by rw[Ee];lia)
def Xb0(ha:PE X e te)(h:PJ X es t)(he:bV (.FormattedValue e (-1) none p::es) X.env=eval (.FormattedValue e (-1) none p) X.env::bV es X.env:=by rfl):PJ X (.FormattedValue e (-1) none p::es) (Ml te t):=by
 intro out pins s Z H Q I hw hl;rw[he];rw[Pj] at hl;refine dg (FormattedValue_plain (thn (ha pins s Z H _ I hw) λv s1 ⟨x,H1,I1,r1,q1⟩=>?_));obtain⟨i,ei,h1,h2,q⟩:=q1;subst ei;obtain⟨tk,rfl⟩:=r1;have hn:i.natAbs<10 ^ 18:=by lia
 have uS:i.natAbs.log2<1920:=by
  by_cases h0:i.natAbs=0
  ·rw[h0];decide
  ·exact(Nat.log2_lt h0).mpr (Pg hn (Pu (by decide:10 ^ 18<=2 ^ 60) (Nat.pow_le_pow_right (by decide) (by decide))))
 have aO:(aq.ofString (toString i)).length<=19:=by
  rw[PySem.ofString_length];exact int_text_length_le10 (k:=18) (by decide) hn
 refine formatField_int_small uS ⟨by rw[Ee];lia,?_⟩;exact h _ pins _ Z H1 Q ((I1.tok _)) q (by rw[Ee];lia)
def Xb1 (t:St->Hp->(Hp->Prop)->Prop):TE:=fun Z H Q=>t Z H λH1=>∀z,Q (.str z) H1
def Mn(h:PJ X (a::b::es) t)(hz:5000 * (a::b::es).length<=sizeLine:=by decide)(he:bV (a::b::es) X.env=eval a X.env::eval b X.env::bV es X.env:=by rfl):PE X (.JoinedStr (a::b::es) pos) (Xb1 t):=by
 intro pins s Z H Q I hw;refine JoinedStr_many ?_;rw[<-he];refine thn (h aq.empty pins s Z H _ I hw (by rw[show aq.empty.length=0 from rfl];lia)) λu s' ⟨z,tk,H',e,I',q⟩=>?_;subst e;exact⟨.str z,H',I',⟨tk,rfl⟩,q z⟩
end
end L2
namespace L2
open PySem.Calls Builtin Builtin.ObjectAttr Builtin.Getset_descriptor
structure ExcF (K:KQ) (C:ae):Prop where
 ga:Le K (.ref C) "__getattribute__" = some (some (.builtin "BaseException.__getattribute__"))
 gn:Le K (.ref C) "__getattr__" = some none
 cl:Le K (.ref C) "__class__" = some (some (.builtin "object.__class__"))
 sb:KY K (.ref C) (.type "BaseException")=some true
 so:KY K (.ref C) (.type "object")=some true
 ic:(LU K C).isSome=true
section
variable {prog:av}{w:a8}{A:aB}{E:Zb}{K:KQ}{C a:ae}{h:ar}{g:Array GenState}{d:Drawn}{t:Nat}{os:OsState}
open PySem.W in
def Hk{M:Model}(p:Dk a C h):Looks M h (qc (.ref a)) (.ref C):=by
 obtain⟨o,vs,h1,h2,h3⟩:=p;exact h2 ▸ (Looks.ld h1).andThen .now
open PySem.W in
def Xi3{R:iN->ak->Prop}(X:K.In h)(F:ExcF K C)(p:Dk a C h)(hq:R (.ok (.ret (.ref C))) ⟨h,g,d,t,os⟩):
  br (ai prog w) A (.call (.builtin "getset_descriptor.__get__") ⟨[.builtin "object.__class__",.ref a,.ref C],[]⟩) R ⟨h,g,d,t,os⟩:=by
 have L0:=Hk (M:=ai prog w) p;have L1:Looks (ai prog w) h (iI (.ref C) (.type "object")) true:=looks_subIn X F.so;refine dh KF.slot_gs.plain KF.entry_gs (KF.slot_gs.check _ _ _ _ _ _ _ _ KF.type_class (KF.args_gs _ _ _) ?_);unfold am.«getset_descriptor.__get__» descrGet;rw[dga_obj];refine Tz (T0 ?_);unfold descrGetter descrCheckInstance descrNameAndClass dQ;simp only[KF.owner_class]
 repeat lk
 refine⟨Code.quiet_builtin _ (by decide +kernel),b9 KF.entry_class ?_⟩;unfold am.«object.__class__» shownTypeOf
 repeat lk
 exact hq
open PySem.W in
def Xi4{tk:IL}{Q:Fin->ak->Prop}(X:K.In h)(F:ExcF K C)(p:Dk a C h)(hq:Q (.done (.ret (.ref C))) ⟨h,g,d,t,os⟩):
  aj (ai prog w) A (am.«object.__getattribute__» ⟨[.ref a,.str "__class__" tk],[]⟩) Q E ⟨h,g,d,t,os⟩:=by
 have L0:=Hk (M:=ai prog w) p;have L1:=looks_findIn (M:=ai prog w) X F.cl;have IS:(⟨h,g,d,t,os⟩:ak).TypeIs (.builtin "object.__class__") "getset_descriptor" := PySem.F.typeOf_object_class;have f5:=PySem.F.typeOf_object_class;have f6:=PySem.F.slot_gs_get.lookup;have f7:=PySem.F.slot_gs_set.lookup
 repeat (any_goals (first | assumption | (refine Tz (L0.at ?_)) | (refine Tz (L1.at ?_)) | wp_step))
 refine Xi3 X F p ?_
 repeat (any_goals (first | assumption | wp_step))
open PySem.W in
def Xi5{M:Model}{mf:aa}{Q:Unit->ak->Prop}(X:K.In h)(F:ExcF K C)(p:Dk a C h)(hq:Q () ⟨h,g,d,t,os⟩):aj M A (fb "BaseException.__getattribute__" ⟨[.ref a,mf],[]⟩) Q E ⟨h,g,d,t,os⟩:=by
 have hk:builtinKind "BaseException.__getattribute__" = some .slot:=by decide +kernel
 have mY:splitId "BaseException.__getattribute__" = some ("BaseException", "__getattribute__"):=by decide +kernel
 have L0:=Hk (M:=M) p;have L1:Looks M h (iI (.ref C) (.type "BaseException")) true:=looks_subIn X F.sb;have LI:Looks M h (dQ (.ref a) (.type "BaseException")) true:=L0.andThen L1;have ha:=PySem.F.args_bexc_ga (.ref a) mf;simp only[fb,hk,mY];refine Tz (LI.at ?_)
 repeat (first | assumption | wp_step)
open PySem.W in
def Xi6{tk:IL}{R:iN->ak->Prop}(X:K.In h)(F:ExcF K C)(p:Dk a C h)(hq:R (.ok (.ret (.ref C))) ⟨h,g,d,t,os⟩):
  br (ai prog w) A (.call (.builtin "BaseException.__getattribute__") ⟨[.ref a,.str "__class__" tk],[]⟩) R ⟨h,g,d,t,os⟩:=
 dh (by decide +kernel) PySem.F.entry_bexc_ga (Xi5 X F p (Xi4 X F p hq))
open PySem.W in
def Xi7{tk:IL}{Q:Zb}(X:K.In h)(F:ExcF K C)(p:Dk a C h)(hq:Q (.ref C) ⟨h,g,d,t,os⟩):
  aj (ai prog w) A (getAttrBy (.ref a) (.str "__class__" tk) false) Q E ⟨h,g,d,t,os⟩:=by
 have L0:=Hk (M:=ai prog w) p;have L1:=looks_findIn (M:=ai prog w) X F.ga;have L2:=looks_findIn (M:=ai prog w) X F.gn;have f3:bindSpecial (.builtin "BaseException.__getattribute__") (.ref a)=pure (.builtin "BaseException.__getattribute__",[.ref a]):=PySem.F.excAttr_ValueError.ga.bind (.ref a);have oM:(aa.builtin "BaseException.__getattribute__" == aa.builtin "object.__getattribute__")=false:=by decide +kernel
 have qB:(onTheHeap (aa.ref C)&&aa.builtin "BaseException.__getattribute__" == aa.builtin "object.__getattribute__")=false:=by rw[oM];rfl
 repeat (any_goals (first | assumption | (refine Tz (L0.at ?_)) | (refine Tz (L1.at ?_)) | (refine Tz (L2.at ?_)) | wp_step))
 refine Xi6 X F p ?_
 repeat (any_goals (first | assumption | wp_step))
open PySem.W in
def Xi8{Q:Option aa->ak->Prop}(X:K.In h)(F:ExcF K C)(p:Dk a C h)(hq:Q (some (.ref C)) ⟨h,g,d,t+1,os⟩):aj (ai prog w) A (getAttr? (.ref a) "__class__") Q E ⟨h,g,d,t,os⟩:=by
 unfold getAttr? getAttrBy?
 repeat (any_goals (first | assumption | with_reducible apply Xi7 X F p | wp_step))
end
end L2
namespace L2
def Xi9{K:KQ}{C a:ae}(F:ExcF K C):PySem.W.KitX K (.ref a) (.ref C) (Dk a C) where
 ty:=λM h X p=>Hk p
 it:=λM h X p=>by
  have z:=F.ic;unfold LU at z;split at z
  ·rename_i c' d' AR gM ho;intro A' Q' E' s' k q;unfold isType loadHead;exact Tz (wpAny_loadPart (k _ _ (X _ _ ho)) (T0 q))
  ·cases z
 ne:=λh tp dd aC n sl X kj=>by
  refine Rv.mpr λq=>?_;have e:C=tp:=aa.ref.inj (beq_iff_eq.mp q);subst e;have z:=F.ic;unfold LU at z;split at z
  ·rename_i c' d' AR gM ho;have z:=(X _ _ ho).symm.trans kj;cases z
  ·cases z
 ca:=λ{prog w A E Q s} X p k=>by
  obtain⟨h,g,d,t,os⟩:=s;exact Xi8 X F p k
def Hl:V->Option aa
 | .ty n=>some (.type n)
 | .ref a=>some (.ref a)
 | _=>none
def Xb2  (r:Ah c u) (h:Hl c=some v):u=v:=by
 cases c with
 | ty n=>cases r;exact Pd h
 | ref a=>cases r;exact Pd h
 | _=>cases h
section
variable {X:Cx}
def Mo:Bw X (.builtin "isinstance") (λxs H Q=>∃x c t cv b,xs=[x,c]/\TyOf X.K H x t/\Hl c=some cv/\KZ X.K t cv=some b/\Q (.bl b) H):=by
 intro pins s Z H xs us Q I r h;obtain⟨x,c,t,cv,b,rfl,ty,hc,e,q⟩:=h;obtain⟨u,v,rfl,ru,rv⟩:=r.two;have:=Xb2 rv hc;subst this;exact Xhe I ru ty e λtk=>⟨.bl b,H,I.tok _,rfl,q⟩
def Xja:Bw X (.builtin "isinstance") (λxs H Q=>∃a C c cv b,xs=[.ref a,c]/\H a=some (Fu a C)/\ExcF X.K C/\Hl c=some cv/\KZ X.K (.ref C) cv=some b/\Q (.bl b) H):=by
 intro pins s Z H xs us Q I r h;obtain⟨a,C,c,cv,b,rfl,ha,F,hc,e,q⟩:=h;obtain⟨u,v,rfl,ru,rv⟩:=r.two;have:=Xb2 rv hc;subst this;cases ru;obtain⟨p,_⟩:=(show A3 X.prog X.w H s.heap a (.ext (Dk a C)) from I.hok a _ ha);exact KW (Xi9 F) I.kIn p e (λz=>nomatch z) λtk=>⟨.bl b,H,I.tok _,rfl,q⟩
end
def wN (n:Nat) (Pv:Nat->St->Hp->Prop):Nat->Nat->St->Hp->Prop:=λi m Z H=>m=n - i/\i<=n/\Pv i Z H
def wput       (hi:i<n) (hD:H D=some (.lst ys)) (hl:ys.length<sizeLine) (p:Pv (i+1) Z (upd H D (.lst (ys++[y])))):
  ∃ys,H D=some (.lst ys)/\ys.length<sizeLine/\∃m',m'<n - i/\wN n Pv (i+1) m' Z (upd H D (.lst (ys++[y]))):=⟨ys,hD,hl,n - (i+1),by lia,rfl,hi,p⟩
def wskip    (hi:i<n) (p:Pv (i+1) Z H):∃m',m'<n - i/\wN n Pv (i+1) m' Z H:=⟨n - (i+1),by lia,rfl,hi,p⟩
def Ju        (n:Nat) (vs:Nat->V) (Pv:ae->Nat->St->Hp->Prop)
  (h0:∀D,H1 D=none->Pv D 0 (Bu cap Z) (upd H1 D (.lst [])))
  (ik:∀D i Z2 H2,H1 D=none->i<n->Pv D i Z2 H2->J.go i H2/\∀x H3,J.yld i H2 x H3->H3=H2/\x=vs i)
  (bv:∀D Z2 H2,H1 D=none->Pv D n Z2 H2->J.stop n H2)
  (step:∀D i Z1 H2,H1 D=none->i<n->Pv D i Z1 H2->g (vs i) Z1 H2 fun Z2 H4=>tt Z2 H4 λb H5=>
   if b=true then te Z2 H5 λy H6=>∃ys,H6 D=some (.lst ys)/\ys.length<sizeLine/\∃m',m'<n - i/\wN n (Pv D) (i+1) m' Z2 (upd H6 D (.lst (ys++[y])))
   else ∃m',m'<n - i/\wN n (Pv D) (i+1) m' Z2 H5)
  (hd:∀D Z2 H2,H1 D=none->Pv D n Z2 H2->F D H2):Ft cap g tt te J Z H1 F:=by
 intro D hD;refine⟨wN n (Pv D),⟨n,by simp,Px _,h0 D hD⟩,?_⟩;rintro i m Z1 H2 ⟨rfl,hi,p⟩;by_cases bo:i<n
 ·obtain⟨h1,h2⟩:=ik D i Z1 H2 hD bo p;refine .inr ⟨h1,λx H3 y=>?_⟩;obtain⟨e1,e2⟩:=h2 x H3 y;subst e1 e2;exact step D i Z1 _ hD bo p
 ·have e:i=n:=by lia
  subst e;exact .inl ⟨bv D Z1 H2 hD p,hd D Z1 H2 hD p⟩
def Ef{K}    (h:SqL K H a xs)(hi:i<xs.length):(Itl K a).go i H/\∀x H3,(Itl K a).yld i H x H3->H3=H/\x=xs.getD i .non:=
 ⟨⟨xs,xs[i],h,by simp[hi]⟩,λx H3 ⟨e,y⟩=>⟨e,by have:=y xs h;simp[List.getD,this]⟩⟩
def Eg{K}   (h:SqL K H a xs):(Itl K a).stop xs.length H:=⟨xs,h,Oy _⟩
def Gc{K}    (h:SqT K H a xs)(hi:i<xs.length):(Itt K a).go i H/\∀x H3,(Itt K a).yld i H x H3->H3=H/\x=xs.getD i .non:=
 ⟨⟨xs,xs[i],h,by simp[hi]⟩,λx H3 ⟨e,y⟩=>⟨e,by have:=y xs h;simp[List.getD,this]⟩⟩
def Ge{K}   (h:SqT K H a xs):(Itt K a).stop xs.length H:=⟨xs,h,Oy _⟩
def Hm   {kvs}  (h:H d=some (.frz o (.dK kvs))) (hi:i<kvs.length):(Itd d o kvs).go i H/\∀x H3,(Itd d o kvs).yld i H x H3->H3=H/\x=(kvs.map λp=>kV p.1).getD i .non:=
 ⟨⟨h,hi⟩,λx H3 ⟨e,p,hp,y⟩=>⟨e,by rw[y];simp[List.getD,hp]⟩⟩
def Hn   {kvs} (h:H d=some (.frz o (.dK kvs))):(Itd d o kvs).stop kvs.length H:=⟨h,Oy _⟩
end L2
namespace L2
open PySem.Calls
def Xjb(t:ag)(n):(t.orStandIn n).led=t.led:=by
 unfold ag.orStandIn;split
 ·rfl
 ·rfl
def Xjc(t)(es)(k)(x):(AS t es k x).2.1.led=t.led:=by
 unfold AS;split
 ·exact Xjb _ _
 ·rfl
def Xjd  {led plain}   (h:ag.laid mask finger moves led plain hs=some (t,o)):t.led=led/\t.plain=plain:=by
 unfold ag.laid at h;cases q:ag.layClean mask hs with
 | none=>rw[q] at h;cases h
 | some ow=>
  rw[q] at h;cases h;exact⟨rfl,rfl⟩
def Xje(t)(es)(n)(hp:t.plain=false):(dm t es n).2.1.led=t.led/\(dm t es n).2.1.plain=false:=by
 unfold dm;split
 ·rename_i t' o e;obtain⟨e1,e2⟩:=Xjd e;dsimp only;split
  ·exact⟨e1,e2.trans hp⟩
  ·exact⟨rfl,rfl⟩
 ·exact⟨rfl,rfl⟩
def A5 (w:a8):Bool:=w.params.followText "set-order"
def SSet (P:av) (w:a8) (h:ar) (a:ae) (ks:Za):Prop:=
 ∃o es ep t ls,h.get? a=some o/\o.ExactSet/\o.data = .set es ep t/\eP (PySem.strKind P w) es.toList/\aF (es.toList.map (·.2)) ls/\ls.Perm ks/\es.size<aW/\t.fits es.size=true/\t.led = !A5 w/\(t.plain=true->es.size=0)
def Jv{l1 l2:List (Int×aa)}(p:l1.Perm l2)(h:aF (l2.map (·.2)) ls):∃oN,aF (l1.map (·.2)) oN/\oN.Perm ls:=by
 refine⟨(l1.map (·.2)).map mh,ye _ (λv hv=>?_),?_⟩
 ·exact h.all v ((p.map (·.2)).mem_iff.mp hv)
 ·rw[<-h.strs];exact(p.map (·.2)).map mh
def Xjf    (h:aF vs ls):aF (vs++[.str x t]) (ls++[x]):=by
 induction h with
 | nil=>exact .cons x t .nil
 | cons y u _ ih=>exact .cons y u ih
section
variable {P:av}{w:a8}{A:aB}{E:Zb}{s:ak}{a:ae}{ks:Za}
def SSet.stay(S:SSet P w h a ks)(k:∀o,h.get? a=some o->h'.get? a=some o):SSet P w h' a ks:=by
 obtain⟨o,es,ep,t,ls,ho,r⟩:=S;exact⟨o,es,ep,t,ls,k o ho,r⟩
def Xb3{vs:List (Int×aa)}  (h:aF (vs.map (·.2)) ls):x∈ls ↔ ∃e∈vs,(PySem.strKind P w).is x e.2=true:=by
 rw[<-h.strs];constructor
 ·intro hx;obtain⟨v,hv,rfl⟩:=Pq.mp hx;obtain⟨e,he,rfl⟩:=Pq.mp hv;obtain⟨y,t,q⟩:=h.all e.2 hv;refine⟨e,he,?_⟩;rw[q];exact gh P w y t
 ·rintro ⟨e,he,q⟩;obtain⟨t,e2⟩:=aa.isStrOf_shape q;exact Pq.mpr ⟨e.2,Pq.mpr ⟨e,he,rfl⟩,by rw[e2];rfl⟩
def Xb4     {h:ar} (ho:h.get? a=some o) (hex:o.ExactSet) (hd:o.data = .set es ep t)   (dY:eP (PySem.strKind P w) cC.toList) (hs:aF (cC.toList.map (·.2)) ls) (hp:ls.Perm ks) (hb:cC.size<aW) (hf:t'.fits cC.size=true) (hl:t'.led = !A5 w) (cj:t'.plain=false):
  (h.update a (aU.putSet cC t')).get? a=some {o with data:=.set cC (ep+1) t'}/\SSet P w (h.update a (aU.putSet cC t')) a ks:=by
 have g:=ar.get?_update_self (aU.putSet cC t') ho (by rw[bQ cC t' hd];rfl);rw[bQ cC t' hd] at g;exact⟨g,_,cC,ep+1,t',ls,g,hex,rfl,dY,hs,hp,hb,hf,hl,λz=>by rw[cj] at z;cases z⟩
def Xb5{g:Bool->f8 Unit}(hg:∀(b:Bool) (s1:ak) (Q':Unit->ak->Prop),Q' () s1->aj (ai P w) A (g b) Q' E s1)     (ho:s.heap.get? a=some o)(hex:o.ExactSet)(hd:o.data = .set es ep t)
    (dY:eP (PySem.strKind P w) eT.toList) (hs:aF (eT.toList.map (·.2)) ls) (hp:ls.Perm ks) (hb:eT.size<aW) (hf:t2.fits eT.size=true) (hl:t2.led = !A5 w) (cj:t2.plain=false)  (h:∀h',ar.SameBut a s.heap h'->SSet P w h' a ks->R (some true) {s with heap:=h'}):
    aj (ai P w) A (do
        gi a eT t2
        if (!wd && t2.tooFull) = true then do g (dm t2 eT (ag.grown eT.size)).2.2
                                              gi a (dm t2 eT (ag.grown eT.size)).1 (dm t2 eT (ag.grown eT.size)).2.1
                                              pure (some true)
        else pure (some true)) R E s:=by
  refine Tz (bj ho hd ?_ (aY hb));obtain⟨g1,S1⟩:=Xb4 (P:=P) (w:=w) ho hex hd dY hs hp hb hf hl cj;have sb:=Ue s.heap a (aU.putSet eT t2);split
  . have pp:=relayAll_perm t2 eT (ag.grown eT.size);have ff:=relayAll_fits t2 eT (ag.grown eT.size);obtain⟨uT,qC⟩:=Xje t2 eT (ag.grown eT.size) cj;generalize dm t2 eT (ag.grown eT.size)=R3 at pp ff uT qC ⊢;obtain⟨tF,t3,gv⟩:=R3;dsimp only at pp ff uT qC ⊢;obtain⟨IT,s3,p3⟩:=Jv pp hs;have z:tF.size=eT.size:=by rw[<-O1,pp.length_eq,O1]
    refine Tz (hg _ _ _ ?_);refine Tz (bj g1 rfl ?_ (aY (by rw[z];exact hb)));obtain⟨_,S3⟩:=Xb4 (P:=P) (w:=w) (ks:=ks) g1 hex rfl (dY.perm pp) s3 (p3.trans hp) (by rw[z];exact hb) ff (uT.trans hl) qC;exact T0 (h _ (sb.trans (Ue _ a _)) S3)
  . exact T0 (h _ sb S1)
def sset_add   (S:SSet P w s.heap a ks) (hr:ks.length+1<aW)
  (h:∀b h',ar.SameBut a s.heap h'->SSet P w h' a (if x∈ks then ks else ks++[x])->Q b {s with heap:=h'}):
  aj (ai P w) A (cU a (.str x tk) ((PySem.strKind P w).hash x)) Q E s:=by
 obtain⟨o,es,ep,t,ls,ho,hex,hd,dY,hs,hp,hb,hf,hl,cj⟩:=S;have aO:es.size=ks.length:=by
  have:=hs.length;rw[Ow,O1] at this;rw[this,hp.length_eq]
 have fV:(PySem.strKind P w).is x (.str x tk)=true:=gh P w x tk;have dB:x∈ks ↔ ∃e∈es.toList,(PySem.strKind P w).is x e.2=true:=hp.mem_iff.symm.trans (Xb3 hs);unfold cU setAddHashedIn;refine aA (Tz (aE ho hd hf ?_));dsimp only;rw[IU (knd:=PySem.strKind P w) rfl hb dY];simp only[↓reduceIte];unfold setAddByScan;refine Tz (Tz (aS (Tz (mZ fV ho hd hf dY ?_))));cases nh:List.findIdx? (λe=>(PySem.strKind P w).is x e.2) es.toList with
 | some j=>
  dsimp only;obtain⟨hj,qD,_⟩:=Sj.mp nh;have hx:x∈ks:=dB.mpr ⟨es.toList[j],Ps hj,qD⟩;refine T0 (T0 ?_);have:=h false s.heap (ar.SameBut.refl a s.heap) (by rw[T7 hx];exact⟨o,es,ep,t,ls,ho,hex,hd,dY,hs,hp,hb,hf,hl,cj⟩);exact this
 | none=>
  dsimp only;have hx:x∉ks:=λz=>by
   obtain⟨e,he,q⟩:=dB.mp z;have:=List.findIdx?_eq_none_iff.mp nh e he;rw[q] at this;cases this
  have gw:∀(b:Bool) (s1:ak) (Q':Unit->ak->Prop),Q' () s1->aj (ai P w) A (match b with | true=>rule "set.scan.the-table-gave-way" | false=>pure ()) Q' E s1:=λb s1 Q' q=>by
   cases b with
   | true=>exact aS q
   | false=>exact T0 q
  have pp:=layNew_perm t es ((PySem.strKind P w).hash x) (.str x tk);have ff:=layNew_fits t es ((PySem.strKind P w).hash x) (.str x tk);have fl:=Xjc t es ((PySem.strKind P w).hash x) (.str x tk);generalize AS t es ((PySem.strKind P w).hash x) (.str x tk)=R at pp ff fl ⊢;obtain⟨eT,t1,wd,gv⟩:=R;dsimp only at pp ff fl ⊢;rw[Array.toList_push] at pp;have yf:=(dY.push fV rfl).perm pp;have cf:aF ((es.toList++[((PySem.strKind P w).hash x,aa.str x tk)]).map (·.2)) (ls++[x]):=by
   rw[O9];exact Xjf hs
  obtain⟨AT,iS,p1⟩:=Jv pp cf;have z1:eT.size=ks.length+1:=by
   rw[<-O1,pp.length_eq,O2,O1,aO];rfl
  have p2:AT.Perm (ks++[x]):=p1.trans (hp.append_right _);rw[T6 hx] at h;refine Tz (gw _ _ _ ?_);split
  ·refine Tz ?_;rw[hashByValue_scannable 8 (x:=aa.str x tk) rfl];refine T0 ?_;refine Xb5 (ks:=ks++[x]) gw ho hex hd yf iS p2 (by rw[z1];exact hr) (ag.fits_plain_off ff) (fl.trans hl) rfl (λh' sb S'=>?_);dsimp only;exact T0 (h true h' sb S')
  ·rename_i np;refine Tz (T0 ?_);simp only[↓reduceIte];refine Xb5 (ks:=ks++[x]) gw ho hex hd yf iS p2 (by rw[z1];exact hr) ff (fl.trans hl) (by cases q:t1.plain with | false=>rfl | true=>exact absurd q np) (λh' sb S'=>?_);dsimp only;exact T0 (h true h' sb S')
end
def dd1 (acc:Za) (x:aq):Za:=if x∈acc then acc else acc++[x]
def ddup (ss:Za):Za:=ss.foldl dd1 []
def Xb6(ss)(x):ddup (ss++[x])=dd1 (ddup ss) x:=by
 unfold ddup;rw[List.foldl_append];rfl
def Mp{p:Za->Za->Prop}(h0:p [] [])(h1:∀ss x,p ss (ddup ss)->p (ss++[x]) (dd1 (ddup ss) x))(ss):p ss (ddup ss):=by
 have go:∀n ss,ss.length=n->p ss (ddup ss):=by
  intro n
  induction n with
  | zero=>
   intro ss e;rw[P8.mp e];exact h0
  | succ n ih=>
   intro ss e;have eZ:ss≠[]:=λz=>by rw[z] at e;cases e
   have e2:=List.dropLast_concat_getLast eZ;rw[<-e2,Xb6];exact h1 _ _ (ih _ (by rw[List.length_dropLast,e];rfl))
 exact go _ ss rfl
def Mq(ss):∀x,x∈ddup ss↔x∈ss:=by
 refine Mp (p:=λss d=>∀x,x∈d↔x∈ss) (λx=>Iff.rfl) (λss y ih x=>?_) ss;unfold dd1;split
 ·rename_i hy;rw[ih,O5,Oz];constructor
  ·exact .inl
  ·rintro (z | z)
   ·exact z
   ·rw[z];exact(ih y).mp hy
 ·rw[O5,O5,ih]
def Ho(ss):(ddup ss).Nodup:=by
 refine Mp (p:=λ_ d=>d.Nodup) List.nodup_nil (λss y ih=>?_) ss;unfold dd1;split
 ·exact ih
 ·rename_i hy;exact Qs.mpr ⟨ih,by simp,λa ha b hb=>by rw[Oz.mp hb];exact λz=>hy (z ▸ ha)⟩
def Hq(ss):(ddup ss).length<=ss.length:=by
 refine Mp (p:=λss d=>d.length<=ss.length) (Oy _) (λss y ih=>?_) ss;unfold dd1;rw[O2,P9];split
 ·lia
 ·rw[O2,P9];lia
section
variable {P:av}{w:a8}{A:aB}{E:Zb}{s:ak}
def Xb7     {St} (ss) (W:WalksS P w A.in1 I fp wr G ss.length Pv St) (S) (nS:S∉fp)
  (lq:∀i v,Pv i v->∃t,v = .str (ss.getD i "") t) (hb:ss.length+1<aW):
  ∀k i s,ss.length - i=k->i<=ss.length->St i s->SSet P w s.heap S (ddup (ss.take i))->(∀s',yg (S::wr) G s s'->SSet P w s'.heap S (ddup ss)->R (.ok (.ret .none)) s') ->
   br (ai P w) A (.builtin "set.update.loop" ⟨[.ref S,.ref I],[]⟩) R s:=by
 have nw:S∉wr:=λz=>nS (W.sub _ z);have up:∀b∈wr,b∈S::wr:=λb z=>O4 _ z;intro k
 induction k with
 | zero=>
  intro i s e hi st hS hR;have:i=ss.length:=by lia
  subst this;rw[Qo] at hS;refine b9 F.entry_set_update_loop ?_;rw[aB.under_plainId F.plain_set_update_loop _];show aj _ A.in1 (dL (.ref I) >>= λ_=>_) _ _ s;refine Tz (W.done s _ _ st λs' mv=>?_);show aj _ A.in1 (ret aa.none) _ _ s';exact T0 (hR s' (mv.mono up) (hS.stay λo z=>mv.heap S o nw z))
 | succ k ih=>
  intro i s e hi st hS hR;have lt:i<ss.length:=by lia
  refine b9 F.entry_set_update_loop ?_;rw[aB.under_plainId F.plain_set_update_loop _];show aj _ A.in1 (dL (.ref I) >>= λ_=>_) _ _ s;refine Tz (W.item i s _ _ lt st λv s' hP aD mv=>?_);obtain⟨t,rfl⟩:=lq i v hP;have AU:=hS.stay λo z=>mv.heap S o nw z;show aj _ A.in1 (holding [aa.str (ss.getD i "") t] (setAdd S (.str (ss.getD i "") t)) >>= λ_=>_) _ _ s';refine Tz (aA ?_);unfold setAdd;refine aA (Tz ((PySem.strKind P w).pyHash (k:=ss.getD i "") (gh P w _ t) ?_));have yh:(ddup (ss.take i)).length<=i:=Pu (Hq _) (by rw[Pc];lia);refine sset_add (s:={s' with toks:=s'.toks+1}) AU (by lia) λb h' sb S2=>?_;have e3:ddup (ss.take (i+1))=dd1 (ddup (ss.take i)) (ss.getD i ""):=by
   rw[Pk lt,Xb6];congr 1;simp[List.getD,lt]
  have S3:SSet P w h' S (ddup (ss.take (i+1))):=by rw[e3];exact S2
  refine T0 ⟨cK F.plain_set_update_loop _,ih (i+1) _ (by lia) lt (W.frame _ s' _ _ aD (Q5 _) λb hb o q=>?_) S3 λmQ AV S4=>?_⟩
  ·rw[sb.2 b (λz=>nS (z ▸ hb))];exact q
  ·refine hR mQ (yg.trans W.gtrans ((mv.mono up).then_heap (Q5 _) λb o hb q=>?_) AV) S4;rw[sb.2 b (λz=>hb (z ▸ O3))];exact q
inductive Src (h:ar) (l:ae) (ax:Array aa):Prop
 | lst:h.IsList l ax->Src h l ax
 | tup:h.IsTuple l ax->Src h l ax
def Xjg(a){Q}(h:Q (.ref s.heap.objs.size) {s with heap:=s.heap.push {cls:=.type "set",dict:=none,data:=.set #[] 0 (.fresh 0 0 (!A5 w))} }):
    br (ai P w) A (.call (.builtin "set.__new__") ⟨[.type "set",a],[]⟩) (wants Q E) s:=by
  refine fA ?_
  show aj _ A.in1 (do    fb "set.__new__" ⟨[.type "set",a],[]⟩
                         again (.builtin "set.__new__" ⟨[.type "set",a],[]⟩)) _ _ s
  refine Tz (ft (PySem.F.newCall_set_1 a) (T0 ⟨cK PySem.F.plain_set_new _,b9 PySem.F.entry_set_new ?_⟩));rw[aB.under_plainId PySem.F.plain_set_new _];unfold am.«set.__new__» am.Frozenset.newClass;have q:=iT;obtain⟨hp,g,d,tk,os⟩:=s;dsimp only
  wp_walk
  refine aQ (T0 ?_);dsimp only;simp only[newObj];exact Tz (j5 (T0 (T0 h)))
end
end L2
set_option maxHeartbeats 3200000
namespace L2
open PySem.Calls
section
variable {P:av}{w:a8}{A:aB}{E:Zb}{s:ak}
abbrev Eu (w:a8):aU:={cls:=.type "set",dict:=none,data:=.set #[] 0 (.fresh 0 0 (!A5 w))}
def Xjh  (g:h.get? a=some (Eu w)):SSet P w h a []:=
 ⟨_, #[],0,_,[],g,⟨rfl,rfl,rfl⟩,rfl,λe he=>by simp at he,.nil,.nil,by decide,rfl,rfl,λ_=>rfl⟩
def Xji    (hh:A.handled=none) (ni:Src s.heap l ax) (hs:aF ax.toList ss) (hb:ss.length+1<aW) (hS:SSet P w s.heap S []) (yi:l≠S)
  (AW:∀(Q:Bool->ak->Prop),Q false s->aj (ai P w) A (am.Frozenset.isAnySet (.ref l)) Q E s)
  (h:∀(h':ar) (tk:Nat),SSet P w h' S (ddup ss)->(∀b o,b≠S->s.heap.get? b=some o->h'.get? b=some o)->R () {s with heap:=h',toks:=tk}):
  aj (ai P w) A (am.Frozenset.updateFrom "set.__init__" S (.ref l)) R E s:=by
 have aO:ax.size=ss.length:=by
  have:=hs.length
  rwa [O1] at this
 have lq:∀(i:Nat) (v:aa),ax[i]? = some v->∃t,v = .str (ss.getD i "") t:=λi v q=>by
  have q':ax.toList[i]? = some v:=by rw[Sa];exact q
  obtain⟨x,t,rfl⟩:=hs.all v (Rt q');refine⟨t,?_⟩;congr 1;rw[<-hs.strs];simp[List.getD,Pf,q,mh]
 obtain⟨oS,_,_,_,_,gS,_⟩:=id hS;have ltS:=Uc gS;unfold am.Frozenset.updateFrom;refine Tz (AW _ ?_);simp only[Pt,if_false];cases ni with
 | lst hl=>
  have qE:l<s.heap.objs.size:=by obtain⟨o,g,_⟩:=hl;exact Uc g
  refine Tz (bi (T := "list") hl.typeIs ?_);have ne:(aa.type "list" == aa.type "dict")=false:=by decide
  simp only[ne,Pt,if_false];refine Tz (cG hl ?_);refine Tz (gj ?_);have nI:S∉[s.heap.objs.size,l]:=by simp only[Ph,List.not_mem_nil,or_false,not_or];exact⟨O6 ltS,yi.symm⟩
  have W:=(lY.list (prog:=P) (w:=w) (A:=A.in1) (by simp[hh]) s.heap.objs.size l (O6 qE) ax).toS;rw[aO] at W;refine Xb7 ss W S nI lq hb _ 0 _ rfl (Px _) ⟨⟨_,ar.get?_push_size _ rfl,rfl,rfl⟩,hl.push _⟩ (hS.stay λo q=>Ud _ q) λs' mv S'=>?_;rw[yg.eq_with mv];refine T0 (h s'.heap s'.toks S' λb o nb q=>mv.heap b o (λz=>?_) (Ud _ q));rcases Ph.mp z with z | z
  ·exact nb z
  ·exact absurd (Uc q) (by rw[Oz.mp z];exact Qg _)
 | tup hl=>
  have qE:l<s.heap.objs.size:=by obtain⟨o,g,_⟩:=hl;exact Uc g
  refine Tz (bi (T := "tuple") hl.typeIs ?_);have ne:(aa.type "tuple" == aa.type "dict")=false:=by decide
  simp only[ne,Pt,if_false];refine Tz (kO hl ?_);refine Tz (gj ?_);have nI:S∉[s.heap.objs.size,l]:=by simp only[Ph,List.not_mem_nil,or_false,not_or];exact⟨O6 ltS,yi.symm⟩
  have W:=(lY.tuple (prog:=P) (w:=w) (A:=A.in1) (by simp[hh]) s.heap.objs.size l (O6 qE) ax).toS;rw[aO] at W;refine Xb7 ss W S nI lq hb _ 0 _ rfl (Px _) ⟨⟨_,ar.get?_push_size _ rfl,rfl,rfl⟩,hl.push _⟩ (hS.stay λo q=>Ud _ q) λs' mv S'=>?_;rw[yg.eq_with mv];refine T0 (h s'.heap s'.toks S' λb o nb q=>mv.heap b o (λz=>?_) (Ud _ q));rcases Ph.mp z with z | z
  ·exact nb z
  ·exact absurd (Uc q) (by rw[Oz.mp z];exact Qg _)
def Src.push   (x:Src h l ax) (o):Src (h.push o) l ax:=by
 cases x with
 | lst y=>exact .lst (y.push o)
 | tup y=>exact .tup (y.push o)
def Src.any   (x:Src s.heap l ax) (q:Q false s):aj (ai P w) A (am.Frozenset.isAnySet (.ref l)) Q E s:=by
 cases x with
 | lst y=>
  obtain⟨o,g,c,n,d⟩:=y;obtain⟨oc,od,AX,os⟩:=o;simp only at c d;subst c d;have h1:=PySem.F.sub_list_set;have h2:=PySem.F.sub_list_frozenset;unfold am.Frozenset.isAnySet
  wp_walk
  exact q
 | tup y=>
  obtain⟨o,g,c,n,d⟩:=y;obtain⟨oc,od,AX,os⟩:=o;simp only at c d;subst c d;have h1:iI (.type "tuple") (.type "set")=pure false:=by rw[cA];kernel_rfl
  have h2:iI (.type "tuple") (.type "frozenset")=pure false:=by rw[cA];kernel_rfl
  unfold am.Frozenset.isAnySet
  wp_walk
  exact q
def Src.lt   (x:Src h l ax):l<h.objs.size:=by
 cases x with
 | lst y=>obtain⟨o,g,_⟩:=y;exact Uc g
 | tup y=>obtain⟨o,g,_⟩:=y;exact Uc g
def Xjj    (hh:A.handled=none) (ni:Src s.heap l ax) (hs:aF ax.toList ss) (hb:ss.length+1<aW)
  (h:∀(h':ar) (tk:Nat),SSet P w h' s.heap.objs.size (ddup ss)->(∀b o,s.heap.get? b=some o->h'.get? b=some o)->Q (.ref s.heap.objs.size) {s with heap:=h',toks:=tk}):
  aj (ai P w) A (call (.type "set") [.ref l]) Q E s:=by
 obtain⟨c,tl,AY⟩:=PySem.F.called_set.mro;have yj:=PySem.F.called_set.made;have AZ:=PySem.F.called_set.sub;refine dM (fA ?_);show aj _ _ (callAny (.type "set") _) _ _ s;refine T0 ⟨Code.quiet_builtin _ (by decide +kernel),b9 PySem.F.entry_type_call ?_⟩;rw[aB.under_plain (weight_type_call_type "set" [.ref l] []) rfl];have f1:=PySem.F.called_set.notType;have f2:=PySem.F.called_set.canCreate;have f3:=PySem.F.typeCall_set_1 (.ref l)
 repeat (any_goals (first | assumption | wp_step))
 refine bh (Xjg (.ref l) (E:=E) (Q:=λobj s1=>obj = .ref s.heap.objs.size/\s1 = {s with heap:=s.heap.push (Eu w)}) ⟨rfl,rfl⟩) λr s1 hr=>?_;cases r with
 | error e=>exact hr
 | ok fl=>
  cases fl with
  | ret obj=>
   obtain⟨rfl,rfl⟩:=hr;have gS:(s.heap.push (Eu w)).get? s.heap.objs.size=some (Eu w):=ar.get?_push_size _ rfl;have hT:ak.TypeIs {s with heap:=s.heap.push (Eu w)} (.ref s.heap.objs.size) "set" := ⟨_,gS,rfl⟩;have f4:=PySem.F.called_set.init.lookup;have f5:=PySem.F.called_set.init.bind (.ref s.heap.objs.size)
   repeat (any_goals (first | assumption | wp_step))
   refine bh (dh (R:=wants (λr s2=>r = .none/\∃h' tk,s2 = {s with heap:=h',toks:=tk}/\SSet P w h' s.heap.objs.size (ddup ss)/\∀b o,s.heap.get? b=some o->h'.get? b=some o) E)
    PySem.F.called_set.init.plain PySem.F.entry_set_init (check_set_init_1 hT ?_)) λr2 s2 fB=>?_
   ·have qF:=ni.push (Eu w);have lt:=ni.lt;unfold am.«set.__init__» noKeywords;generalize hU:am.Frozenset.updateFrom=U
    wp_walk
    subst hU;refine Xji (s:={s with heap:=s.heap.push (Eu w)}) (by simp[hh]) qF hs hb (Xjh gS) (O6 lt) (λQ q=>Src.any (s:={s with heap:=s.heap.push (Eu w)}) qF q) λh' tk S' kk=>?_;exact T0 ⟨rfl,h',tk,rfl,S',λb o q=>kk b o (O6 (Uc q)) (Ud _ q)⟩
   ·cases r2 with
    | error e=>exact fB
    | ok qC=>
     cases qC with
     | ret r=>
      obtain⟨rfl,h',tk,rfl,S',kk⟩:=fB
      repeat (any_goals (first | assumption | wp_step))
      exact h _ _ S' kk
     | _=>exact fB.elim
  | _=>exact hr.elim
end
namespace SF
def sIter:zZ "set" "__iter__" "set.__iter__" := PySem.F.slot_set_iter
def eIter:jC table "set.__iter__" = some am.«frozenset.__iter__»:=gk (id' := "frozenset.__iter__") (by kernel_rfl) rfl (by decide +kernel) (by kernel_rfl)
def sNext:zZ "set_iterator" "__next__" "set_iterator.__next__" := .of (owner := "set_iterator") (n := "__next__") (by rw[oO,jn];kernel_rfl) (by decide +kernel) (by decide +kernel) (by decide +kernel) (by first | exact .inl (by decide +kernel) | exact .inr (by decide +kernel)) (by rw[cA];kernel_rfl)
def eNext:jC table "set_iterator.__next__" = some am.«set_iterator.__next__»:=entryFor_of_tree (by kernel_rfl)
def aNext(a):qG "set_iterator.__next__" ⟨[a],[]⟩:=by unfold qG;kernel_rfl
end SF
theorem Mr{α : Type}:∀(xs:List α) (i:Nat) (hi:i<xs.length),(xs[i]::xs.eraseIdx i).Perm xs
 | x::xs,0,_=>Qv _
 | x::xs,i+1,hi=>by
  have ih:=Mr xs i (by simpa using hi);rw[List.eraseIdx_cons_succ,List.getElem_cons_succ];exact(List.Perm.swap x _ _).trans (ih.cons x)
def Xjk{α : Type}(next):∀(n k:Nat) (left:List α) (out:Array α),left.length=n->(bR.go next n k left out).toList.Perm (out.toList++left):=by
 intro n
 induction n with
 | zero=>
  intro k left out e;rw[P8.mp e,P3];exact Qv _
 | succ n ih=>
  intro k left out e;have bo:next k % left.length<left.length:=Tp _ (by lia);unfold bR.go;rw[Ox bo];dsimp only;refine(ih _ _ _ (by rw[Rl bo,e];rfl)).trans ?_;rw[Array.toList_push,Pp];exact(Mr left _ bo).append_left _
def Xb8{α : Type}(next)(xs:Array α):(bR next xs).toList.Perm xs.toList:=by
 have:=Xjk next xs.size 0 xs.toList #[] (by simp);simpa [bR] using this
section
variable {P:av}{w:a8}{A:aB}{E:Zb}{s:ak}
def Xjl   (hn:n≠0) (h:∀i d,i<n->Q i {s with drawn:=d}):aj (ai P w) A (choose ni n) Q E s:=by
 intro Γ p hΓ;exact⟨hn,h _ _ (Tp _ (Nat.pos_of_ne_zero hn))⟩
def Xb9{α : Type}:∀(n:Nat) (xs:List α) (s:ak) (Q:List α->ak->Prop),xs.length=n->(∀os d,os.Perm xs->Q os {s with drawn:=d})->aj (ai P w) A (iJ n xs) Q E s:=by
 intro n
 induction n with
 | zero=>
  intro xs s Q e h;rw[P8.mp e] at h ⊢;unfold iJ;exact T0 (h [] s.drawn (Qv _))
 | succ n ih=>
  intro xs s Q e h;cases xs with
  | nil=>cases e
  | cons y ys=>
   unfold iJ;refine Tz (Xjl (by simp) λi d hi=>?_);rw[Ox hi];dsimp only;refine Tz (ih _ _ _ (by rw[Rl hi,e];rfl) λos d' hp=>?_);exact T0 (h _ d' ((hp.cons _).trans (Mr _ i hi)))
def SAt (h:ar) (a:ae) (es:Array (Int×aa)) (ep:Nat) (t:ag):Prop:=∃o,h.get? a=some o/\o.ExactSet/\o.data = .set es ep t/\t.fits es.size=true
def Xjm     (hs:SAt s.heap a es ep t) (h:Q (!A5 w&&(!t.plain&&decide (es.size > 1))) s):aj (ai P w) A (setDrawn a) Q E s:=by
 obtain⟨o,ho,hex,hd,hf⟩:=hs;unfold setDrawn cb;refine Tz (aE ho hd hf ?_);dsimp only;refine Tz (Tz (aQ (T0 ?_)));exact T0 h
abbrev itO (f0:aa) (i:Nat) (a:ae) (n ep:Nat):aU:={cls:=.type "set_iterator",data:=.fields #[f0,.int i 0,.ref a,.int n 0,.int ep 0]}
inductive Ord (w:a8) (h:ar) (a:ae) (es:Array (Int×aa)) (ep:Nat) (t:ag) (f0:aa) (i:Nat):List aa->Prop
 | txt:A5 w=true->f0 = .int 0 0->Ord w h a es ep t f0 i ((bR (w.params.setOrder a ep) es).toList.map (·.2))
 | drw (p:ae) (os:List Nat):A5 w=false->os.Perm (List.range es.size)->f0 = .ref p->(∃n,h.get? p=some ⟨.type "tuple",none,.seq (os.map λj=>aa.int (j:Nat) 0).toArray n, #[]⟩)->Ord w h a es ep t f0 i (os.map λj=>((es[j]?).map (·.2)).getD .none)
 | one (sl:Nat):A5 w=false->t.led=true->es.size<=1->f0 = .int sl 0->(i=0->sl=0)->(∀j,i=1->t.place[0]? = some j->sl=j+1)->Ord w h a es ep t f0 i (es.toList.map (·.2))
def Xjn     (hs:SAt s.heap a es ep t) (hb:es.size<aW) (hl:t.led = !A5 w) (hp:t.plain=true->es.size=0)
    (h:∀(f0:aa) (vs:List aa) (h1:ar) (d:Drawn),(∀b o,s.heap.get? b=some o->h1.get? b=some o)->h1.objs.size<=s.heap.objs.size+1->s.heap.objs.size<=h1.objs.size->(∀p,f0 = .ref p->p<h1.objs.size)->Ord w (h1.push (itO f0 0 a es.size ep)) a es ep t f0 0 vs ->
      vs.Perm (es.toList.map (·.2))->Q (.ref h1.objs.size) {s with heap:=h1.push (itO f0 0 a es.size ep),drawn:=d}):
    aj (ai P w) A (fU (.ref a)) Q E s:=by
  obtain⟨o,ho,hex,hd,hf⟩:=id hs;have hT:s.TypeIs (.ref a) "set" := ⟨o,ho,hex.1⟩;refine eN hT SF.sIter (aP SF.sIter hT SF.eIter ?_ (PySem.F.args_set_iter_1 _));unfold am.«frozenset.__iter__» am.Frozenset.slot0 qH;simp only[List.isEmpty_nil,Sk,Pt, ↓reduceIte,bind_assoc,Q8,bne_self_eq_false];unfold am.Frozenset.addrOf am.Frozenset.sizeOf;refine Tz (T0 ?_);dsimp only;refine Tz (T0 ?_);refine Tz (Tz (cy ho hd hf (T0 ?_)));refine Tz (Xjm hs ?_);have fin:∀(f0:aa) (vs:List aa) (h1:ar) (d:Drawn),(∀b o,s.heap.get? b=some o->h1.get? b=some o)->h1.objs.size<=s.heap.objs.size+1->s.heap.objs.size<=h1.objs.size->(∀p,f0 = .ref p->p<h1.objs.size)->Ord w (h1.push (itO f0 0 a es.size ep)) a es ep t f0 0 vs->vs.Perm (es.toList.map (·.2)) ->
      aj (ai P w) A.in1 (do       let r <-newFields "set_iterator" [f0,be 0,.ref a,be es.size,be ep]
                                  ret r) (λfin s'=>∃r,fin = .done (.ret r)/\∃T v,s'.TypeIs r T/\kP (.type T) (aq.ofString "__next__")=pure (some v)/\Q r s') E {s with heap:=h1,drawn:=d}:=λf0 vs h1 d k1 k2 k3 k4 k5 k6=>
    Tz (aG (T0 ⟨_,rfl, "set_iterator",_,⟨_,ar.get?_push_size _ rfl,rfl⟩,SF.sNext.lookup,h f0 vs h1 d k1 k2 k3 k4 k5 k6⟩))
  by_cases hc:(!A5 w&&(!t.plain&&decide (es.size > 1)))=true
  . rw[T7 hc];simp only[Pa,Tn,decide_eq_true_eq] at hc;obtain⟨c1,c2,c3⟩:=hc;refine Tz (Xb9 _ _ _ _ Qi λos d po=>?_);have uU:os.length=es.size:=by rw[po.length_eq,Qi]
    refine Tz (gm ?_ (by rw[Ow,uU];exact aY hb));refine Tz (bW (Ud _ ho) hd hf ?_);refine fin _ _ _ d (λb o q=>Ud _ q) (by rw[bN];exact Oy _) (by rw[bN];exact Q5 _) (λp e=>by cases e;rw[bN];exact Nat.lt_succ_self _) (.drw s.heap.objs.size os c1 po rfl ⟨0,Ud _ (ar.get?_push_size _ rfl)⟩) ?_;have e:(os.map λj=>((es[j]?).map (·.2)).getD aa.none).Perm ((List.range es.size).map λj=>((es[j]?).map (·.2)).getD aa.none):=po.map _;refine e.trans ?_;have e2:((List.range es.size).map λj=>((es[j]?).map (·.2)).getD aa.none)=es.toList.map (·.2):=by
      apply List.ext_getElem?;intro i;have q:es.toList[i]? = es[i]?:=Sa;rw[Pf,Pf,q];by_cases hi:i<es.size
      . rw[List.getElem?_range hi,Rf,getElem?_pos es i hi];rfl
      . rw[R9 (by simpa using hi),getElem?_neg es i hi];rfl
    rw[e2]
  . rw[T6 hc];refine Tz (T0 ?_);refine Tz (bW ho hd hf ?_);cases hw:A5 w with
    | true=>exact fin _ _ _ s.drawn (λb o q=>q) (Q5 _) (Oy _) (λp e=>by cases e) (.txt hw rfl) ((Xb8 _ es).map _)
    | false=>
      have h1:es.size<=1:=by
        cases cj:t.plain with
        | true=>rw[hp cj];exact Px _
        | false=>
          simp only[hw,cj,Bool.not_false,Qp,decide_eq_true_eq] at hc
          lia
      exact fin _ _ _ s.drawn (λb o q=>q) (Q5 _) (Oy _) (λp e=>by cases e) (.one 0 hw (by rw[hl,hw];rfl) h1 rfl (λ_=>rfl) (λj e=>by cases e)) (Qv _)
end
end L2
namespace L2
open PySem.Calls
section
variable {P:av}{w:a8}{A:aB}{E:Zb}{s:ak}{I a:ae}{es:Array (Int×aa)}{ep:Nat}{t:ag}
def ItS (w:a8) (I a:ae) (es:Array (Int×aa)) (ep:Nat) (t:ag) (vs:List aa) (fp:Option ae) (i:Nat) (h:ar):Prop:=
 ∃f0,h.get? I=some (itO f0 i a es.size ep)/\Ord w h a es ep t f0 i vs/\SAt h a es ep t/\(∀p,f0 = .ref p->fp=some p)
def Xca   (hI:s.heap.get? I=some (itO f0 i a es.size ep)) (hS:SAt s.heap a es ep t)
  (h1:∀sl,f0 = .int sl 0->aj (ai P w) A (do
   match <-iU a sl.toNat i ep with
   | some (x,next)=>cg (.ref I) 0 (be next);cg (.ref I) 1 (be ((i:Int)+1));ret x
   | none=>cg (.ref I) 2 .none;gp (<-lr (.type "StopIteration") [])) Q E s)
  (h2:∀p,f0 = .ref p->aj (ai P w) A (do
   let some nj <-seqItems? (.ref p) | unsupported "internal:set_iterator"
   match nj[i]? with
   | some (.int place _)=>let x <-uV a place.toNat ep;cg (.ref I) 1 (be ((i:Int)+1));ret x
   | some _=>unsupported "internal:set_iterator"
   | none=>cg (.ref I) 0 (be 0);cg (.ref I) 2 .none;gp (<-lr (.type "StopIteration") [])) Q E s)
  (hf:(∃sl,f0 = .int sl 0) \/ ∃p,f0 = .ref p):aj (ai P w) A (am.«set_iterator.__next__» ⟨[.ref I],[]⟩) Q E s:=by
 obtain⟨o,ho,hex,hd,km⟩:=id hS;unfold am.«set_iterator.__next__» qH;simp only[List.isEmpty_nil,Sk,Pt, ↓reduceIte,bind_assoc,Q8,bne_self_eq_false];refine Tz (T0 ?_);dsimp only;refine Tz (wpAny_fieldsOf hI rfl ?_);dsimp only;refine Tz (cy ho hd km ?_);rw[T6 (by simp)];rcases hf with ⟨sl,rfl⟩ | ⟨p,rfl⟩
 ·exact h1 sl rfl
 ·exact h2 p rfl
def Jw{h:ar}{f0 x:aa}{i j n:Nat}(hI:h.get? I=some (itO f0 i a n ep))(k)(v):
  (h.update I (aU.mapFields (·.setIfInBounds k v))).get? I=some {cls:=.type "set_iterator",data:=.fields ((#[f0,.int i 0,.ref a,.int n 0,.int ep 0]:Array aa).setIfInBounds k v)}:=
 ar.get?_update_self _ hI rfl
def SAt.at(x:SAt h a es ep t)(k:∀o,h.get? a=some o->h'.get? a=some o):SAt h' a es ep t:=by
 obtain⟨o,ho,r⟩:=x;exact⟨o,k o ho,r⟩
def Xcb  (hw:A5 w=true) (hS:SAt s.heap a es ep t) (h:Q (((bR (w.params.setOrder a ep) es)[i]?).map λe=>(e.2,sl)) s):aj (ai P w) A (iU a sl i ep) Q E s:=by
 obtain⟨o,ho,hex,hd,hf⟩:=id hS;unfold iU cb;refine Tz (aE ho hd hf ?_);dsimp only;refine Tz (Tz (aQ (T0 ?_)));rw[T7 (show (ai P w).w.params.followText "set-order" = true from hw),T6 (by simp)];unfold mi cb;refine Tz (Tz (aE ho hd hf ?_));dsimp only;refine Tz (Tz (aQ (T0 ?_)));rw[T7 (show (ai P w).w.params.followText "set-order" = true from hw)];exact Tz (aQ (T0 (T0 h)))
def Xcc  (hw:A5 w=false) (hl:t.led=true) (h1:es.size<=1) (hS:SAt s.heap a es ep t)
  (h:Q (match es[ag.below t.place sl]?,t.place[ag.below t.place sl]? with | some (_,x),some j=>some (x,j+1) | _,_=>none) s):aj (ai P w) A (iU a sl i ep) Q E s:=by
 obtain⟨o,ho,hex,hd,hf⟩:=id hS;unfold iU cb;refine Tz (aE ho hd hf ?_);dsimp only;refine Tz (Tz (aQ (T0 ?_)));rw[T6 (show ¬(ai P w).w.params.followText "set-order" = true from by show ¬A5 w=true;rw[hw];decide)];have d1:(!t.plain&&decide (es.size > 1))=false:=by rw[T9 (by lia),Tk]
 refine cu (λz=>?_) (λ_=>?_)
 ·have z':(!t.plain&&decide (es.size > 1))=true:=z;rw[d1] at z';cases z'
 refine Tz ?_;have m1:(!t.led && !es.isEmpty)=false:=by rw[hl];rfl
 refine cu (λz=>?_) (λ_=>T0 (T0 h));have z':(!t.led && !es.isEmpty)=true:=z;rw[m1] at z';cases z'
def Xjo(h:t.place.size<=1):ag.below t.place 0=0:=by
 generalize t.place=pl at *;obtain⟨l⟩:=pl
 match l,h with
 | [],_=>rfl
 | [x],_=>simp[ag.below,ag.below.go]
def Xjp  (h:t.place.size<=1) (hj:t.place[0]? = some j):ag.below t.place (j+1)=1:=by
 generalize t.place=pl at *;obtain⟨l⟩:=pl
 match l,h,hj with
 | [x],_,hj=>
  have:x=j:=by simpa using hj
  subst this;simp[ag.below,ag.below.go]
def Xcd(h:t.fits n=true):t.place.size=n:=by
 unfold ag.fits at h;simp only[Pa,beq_iff_eq] at h;exact h.1
end
section
variable {P:av}{w:a8}{A:aB}{E:Zb}{s:ak}{I a:ae}{es:Array (Int×aa)}{ep:Nat}{t:ag}{vs:List aa}{fp:Option ae}
def Ord.cases0   (x:Ord w h a es ep t f0 i vs):(∃sl:Int,f0 = .int sl 0) \/ ∃p,f0 = .ref p:=by
 cases x with
 | txt _ e=>exact .inl ⟨0,e⟩
 | drw p os _ _ e _=>exact .inr ⟨p,e⟩
 | one sl _ _ _ e _ _=>exact .inl ⟨sl,e⟩
def Xjq  (st:ItS w I a es ep t vs fp i s.heap) (hi:i<vs.length) (hl:vs.length=es.size) (tG:a≠I) (uW:∀p,fp=some p->p≠I)
  (hQ:∀h',ItS w I a es ep t vs fp (i+1) h'->ar.SameBut I s.heap h'->Q (some vs[i]) {s with heap:=h'}):aj (ai P w) A (dL (.ref I)) Q E s:=by
 obtain⟨f0,hI,hO,hS,hp⟩:=st;have hT:s.TypeIs (.ref I) "set_iterator" := ⟨_,hI,rfl⟩;unfold dL;refine Tz (dJ (bu (name:=aq.ofString "__next__") hT SF.sNext (aP SF.sNext hT SF.eNext ?_ (SF.aNext _))));have e1:((i:Int)+1)=((i+1:Nat):Int):=by lia
 have fin:∀(E':Zb) (nx:Nat),Ord w ((s.heap.update I (aU.mapFields (·.setIfInBounds 0 (be nx)))).update I (aU.mapFields (·.setIfInBounds 1 (be ((i:Int)+1))))) a es ep t (.int nx 0) (i+1) vs ->
   aj (ai P w) A.in1 (do
    cg (.ref I) 0 (be nx)
    cg (.ref I) 1 (be ((i:Int)+1))
    ret vs[i]) (λfin s'=>∃r,fin = .done (.ret r)/\aj (ai P w) A (pure (some r)) Q E s') E' s:=λE' nx O=>by
  refine Tz (bF hI rfl (by simp) ?_);refine Tz (bF (Jw (x:=.none) (j:=0) hI 0 (be nx)) rfl (by simp) ?_);have g:=ar.get?_update_self (aU.mapFields (·.setIfInBounds 1 (be ((i:Int)+1)))) (Jw (x:=.none) (j:=0) hI 0 (be nx)) rfl;refine T0 ⟨_,rfl,T0 (hQ _ ⟨_,g.trans ?_,O,hS.at λo q=>?_,λp z=>by cases z⟩ ((Ue ..).trans (Ue ..)))⟩
  ·rw[e1];rfl
  ·rw[((Ue s.heap I _).trans (Ue _ I _)).2 a tG];exact q
 refine Xca hI hS (λsl e=>?_) (λp e=>?_) hO.cases0
 ·subst e;cases hO with
  | txt hw e=>
   cases e;have gq:i<(bR (w.params.setOrder a ep) es).size:=by simpa using hi
   refine Tz (Xcb hw hS ?_);rw[getElem?_pos _ i gq];have ev:((bR (w.params.setOrder a ep) es).toList.map (·.2))[i]=((bR (w.params.setOrder a ep) es)[i]).2:=by simp
   have f:=λE'=>fin E' 0 (.txt hw rfl);rw[ev] at f;exact f _
  | drw p os _ _ e _=>cases e
  | one gM hw oP h1 e hz ho=>
   cases e;obtain⟨_,_,_,_,km⟩:=id hS;have gT:=Xcd km;have i0:i=0:=by
    have:i<es.size:=by rw[<-hl];exact hi
    lia
   subst i0;have z0:=hz rfl;subst z0;have he:0<es.size:=by rw[<-hl];exact hi
   have cj:0<t.place.size:=by rw[gT];exact he
   refine Tz (Xcc hw oP h1 hS ?_);have b0:ag.below t.place ((0:Nat):Int).toNat=0:=Xjo (by rw[gT];exact h1);rw[b0,getElem?_pos es 0 he,getElem?_pos t.place 0 cj];have ev:(es.toList.map (·.2))[0]=(es[0]).2:=by simp
   have f:=λE'=>fin E' (t.place[0]+1) (.one (t.place[0]+1) hw oP h1 rfl (λz=>by cases z) (λj _ q=>by rw[getElem?_pos t.place 0 cj] at q;cases q;rfl));rw[ev] at f;exact f _
 ·subst e;cases hO with
  | txt hw e=>cases e
  | one gM hw oP h1 e hz ho=>cases e
  | drw p' os hw mT e kj=>
   cases e;obtain⟨n,kj⟩:=kj;have fQ:i<os.length:=by simpa using hi
   have fr:os[i]<es.size:=Qb.mp (mT.mem_iff.mp (Ps fQ));refine Tz (qI kj rfl ?_);have g:((os.map λj=>aa.int (j:Nat) 0).toArray)[i]? = some (.int ((os[i]:Nat):Int) 0):=by simp[fQ]
   dsimp only;rw[g];dsimp only;obtain⟨o,ho,hex,hd,km⟩:=id hS;unfold uV;refine Tz (Tz (aE ho hd km ?_));dsimp only;rw[T6 (by simp),show ((os[i]:Nat):Int).toNat=os[i] from Sd _,getElem?_pos es _ fr];refine T0 ?_;refine Tz (bF hI rfl (by simp) ?_);have ev:(os.map λj=>((es[j]?).map (·.2)).getD aa.none)[i]=(es[os[i]]).2:=by simp[fr]
   have g2:=Jw (x:=.none) (j:=0) hI 1 (be ((i:Int)+1));have By:p≠I:=uW p (hp p rfl);have q:=hQ (s.heap.update I (aU.mapFields (·.setIfInBounds 1 (be ((i:Int)+1))))) ⟨_,g2.trans (by rw[e1];rfl),.drw p os hw mT rfl ⟨n,?_⟩,hS.at λo q=>?_,λp' z=>hp p' z⟩ (Ue ..)
   ·rw[ev] at q;exact T0 ⟨_,rfl,T0 q⟩
   ·rw[(Ue s.heap I _).2 p By];exact kj
   ·rw[(Ue s.heap I _).2 a tG];exact q
end
section
variable {P:av}{w:a8}{A:aB}{E:Zb}{s:ak}{I a:ae}{es:Array (Int×aa)}{ep:Nat}{t:ag}{vs:List aa}{fp:Option ae}
def Xce{α : Type}{h0:ar}{Q}{E'}(hh:A.handled=none)
  (k:∀e h',(∀b o,s.heap.get? b=some o->h'.get? b=some o)->ak.TypeIs {s with heap:=h'} e "StopIteration" -> E' e {s with heap:=h'}):
  aj (ai P w) A (do       gp (<-lr (.type "StopIteration") []):f8 α) Q E' s:=by
 refine Tz ?_;simp only[lr,newTuple];refine Tz (aG ?_ (by size_fits));refine Tz (m:=qJ _ _) (ft (a:=aa.none) (by first | rfl | (simp only[qJ];rfl)) ?_);refine aG ?_ (by size_fits);simp only[gp];refine Tz (wpAny_handled ?_);rw[hh];refine Tz (T0 (wpAny_throw ?_));exact k _ _ (λb o q=>Ud _ (Ud _ q)) ⟨_,ar.get?_push_size _ rfl,rfl⟩
def Xjr(hh:A.handled=none)(st:ItS w I a es ep t vs fp vs.length s.heap)(hl:vs.length=es.size)
    (hQ:∀h',(∀b o,b≠I->s.heap.get? b=some o->h'.get? b=some o)->Q none {s with heap:=h'}):aj (ai P w) A (dL (.ref I)) Q E s:=by
  obtain⟨f0,hI,hO,hS,hp⟩:=st;have hT:s.TypeIs (.ref I) "set_iterator" := ⟨_,hI,rfl⟩;unfold dL;refine Tz (dJ (bu (name:=aq.ofString "__next__") hT SF.sNext (aP SF.sNext hT SF.eNext ?_ (SF.aNext _))));have yk:A.in1.handled=none:=hh;have mj:∀(e:aa) (h':ar),(∀b o,b≠I->s.heap.get? b=some o->h'.get? b=some o)->ak.TypeIs {s with heap:=h'} e "StopIteration" ->
      aj (ai P w) A (do       if <-dQ e (.type "StopIteration") then pure none else throw e) Q E {s with heap:=h'}:=λe h' k ty=>
    Tz (cO (T := "StopIteration") (b:=true) ty isSubtype_stop (T0 (hQ h' k)))
  have mo:∀(f:aU->aU) b o,b≠I->s.heap.get? b=some o->(s.heap.update I f).get? b=some o:=λf b o nb q=>by
    rw[(Ue s.heap I f).2 b nb];exact q
  have fin:∀(Q':PySem.Fin->ak->Prop),aj (ai P w) A.in1 (do
        cg (.ref I) 2 .none
        gp (<-lr (.type "StopIteration") [])) Q' (λe s'=>aj (ai P w) A (do                 if <-dQ e (.type "StopIteration") then pure none else throw e) Q E s') s:=λQ'=>by
    refine Tz (bF hI rfl (by simp) ?_);refine Xce (h0:=s.heap) (s:={s with heap:=s.heap.update I (aU.mapFields (·.setIfInBounds 2 aa.none))}) yk λe h' k ty=>?_;exact mj e h' (λb o nb q=>k b o (mo _ b o nb q)) ty
  refine Xca hI hS (λsl e=>?_) (λp e=>?_) hO.cases0
  . subst e;cases hO with
    | txt hw e=>
      cases e;refine Tz (Xcb hw hS ?_);rw[getElem?_neg _ _ (by simp)];exact fin _
    | drw p os _ _ e _=>cases e
    | one gM hw oP h1 e hz ho=>
      cases e;obtain⟨_,_,_,_,km⟩:=id hS;have gT:=Xcd km;refine Tz (Xcc hw oP h1 hS ?_);have hn:es[ag.below t.place ((gM:Nat):Int).toNat]? = none:=by
        rw[Sd];by_cases h0:es.size=0
        . exact getElem?_neg _ _ (by lia)
        . have e1:es.size=1:=by lia
          have cj:0<t.place.size:=by rw[gT,e1];decide
          have:=ho t.place[0] (by rw[hl,e1]) (getElem?_pos t.place 0 cj);rw[this,Xjp (by rw[gT];exact h1) (getElem?_pos t.place 0 cj)];exact getElem?_neg _ _ (by lia)
      rw[hn];exact fin _
  . subst e;cases hO with
    | txt hw e=>cases e
    | one gM hw oP h1 e hz ho=>cases e
    | drw p' os hw mT e kj=>
      cases e;obtain⟨n,kj⟩:=kj;refine Tz (qI kj rfl ?_);dsimp only;rw[getElem?_neg _ _ (by simp)];dsimp only;refine Tz (bF hI rfl (by simp) ?_);refine Tz (bF (Jw (x:=.none) (j:=0) hI 0 (be 0)) rfl (by simp) ?_);refine Xce (h0:=s.heap) (s:={s with heap:=(s.heap.update I (aU.mapFields (·.setIfInBounds 0 (be 0)))).update I (aU.mapFields (·.setIfInBounds 2 aa.none))}) yk λe h' k ty=>?_;refine mj e h' (λb o nb q=>k b o ?_) ty;show ((s.heap.update I _).update I _).get? b=some o;rw[(Ue _ I _).2 b nb];exact mo _ b o nb q
end
namespace SF
def sSelf:zZ "set_iterator" "__iter__" "set_iterator.__iter__" := .of (owner := "set_iterator") (n := "__iter__") (by rw[oO,jn];kernel_rfl) (by decide +kernel) (by decide +kernel) (by decide +kernel) (by first | exact .inl (by decide +kernel) | exact .inr (by decide +kernel)) (by rw[cA];kernel_rfl)
def eSelf:jC table "set_iterator.__iter__" = some am.«dict_keyiterator.__iter__»:=gk (id' := "dict_keyiterator.__iter__") (by kernel_rfl) rfl (by decide +kernel) (by kernel_rfl)
def aSelf(a):qG "set_iterator.__iter__" ⟨[a],[]⟩:=by unfold qG;kernel_rfl
end SF
section
variable {P:av}{w:a8}{A:aB}{E:Zb}{s:ak}{I a:ae}{es:Array (Int×aa)}{ep:Nat}{t:ag}{vs:List aa}{fp:Option ae}{ks:Za}
def ItS.at{i}(x:ItS w I a es ep t vs fp i h)(k:∀b∈I::a::fp.toList,∀o,h.get? b=some o->h'.get? b=some o):ItS w I a es ep t vs fp i h':=by
 obtain⟨f0,h1,h2,h3,h4⟩:=x;refine⟨f0,k I (by simp) _ h1,?_,h3.at λo q=>k a (by simp) o q,h4⟩;cases h2 with
 | txt e1 e2=>exact .txt e1 e2
 | drw p os e1 e2 e3 e4=>
  obtain⟨n,e4⟩:=e4;exact .drw p os e1 e2 e3 ⟨n,k p (by rw[h4 p e3];simp) _ e4⟩
 | one sl e1 e2 e3 e4 e5 e6=>exact .one sl e1 e2 e3 e4 e5 e6
def Xjs(hh:A.handled=none)(hl:vs.length=es.size)(tG:a≠I)(uW:∀p,fp=some p->p≠I):lY P w A I (I::a::fp.toList) [I] vs.length (λi v=>vs[i]? = some v) (ItS w I a es ep t vs fp) where
 sub:=λb hb=>by simp at hb;simp[hb]
 frame:=λ_ _ _ st hk=>st.at hk
 item:=λi s Q E hi st hQ=>by
  refine Xjq st hi hl tG uW λh' aD sb=>?_;exact hQ vs[i] h' s.toks (by simp[hi]) aD λb o hb e=>by rw[sb.2 b (λz=>hb (by simp[z]))];exact e
 done:=λs Q E st hQ=>Xjr hh st hl λh' k=>hQ h' s.toks λb o hb e=>k b o (λz=>hb (by simp[z])) e
 self:=λi s Q E st hQ=>by
  obtain⟨f0,h1,_⟩:=st;have hT:s.TypeIs (.ref I) "set_iterator" := ⟨_,h1,rfl⟩;refine eN hT SF.sSelf (aP SF.sSelf hT SF.eSelf ?_ (SF.aSelf _));show aj _ _ (ret (.ref I)) _ _ s;exact T0 ⟨_,rfl, "set_iterator",_,hT,SF.sNext.lookup,hQ⟩
def Xjt  (hT:s.TypeIs (.ref r) "set") (h:Q false s):aj (ai P w) A (am.List.listLengthHint (.ref r)) Q E s:=by
 unfold am.List.listLengthHint;refine Tz (oI hT PySem.F.slot_set_len.lookup ?_);generalize hid:("set.__len__" : String)=B'
 wp_delta
 rw[show splitId B'=some ("set", "__len__") from by subst hid;decide +kernel];subst hid;refine Tz (cO (T := "set") (b:=true) hT (by rw[cA];kernel_rfl) ?_);refine cu (λz=>absurd z (by decide)) (λ_=>?_);refine cu (λ_=>?_) (λz=>absurd (by decide +kernel) z);exact Tz (bi hT (T0 h))
end
end L2
namespace L2
open PySem.Calls
section
variable {P:av}{w:a8}{A:aB}{E:Zb}{s:ak}{a:ae}{ks:Za}
def Xju  {S:ae} {res:aa} (hh:A.handled=none) (hs:SSet P w s.heap a ks) (nS:S≠a) (gS:s.heap.get? S=some {cls:=.type "list",data:=.seq #[] c0})
  (hR:∀s' acc c vs ls,(∀b o,b≠S->s.heap.get? b=some o->s'.heap.get? b=some o)->s'.os=s.os->s'.gens=s.gens->s'.heap.get? S=some {cls:=.type "list",dict:=none,data:=.seq acc c,slots := #[]}->acc.toList=vs->aF vs ls->ls.Perm ks->R (.ok (.ret res)) s'):
  aj (ai P w) A.in1 (am.List.listExtendWith (.ref S) (.ref a) res)
   (λfin s'=>match fin with | .done f=>R (.ok f) s' | .again c'=>c'.quiet=true/\br (ai P w) A c' R s') (λe s'=>R (.error e) s') s:=by
 obtain⟨o,es,ep,t,yl,ho,hex,hd,dY,bv,mq,hb,hf,hl,cj⟩:=id hs;have hT:s.TypeIs (.ref a) "set" := ⟨o,ho,hex.1⟩;have la:=Uc ho;have lS:=Uc gS;unfold am.List.listExtendWith;refine Tz (bi (T := "set") hT ?_);have n1:am.List.listSameRef (.ref S) (.ref a)=false:=by simp[am.List.listSameRef,nS]
 have n2:(aa.type "set" == aa.type "list")=false:=by decide
 have n3:(aa.type "set" == aa.type "tuple")=false:=by decide
 simp only[n1,n2,n3,Tt,Pt,if_false];refine Tz (Xjn ⟨o,ho,hex,hd,hf⟩ hb hl cj λf0 vs h1 d k1 z1 z2 kp O pv=>?_);have lu:vs.length=es.size:=by rw[pv.length_eq,Ow,O1]
 have nI:∀b,b<h1.objs.size->b≠h1.objs.size:=λb q=>O6 q;have kI:∀b o,s.heap.get? b=some o->(h1.push (itO f0 0 a es.size ep)).get? b=some o:=λb o q=>Ud _ (k1 b o q);obtain⟨fp,uX⟩:∃fp:Option ae,(∀p,f0 = .ref p->fp=some p)/\∀p,fp=some p->p≠h1.objs.size/\p≠S:=by
  cases f0 with
  | ref p=>
   refine⟨some p,⟨λq e=>(by cases e;rfl),λq e=>?_⟩⟩;cases e;refine⟨O6 (kp p rfl),λz=>?_⟩;subst z;cases O with
   | drw p' os _ _ e ht=>
    cases e;obtain⟨n,ht⟩:=ht;rw[kI _ _ gS] at ht;have hc:=congrArg aU.cls (Pd ht);exact absurd hc (by simp)
   | txt _ e=>cases e
   | one _ _ _ _ e _ _=>cases e
  | _=>exact⟨none,⟨λq e=>(by cases e),λq e=>(by cases e)⟩⟩
 have cf:ItS w h1.objs.size a es ep t vs fp 0 (h1.push (itO f0 0 a es.size ep)):=⟨f0,ar.get?_push_size _ rfl,O,⟨o,kI _ _ ho,hex,hd,hf⟩,uX.1⟩;have W:=Xjs (P:=P) (w:=w) (A:=A.in1) (I:=h1.objs.size) (a:=a) (es:=es) (ep:=ep) (t:=t) (vs:=vs) (fp:=fp) hh lu (O6 (Pg la z2)) (λp e=>(uX.2 p e).1);have ym:S∉h1.objs.size::a::fp.toList:=by
  simp only[Ph,not_or];refine⟨O6 (Pg lS z2),nS,λz=>?_⟩;cases uY:fp with
  | none=>rw[uY] at z;simp at z
  | some p=>
   rw[uY] at z;have:S=p:=by simpa using z
   exact(uX.2 p uY).2 this.symm
 have cT:∀(h:ar) (c1:Nat),ItS w h1.objs.size a es ep t vs fp 0 h->(∀b o,b≠S->s.heap.get? b=some o->h.get? b=some o)->h.get? S=some {cls:=.type "list",data:=.seq #[] c1} ->
   br (ai P w) A (.builtin "list.extend.loop" ⟨[.ref S,.ref h1.objs.size,res],[]⟩) R {s with heap:=h,drawn:=d}:=by
  intro h c1 lv hk qK;refine codeAny_extend_loopS W.toS (by rw[lu];exact aY hb) S ym res vs.length 0 _ #[] c1 rfl (Px _) lv qK (ItemsOf.nil _) λs' acc c hm BA dC=>?_;have BB:acc.toList=vs:=by
   apply List.ext_getElem?;intro i;by_cases hi:i<vs.length
   ·have gq:i<acc.size:=by rw[dC.1];exact hi
    have:=dC.2 i acc[i] (getElem?_pos acc i gq);rw[this];simp[gq]
   ·rw[R9 (by rw[O1,dC.1];lia),R9 (by lia)]
  have BC:aF vs (vs.map mh):=ye vs λv hv=>bv.all v (pv.mem_iff.mp hv);refine hR s' acc c vs (vs.map mh) (λb o nb q=>hm.heap b o (λz=>?_) (hk b o nb q)) hm.os hm.gens BA BB BC ?_
  ·rcases Ph.mp z with z | z
   ·exact nb z
   ·exact absurd (Pg (Uc q) z2) (by rw[Oz.mp z];exact Qg _)
  ·have:=pv.map mh;rw[bv.strs] at this;exact this.trans mq
 have qK:=kI _ _ gS;have oQ:ak.TypeIs {s with heap:=h1.push (itO f0 0 a es.size ep),drawn:=d} (.ref a) "set" := ⟨o,kI _ _ ho,hex.1⟩;refine Tz (aA (Xjt oQ ?_));refine cu (λ_=>?_) (λ_=>T0 ⟨cK PySem.F.plain_extend_loop _,cT _ c0 cf (λb o _ q=>kI b o q) qK⟩);refine Tz (aS (Tz ?_));show aj _ _ (IV S (·.push .none) >>= λ_=>IV S (·.pop)) _ _ _;refine Tz (oR qK rfl ?_);have yn:=ar.get?_update_self (aU.mapSeq (·.push aa.none)) qK rfl;refine oR (hz:=by seq_fits) yn rfl ?_;have BD:=ar.get?_update_self (aU.mapSeq (·.pop)) yn rfl;have gr:∀b,b≠S->(((h1.push (itO f0 0 a es.size ep)).update S (aU.mapSeq (·.push aa.none))).update S (aU.mapSeq (·.pop))).get? b=(h1.push (itO f0 0 a es.size ep)).get? b:=λb nb=>
  (ar.get?_update_other _ _ (Ne.symm nb)).trans (ar.get?_update_other _ _ (Ne.symm nb))
 refine T0 ⟨cK PySem.F.plain_extend_loop _,cT _ _ (cf.at λb uZ o q=>?_) (λb o nb q=>?_) BD⟩
 ·rw[gr b (λz=>ym (z ▸ uZ))];exact q
 ·rw[gr b nb];exact kI b o q
def Xjv(hh:A.handled=none)(hs:SSet P w s.heap a ks)
    (h:∀s' vs ls,(∀b o,s.heap.get? b=some o->s'.heap.get? b=some o)->s'.os=s.os->s'.gens=s.gens->aF vs ls->ls.Perm ks->R vs s'):aj (ai P w) A (collect (.ref a)) R E s:=by
  have la:a<s.heap.objs.size:=by obtain⟨o,_,_,_,_,g,_⟩:=hs;exact Uc g
  unfold collect;refine Tz (gj (b9 entry_proto_collect' ?_));rw[aB.under_plainId PySem.F.plain_proto_collect _];show aj _ A.in1 (newList [] >>= λl=>again (.builtin "list.__iadd__" ⟨[l,aa.ref a],[]⟩)) _ _ s;refine Tz (aG ?_);refine T0 ⟨cK PySem.F.plain_list_iadd _,b9 entry_list_iadd' ?_⟩;rw[aB.under_plainId PySem.F.plain_list_iadd _];have gS:(s.heap.push {cls:=.type "list",data:=.seq ([]:List aa).toArray}).get? s.heap.objs.size=some {cls:=.type "list",data:=.seq #[] 0}:=ar.get?_push_size _ rfl;show aj _ A.in1 (am.List.listExtendWith (.ref s.heap.objs.size) (.ref a) (.ref s.heap.objs.size)) _ _ _;have cT:=Xju (A:=A) (s:={s with heap:=s.heap.push {cls:=.type "list",data:=.seq ([]:List aa).toArray} }) (S:=s.heap.objs.size) (res:=.ref s.heap.objs.size)
    (R:=λq s'=>∃acc c vs ls,q = .ok (.ret (.ref s.heap.objs.size))/\(∀b o,s.heap.get? b=some o->s'.heap.get? b=some o)/\s'.os=s.os/\s'.gens=s.gens/\s'.heap.get? s.heap.objs.size=some {cls:=.type "list",dict:=none,data:=.seq acc c,slots := #[]}/\acc.toList=vs/\aF vs ls/\ls.Perm ks)
    hh (hs.stay λo q=>Ud _ q) (Tv la) gS (λs' acc c vs ls k e1 e2 g e3 e4 e5=>⟨acc,c,vs,ls,rfl,λb o q=>k b o (O6 (Uc q)) (Ud _ q),e1,e2,g,e3,e4,e5⟩)
  have done:∀(q:iN) (s':ak),(∃acc c vs ls,q = .ok (.ret (.ref s.heap.objs.size))/\(∀b o,s.heap.get? b=some o->s'.heap.get? b=some o)/\s'.os=s.os/\s'.gens=s.gens/\s'.heap.get? s.heap.objs.size=some {cls:=.type "list",dict:=none,data:=.seq acc c,slots := #[]}/\acc.toList=vs/\aF vs ls/\ls.Perm ks) ->
      wants (λv s2=>aj (ai P w) A (match v with
        | .ref l=>(do match (<-load l).data with
                        | .seq xs _=>pure xs.toList
                        | _=>unsupported "internal:collect")
        | _=>unsupported "internal:collect") R E s2) E q s':=λq s' ⟨acc,c,vs,ls,e0,k,e1,e2,g,e3,e4,e5⟩=>by
    subst e0;show aj _ A (load s.heap.objs.size >>= _) _ _ s';refine Tz (kN g ?_);refine T0 ?_;rw[e3];exact h s' vs ls k e1 e2 e4 e5
  refine aN cT (λfin s' x=>?_) λe s' x=>?_
  . cases fin with
    | done f=>exact done _ _ x
    | again c1=>exact⟨x.1,bh x.2 λq s2 y=>done q s2 y⟩
  . obtain⟨_,_,_,_,e',_⟩:=x;cases e'
end
section
variable {X:Cx}{pins:List (ae×aU)}{Z:St}{H:Hp}{s s':ak}
def Inv.moved(I:Inv X pins Z H s)(k:∀b u,s.heap.get? b=some u->s'.heap.get? b=some u)(ho:s'.os=s.os)(hg:s'.gens=s.gens):Inv X pins Z H s':=by
 have J:=I.kept (h':=s'.heap) (t':=s'.toks) k;exact⟨J.ok,ho.trans I.os,by rw[hg];exact I.bare,J.base,J.loc,J.cell,J.free,J.freeC,J.pin,J.hok,J.len⟩
def Inv.laidM  (I:Inv X pins Z H s) (k:∀b u,s.heap.get? b=some u->s'.heap.get? b=some u) (ho:s'.os=s.os) (hg:s'.gens=s.gens) (hp:s.heap.objs.size<=a) (new:A3 X.prog X.w (upd H a o) s'.heap a o):Inv X pins Z (upd H a o) s':=by
 have J:=I.laid (h':=s'.heap) (t':=s'.toks) k hp new;exact⟨J.ok,ho.trans I.os,by rw[hg];exact I.bare,J.base,J.loc,J.cell,J.free,J.freeC,J.pin,J.hok,J.len⟩
end
section
variable {P:av}{w:a8}{A:aB}{E:Zb}{s:ak}{ks:Za}
def Ms  (cV:ks.length<64)
  (hc:∀(R:List aa->ak->Prop),(∀s' vs ls,(∀b o,s.heap.get? b=some o->s'.heap.get? b=some o)->s'.os=s.os->s'.gens=s.gens->aF vs ls->ls.Perm ks->R vs s')->aj (ai P w) A.in1 (collect (.ref r)) R E s)
  (h:∀(s1 s':ak) (vs:List aa) (ls:Za) (e:Nat),(∀b o,s.heap.get? b=some o->s1.heap.get? b=some o)->s1.os=s.os->s1.gens=s.gens->(∀b o,s1.heap.get? b=some o->s'.heap.get? b=some o)->s'.os=s1.os->s'.gens=s1.gens->s'.heap.get? s1.heap.objs.size=some (ay "list" vs.toArray e)->aF vs ls->ls.Perm ks->fR ls=true->Q (.ref s1.heap.objs.size) s'):
  aj (ai P w) A (call (.builtin "sorted") [.ref r]) Q E s:=by
 refine Calls.call_function_entry jD iV iW (va _) ?_;unfold am.«sorted»;refine Tz (m:=lw "sorted" 1 1 _) (T0 ?_);refine Tz (hc _ λs1 vs ls k1 o1 g1 st p=>?_);have hl:vs.length<64:=by rw[st.length,p.length_eq];exact cV
 refine Tz (cL ?_ (by rw[T5];lia));have gL:(s1.heap.push (ay "list" vs.toArray 0)).get? s1.heap.objs.size=some (ay "list" vs.toArray 0):=ar.get?_push_size _ rfl;refine Tz (aA (aP (s:={s1 with heap:=s1.heap.push (ay "list" vs.toArray 0)}) gt ⟨_,gL,rfl⟩ fC (list_sort_treeK strKind_oneLt gL st.keysOf (λa b rest e=>keyKind_strs (by rw[<-e];exact st)) hl λaD pp so=>⟨_,rfl,?_⟩) (qL _)));obtain⟨oN,a1,a2,a3⟩:=sorted_out_str st pp so;obtain⟨e,he⟩:=sortedHeap_at (out:=(bq aD).map (·.2)) gL;refine T0 ⟨_,rfl,h s1 _ ((bq aD).map (·.2)).toList oN e k1 o1 g1 (λb o q=>?_) rfl rfl he a1 (a2.trans p) a3⟩;have lt:=Uc q;show (BE (s1.heap.push (ay "list" vs.toArray 0)) s1.heap.objs.size vs ((bq aD).map (·.2))).get? b=some o;rw[sortedHeap_old (O6 lt) (by rw[bN];exact Qr lt)];exact Ud _ q
end
def Ew (P:av) (w:a8) (a:ae) (ks:Za):HO:=.ext λh=>SSet P w h a ks
def Xcf  (h:aF vs ss):Vals (ss.map V.str) vs:=by
 induction h with
 | nil=>exact .nil
 | cons x t _ ih=>exact .cons ⟨t,rfl⟩ ih
theorem Gf:∀{ss:Za} {vs:List aa},Vals (ss.map V.str) vs->aF vs ss
 | [],_,r=>by cases r;exact .nil
 | x::ss,_,r=>by
  cases r with
  | cons r1 r2=>
   obtain⟨t,rfl⟩:=r1;exact .cons x t (Gf r2)
section
variable {X:Cx}
def Hr:X.calm=true->Bw X (.type "set") (λxs H Q=>∃p ss,xs=[.ref p]/\(SqL X.K H p (ss.map V.str)\/SqT X.K H p (ss.map V.str))/\ss.length+1<aW/\∀a,H a=none->Q (.ref a) (upd H a (Ew X.prog X.w a (ddup ss)))):=by
 intro bp pins s Z H xs us Q I r h;obtain⟨p,ss,rfl,hq,hb,q⟩:=h;obtain⟨u,rfl,rx⟩:=Cg r;cases rx;obtain⟨aC,r',ni⟩:∃aC:List aa,Vals (ss.map V.str) aC/\Src s.heap p aC.toArray:=by
  rcases hq with hq | hq
  ·obtain⟨aC,r',pl,_⟩:=I.list hq;exact⟨aC,r',.lst pl.isList⟩
  ·obtain⟨aC,r',pl,_⟩:=I.tuple hq;exact⟨aC,r',.tup pl⟩
 refine Xjj (I.ok.hd bp) ni (Gf r') hb λh' tk S k=>?_;refine⟨.ref s.heap.objs.size,_,I.laidM (s':={s with heap:=h',toks:=tk}) k rfl rfl (Oy _) ?_,rfl,q _ (I.hok.fresh (Oy _))⟩;exact⟨S,by obtain⟨o,_,_,_,_,g,_⟩:=S;exact⟨o,g⟩,λh1 h2 S1 kk=>S1.stay kk⟩
def Mt    {s s1 s':ak}    (I:Inv X pins Z H s) (cV:ks.length<64) (k1:∀b o,s.heap.get? b=some o->s1.heap.get? b=some o) (o1:s1.os=s.os) (g1:s1.gens=s.gens)
  (k2:∀b o,s1.heap.get? b=some o->s'.heap.get? b=some o) (o2:s'.os=s1.os) (g2:s'.gens=s1.gens) (he:s'.heap.get? s1.heap.objs.size=some (ay "list" vs.toArray e)) (st:aF vs ls) (p:ls.Perm ks)
  (q:∀l,H l=none->Q (.ref l) (upd H l (.lst (ls.map V.str)))):EP X pins Z Q (.ref s1.heap.objs.size) s':=by
 have I1:=I.moved k1 o1 g1;refine⟨.ref s1.heap.objs.size,_,I1.laidM k2 o2 g2 (Oy _) (show A3 X.prog X.w _ s'.heap _ (.lst (ls.map V.str)) from ⟨?_,vs,e,Xcf st,he⟩),rfl,q _ (I1.hok.fresh (Oy _))⟩;rw[Ow,p.length_eq,T5]
 lia
def Jx:X.calm=true->Bw X (.builtin "sorted") (λxs H Q=>∃a ks,xs=[.ref a]/\H a=some (Ew X.prog X.w a ks)/\ks.length<64/\∀l ls,H l=none->ls.Perm ks->fR ls=true->Q (.ref l) (upd H l (.lst (ls.map V.str)))):=by
 intro bp pins s Z H xs us Q I r h;obtain⟨a,ks,rfl,ha,cV,q⟩:=h;obtain⟨u,rfl,rx⟩:=Cg r;cases rx;obtain⟨S,_⟩:=(show A3 X.prog X.w H s.heap a (.ext λh=>SSet X.prog X.w h a ks) from I.hok a _ ha);refine Ms cV (λR k=>Xjv (by show X.A.in1.handled=none;simp[I.ok.hd bp]) S k) λs1 s' vs ls e k1 o1 g1 k2 o2 g2 he st p so=>?_;exact Mt I cV k1 o1 g1 k2 o2 g2 he st p λl hl=>q l ls hl p so
end
def Inv.turned2        (I:Inv X pins Z H s) (k:∀b o,b≠e1->b≠e2->s.heap.get? b=some o->h'.get? b=some o) (f1:FpOk X pins H e1) (f2:FpOk X pins H e2):Inv X pins Z H {s with heap:=h',toks:=t'}:=by
 have no:∀b u,H b=some u->b≠e1/\b≠e2:=λb u q=>⟨λz=>(by rw[z,f1.1] at q;cases q),λz=>(by rw[z,f2.1] at q;cases q)⟩;have nn:∀b,b∉[e1,e2]->b≠e1/\b≠e2:=λb hb=>by simpa using hb
 refine I.step (g':=s.gens) (d':=s.drawn) (ch:=[e1,e2]) (λb hb=>?_) (λb o _ _ hc q _=>k b o (nn b hc).1 (nn b hc).2 q) (λb o _ _ hc q _=>⟨o.slots,k b o (nn b hc).1 (nn b hc).2 q⟩) (λ_ _ _ _ n=>n) (λb o hc q=>⟨o,k b o (nn b hc).1 (nn b hc).2 q⟩) (λ_ _ q=>q) (λ_ _ _ q=>q) (λb ps q=>⟨#[],by rw[q];simp⟩) (λm hm=>?_) (λb u q=>?_) I.bare
 ·have dz:b=e1\/b=e2:=by simpa using hb
  rcases dz with z | z
  ·subst z;exact⟨f1.2.2.2.1,f1.2.1,f1.2.2.2.2.1,f1.2.2.2.2.2⟩
  ·subst z;exact⟨f2.2.2.2.1,f2.2.1,f2.2.2.2.2.1,f2.2.2.2.2.2⟩
 ·obtain⟨o,es,ep,ho,r⟩:=hm;exact⟨o,es,ep,k _ o (Ne.symm f1.2.1) (Ne.symm f2.2.1) ho,r⟩
 ·refine(I.hok b u q).stay (λc v hc z=>k c v ?_ ?_ z) (λ_ z=>z) λ_ _ z=>z
  ·rcases hc with y | y
   ·rw[y];exact(no b u q).1
   ·exact(no c _ y).1
  ·rcases hc with y | y
   ·rw[y];exact(no b u q).2
   ·exact(no c _ y).2
def Ite (K:KQ) (a:ae):It:=
 ⟨λi H=>∃xs x,SqL K H a xs/\xs[i]? = some x,λi H x H'=>∃tp,x = .ref tp/\H tp=none/\∀xs,SqL K H a xs->∃y,xs[i]? = some y/\H'=upd H tp (.tup [.int i,y]),λi H=>∃xs,SqL K H a xs/\xs.length<=i⟩
def Xjw{P:av}{w:a8}{K:KQ}{es:List aL}{k:Nat}{p:cN}(a e it:ae)(ne:e≠it):Turn P w K (.Tuple es k p) (Ite K a) [e,it] e (λi h=>(∃ii,IsEnum h e it i ii)/\h.IsListIter it a i) where
 mem:=by simp
 obj:=λi h st b hb=>by
  have dz:b=e\/b=it:=by simpa using hb
  rcases dz with z | z
  ·subst z;obtain⟨⟨ii,q⟩,_⟩:=st;exact⟨_,q,λv z=>by
    have z':uB.fields _=uB.cell v:=z;cases z'⟩
  ·subst z;obtain⟨o,q,c,d⟩:=st.2;exact⟨o,q,λv z=>by rw[d] at z;cases z⟩
 keep:=λi h h' st k=>by
  obtain⟨⟨ii,q⟩,l⟩:=st;exact⟨⟨ii,k e (by simp) _ q⟩,l.at λo z=>k it (by simp) o z⟩
 item:=by
  intro X hP hw hK hc i pins s Z H E I hf st hg;subst hP hw hK;obtain⟨xs,x,hq,hx⟩:=hg;obtain⟨aC,rv,pl,hz⟩:=I.list hq;obtain⟨u,hu,ru⟩:=rv.get hx;have f1:=hf e (by simp);have f2:=hf it (by simp);obtain⟨⟨ii,q⟩,l⟩:=st;refine wpAny_pyNext_enum_item q l pl.isList (x:=u) (by simpa using hu) ne λh' qo l' tp sz kk=>?_;have I1:Inv X pins Z H {s with heap:=h',toks:=s.toks+1}:=I.turned2 kk f1 f2;refine⟨_,rfl,?_⟩;have le:e<s.heap.objs.size:=Uc q;obtain⟨ol,uU,_⟩:=id l;have lit:it<s.heap.objs.size:=Uc uU;unfold cn;refine Tz (kN qo ?_);dsimp only;rw[T7 (by simp[be])];refine Tz (aS ?_);show aj _ _ (cg (.ref e) 0 .none) _ _ _;refine bF qo rfl (by simp) ?_;have g:=ar.get?_update_self (aU.mapFields (·.setIfInBounds 0 aa.none)) qo rfl;have sb:=Ue h' e (aU.mapFields (·.setIfInBounds 0 aa.none));have I2:Inv X pins Z (upd H s.heap.objs.size (.tup [.int i,x])) {s with heap:=h'.update e (aU.mapFields (·.setIfInBounds 0 aa.none)),toks:=s.toks+1}:=by
   have J:=I.laid (a:=s.heap.objs.size) (o:=.tup [.int i,x]) (h':=s.heap.push {cls:=.type "tuple",data:=.seq #[.int i s.toks,u]}) (t':=s.toks+1) (λb o z=>Ud _ z) (Oy _) (show A3 X.prog X.w _ _ _ (.tup [.int i,x]) from ⟨by show 2<=sizeLine;decide,[.int i s.toks,u],.cons ⟨_,rfl⟩ (.cons ru .nil),cX.new _ _⟩);have g1:FpOk X pins (upd H s.heap.objs.size (.tup [.int i,x])) e:=⟨by rw[Ad (O6 le)];exact f1.1,f1.2⟩;have g2:FpOk X pins (upd H s.heap.objs.size (.tup [.int i,x])) it:=⟨by rw[Ad (O6 lit)];exact f2.1,f2.2⟩;refine J.turned2 (λb o n1 n2 z=>?_) g1 g2;show (h'.update e _).get? b=some o;rw[sb.2 b n1];by_cases hb:b=s.heap.objs.size
   ·subst hb;have z':(s.heap.push {cls:=.type "tuple",data:=.seq #[.int i s.toks,u]}).get? s.heap.objs.size=some o:=z;rw[ar.get?_push_size _ rfl] at z';cases z';exact tp
   ·have z':(s.heap.push {cls:=.type "tuple",data:=.seq #[.int i s.toks,u]}).get? b=some o:=z;rw[ar.get?_push_ne _ _ _ hb] at z';exact kk b o n1 n2 z'
  refine⟨.ref s.heap.objs.size,_,I2,rfl,⟨_,rfl,I.hok.fresh (Oy _),λys hy=>⟨x,by rw[I.list_inj hy hq];exact hx,rfl⟩⟩,⟨⟨u,g.trans ?_⟩,l'.at λo z=>?_⟩,λb hb=>?_⟩
  ·rfl
  ·rw[sb.2 it (Ne.symm ne)];exact z
  ·have dz:b=e\/b=it:=by simpa using hb
   rcases dz with z | z
   ·subst z;rw[Ad (O6 le)];exact f1.1
   ·subst z;rw[Ad (O6 lit)];exact f2.1
 done:=by
  intro X hP hw hK hc i pins s Z H E I hf st hg;subst hP hw hK;obtain⟨xs,hq,hx⟩:=hg;obtain⟨aC,rv,pl,hz⟩:=I.list hq;have hl:=rv.length;have f2:=hf it (by simp);obtain⟨⟨ii,q⟩,l⟩:=st;exact wpAny_pyNext_enum_end (I.ok.hd hc) q l pl.isList (by simp;lia) λh' eb=>⟨rfl,I.turned (t':=s.toks) (λb o hb z=>eb b o hb z) f2.1 f2.2.1 f2.2.2.2.1 f2.2.2.2.2.1 f2.2.2.2.2.2⟩
 self:=λ_ _ _ _ _ st h=>by
  obtain⟨⟨ii,q⟩,_⟩:=st;exact mw q h
def Xjx (K:KQ) (ta:TA):TI:=fun Z H R=>ta Z H λvs H1=>∃a,vs=[.ref a]/\(∃xs,SqL K H1 a xs)/\R (Ite K a) H1
def Xjy       (hg:Gl X "enumerate") (hm:X.mg "enumerate" = none) (ha:PA X [l] ta) (hs:az [l] X.env=[(false,eval l X.env)]:=by rfl):PI X (.Tuple es k p2) (.Call (.Name "enumerate" p) [l] [] pos) (Xjx X.K ta):=by
 intro pins s Z H R I h;refine Call_ (F7 I hg hm (show bG "enumerate" = some (.type "enumerate") by decide +kernel) (PyProof.Rows.callWith_type1 (thn (ha pos pins s Z H _ I h) λus s1 ⟨vs,H1,I1,r1,q1⟩=>?_) hs rfl));obtain⟨a,e,⟨xs,hq⟩,q⟩:=q1;subst e;cases r1 with
 | cons r rr=>
  cases rr;cases r;obtain⟨aC,rv,pl,hz⟩:=I1.list hq;refine call_enumerate_list pl.isList λh' qe ql sz kk=>?_;refine mw qe ?_;have I2:Inv X pins Z H1 {s1 with heap:=h'}:=I1.kept (t':=s1.toks) kk;refine⟨_,[s1.heap.objs.size+1,s1.heap.objs.size],_,_,H1,rfl,I2,Xjw a _ _ (Nat.succ_ne_self _),⟨⟨_,qe⟩,ql⟩,λb hb=>?_,q⟩;have dz:b=s1.heap.objs.size+1\/b=s1.heap.objs.size:=by simpa using hb
  rcases dz with z | z
  ·subst z;exact I1.fpOk (Q5 _) (I1.hok.fresh (Q5 _))
  ·subst z;exact I1.fpOk (Oy _) (I1.hok.fresh (Oy _))
section
variable {X:Cx}{es:List aL}{t:St->Hp->(Hp->Prop)->Prop}{e:aL}{te:TE}{pos:cN}
def Xjz (te:TE) (t:St->Hp->(Hp->Prop)->Prop):St->Hp->(Hp->Prop)->Prop:=fun Z H Q=>te Z H λx H1=>∃z,x = .str z/\z.length<=400/\(∀c∈z.cps.toList,c<16 ^ 8)/\t Z H1 Q
def Xj0(ha:PE X e te)(h:PJ X es t)(he:bV (.FormattedValue e 114 none p::es) X.env=eval (.FormattedValue e 114 none p) X.env::bV es X.env:=by rfl):PJ X (.FormattedValue e 114 none p::es) (Xjz te t):=by
 intro out pins s Z H Q I hw hl;rw[he];rw[Pj] at hl;refine dg (gU (thn (ha pins s Z H _ I hw) λv s1 ⟨x,H1,I1,r1,q1⟩=>?_));obtain⟨z,ez,h1,h2,q⟩:=q1;subst ez;obtain⟨tk,rfl⟩:=r1;have hz:=StrLaws.reprText_len z h2;have vb:(eQ z).length<=sizeLine:=by rw[T5];lia
 refine wpAny_pyReprObj_str ?_ vb;refine oU (λt' k=>⟨by rw[Ee];lia,?_⟩) vb;exact h _ pins _ Z H1 Q ((I1.tok _).tok _) q (by rw[Ee];lia)
theorem Xcg:∀ss l,l.length=ss.length->(∀i (hi:i<ss.length),∃t,l[i]? = some (.str ss[i] t))->aF l ss
 | [],l,e,_=>by rw[P8.mp e];exact .nil
 | y::ys,[],e,_=>by cases e
 | y::ys,v::vs,e,im=>by
  obtain⟨t,q⟩:=im 0 (by simp);have:v = .str y t:=by simpa using q
  subst this;refine .cons y t (Xcg ys vs (by simpa using e) λi hi=>?_);obtain⟨t',e'⟩:=im (i+1) (by simpa using hi);exact⟨t',by simpa using e'⟩
def Xch:X.calm=true->Bw X (.builtin "sorted") (λxs H Q=>∃d kvs ss,xs=[.ref d]/\Rd H d (.dK kvs)/\kvs.map (·.1)=ss.map (λx=>(Sum.inr x:Key))/\ss.length<64/\∀l ls,H l=none->ls.Perm ss->fR ls=true->Q (.ref l) (upd H l (.lst (ls.map V.str)))):=by
 intro bp pins s Z H xs us Q I r h;obtain⟨d,kvs,ss,rfl,hd,hk,cV,q⟩:=h;obtain⟨u,rfl,rx⟩:=Cg r;cases rx;obtain⟨hz,hm,vs,rv,o,es,ep,ho,hex,BF,hr⟩:=Fq I.hok hd;have kn:kvs.length=ss.length:=by have:=congrArg List.length hk;simpa using this
 have lu:vs.length=ss.length:=by rw[<-kn];exact(Paired.length rv).symm
 have BG:vs.map (·.1)=ss.map (λx=>(Sum.inr x:Key)):=by rw[<-hk];exact rv.keys.symm
 have im:∀acc:Array aa,ItemsOf (λi v=>∃k x,vs[i]? = some (k,x)/\(Bf X.prog X.w).is k v=true) acc vs.length->aF acc.toList ss:=λacc dC=>by
  refine Xcg ss _ (by rw[O1,dC.1,lu]) λi hi=>?_;have gq:i<acc.size:=by rw[dC.1,lu];exact hi
  obtain⟨k',x,hx,BH⟩:=dC.2 i acc[i] (getElem?_pos acc i gq);have gQ:k'=Sum.inr ss[i]:=by
   have:=congrArg (λl=>l[i]?) BG;simp only[Pf,hx,Rf,Ox hi] at this;exact Pd this
  subst gQ;obtain⟨t,e⟩:=aa.isStrOf_shape BH;exact⟨t,by rw[Sa,getElem?_pos acc i gq,e]⟩
 refine Ms cV (λR kR=>PySem.W.kdu_collect (PySem.W.kdl_dict (knd:=Bf X.prog X.w) (kvs:=vs) (ep:=ep) hm) (by show X.A.in1.handled=none;simp[I.ok.hd bp]) ⟨o,es,ho,hex,BF,hr⟩ (by rw[lu,T5];lia) (λh' tk acc kk dC=>kR {s with heap:=h',toks:=tk} acc.toList ss kk rfl rfl (im acc dC) (Qv _)))
  λs1 s' vs ls e k1 o1 g1 k2 o2 g2 he st p so=>Mt I cV k1 o1 g1 k2 o2 g2 he st p λl hl=>q l ls hl p so
def rSlS:V->Option Int->Option Int->Hp->VK->Prop:=λx lo hi H Q=>∃z,x = .str z/\lo=none/\(∃j,hi=some j)/\z.length<=1000/\Q (.str (Txt.slice z lo hi)) H
def Xj1:SlR X rSlS:=by
 intro pins s Z H x v vl vu lo hi sl Q I rx hs pl pu h;obtain⟨z,rfl,rfl,⟨j,rfl⟩,hz,q⟩:=h;obtain⟨tz,rfl⟩:=rx;cases pl;cases pu;rename_i tu;refine⟨"str",_,PySem.F.slot_str_getitem.lookup,kQ _ _ _,wpAny_getItem_str_slice (l:=none) (u:=some (j,tu)) (st:=none) hs rfl (post_val_or_str ⟨?_,λt' k=>?_⟩)⟩
 ·exact Pu (Txt.slice_le z none (some j)) (by rw[T5];lia)
 ·exact⟨.str (Txt.slice z none (some j)),H,I.tok _,⟨t',rfl⟩,q⟩
end
end L2
set_option maxHeartbeats 4000000
namespace L2
def leS (x y:aq):Prop:=x.cps.toList<=y.cps.toList
def Xj2{x y:aq}(h:x.cps.toList=y.cps.toList):x=y:=by
 obtain⟨⟨a⟩⟩:=x;obtain⟨⟨b⟩⟩:=y;have:a=b:=h;rw[this]
def Xci(h:leS x y)(g:leS y x):x=y:=Xj2 (List.le_antisymm h g)
def Xcj(h:leS x y)(g:leS y z):leS x z:=List.le_trans h g
def Mu(x y):leS x y\/leS y x:=List.le_total _ _
def ltS (x y:aq):Prop:=x.cps.toList<y.cps.toList
instance (x y:aq):Decidable (ltS x y):=inferInstanceAs (Decidable (x.cps.toList<y.cps.toList))
instance (x y:aq):Decidable (leS x y):=inferInstanceAs (Decidable (x.cps.toList<=y.cps.toList))
def Jy(x):¬ltS x x:=List.lt_irrefl _
def Jz(h:ltS x y)(g:ltS y z):ltS x z:=List.lt_trans h g
def Mv:¬ltS x y↔leS y x:=List.not_lt
def ltS_of(h:leS x y)(n:x≠y):ltS x y:=by
 by_cases q:ltS x y
 ·exact q
 ·exact absurd (Xci h (Mv.mp q)) n
def Xj3(h:ltS x y):leS x y:=List.le_of_lt h
def Hs(h:ltS x y):x≠y:=λe=>Jy y (e ▸ h)
theorem Xck:∀l p,risingS p l=true->(p::l).Pairwise leS
 | [],p,_=>by simp
 | x::r,p,h=>by
  have h':(!ltCps x.cps.toList p.cps.toList&&risingS x r)=true:=h;rw[Pa,ltCps_eq] at h';have ih:=Xck r x h'.2;have yo:leS p x:=by
   have:=h'.1;simp only[Tn,decide_eq_false_iff_not] at this;exact this
  refine Rp.mpr ⟨λy hy=>?_,ih⟩;rcases Ph.mp hy with e | e
  ·rw[e];exact yo
  ·exact Xcj yo ((Rp.mp ih).1 y e)
theorem Xcl:∀l,fR l=true->l.Pairwise leS
 | [],_=>by simp
 | x::r,h=>Xck r x h
theorem Eh:∀{a b:Za},a.Perm b->a.Pairwise leS->b.Pairwise leS->a=b
 | [],b,p,_,_=>by rw[List.nil_perm.mp p]
 | x::a,[],p,_,_=>by have:=p.length_eq;simp at this
 | x::a,y::b,p,ha,hb=>by
  obtain⟨a1,a2⟩:=Rp.mp ha;obtain⟨b1,b2⟩:=Rp.mp hb;have e:x=y:=by
   have hx:x∈y::b:=p.mem_iff.mp O3;have hy:y∈x::a:=p.mem_iff.mpr O3;rcases Ph.mp hx with e | hx
   ·exact e
   ·rcases Ph.mp hy with e | hy
    ·exact e.symm
    ·exact Xci (a1 y hy) (b1 x hx)
  subst e;rw[Eh (List.Perm.cons_inv p) a2 b2]
def srt (l:Za):Za:=l.mergeSort λx y=>decide (leS x y)
def Ck(l):(srt l).Perm l:=List.mergeSort_perm ..
def Dv(l):(srt l).Pairwise leS:=by
 have h:=List.pairwise_mergeSort (le:=λx y=>decide (leS x y)) (λa b c h1 h2=>T8 (Xcj (Ua h1) (Ua h2)))
  (λa b=>by rcases Mu a b with h | h<;>simp[h]) l
 exact h.imp λh=>Ua h
def Gg(p:ls.Perm ks)(h:fR ls=true):ls=srt ks:=Eh (p.trans (Ck ks).symm) (Xcl _ h) (Dv _)
def Xcm(p:a.Perm b):srt a=srt b:=Eh ((Ck a).trans (p.trans (Ck b).symm)) (Dv _) (Dv _)
def Gh  : x∈srt l↔x∈l:=(Ck l).mem_iff
def dit (row:Za):Za:=srt (ddup row)
def Aj  : x∈dit row↔x∈row:=Gh.trans (Mq row x)
def Ht(row):(dit row).Nodup:=(Ck _).nodup_iff.mpr (Ho row)
def Cw(row):(dit row).Pairwise ltS:=by
 have h1:=Dv (ddup row);have h2:(dit row).Pairwise (· ≠ ·):=Ht row;exact(h1.and h2).imp λh=>ltS_of h.1 h.2
def Ei(row):(dit row).length<=row.length:=by
 have:=(Ck (ddup row)).length_eq;have h:=Hq row;unfold dit
 lia
def Fw{a b:Za}(ha:a.Nodup)(hb:b.Nodup)(h:∀x,x∈a↔x∈b):a.Perm b:=(List.perm_ext_iff_of_nodup ha hb).mpr h
def Xcn(p:ls.Perm ks)(h:fR ls=true)(nd:ks.Nodup)(m:∀x,x∈ks↔x∈row):ls=dit row:=
 Eh (p.trans ((Fw nd (Ho row) λx=>(m x).trans (Mq row x).symm).trans (Ck _).symm)) (Xcl _ h) (Dv _)
structure Fn (P:av) (w:a8) (K:KQ) (mg:aq->Option aa) (base:ar) (CX:CXT) (k:Nat) (x:aq) (ps:Za) (sp:Sp):Prop where
 ex:∃f fd,mg x=some (.ref f)/\KU K (.ref f)=true/\Binds K fd ps []/\FnOk P w K mg base CX k f fd ps sp
section
variable {X:Cx}{CX:CXT}{k:Nat}{ps:Za}{sp:Sp}{E:XK}{x:aq}{p pos:cN}{e:aL}{es:List aL}{t:TA}
def Ai(F:Fn X.prog X.w X.K X.mg X.base CX k x ps sp)(hr:Room k X.A)(hg:Gl X x)(hx:Passes CX X E)
  (ha:PA X (e::es) t) (h9:(x==("__debug__" : aq))=false:=by decide) (he:az (e::es) X.env=(false,eval e X.env)::az es X.env:=by rfl) (cj:(bw pos (az es X.env)).any (·.1)=false:=by rfl):
  PE X (.Call (.Name x p) (e::es) [] pos) (Ls sp [] E t):=by
 obtain⟨f,fd,hm,hk,hb,hF⟩:=F.ex;exact Xhg hF hr hg hm hk hb .nil hx ha h9 he cj
def Xj4{st}{rest}   (P:St->Hp->Prop)(h2:∃u,PSs X rest u/\∀Z' H',P Z' H'->u D Z' H')
  (h1:∀nx,(∀Z' H',P Z' H'->nx Z' H')->∃t,PS X st t/\t {D with nx:=nx} Z H):∃t,PSs X (st::rest) t/\t D Z H:=by
 obtain⟨u,hu,ru⟩:=h2;obtain⟨t,ht,rt⟩:=h1 (u D) ru;exact⟨Ja t u,Ae ht hu,rt⟩
end
def Aw{A B:Prop}(h1:c=true->A)(h2:c=false->B):if c=true then A else B:=by
 cases c with
 | true=>exact Cb (h1 rfl)
 | false=>exact Bz (h2 rfl)
def Same.upd{H H':Hp}{a:ae}{o:HO}(s:Same H H')(h:H a=none):Same H (upd H' a o):=λb u e=>by
 rw[Ad (Au e h)];exact s b u e
def Same.upd0   (h:H a=none):Same H (L2.upd H a o):=(Same.refl H).upd h
def ku  {o u} (h:H b=some o) (hp:H p=none):upd H p u b=some o:=by
 rw[Ad (Au h hp)];exact h
def Same.step  {o} (s:Same H H1) (hp:H1 p=none):Same H (L2.upd H1 p o):=s.upd (s.free hp)
def Same.go{p q}{o}(s:Same H H1)(hp:H1 p=none)(hq:L2.upd H1 p o q=none):Same H (L2.upd H1 p o):=s.step hp
def Dw{α : Type}(f)(xs:List α)(b)(hb:b<=xs.length):B8 (xs.map f) none (some (b:Int))=(xs.take b).map f:=by
 unfold B8;rw[HT.sIx_none,Rr,HT.sIx_nat,Ow,List.map_take,Tf,Rg hb]
def Ex{α : Type}(f)(xs:List α)(a)(ha:a<=xs.length):B8 (xs.map f) (some (a:Int)) none=(xs.drop a).map f:=by
 unfold B8;rw[HT.sIx_none,HT.sIx_nat,Ow,Rg ha,List.map_drop];exact P5 (by rw[P2,Ow];lia)
def Xj5{α : Type}(f)(xs:List α)(a b)(fu:a<=b)(hb:b<=xs.length):B8 (xs.map f) (some (a:Int)) (some (b:Int))=((xs.drop a).take (b - a)).map f:=by
 unfold B8;rw[HT.sIx_nat,HT.sIx_nat,Ow,Rg hb,Rg (Pu fu hb),List.map_take,List.map_drop]
def Xco (qM:cx) (fN N:Za) (cap:List (Option Nat)) (scope:cx):Bool:=
 (scope.names.all λy=>decide (scope.names.lookup y.1=some y.2)) &&
 (scope.names.all λy=>decide (y.2 ≠ .free)||decide (qM.names.lookup y.1=some .cell)||decide (qM.names.lookup y.1=some .free))&&decide (cap.length=N.length) &&
 ((List.range N.length).all λi=>match cap[i]?,N[i]? with
  | some (some j),some x=>decide (fN[j]? = some x)&&decide (scope.names.lookup x=some .free)
  | _,_=>true)
def CompScope.of   {cap} (qM) (fN) (h1:X.env.scope=qM) (h2:X.N=fN) (hk:scope.kind = .function) (h:Xco qM fN N cap scope=true):CompScope X N cap scope:=by
 unfold Xco at h;simp only[Pa,Po,Sb,decide_eq_true_eq] at h;obtain⟨⟨⟨a1,a3⟩,a4⟩,a5⟩:=h;refine⟨hk,a1,λy hy e=>?_,a4,λi x j hN hc=>?_⟩
 ·show X.env.scope.names.lookup y.1=some .cell\/X.env.scope.names.lookup y.1=some .free;rw[h1];rcases a3 y hy with (z | z) | z
  ·exact absurd e z
  ·exact .inl z
  ·exact .inr z
 ·have hi:i<N.length:=(O8.mp hN).1;have q:=a5 i (Qb.mpr hi);rw[hc,hN] at q;simp only[Pa,decide_eq_true_eq] at q;rw[h2];exact q
section
variable {X:Cx}
def Xj6(K)(h:X.K=K):Bw X (.builtin "isinstance") (λxs H Q=>∃x c t cv b,xs=[x,c]/\TyOf K H x t/\Hl c=some cv/\KZ K t cv=some b/\Q (.bl b) H):=by subst h;exact Mo
def Dx(K)(h:X.K=K):IxR X (Ly K):=by subst h;exact Jl
def Mw(K)(h:X.K=K):OpR X (aJ .In) (rIn K false):=by subst h;exact Lz
def Xcp(K)(h:X.K=K):OpR X (aJ .NotIn) (rIn K true):=by subst h;exact Jn
end
def Xcq(K)(h:X.K=K):Bw X (.builtin "isinstance") (λxs H Q=>∃a C c cv b,xs=[.ref a,c]/\H a=some (Fu a C)/\ExcF K C/\Hl c=some cv/\KZ K (.ref C) cv=some b/\Q (.bl b) H):=by subst h;exact Xja
def Ey        (n:Nat) (hn:n<sizeLine) (vs:Nat->V) (ok:Nat->Bool) (ys:Nat->V)
  (ik:∀i H2,i<n->Same H1 H2->J.go i H2/\∀x H3,J.yld i H2 x H3->H3=H2/\x=vs i)
  (bv:∀H2,Same H1 H2->J.stop n H2)
  (nA:∀i H2 Q,i<n->Same H1 H2->(∀H',Same H2 H'->Q (ok i) H')->tt ((Bu cap Z).set j (some (vs i))) H2 Q)
  (step:∀i H2 Q,i<n->ok i=true->Same H1 H2->(∀H',Same H2 H'->Q (ys i) H')->te ((Bu cap Z).set j (some (vs i))) H2 Q)
  (hd:∀D H2,H1 D=none->Same H1 H2->H2 D=some (.lst (((List.range n).filter ok).map ys))->F D H2):Ft cap (Bm j) tt te J Z H1 F:=by
 refine Ju n vs (λD i Z2 H2=>(∀v, Z2.set j v=(Bu cap Z).set j v)/\Same H1 H2/\H2 D=some (.lst (((List.range i).filter ok).map ys))) ?_ ?_ ?_ ?_ ?_
 ·intro D hD;exact⟨λ_=>rfl,(Same.refl H1).step hD,Ab⟩
 ·rintro D i Z2 H2 hD hi ⟨_,s2,_⟩;exact ik i H2 hi s2
 ·rintro D Z2 H2 hD ⟨_,s2,_⟩;exact bv H2 s2
 ·rintro D i Z2 H2 hD hi ⟨e,s2,hb⟩;show tt (Z2.set j (some (vs i))) H2 _;rw[e];refine nA i H2 _ hi s2 λH3 s3=>?_;have eR:=s2.trans s3;have nB:=s3 _ _ hb;have gx:∀v,((Bu cap Z).set j (some (vs i))).set j v=(Bu cap Z).set j v:=λv=>by rw[Tg]
  have hl:(((List.range i).filter ok).map ys).length<=i:=by
   rw[Ow];exact Pu (P1 ..) (by rw[Qi];lia)
  refine Aw (λhk=>?_) (λhk=>?_)
  ·refine step i H3 _ hi hk eR λH4 s4=>?_;refine wput hi (s4 _ _ nB) (by lia) ⟨gx,λb u e'=>?_,?_⟩
   ·rw[Ad (Au e' hD)];exact s4 _ _ (eR b u e')
   ·rw[Ab,Qa,Pm,O9];simp[hk]
  ·refine wskip hi ⟨gx,eR,?_⟩;rw[nB,Qa,Pm,O9];simp[hk]
 ·rintro D Z2 H2 hD ⟨_,s2,hb⟩;exact hd D H2 hD s2 hb
def Mx       (n:Nat) (hn:n<sizeLine) (vs:Nat->V) (ys:Nat->V)
  (ik:∀i H2,i<n->Same H1 H2->J.go i H2/\∀x H3,J.yld i H2 x H3->H3=H2/\x=vs i)
  (bv:∀H2,Same H1 H2->J.stop n H2)
  (step:∀i H2 Q,i<n->Same H1 H2->(∀H',Same H2 H'->Q (ys i) H')->te ((Bu cap Z).set j (some (vs i))) H2 Q)
  (hd:∀D H2,H1 D=none->Same H1 H2->H2 D=some (.lst ((List.range n).map ys))->F D H2):Ft cap (Bm j) Fs te J Z H1 F:=
 Ey n hn vs (λ_=>true) ys ik bv (λi H2 Q _ _ k=>k H2 (Same.refl _)) (λi H2 Q hi _ s k=>step i H2 Q hi s k) λD H2 hD s e=>hd D H2 hD s (by rw[e,Py.mpr (λ_ _=>rfl)])
def Hu:Passes (CX1 X.prog X.w) X E0:=λ_ _ _ _ _ _ _ h=>by
 obtain⟨_,_,_,_,_,_,_,_,_,h⟩:=h;exact h.elim
structure DefAt (K:KQ) (x:aq) (st:aV):Prop where
 ex:∃f fd,KS K au x=some (some (.ref f))/\KU K (.ref f)=true/\Fun K x x st f fd
def DefAt.of{K}{x}{st}    {kV cZ pm cdv ct}(a:KS K au x=some (some (.ref f)))
  (l:K.lookup f=some ⟨oc,od,.func (LD x x (Ec st) (Cv st) (defScope st) .none kV cZ pm an cdv ct),iE⟩) (c:LG K cdv x=true) (k:KU K (.ref f)=true):DefAt K x st:=
 ⟨⟨f,_,a,k,Xbo l c k⟩⟩
def Fn.of   {K}     {k} {x} {st}  (X:K.In h) (G:h.Ns au mg) (D:DefAt K x st)
  (hb:∀(kV cZ pm:aa) (an:Option ae) (cdv ct:aa) (us:List aa),us.length=ps.length->el (LD x x (Ec st) (Cv st) (defScope st) .none kV cZ pm an cdv ct) ⟨us,[]⟩=pure (ps.zip us))
  (ok:∀f fd,Fun K x x st f fd->FnOk P w K mg base CX k f fd ps sp):Fn P w K mg base CX k x ps sp:=by
 obtain⟨f,fd,a,hk,F⟩:=D.ex;exact⟨⟨f,fd,LC X G a,hk,F.binds hb,ok f fd F⟩⟩
structure ExcAt (K:KQ) (x:aq) (C:ae):Prop where
 a:KS K au x=some (some (.ref C))
 e:LH K C bmV "ValueError.__new__" = true
 ga:Le K (.ref C) "__getattribute__" = some (some (.builtin "BaseException.__getattribute__"))
 gn:Le K (.ref C) "__getattr__" = some none
 cl:Le K (.ref C) "__class__" = some (some (.builtin "object.__class__"))
 sb:KY K (.ref C) (.type "BaseException")=some true
 so:KY K (.ref C) (.type "object")=some true
 sv:KY K (.ref C) (.type "ValueError")=some true
 ss:KY K (.ref C) (.ref C)=some true
 ic:LJ K C=true
 ty:LL K (.ref C)=some (.type "type")
section
variable {K:KQ}{x:aq}{C:ae}
def ExcAt.f(E:ExcAt K x C):ExcF K C:=⟨E.ga,E.gn,E.cl,E.sb,E.so,E.ic⟩
def Xcr   (ic:LJ K S=true) (ty:LL K (.ref S)=some (.type "type")) (h:KY K t (.ref S)=some b):MA K t (.ref S)=some b:=by
 unfold MA;have BI:(LU K S).isSome=true:=ic;simp only[BI,ty];exact h
def Xcs  (ne:C≠S) (ic:LJ K S=true) (ty:LL K (.ref S)=some (.type "type")) (h:KY K (.ref C) (.ref S)=some b):KZ K (.ref C) (.ref S)=some b:=by
 unfold KZ;rw[T6 (λz=>ne (aa.ref.inj (beq_iff_eq.mp z)))];exact Xcr ic ty h
end
structure ClsAt (K:KQ) (x:aq) (C:ae):Prop where
 a:KS K au x=some (some (.ref C))
 ic:LJ K C=true
 ty:LL K (.ref C)=some (.type "type")
def Dl(x)(row:Za):inV (.str x) (row.map V.str)=decide (x∈row):=by
 unfold inV;rw[Qu,Rm,decide_eq_true_eq];constructor
 ·rintro ⟨y,hy,e⟩;obtain⟨z,hz,rfl⟩:=Pq.mp hy;have:z=x:=by simpa [eqV] using e
  rw[<-this];exact hz
 ·intro hx;exact⟨.str x,Pq.mpr ⟨x,hx,rfl⟩,by simp[eqV]⟩
def Cy(row:Za):(row.map V.str).all B2=true:=by
 rw[Po];intro v h;obtain⟨x,_,rfl⟩:=Pq.mp h;rfl
def Xj7{K}        {p q}(vc:p≠q)(hS:SqL K H1 a xs)(hn:xs.length<sizeLine)(ok)(ys)
  (nA:∀(i:Nat) x H2 Q,xs[i]? = some x->Same H1 H2->(∀H',Same H2 H'->Q (ok i) H')->tt (((Bu cap Z).set p (some (.int i))).set q (some x)) H2 Q)
  (step:∀(i:Nat) x H2 Q,xs[i]? = some x->ok i=true->Same H1 H2->(∀H',Same H2 H'->Q (ys i) H')->te (((Bu cap Z).set p (some (.int i))).set q (some x)) H2 Q)
  (hd:∀D H2,H1 D=none->Same H1 H2->H2 D=some (.lst (((List.range xs.length).filter ok).map ys))->F D H2):Ft cap (Lh K 2 (Lg (Bm p) (Lg (Bm q) Xaf))) tt te (Ite K a) Z H1 F:=by
 intro D hD;refine⟨wN xs.length λi Z2 H2=>(∀u v,(Z2.set p u).set q v=((Bu cap Z).set p u).set q v)/\Same H1 H2/\H2 D=some (.lst (((List.range i).filter ok).map ys)),⟨xs.length,by simp,Px _,λ_ _=>rfl,(Same.refl H1).step hD,Ab⟩,?_⟩;rintro i m Z1 H2 ⟨rfl,hi,e,s2,hb⟩;have vd:SqL K H2 a xs:=s2.seq hS;by_cases bo:i<xs.length
 ·have hx:xs[i]? = some xs[i]:=Ox bo;refine .inr ⟨⟨xs,xs[i],vd,hx⟩,?_⟩;rintro x H3 ⟨tp,rfl,ht,hy⟩;obtain⟨y,ko,rfl⟩:=hy xs vd;rw[hx] at ko;cases ko;refine⟨tp,_,rfl,SqT.of Ab,rfl,_,_,rfl,_,_,rfl,rfl,?_⟩;have s3:Same H1 (upd H2 tp (.tup [.int i,xs[i]])):=s2.step ht;have nB:upd H2 tp (.tup [.int i,xs[i]]) D=some (.lst (((List.range i).filter ok).map ys)):=ku hb ht;rw[e];refine nA i _ _ _ hx s3 λH4 s4=>?_;have ve:=s3.trans s4;have qN:=s4 _ _ nB;have gx:∀u v,(((((Bu cap Z).set p (some (.int i))).set q (some xs[i])).set p u).set q v)=((Bu cap Z).set p u).set q v:=λu v=>by
   rw[List.set_comm _ _ (Ne.symm vc),Tg,Tg]
  have hl:(((List.range i).filter ok).map ys).length<=i:=by
   rw[Ow];exact Pu (P1 ..) (by rw[Qi];lia)
  refine Aw (λhk=>?_) (λhk=>?_)
  ·refine step i _ H4 _ hx hk ve λH5 s5=>?_;refine wput bo (s5 _ _ qN) (by lia) ⟨gx,λb u e'=>?_,?_⟩
   ·rw[Ad (Au e' hD)];exact s5 _ _ (ve b u e')
   ·rw[Ab,Qa,Pm,O9];simp[hk]
  ·refine wskip bo ⟨gx,ve,?_⟩;rw[qN,Qa,Pm,O9];simp[hk]
 ·have ei:i=xs.length:=by lia
  subst ei;exact .inl ⟨⟨xs,vd,Oy _⟩,hd D H2 hD s2 hb⟩
def Xct     (K:KQ) (n:Nat) (hK:X.K=K) (hc:X.calm=true) (h:PGs X es t)
  (hn:(bx es X.env).length=n:=by rfl) (bv:(bx es X.env).findIdx? (·.1)=none:=by rfl):PG X (.Tuple es k pos) (Lh K n t):=by
 subst hK;exact Xag hc h hn bv
def Cz{α : Type}(d)(p):∀(xs:List α),((List.range xs.length).filter λi=>p (xs.getD i d)).map (λi=>xs.getD i d)=xs.filter p:=by
 intro xs;have go:∀n,n<=xs.length->((List.range n).filter λi=>p (xs.getD i d)).map (λi=>xs.getD i d)=(xs.take n).filter p:=by
  intro n
  induction n with
  | zero=>intro _;rfl
  | succ n ih=>
   intro h;have hn:n<xs.length:=by lia
   have e:xs.getD n d=xs[n]:=by simp[List.getD,hn]
   rw[Qa,Pm,O9,ih (by lia),Pk hn,Pm,P6,P6,e];split
   ·simp[hn]
   ·simp
 rw[go _ (Oy _),Qo]
abbrev TM:=St->Hp->(St->Hp->Prop)->Prop
def PM (X:Cx) (m:f8 Unit) (t:TM):Prop:=∀pins s Z H (Q:St->Hp->Prop),Inv X pins Z H s->t Z H Q ->
 aj (ai X.prog X.w) X.A m (λ_ s'=>∃Z' H',Inv X pins Z' H' s'/\Q Z' H') X.xe s
def Ej (e:aL) (d:Nat) (tg iter:aL) (cr:List aL) (act:f8 Unit) (it acc:aa) (env:eV):f8 Fin:=do
 cR iter.pos
 match <-dL it with
 | none=>pure (.done .next)
 | some v=>
  cn tg it v
  assign tg env v
  let mut ok:=true
  for c in cr do
   if ok then ok <-isTrue c env (eval c env)
  if ok then act
  again (.compLoop e d it acc env)
structure Cm (e:aL):Prop where
 den1 : ∀ (P : av) (w : a8) (d : Nat) (it acc : aa) (env : eV), (ai P w).den (.compLoop e d it acc env) = (cB e d it acc env).onRaise (fun x => do                      IW x env; theTreesLotGoes x)
 den2 : ∀ (P : av) (w : a8) (d : Nat) (it acc : aa) (env : eV), (ai P w).den (.compStart e d it acc env) = (IZ e d it acc env).onRaise (fun x => do                       IW x env; cR theWindowsPlace)
 und1:∀(A:aB) (d:Nat) (it acc:aa) (env:eV),A.under (.compLoop e d it acc env)=A
 und2:∀(A:aB) (d:Nat) (it acc:aa) (env:eV),A.under (.compStart e d it acc env)=A
def Hv    : Cm (.ListComp dZ gs sc p):=⟨λ_ _ _ _ _ _=>rfl,λ_ _ _ _ _ _=>rfl,λ_ _ _ _ _=>rfl,λ_ _ _ _ _=>rfl⟩
def Xj8    : Cm (.DictComp k v gs sc p):=⟨λ_ _ _ _ _ _=>rfl,λ_ _ _ _ _ _=>rfl,λ_ _ _ _ _=>rfl,λ_ _ _ _ _=>rfl⟩
def tLp (g:TG) (tt:TT) (tm:TM) (J:It) (Z:St) (H1:Hp) (F:St->Hp->Prop):Prop:=
 ∃W:Nat->Nat->St->Hp->Prop,(∃m,W 0 m Z H1)/\∀i m Z1 H2,W i m Z1 H2 ->
  (J.stop i H2/\F Z1 H2)\/(J.go i H2/\∀x H3,J.yld i H2 x H3->g x Z1 H3 fun Z2 H4=>tt Z2 H4 λb H5=>
   if b=true then tm Z2 H5 fun Z3 H6=>∃m',m'<m/\W (i+1) m' Z3 H6 else ∃m',m'<m/\W (i+1) m' Z2 H5)
section
variable {Y:Cx}{e tg iter:aL}{d:Nat}{cr:List aL}{act:f8 Unit}{acc:aa}{g:TG}{tt:TT}{tm:TM}{pins:List (ae×aU)}{Z:St}{H:Hp}{s:ak}{J:It}{fp:List ae}{it:ae}{tn:Nat->ar->Prop}{F:St->Hp->Prop}{R:iN->ak->Prop}
def Xcu(cm:Cm e)(hx:Y.xe=λ_ _=>False)(hc:Y.calm=true)(eq:cB e d (.ref it) acc Y.env=Ej e d tg iter cr act (.ref it) acc Y.env)(hg:PG Y tg g)(ht:PIfs Y cr tt)(hm:PM Y act tm)
  (I:Inv Y pins Z H s) (T:Turn Y.prog Y.w Y.K tg J fp it tn) (h0:tn 0 s.heap) (hf:∀b∈fp,FpOk Y pins H b) (hb:tLp g tt tm J Z H F) (fin:∀Z' H' s',Inv Y pins Z' H' s'->F Z' H'->R (.ok .next) s'):
  br (ai Y.prog Y.w) Y.A (.compLoop e d (.ref it) acc Y.env) R s:=by
 obtain⟨W,⟨m0,w0⟩,turn⟩:=hb;have h8:∀{H':Hp},(∀b∈fp,H' b=none)->∀b∈fp,FpOk Y pins H' b:=λhn b hb=>⟨hn b hb,(hf b hb).2⟩;refine codeAny_loop rfl (λn s'=>∃i Z1 H2,Inv Y pins Z1 H2 s'/\tn i s'.heap/\(∀b∈fp,H2 b=none)/\W i n Z1 H2) (λn s' hI=>?_) m0 ⟨0, Z,H,I,h0,λb hb=>(hf b hb).1,w0⟩;obtain⟨i, Z1,H2,I',aD,yp,w'⟩:=hI;rw[cm.den1,cm.und1];refine wpAny_noted ?_;rw[eq];have no:∀{α : Type} {t:f8 α} {Q : α->ak->Prop} {E':Zb} {s₁ : ak},aj (ai Y.prog Y.w) Y.A t Q Y.xe s₁->aj (ai Y.prog Y.w) Y.A t Q E' s₁:=λh=>aN h (λ_ _ q=>q) λ_ _ z=>by rw[hx] at z;exact z.elim
 unfold Ej;rcases turn i n Z1 H2 w' with ⟨stop,q⟩ | ⟨go,step⟩
 ·refine Tz (bd (Tz (thn (T.done Y rfl rfl rfl hc i pins s' Z1 H2 _ I' (h8 yp) aD stop) λr s1 ⟨hr,I1⟩=>?_)));subst hr;exact T0 (fin Z1 H2 s1 I1 q)
 ·refine Tz (bd (Tz (thn (T.item Y rfl rfl rfl hc i pins s' Z1 H2 _ I' (h8 yp) aD go) λr s1 ⟨u,hr,h4⟩=>?_)));subst hr;refine Tz (thn h4 λ_ s5 ⟨x,H5,I5,r5,y5,mO,uC⟩=>?_);have uD:=I5.pinned (h8 uC) (T.obj _ _ mO);refine Tz (thn (no (hg _ s5 Z1 H5 x u _ uD r5 (step x H5 y5))) λ_ s6 ⟨Z6,H6,I6,q6⟩=>?_);refine Tz (thn (no (ht _ s6 Z6 H6 _ I6 q6)) λb s7 ⟨H7,I7,q7⟩=>?_);have again:∀{s8:ak} {Z8:St} {H8:Hp},Inv Y (pins++Hf fp s5.heap) Z8 H8 s8->(∃m',m'<n/\W (i+1) m' Z8 H8)->∃m,m<n/\∃i Z1 H2,Inv Y pins Z1 H2 s8/\tn i s8.heap/\(∀b∈fp,H2 b=none)/\W i m Z1 H2:=λ{s8 Z8 H8} I8 ⟨m',hm,w8⟩=>by
   refine⟨m',hm,i+1, Z8,H8,I8.unpinned,T.keep _ _ _ mO λb hb o e=>(I8.pin (b,o) (Pr _ (Pr _ (Jf hb e)))).1,λb hb=>?_,w8⟩;obtain⟨o,e,d⟩:=T.obj _ _ mO b hb;exact(I8.pin (b,o) (Pr _ (Pr _ (Jf hb e)))).2.1
  cases b with
  | false=>
   rw[T6 Pe] at q7;exact T0 ⟨rfl,again I7 q7⟩
  | true=>
   rw[T7 rfl] at q7;exact Tz (thn (no (hm _ s7 Z6 H7 _ I7 q7)) λ_ s8 ⟨Z8,H8,I8,q8⟩=>T0 ⟨rfl,again I8 q8⟩)
def Xcv      (cm:Cm e) (iH:(d0 e)[d]? = some cl) (has:cl.is_async=0)
  (h0:br (ai prog w) A (.compLoop e d lX acc env) R s)
  (h:aj (ai prog w) A (fU lX) (λvf s'=>br (ai prog w) A (.compLoop e d vf acc env) R s') (notedBy (ai prog w) A env λx s'=>R (.error x) s') s):
  br (ai prog w) A (.compStart e d lX acc env) R s:=by
 refine fA ?_;rw[cm.den2,cm.und2];refine wpAny_notedAt ?_;unfold IZ;rw[iH];have e1:(Option.elim (some cl) false λx=>x.is_async != 0)=false:=by
  show (cl.is_async != 0)=false;rw[has];rfl
 rw[e1,T6 Pe];show aj _ A (ask >>= _) _ _ s;refine Tz (aQ (wpAny_ite ?_));split
 ·first
   | exact Tz (T0 (T0 (And.intro rfl h0)))
   | exact T0 (And.intro rfl h0)
 ·first
   | exact Tz (aS (Tz (bd (Tz (aN h (λvf s' h'=>T0 (And.intro rfl h')) λ_ _ x=>x)))))
   | (refine Tz (aS ?_);show aj _ _ (cR cl.iter.pos >>= _) _ _ s;exact Tz (bd (Tz (aN h (λvf s' h'=>T0 (And.intro rfl h')) λ_ _ x=>x))))
end
def Hw (te:TE) (D:ae):TM:=fun Z H Q=>te Z H λy H6=>∃ys,H6 D=some (.lst ys)/\ys.length<sizeLine/\Q Z (upd H6 D (.lst (ys++[y])))
def J3    (he:PE Y dZ te):PM Y (do  let _ <-call (.builtin "list.append") [.ref D,<-eval dZ Y.env]) (Hw te D):=by
 intro pins s Z H Q I h;refine Tz (thn (he pins s Z H _ I h) λyv s8 ⟨y,H8,I8,r8,ys,hD,bo,q8⟩=>?_);exact Tz (thn (L5 (X:=Y) _ s8 Z H8 (.ref D) [y] (.ref D) [yv] (λ_ H9=>Q Z H9) I8 rfl (.cons r8 .nil) ⟨_,ys,y,rfl,rfl,hD,bo,q8⟩) λ_ s9 ⟨_,H9,I9,_,q9⟩=>T0 ⟨Z,H9,I9,q9⟩)
def Xcw (tk tv:TE) (D:ae):TM:=fun Z H Q=>tk Z H λk H1=>tv Z H1 λv H2=>∃kvs ky,k=kV ky/\H2 D=some (.dK kvs)/\kvs.length<sizeLine/\Q Z (upd H2 D (.dK (Bj kvs ky v)))
def Xj9    (hk:PE Y kx tk) (hv:PE Y vx tv):PM Y (do
  let kv <-eval kx Y.env
  let vv <-holding [kv] (eval vx Y.env)
  cR {kx.pos with endLine:=vx.pos.endLine,endCol:=vx.pos.endCol}
  holding [kv,vv] (dictSet D kv vv)) (Xcw tk tv D):=by
 intro pins s Z H Q I h;refine Tz (thn (hk pins s Z H _ I h) λkv s1 ⟨k,H1,I1,rk,q1⟩=>Tz (aA (thn (hv pins s1 Z H1 _ I1 q1) λvv s2 ⟨v,H2,I2,rv,kvs,ky,ek,hD,hl,q⟩=>Tz (bd (aA ?_)))));subst ek;obtain⟨z,hd,vs,dX,dd⟩:=Xbi I2.hok hD;have hz:vs.length<=sizeLine:=by rw[<-dX.length];exact z
 have nC:(Bj kvs ky v).length<=sizeLine:=by have:=Jq kvs ky v;lia
 refine wpAny_dictSet_pairs (knd:=Bf Y.prog Y.w) (hsz:=hz) (Ga rk) dd λh' mU hs=>⟨Z,_,?_,q⟩;have he:∃q,h'.get? D=some q:=let ⟨q,_,_,hq,_⟩:=mU; ⟨q,hq⟩;exact L6 I2 (by rw[hD];exact True.intro) hs he (Xbj nC hd (dX.put ky rv) mU)
def Xcx (wi:TI) (g:TG) (tt:TT) (tm:TM):TM:=fun Z H Q=>wi Z H λJ H1=>tLp g tt tm J Z H1 Q
def Xka{Y:Cx}{e tg iter:aL}  {d:Nat}      (cm:Cm e)(hx:Y.xe=λ_ _=>False)(hc:Y.calm=true)(iH:(d0 e)[d]? = some ⟨tg,iter,cr,0⟩)
  (eq:∀it,cB e d it (.ref D) Y.env=Ej e d tg iter cr act it (.ref D) Y.env) (hi:PI Y tg iter wi) (hg:PG Y tg g) (ht:PIfs Y cr tt) (hm:PM Y act tm)
  (hs:∀x,aH iter Y.env x=pure x:=by intro _;rfl):PM Y (do
   let x <-eval iter Y.env
   cR iter.pos
   let x <-aH iter Y.env x
   let _ <-runOwn (.compStart e d (<-holding [x] (fU x)) (.ref D) Y.env) Y.env) (Xcx wi g tt tm):=by
 intro pins s Z H Q I h;refine Tz (thn (hi pins s Z H _ I h) λv s1 h1=>Tz (bd (Tz (ft (hs v) (Tz (aA (thn h1 λlX s2 h2=>?_)))))));obtain⟨it,fp,tn,J,H2,ei,I2,T,dG,f2,lp⟩:=h2;subst ei;refine Tz (wpAny_runOwn ?_);have go:∀s3,s3=s2->br (ai Y.prog Y.w) Y.A (.compLoop e d (.ref it) (.ref D) Y.env) (λr s'=>match r with | .ok _=>∃Z' H',Inv Y pins Z' H' s'/\Q Z' H' | .error e=>False) s3:=by
  rintro s3 rfl;exact Xcu cm hx hc (eq _) hg ht hm I2 T dG f2 lp fun Z' H' s' I' q=>⟨Z',H',I',q⟩
 have st:=Xcv (s:=s2) (R:=λr s'=>match r with | .ok _=>∃Z' H',Inv Y pins Z' H' s'/\Q Z' H' | .error e=>False) cm iH rfl (go s2 rfl) (T.self Y.A 0 s2 _ _ dG (go s2 rfl));refine bh st λr s' hr=>?_;cases r with
 | ok f=>exact T0 hr
 | error e=>exact hr.elim
def Xcy (cap:List (Option Nat)) (o0:ae->HO) (g:TG) (tt:TT) (tm:ae->TM) (J:It) (Z:St) (H1:Hp) (F:ae->Hp->Prop):Prop:=
 ∀D,H1 D=none->tLp g tt (tm D) J (Bu cap Z) (upd H1 D (o0 D)) λ_ H2=>F D H2
def Xcz (cap:List (Option Nat)) (o0:HO) (g:TG) (tt:TT) (tm:ae->TM) (J:It) (Z:St) (H1:Hp) (F:ae->Hp->Prop):Prop:=
 ∀D,H1 D=none->tLp g tt (tm D) J (Bu cap Z) (upd H1 D o0) λ_ H2=>F D H2
section
variable {X:Cx}{N:Za}{cap:List (Option Nat)}{scope:cx}{e tg iter:aL}{cr:List aL}{g:TG}{tt:TT}{tm:ae->TM}{E:Zb}{bZ:f8 aa}{ob:aU}{o0:HO}{o1:ae->HO}{act:ae->eV->f8 Unit}
def Xc0(C:CompScope X N cap scope)(bp:X.calm=true)(cm:Cm e)(iH:(d0 e)[0]? = some ⟨tg,iter,cr,0⟩)
  (jz:∀(s:ak) (Q:Zb) (E':Zb),Q (.ref s.heap.objs.size) {s with heap:=s.heap.push ob}->aj (ai X.prog X.w) X.A bZ Q E' s)
  (qi:∀pins Z H s,Inv X pins Z H s->Inv X pins Z (upd H s.heap.objs.size (o1 s.heap.objs.size)) {s with heap:=s.heap.push ob})
  (nE:∀it D env,cB e 0 it (.ref D) env=Ej e 0 tg iter cr (act D env) it (.ref D) env)
  (hg:∀s0 H0 ex,PG (X.comp N scope s0 H0 ex) tg g) (ht:∀s0 H0 ex,PIfs (X.comp N scope s0 H0 ex) cr tt) (hm:∀D s0 H0 ex,PM (X.comp N scope s0 H0 ex) (act D (X.comp N scope s0 H0 ex).env) (tm D))         {RR:aa->ae->iN->ak->Prop}
  (I:Inv X pins Z H s) (T:Turn X.prog X.w X.K tg J fp it tn) (h0:tn 0 s.heap) (hf:∀b∈fp,FpOk X pins H b) (hb:Xcy cap o1 g tt tm J Z H F)
  (fin:∀D L H' s' m,Inv X pins Z H' s'->FpOk X pins H' L->s'.heap.Ns L m->F D H'->RR (.ref D) L (.ok .next) s'):
  aj (ai X.prog X.w) X.A bZ (λacc s₃=>aj (ai X.prog X.w) X.A (gc scope X.env.globals (Cj X.env scope.names []) [] X.env.qual none .none (some X.env)) (λqO s₄=>
   br (ai X.prog X.w) X.A (.compStart e 0 (.ref it) acc {qO with scope:=relabel scope X.env}) (RR acc qO.locals) s₄) E s₃) E s:=by
 have nF:H s.heap.objs.size=none:=I.hok.fresh (Oy _);have lp:=hb s.heap.objs.size nF;have flt:∀b∈fp,b<s.heap.objs.size:=λb hb=>by
  obtain⟨o,e,_⟩:=T.obj _ _ h0 b hb;exact Uc e
 refine jz s _ _ (Xil ?_);have I3:Inv X pins Z (upd H s.heap.objs.size (o1 s.heap.objs.size)) {s with heap:=s.heap.push ob}:=qi pins Z H s I;generalize e3:({s with heap:=s.heap.push ob}:ak)=s3 at I3;have tF:s3.heap=s.heap.push ob:=by rw[<-e3]
 have hsz:s3.heap.objs.size=s.heap.objs.size+1:=by rw[tF,ar.size_push]
 have tH:∀b∈fp,FpOk X pins (upd H s.heap.objs.size (o1 s.heap.objs.size)) b:=λb hb=>by
  obtain⟨f0,f⟩:=hf b hb;exact⟨by rw[Ad (O6 (flt b hb))];exact f0,f⟩
 have nG:∀b∈fp,b<s3.heap.objs.size:=λb hb=>by rw[hsz];exact Qr (flt b hb)
 have hk:∀b o,s3.heap.get? b=some o->(bP (s3.heap.push {cls:=.type "dict",data:=.dict #[]}) scope.names).get? b=some o:=λb o e=>da _ _ b o (Ud _ e);have IY:=Xim (tk:=s3.toks) C I3 tH nG;generalize eY:X.comp N scope s3 (upd H s.heap.objs.size (o1 s.heap.objs.size)) fp=Y at IY;have yq:(s3.heap.push {cls:=.type "dict",data:=.dict #[]}).objs.size=s3.heap.objs.size+1:=ar.size_push ..;have lv:tn 0 (bP (s3.heap.push {cls:=.type "dict",data:=.dict #[]}) scope.names):=T.keep _ _ _ h0 λb hb o e=>hk b o (by rw[tF];exact Ud _ e);have fY:∀{H':Hp},(∀b∈fp,H' b=none)->∀b∈fp,FpOk Y [] H' b:=λ{H'} hn b hb=>by
  subst eY;obtain⟨_,f1,f2,_,f4,_⟩:=tH b hb;refine⟨hn b hb,O6 (nG b hb),λz=>?_,.inl hb,λx c h=>?_,λp hp=>absurd (show p∈([]:List (ae×aU)) from hp) (by simp)⟩
  ·rcases Ph.mp (I3.stkSub b z) with e | e
   ·exact f1 e
   ·exact f2 e
  ·rcases Xbt (s:=s3) C I3.ok yq h with ⟨a,_⟩ | ⟨_,a⟩
   ·exact λz=>Qg _ (Rx a (by rw[z];exact nG b hb))
   ·exact f4 x c a
 have vg:∀s4:ak,s4 = {s3 with heap:=bP (s3.heap.push {cls:=.type "dict",data:=.dict #[]}) scope.names} ->
   br (ai X.prog X.w) X.A (.compLoop e 0 (.ref it) (.ref s.heap.objs.size) (qk scope (Hj X scope s3) s3.heap.objs.size X.env))
    (RR (.ref s.heap.objs.size) s3.heap.objs.size) s4:=by
  rintro s4 rfl;have pP:Y.prog=X.prog:=by subst eY;rfl
  have pW:Y.w=X.w:=by subst eY;rfl
  have pK:Y.K=X.K:=by subst eY;rfl
  have pC:Y.calm=true:=by subst eY;exact bp
  have pA:Y.A=X.A:=by subst eY;rfl
  have pE:Y.env=qk scope (Hj X scope s3) s3.heap.objs.size X.env:=by subst eY;rfl
  have pX:Y.xe=λ_ _=>False:=by subst eY;rfl
  have T':Turn Y.prog Y.w Y.K tg J fp it tn:=by rw[pP,pW,pK];exact T
  have go:=Xcu (Y:=Y) (acc:=.ref s.heap.objs.size) (pins:=[]) (R:=RR (.ref s.heap.objs.size) s3.heap.objs.size) cm pX pC (nE _ _ _) (by subst eY;exact hg _ _ _) (by subst eY;exact ht _ _ _) (show PM Y (act s.heap.objs.size Y.env) (tm s.heap.objs.size) by subst eY;exact hm _ _ _ _)
   IY T' lv (fY λb hb=>(tH b hb).1) lp ?_
  ·rw[pP,pW,pA,pE] at go;exact go
  ·intro Z' H2 s1 I1 q;have IX:Inv X pins Z H2 s1:=by
    subst eY;refine I3.call' (ch:=fp) I1.os I1.base I1.hok I1.bare λb hb=>?_;obtain⟨_,f1,_,f3,f4,f5⟩:=tH b hb;exact⟨f3,f1,f4,f5⟩
   have hL:H2 s3.heap.objs.size=none:=by
    have z:=I1.free;rw[pE] at z;exact z
   obtain⟨m,hm,_⟩:=I1.loc;rw[pE] at hm;exact fin s.heap.objs.size s3.heap.objs.size H2 s1 m IX (I3.fpOk (Oy _) hL) hm q
 have lp:=vg _ rfl;have T1:=T.self;subst e3;exact Xcv cm iH rfl lp (T1 X.A 0 _ _ _ lv lp)
structure AccA (X:Cx) (bZ:f8 aa) (ob:aU) (o1:ae->HO):Prop where
 new:∀(s:ak) (Q:Zb) (E':Zb),Q (.ref s.heap.objs.size) {s with heap:=s.heap.push ob}->aj (ai X.prog X.w) X.A bZ Q E' s
 lay:∀pins Z H s,Inv X pins Z H s->Inv X pins Z (upd H s.heap.objs.size (o1 s.heap.objs.size)) {s with heap:=s.heap.push ob}
structure Acc (X:Cx) (bZ:f8 aa) (ob:aU) (o0:HO):Prop where
 new:∀(s:ak) (Q:Zb) (E':Zb),Q (.ref s.heap.objs.size) {s with heap:=s.heap.push ob}->aj (ai X.prog X.w) X.A bZ Q E' s
 lay:∀pins Z H s,Inv X pins Z H s->Inv X pins Z (upd H s.heap.objs.size o0) {s with heap:=s.heap.push ob}
def J4:Acc X (newList []) {cls:=.type "list",data:=.seq ([]:List aa).toArray} (.lst []):=⟨λs Q E' h=>aG h,λpins Z H s I=>I.lnew (t':=s.toks) .nil (Px _)⟩
def Xkb:Acc X newDict {cls:=.type "dict",data:=.dict #[]} (.dK []):=⟨λs Q E' h=>aG h,λpins Z H s I=>I.laid (a:=s.heap.objs.size) (o:=.dK []) (t':=s.toks) (λ_ _ q=>Ud _ q) (Oy _) (Xbl s.heap I.big)⟩
def Xkc (cap:List (Option Nat)) (o0:ae->HO) (wi:TI) (g:TG) (tt:TT) (tm:ae->TM):TE:=fun Z H Q=>wi Z H λJ H1=>Xcy cap o0 g tt tm J Z H1 λD H2=>Q (.ref D) H2
def Xkd   (ac:AccA X bZ ob o1) (he:eval e X.env=comprehension e scope X.env pos bZ false (eval iter X.env)) (fz:d0 e=⟨tg,iter,cr,0⟩::gens)
  (C:CompScope X N cap scope) (bp:X.calm=true) (cm:Cm e) (hi:PI X tg iter wi)
  (nE:∀it D env,cB e 0 it (.ref D) env=Ej e 0 tg iter cr (act D env) it (.ref D) env)
  (hg:∀s0 H0 ex,PG (X.comp N scope s0 H0 ex) tg g) (ht:∀s0 H0 ex,PIfs (X.comp N scope s0 H0 ex) cr tt) (hm:∀D s0 H0 ex,PM (X.comp N scope s0 H0 ex) (act D (X.comp N scope s0 H0 ex).env) (tm D))
  (hs:∀x,aH iter X.env x=pure x):PE X e (Xkc cap o1 wi g tt tm):=by
 intro pins s Z H Q I h;rw[he];refine io (use:=none) fz hs (Xbp (Md C I.ok)) C.kind (λx hx hl=>by rw[C.uniq x hx,hl]) (thn (hi pins s Z H _ I h) λv s1 h1=>thn h1 λlX s2 h2=>?_);obtain⟨it,fp,tn,J,H2,ei,I2,T,dG,f2,R⟩:=h2;subst ei;refine Xc0 (RR:=λacc L=>compPost (ai X.prog X.w) X.A X.xe none (EP X pins Z Q) acc L) C bp cm (by rw[fz];rfl) ac.new ac.lay nE hg ht hm I2 T dG f2 R ?_;intro D L H' s' m I' fL hm q;refine⟨m,hm,λh' q0=>?_⟩;obtain⟨f0,f1,_,f3,f4,f5⟩:=fL;exact⟨.ref D,H',I'.turned (t':=s'.toks) (λb o hb e=>(q0.2 b hb).trans e) f0 f1 f3 f4 f5,rfl,q⟩
def My (cap:List (Option Nat)) (o0:HO) (wi:TI) (g:TG) (tt:TT) (tm:ae->TM):TE:=fun Z H Q=>wi Z H λJ H1=>Xcz cap o0 g tt tm J Z H1 λD H2=>Q (.ref D) H2
def Mz   (ac:Acc X bZ ob o0) (he:eval e X.env=comprehension e scope X.env pos bZ false (eval iter X.env)) (fz:d0 e=⟨tg,iter,cr,0⟩::gens)
  (C:CompScope X N cap scope) (bp:X.calm=true) (cm:Cm e) (hi:PI X tg iter wi)
  (nE:∀it D env,cB e 0 it (.ref D) env=Ej e 0 tg iter cr (act D env) it (.ref D) env)
  (hg:∀s0 H0 ex,PG (X.comp N scope s0 H0 ex) tg g) (ht:∀s0 H0 ex,PIfs (X.comp N scope s0 H0 ex) cr tt) (hm:∀D s0 H0 ex,PM (X.comp N scope s0 H0 ex) (act D (X.comp N scope s0 H0 ex).env) (tm D))
  (hs:∀x,aH iter X.env x=pure x):PE X e (My cap o0 wi g tt tm):=
 Xkd (o1:=λ_=>o0) ⟨ac.new,ac.lay⟩ he fz C bp cm hi nE hg ht hm hs
def Xc1 (i:Nat) (cap:List (Option Nat)) (o0:HO) (wi:TI) (g:TG) (tt:TT) (tm:ae->TM):TS:=λD Z H=>wi Z H λJ H1=>Xcz cap o0 g tt tm J Z H1 λl H2=>D.nx (Z.set i (some (.ref l))) H2
def Xc2     (ac:Acc X bZ ob o0) (he:∀use,evalThenUse e X.env use=(do     let _ <-comprehension e scope X.env bJ bZ false (eval iter X.env) (some use))) (fz:d0 e=⟨tg,iter,cr,0⟩::gens)
  (C:CompScope X N cap scope) (bp:X.calm=true) (cm:Cm e) (hN:X.N.Nodup) (qP:X.N[i]? = some y) (hy:X.env.scope.names.lookup y=some .local) (hi:PI X tg iter wi)
  (nE:∀it D env,cB e 0 it (.ref D) env=Ej e 0 tg iter cr (act D env) it (.ref D) env)
  (hg:∀s0 H0 ex,PG (X.comp N scope s0 H0 ex) tg g) (ht:∀s0 H0 ex,PIfs (X.comp N scope s0 H0 ex) cr tt) (hm:∀D s0 H0 ex,PM (X.comp N scope s0 H0 ex) (act D (X.comp N scope s0 H0 ex).env) (tm D))
  (qQ:dy e (some (.Name y py)) jE.line X.env=pure true) (hs:∀x,aH iter X.env x=pure x):PS X (.Assign [.Name y py] e jE) (Xc1 i cap o0 wi g tt tm):=by
 intro pins s Z H D I h;rw[exec_Assign_Name_used _ _ _ _ qQ];refine Tz (bd (Tz ?_));rw[he];refine Tz (thn (io (use:=some (assign (.Name y py) X.env)) (Q:=λ_ s'=>SP X pins D .next s') fz hs (Xbp (Md C I.ok)) C.kind (λx hx hl=>by rw[C.uniq x hx,hl])
  (thn (hi pins s Z H _ I h) λv s1 h1=>thn h1 λlX s2 h2=>?_)) (λ_ s' hq=>T0 (T0 hq)))
 obtain⟨it,fp,tn,J,H2,ei,I2,T,dG,f2,R⟩:=h2;subst ei;refine Xc0 (o1:=λ_=>o0) (RR:=λacc L=>compPost (ai X.prog X.w) X.A X.xe (some (assign (.Name y py) X.env)) (λ_ s'=>SP X pins D .next s') acc L) C bp cm (by rw[fz];rfl) ac.new ac.lay nE hg ht hm I2 T dG f2 R ?_;intro l L H' s' m I' fL hm q;obtain⟨f0,f1,_,f3,f4,f5⟩:=fL;show aj _ X.A (assign (.Name y py) X.env (.ref l)) _ _ s';refine lW (Lb I' hN qP (.inl hy) (show Ah (.ref l) (.ref l) from rfl) (λs3 I3 ⟨a,sb,ha⟩=>?_) (.inr hy));have BJ:L≠a:=by
  rcases ha with rfl | ha
  ·exact f1
  ·exact λz=>f4 y a ha z.symm
 refine⟨m,hm.sameBut sb BJ,λh' q0=>?_⟩;exact⟨_,H',I3.turned (t':=s3.toks) (λb o hb e=>(q0.2 b hb).trans e) f0 f1 f3 f4 f5,q⟩
end
def act2 (dZ tg iter jF c5:aL) (cr fc:List aL) (scope:cx) (pos:cN) (D:ae) (env:eV):f8 Unit:=do
      let x <-eval c5 env
      cR c5.pos
      let x <-aH c5 env x
      let _ <-runOwn (.compStart (.ListComp dZ [⟨tg,iter,cr,0⟩,⟨jF,c5,fc,0⟩] scope pos) 1 (<-holding [x] (fU x)) (.ref D) env) env
def Xke(dZ tg iter jF c5)(cr fc)(scope)(pos)(it)(D)(env):
  cB (.ListComp dZ [⟨tg,iter,cr,0⟩,⟨jF,c5,fc,0⟩] scope pos) 0 it (.ref D) env=Ej (.ListComp dZ [⟨tg,iter,cr,0⟩,⟨jF,c5,fc,0⟩] scope pos) 0 tg iter cr (act2 dZ tg iter jF c5 cr fc scope pos D env) it (.ref D) env:=by
 unfold cB Ej act2;dsimp only;simp only[List.getElem?_cons_zero,List.getElem?_cons_succ,bind_assoc,pure_bind];simp;rfl
section
variable {X:Cx}{N:Za}{cap:List (Option Nat)}{scope:cx}{tg iter jF c5 dZ kx vx:aL}{cr fc:List aL}{g g2:TG}{tt yr:TT}{te tk tv:TE}{wi yt:TI}{pos:cN}
def Ek(C:CompScope X N cap scope)(bp:X.calm=true)(hi:PI X tg iter wi)
  (hg:∀s0 H0 ex,PG (X.comp N scope s0 H0 ex) tg g) (ht:∀s0 H0 ex,PIfs (X.comp N scope s0 H0 ex) cr tt) (he:∀s0 H0 ex,PE (X.comp N scope s0 H0 ex) dZ te)
  (hs:∀x,aH iter X.env x=pure x:=by intro _;rfl):PE X (.ListComp dZ [⟨tg,iter,cr,0⟩] scope pos) (Xin cap wi g tt te):=
 Mz (act := fun D env => do let _ <- call (.builtin "list.append") [.ref D, <- eval dZ env]) J4 rfl rfl C bp Hv hi (fun it D env => rfl) hg ht (fun D s0 H0 ex => J3 (he s0 H0 ex)) hs
def Gi{i:Nat}  (C:CompScope X N cap scope)(bp:X.calm=true)(hN:X.N.Nodup)(qP:X.N[i]? = some y)(hy:X.env.scope.names.lookup y=some .local)(hi:PI X tg iter wi)
  (hg:∀s0 H0 ex,PG (X.comp N scope s0 H0 ex) tg g) (ht:∀s0 H0 ex,PIfs (X.comp N scope s0 H0 ex) cr tt) (he:∀s0 H0 ex,PE (X.comp N scope s0 H0 ex) dZ te)
  (qQ:dy (.ListComp dZ [⟨tg,iter,cr,0⟩] scope pos) (some (.Name y py)) jE.line X.env=pure true:=by rfl)
  (hs:∀x,aH iter X.env x=pure x:=by intro _;rfl):PS X (.Assign [.Name y py] (.ListComp dZ [⟨tg,iter,cr,0⟩] scope pos) jE) (Xio i cap wi g tt te):=
 Xc2 (act := fun D env => do let _ <- call (.builtin "list.append") [.ref D, <- eval dZ env]) J4 (fun use => rfl) rfl C bp Hv hN qP hy hi (fun it D env => rfl) hg ht (fun D s0 H0 ex => J3 (he s0 H0 ex)) qQ hs
def Xc3(C:CompScope X N cap scope)(bp:X.calm=true)(hi:PI X tg iter wi)
  (hg:∀s0 H0 ex,PG (X.comp N scope s0 H0 ex) tg g) (ht:∀s0 H0 ex,PIfs (X.comp N scope s0 H0 ex) cr tt) (hk:∀s0 H0 ex,PE (X.comp N scope s0 H0 ex) kx tk) (hv:∀s0 H0 ex,PE (X.comp N scope s0 H0 ex) vx tv)
  (hs:∀x,aH iter X.env x=pure x:=by intro _;rfl):PE X (.DictComp kx vx [⟨tg,iter,cr,0⟩] scope pos) (My cap (.dK []) wi g tt (Xcw tk tv)):=
 Mz Xkb rfl rfl C bp Xj8 hi (λit D env=>compTurn_dict kx vx tg iter cr scope pos it D env) hg ht (λD s0 H0 ex=>Xj9 (hk s0 H0 ex) (hv s0 H0 ex)) hs
def Xc4(C:CompScope X N cap scope)(bp:X.calm=true)(hi:PI X tg iter wi)
  (hg:∀s0 H0 ex,PG (X.comp N scope s0 H0 ex) tg g) (ht:∀s0 H0 ex,PIfs (X.comp N scope s0 H0 ex) cr tt)
  (gq:∀s0 H0 ex,PI (X.comp N scope s0 H0 ex) jF c5 yt) (vh:∀s0 H0 ex,PG (X.comp N scope s0 H0 ex) jF g2) (nJ:∀s0 H0 ex,PIfs (X.comp N scope s0 H0 ex) fc yr) (he:∀s0 H0 ex,PE (X.comp N scope s0 H0 ex) dZ te)
  (hs:∀x,aH iter X.env x=pure x:=by intro _;rfl) (vi:∀s0 H0 ex x,aH c5 (X.comp N scope s0 H0 ex).env x=pure x:=by intro _ _ _ _;rfl):
  PE X (.ListComp dZ [⟨tg,iter,cr,0⟩,⟨jF,c5,fc,0⟩] scope pos) (My cap (.lst []) wi g tt λD=>Xcx yt g2 yr (Hw te D)):=
 Mz (act:=λD env=>act2 dZ tg iter jF c5 cr fc scope pos D env) J4 rfl rfl C bp Hv hi (λit D env=>Xke ..) hg ht (λD s0 H0 ex=>Xka (Y:=X.comp N scope s0 H0 ex) (e:=.ListComp dZ [⟨tg,iter,cr,0⟩,⟨jF,c5,fc,0⟩] scope pos) (d:=1) Hv rfl bp rfl (λit=>rfl) (gq s0 H0 ex) (vh s0 H0 ex) (nJ s0 H0 ex) (J3 (he s0 H0 ex)) (vi s0 H0 ex)) hs
end
mutual
def DAt (H:Hp):ao->V->Prop
 | .none,v=>v = .non
 | .bool b,v=>v = .bl b
 | .int i,v=>v = .int i
 | .str x,v=>v = .str x
 | .list ds,v=>∃p xs,v = .ref p/\H p=some (.lst xs)/\DAll H ds xs
 | .tuple ds,v=>∃p xs,v = .ref p/\H p=some (.tup xs)/\DAll H ds xs
 | .dict _,_=>False
def DAll (H:Hp):List ao->List V->Prop
 | [],vs=>vs=[]
 | d::ds,vs=>∃v r,vs=v::r/\DAt H d v/\DAll H ds r
end
mutual
theorem DAt.same{H H':Hp}(s:Same H H'):∀(d:ao) (v:V),DAt H d v->DAt H' d v
 | .none,v,h=>by unfold DAt at h ⊢; exact h
 | .bool b,v,h=>by unfold DAt at h ⊢; exact h
 | .int i,v,h=>by unfold DAt at h ⊢; exact h
 | .str x,v,h=>by unfold DAt at h ⊢; exact h
 | .list ds,v,h=>by
  unfold DAt at h ⊢;obtain⟨p,xs,h1,h2,h3⟩:=h;exact⟨p,xs,h1,s _ _ h2,DAll.same s ds xs h3⟩
 | .tuple ds,v,h=>by
  unfold DAt at h ⊢;obtain⟨p,xs,h1,h2,h3⟩:=h;exact⟨p,xs,h1,s _ _ h2,DAll.same s ds xs h3⟩
 | .dict _,v,h=>by unfold DAt at h;exact h.elim
theorem DAll.same{H H':Hp}(s:Same H H'):∀(ds:List ao) (vs:List V),DAll H ds vs->DAll H' ds vs
 | [],vs,h=>by unfold DAll at h ⊢; exact h
 | d::ds,vs,h=>by
  unfold DAll at h ⊢;obtain⟨v,r,h1,h2,h3⟩:=h;exact⟨v,r,h1,DAt.same s d v h2,DAll.same s ds r h3⟩
end
def Ez:DAll H [] []:=by unfold DAll;rfl
def Hx     (h:DAt H d v) (hs:DAll H ds vs):DAll H (d::ds) (v::vs):=by unfold DAll;exact⟨v,vs,rfl,h,hs⟩
theorem J5   : ∀{ds:List ao} {vs:List V},DAll H ds vs->DAt H d v->DAll H (ds++[d]) (vs++[v])
 | [],vs,h,hd=>by
  unfold DAll at h;subst h;exact Hx hd Ez
 | e::ds,vs,h,hd=>by
  unfold DAll at h;obtain⟨u,r,rfl,h2,h3⟩:=h;exact Hx h2 (J5 h3 hd)
theorem Gj:∀{ds:List ao} {vs:List V},DAll H ds vs->vs.length=ds.length
 | [],vs,h=>by unfold DAll at h;subst h;rfl
 | e::ds,vs,h=>by
  unfold DAll at h;obtain⟨u,r,rfl,h2,h3⟩:=h;rw[Pj,Pj,Gj h3]
theorem M0:∀{ds:List ao} {vs:List V} {i:Nat} {d:ao},DAll H ds vs->ds[i]? = some d->∃v,vs[i]? = some v/\DAt H d v
 | [],vs,i,d,h,e=>by simp at e
 | c::ds,vs,0,d,h,e=>by
  unfold DAll at h;obtain⟨u,r,rfl,h2,h3⟩:=h;simp at e;subst e;exact⟨u,rfl,h2⟩
 | c::ds,vs,i+1,d,h,e=>by
  unfold DAll at h;obtain⟨u,r,rfl,h2,h3⟩:=h;simpa using M0 h3 (by simpa using e)
def M3(row:Za):DAll H (row.map ao.str) (row.map V.str):=by
 induction row with
 | nil=>exact Ez
 | cons x r ih=>exact Hx (by unfold DAt;rfl) ih
def Xkf(row:List Int):DAll H (row.map ao.int) (row.map V.int):=by
 induction row with
 | nil=>exact Ez
 | cons x r ih=>exact Hx (by unfold DAt;rfl) ih
def M4    (h:H p=some (.tup xs)) (hs:DAll H ds xs):DAt H (.tuple ds) (.ref p):=by unfold DAt;exact⟨p,xs,rfl,h,hs⟩
def Xc5    (h:H p=some (.lst xs)) (hs:DAll H ds xs):DAt H (.list ds) (.ref p):=by unfold DAt;exact⟨p,xs,rfl,h,hs⟩
def M5   (h:DAt H (.tuple ds) v):∃p xs,v = .ref p/\H p=some (.tup xs)/\DAll H ds xs:=by unfold DAt at h;exact h
section
variable {X:Cx}{pins:List (ae×aU)}{Z:St}{H:Hp}{s:ak}
mutual
theorem Fx(I:Inv X pins Z H s):∀(d:ao) (v:V) (u:aa),DAt H d v->Ah v u->∃as,Reads s.heap u d as
 | .none,v,u,h,r=>by unfold DAt at h;subst h;cases r;exact⟨_,.none⟩
 | .bool b,v,u,h,r=>by unfold DAt at h;subst h;cases r;exact⟨_,.bool b⟩
 | .int i,v,u,h,r=>by unfold DAt at h;subst h;obtain⟨t,rfl⟩:=r;exact⟨_,.int i t⟩
 | .str x,v,u,h,r=>by unfold DAt at h;subst h;obtain⟨t,rfl⟩:=r;exact⟨_,.str x t⟩
 | .list ds,v,u,h,r=>by
  unfold DAt at h;obtain⟨p,xs,rfl,hp,hs⟩:=h;cases r;obtain⟨aC,rv,pl,hz⟩:=I.list (SqL.of (K:=X.K) hp);obtain⟨as,ra⟩:=M6 I ds xs aC hs rv;obtain⟨o,ho,hc,n,hd⟩:=pl.isList;exact⟨_,.list ho hc hd (by simpa using ra)⟩
 | .tuple ds,v,u,h,r=>by
  unfold DAt at h;obtain⟨p,xs,rfl,hp,hs⟩:=h;cases r;obtain⟨aC,rv,pl,hz⟩:=I.tuple (SqT.of (K:=X.K) hp);obtain⟨as,ra⟩:=M6 I ds xs aC hs rv;obtain⟨o,ho,hc,n,hd⟩:=pl;exact⟨_,.tuple ho hc hd (by simpa using ra)⟩
 | .dict _,v,u,h,r=>by unfold DAt at h;exact h.elim
theorem M6(I:Inv X pins Z H s):∀(ds:List ao) (vs:List V) (us:List aa),DAll H ds vs->Vals vs us->∃as,ReadsAll s.heap us ds as
 | [],vs,us,h,r=>by unfold DAll at h;subst h;cases r;exact⟨_,.nil⟩
 | d::ds,vs,us,h,r=>by
  unfold DAll at h;obtain⟨v,vr,rfl,h1,h2⟩:=h;cases r with
  | cons r1 r2=>
   obtain⟨a1,q1⟩:=Fx I d v _ h1 r1;obtain⟨a2,q2⟩:=M6 I ds vr _ h2 r2;exact⟨_,.cons q1 q2⟩
end
def Xc6(hu:X.A.units+3<bz):OpR X (aJ .Eq) (λx y H Q=>∃d d',DAt H d x/\DAt H d' y/\d.canLay0=true/\d'.canLay0=true/\min d.depth d'.depth<=3/\Q (.bl (ao.eqv d d')) H):=by
 intro pins s Z H x y v u Q I rx ry h;obtain⟨d,d',h1,h2,c1,c2,hd,q⟩:=h;obtain⟨as,ra⟩:=Fx I d x v h1 rx;obtain⟨bs,rb⟩:=Fx I d' y u h2 ry;exact SeqAt.compareEq_reads ra rb c1 c2 (by lia) ⟨.bl _,H,I,rfl,q⟩
def Hy(hu:X.A.units+3<bz):OpR X (aJ .NotEq) (λx y H Q=>∃d d',DAt H d x/\DAt H d' y/\d.canLay0=true/\d'.canLay0=true/\min d.depth d'.depth<=3/\Q (.bl (!ao.eqv d d')) H):=by
 intro pins s Z H x y v u Q I rx ry h;obtain⟨d,d',h1,h2,c1,c2,hd,q⟩:=h;obtain⟨as,ra⟩:=Fx I d x v h1 rx;obtain⟨bs,rb⟩:=Fx I d' y u h2 ry;exact SeqAt.compareNe_reads ra rb c1 c2 (by lia) ⟨.bl _,H,I,rfl,q⟩
end
mutual
def Ce:ao->Bool
 | .none | .int _=>true
 | .str x=>ao.strOk x
 | .list xs | .tuple xs=>C8 xs
 | .bool _ | .dict _=>false
def C8:List ao->Bool
 | []=>true
 | x::xs=>Ce x&&C8 xs
end
mutual
theorem C9:∀d:ao,Ce d=true->d.canLay0=true
 | .none,_=>rfl
 | .int _,_=>rfl
 | .str x,h=>h
 | .list xs,h=>J6 xs h
 | .tuple xs,h=>J6 xs h
 | .bool _,h=>nomatch h
 | .dict _,h=>nomatch h
theorem J6:∀ds:List ao,C8 ds=true->ao.canLayAll0 ds=true
 | [],_=>rfl
 | d::ds,h=>by
  have h':(Ce d&&C8 ds)=true:=h;rw[Pa] at h';show (d.canLay0&&ao.canLayAll0 ds)=true;rw[C9 d h'.1,J6 ds h'.2];rfl
end
mutual
theorem J7:∀(d d':ao),Ce d=true->Ce d'=true->(ao.eqv d d'=true↔d=d')
 | .none,d',_,h=>by cases d'<;>simp[ao.eqv]
 | .int i,d',_,h=>by cases d'<;>simp_all [ao.eqv,Ce]
 | .str x,d',_,h=>by cases d'<;>simp_all [ao.eqv,Ce]
 | .list xs,d',g,h=>by
  cases d' with
  | list ys=>
   have:=M7 xs ys g h;simp only[ao.eqv,this,ao.list.injEq]
  | _=>simp[ao.eqv]
 | .tuple xs,d',g,h=>by
  cases d' with
  | tuple ys=>
   have:=M7 xs ys g h;simp only[ao.eqv,this,ao.tuple.injEq]
  | _=>simp[ao.eqv]
 | .bool _,_,g,_=>nomatch g
 | .dict _,_,g,_=>nomatch g
theorem M7:∀(xs ys:List ao),C8 xs=true->C8 ys=true->(ao.eqvAll xs ys=true↔xs=ys)
 | [],[],_,_=>by simp[ao.eqvAll]
 | [],_::_,_,_=>by simp[ao.eqvAll]
 | _::_,[],_,_=>by simp[ao.eqvAll]
 | x::xs,y::ys,g,h=>by
  have g':(Ce x&&C8 xs)=true:=g;have h':(Ce y&&C8 ys)=true:=h;rw[Pa] at g' h';have e1:=J7 x y g'.1 h'.1;have e2:=M7 xs ys g'.2 h'.2;simp only[ao.eqvAll,Pa,e1,e2,List.cons.injEq]
end
def Xc7{α : Type}[DecidableEq α](f : α->ao)(inj:∀a b,f a=f b->a=b)(a b)(ha:Ce (f a)=true)(hb:Ce (f b)=true):ao.eqv (f a) (f b)=decide (a=b):=by
 rw[Qu,J7 _ _ ha hb,decide_eq_true_eq];exact⟨inj a b,λe=>by rw[e]⟩
theorem plainAll_map{α : Type}(f):∀(xs:List α),(∀x∈xs,Ce (f x)=true)->C8 (xs.map f)=true
 | [],_=>rfl
 | x::xs,h=>by
  show (Ce (f x)&&C8 (xs.map f))=true;rw[h x O3,plainAll_map f xs λy hy=>h y (O4 _ hy)];rfl
section
variable {X:Cx}{tg:aL}
def Xkg (tl:TE):TI:=fun Z H R=>tl Z H λx H1=>∃d kvs,x = .ref d/\((H1 d=some (.dK kvs)/\∀o,R (Itd d o kvs) (upd H1 d (.frz o (.dK kvs)))) \/ ∃o,H1 d=some (.frz o (.dK kvs))/\R (Itd d o kvs) H1)
def Gk  (hl:PE X l tl):PI X tg l (Xkg tl):=by
 intro pins s Z H R I h;refine thn (hl pins s Z H _ I h) λv s1 ⟨x,H1,I1,r1,q1⟩=>?_;obtain⟨d,kvs,e,q⟩:=q1;subst e;cases r1;rcases q with ⟨hH,q⟩ | ⟨o,hH,q⟩
 ·obtain⟨hz,hm,vs,rv,o,es,ep,ho,hex,hd,r⟩:=I1.hok d _ hH;have aO:kvs.length=vs.length:=Paired.length rv;refine eO (knd:=Bf X.prog X.w) hm ⟨o,es,ho,hex,hd,r⟩ ?_;have I2:=I1.freeze hH ho;refine⟨s1.heap.objs.size,[s1.heap.objs.size],_,_,_,rfl,I2.kept (t':=s1.toks) λb o e=>Ud _ e,Mj d _ o es ep hd kvs (O6 (Uc ho)),⟨_,ar.get?_push_size _ rfl,rfl,by rw[aO];rfl⟩,λb hb=>?_,q o⟩;have e:b=s1.heap.objs.size:=by simpa using hb
  subst e;exact I2.fpOk (Oy _) (I2.hok.fresh (Oy _))
 ·obtain⟨dW,hok⟩:=(show A3 X.prog X.w H1 s1.heap d (.frz o (.dK kvs)) from I1.hok d _ hH);obtain⟨hz,hm,vs,rv,o',es,ep,ho,hex,hd,r⟩:=hok;have eo:o'=o:=by rw[dW] at ho;exact(Pd ho).symm
  subst eo;have aO:kvs.length=vs.length:=Paired.length rv;refine eO (knd:=Bf X.prog X.w) hm ⟨o',es,ho,hex,hd,r⟩ ?_;refine⟨s1.heap.objs.size,[s1.heap.objs.size],_,_,_,rfl,I1.kept (t':=s1.toks) λb o e=>Ud _ e,Mj d _ o' es ep hd kvs (O6 (Uc ho)),⟨_,ar.get?_push_size _ rfl,rfl,by rw[aO];rfl⟩,λb hb=>?_,q⟩;have e:b=s1.heap.objs.size:=by simpa using hb
  subst e;exact I1.fpOk (Oy _) (I1.hok.fresh (Oy _))
end
def hid (D:ae) (H:Hp):Hp:=λb=>if b=D then none else H b
def Fy(D)(H):Same (hid D H) H:=λb o e=>by
 unfold hid at e;split at e
 ·cases e
 ·exact e
def Xc8(D)(H)(o):hid D (upd H D o)=hid D H:=by
 funext b;unfold hid;split
 ·rfl
 ·rename_i h;rw[Ad h]
def Hz{D}(s:Same H H'):Same (hid D H) (hid D H'):=λb o e=>by
 unfold hid at e ⊢;split at e
 ·cases e
 ·rename_i h;rw[T6 h];exact s b o e
def C0   (h:H b=some o) (n:b≠D):hid D H b=some o:=by
 unfold hid;rw[T6 n];exact h
def Xc9     (hD:H D=some o) (np:H p=none) (h:DAll (hid D (upd H p (.tup xs))) ds xs):DAt (hid D (upd H p (.tup xs))) (.tuple ds) (.ref p):=
 M4 (C0 Ab (Au hD np).symm) h
section
variable {tt:TT}{te:TE}{J:It}{Z:St}{H0 H1:Hp}{D:ae}{F:St->Hp->Prop}{j:Nat}{xs0:List V}
def M8(n)(vs:Nat->V)(ok)(vj)(acc)(hH:H0 D=none)(s0:Same H0 H1)(kr:H1 D=some (.lst xs0))(c6:DAll (hid D H1) acc xs0)(xX:acc.length+n<sizeLine)
  (ik:∀i H2,i<n->Same H0 H2->J.go i H2/\∀x H3,J.yld i H2 x H3->H3=H2/\x=vs i)
  (bv:∀H2,Same H0 H2->J.stop n H2)
  (nA:∀(i:Nat) H2 Q,i<n->Same H0 H2->(∀H',Same H2 H'->Q (ok i) H')->tt (Z.set j (some (vs i))) H2 Q)
  (step:∀(i:Nat) xs H2 Q,i<n->ok i=true->Same H0 H2->H2 D=some (.lst xs)->(∀v H',Same H2 H'->DAt (hid D H') (vj i) v->Q v H')->te (Z.set j (some (vs i))) H2 Q)
  (fin:∀Z' H2 xs,(∀v, Z'.set j v = Z.set j v)->Same H0 H2->H2 D=some (.lst xs)->DAll (hid D H2) (acc++((List.range n).filter ok).map vj) xs->F Z' H2):
  tLp (Bm j) tt (Hw te D) J Z H1 F:=by
 refine⟨wN n λi Z2 H2=>(∀v, Z2.set j v = Z.set j v)/\Same H0 H2/\∃xs,H2 D=some (.lst xs)/\DAll (hid D H2) (acc++((List.range i).filter ok).map vj) xs,⟨n,by simp,Px _,λ_=>rfl,s0,xs0,kr,by simpa using c6⟩,?_⟩;rintro i m Z1 H2 ⟨rfl,hi,e,s2,xs,hD,cW⟩;by_cases bo:i<n
 ·obtain⟨h1,h2⟩:=ik i H2 bo s2;refine .inr ⟨h1,λx H3 y=>?_⟩;obtain⟨e1,e2⟩:=h2 x H3 y;subst e1 e2;show tt (Z1.set j (some (vs i))) H3 _;rw[e];refine nA i H3 _ bo s2 λH4 s4=>?_;have qR:=s2.trans s4;have fe:=s4 _ _ hD;have l5:=DAll.same (Hz (D:=D) s4) _ _ cW;have gx:∀v,(Z.set j (some (vs i))).set j v = Z.set j v:=λv=>by rw[Tg]
  have hl:xs.length<=acc.length+i:=by
   rw[Gj cW,O2,Ow];have:((List.range i).filter ok).length<=i:=Pu (P1 ..) (by rw[Qi];lia)
   lia
  refine Aw (λhk=>?_) (λhk=>?_)
  ·show te (Z.set j (some (vs i))) H4 _;refine step i xs H4 _ bo hk qR fe λv H5 s5 hv=>?_;refine⟨xs,s5 _ _ fe,by lia,?_⟩;refine wskip bo ⟨gx,λb u e'=>?_,xs++[v],Ab,?_⟩
   ·rw[Ad (Au e' hH)];exact s5 _ _ (qR b u e')
   ·rw[Xc8,Qa,Pm,O9,<-Pp];simp only[P6,hk,if_true,S9,Pw,List.map_nil];exact J5 (DAll.same (Hz (D:=D) s5) _ _ l5) hv
  ·refine wskip bo ⟨gx,qR,xs,fe,?_⟩;rw[Qa,Pm];simpa [hk] using l5
 ·have ei:i=n:=by lia
  subst ei;exact .inl ⟨bv H2 s2,fin Z1 H2 xs e s2 hD cW⟩
def Xkh(n:Nat)(vs:Nat->V)(acc:Nat->List ao)(hH:H0 D=none)(s0:Same H0 H1)(kr:H1 D=some (.lst xs0))(c6:DAll (hid D H1) (acc 0) xs0)(EZ:St->Prop)(hE:EZ Z)
  (ik:∀i H2,i<n->Same H0 H2->J.go i H2/\∀x H3,J.yld i H2 x H3->H3=H2/\x=vs i)
  (bv:∀H2,Same H0 H2->J.stop n H2)
  (step:∀(i:Nat) Z1 xs H2 (Q:St->Hp->Prop),i<n->EZ Z1->Same H0 H2->H2 D=some (.lst xs)->DAll (hid D H2) (acc i) xs->(∀Z' H' iq,EZ Z'->Same H0 H'->H' D=some (.lst iq)->DAll (hid D H') (acc (i+1)) iq->Q Z' H')->tm (Z1.set j (some (vs i))) H2 Q)
  (fin:∀Z' H2 xs,Same H0 H2->H2 D=some (.lst xs)->DAll (hid D H2) (acc n) xs->F Z' H2):
  tLp (Bm j) Fs tm J Z H1 F:=by
 refine⟨wN n λi Z2 H2=>EZ Z2/\Same H0 H2/\∃xs,H2 D=some (.lst xs)/\DAll (hid D H2) (acc i) xs,⟨n,by simp,Px _,hE,s0,xs0,kr,c6⟩,?_⟩;rintro i m Z1 H2 ⟨rfl,hi,e,s2,xs,hD,cW⟩;by_cases bo:i<n
 ·obtain⟨h1,h2⟩:=ik i H2 bo s2;refine .inr ⟨h1,λx H3 y=>?_⟩;obtain⟨e1,e2⟩:=h2 x H3 y;subst e1 e2;unfold Bm Fs;dsimp only;rw[T7 rfl];exact step i Z1 xs H3 _ bo e s2 hD cW fun Z' H' iq e' s' eg nK=>wskip bo ⟨e',s',iq,eg,nK⟩
 ·have ei:i=n:=by lia
  subst ei;exact .inl ⟨bv H2 s2,fin Z1 H2 xs s2 hD cW⟩
def Xki(n:Nat)(vs:Nat->V)(acc:Nat->List ao)(G:Hp->Prop)(hH:H0 D=none)(s0:Same H0 H1)(g0:G H1)(kr:H1 D=some (.lst xs0))(c6:DAll (hid D H1) (acc 0) xs0)(EZ:St->Prop)(hE:EZ Z)
  (ik:∀i H2,i<n->Same H0 H2->J.go i H2/\∀x H3,J.yld i H2 x H3->H3=H2/\x=vs i)
  (bv:∀H2,Same H0 H2->J.stop n H2)
  (step:∀(i:Nat) Z1 xs H2 (Q:St->Hp->Prop),i<n->EZ Z1->Same H0 H2->G H2->H2 D=some (.lst xs)->DAll (hid D H2) (acc i) xs->(∀Z' H' iq,EZ Z'->Same H0 H'->G H'->H' D=some (.lst iq)->DAll (hid D H') (acc (i+1)) iq->Q Z' H')->tm (Z1.set j (some (vs i))) H2 Q)
  (fin:∀Z' H2 xs,Same H0 H2->G H2->H2 D=some (.lst xs)->DAll (hid D H2) (acc n) xs->F Z' H2):
  tLp (Bm j) Fs tm J Z H1 F:=by
 refine⟨wN n λi Z2 H2=>EZ Z2/\Same H0 H2/\G H2/\∃xs,H2 D=some (.lst xs)/\DAll (hid D H2) (acc i) xs,⟨n,by simp,Px _,hE,s0,g0,xs0,kr,c6⟩,?_⟩;rintro i m Z1 H2 ⟨rfl,hi,e,s2,g2,xs,hD,cW⟩;by_cases bo:i<n
 ·obtain⟨h1,h2⟩:=ik i H2 bo s2;refine .inr ⟨h1,λx H3 y=>?_⟩;obtain⟨e1,e2⟩:=h2 x H3 y;subst e1 e2;unfold Bm Fs;dsimp only;rw[T7 rfl];exact step i Z1 xs H3 _ bo e s2 g2 hD cW fun Z' H' iq e' s' g' eg nK=>wskip bo ⟨e',s',g',iq,eg,nK⟩
 ·have ei:i=n:=by lia
  subst ei;exact .inl ⟨bv H2 s2,fin Z1 H2 xs s2 g2 hD cW⟩
end
section
variable {X:Cx}{pos np lh:cN}{body:List aV}{b0:aV}{suite:List aV}{x:aq}{Cc:ae}{tb:(ae->St->Hp->Prop)->TS}{th:TS}
end
section
variable {X:Cx}
def Xkj:X.calm=true->Bw X (.builtin "any") (λxs H Q=>∃(a:ae) (bs:List Bool),xs=[.ref a]/\H a=some (.lst (bs.map V.bl))/\Q (.bl (bs.any id)) H):=by
 intro hc pins s Z H xs us Q I r h;obtain⟨a,bs,rfl,ha,q⟩:=h;obtain⟨u,rfl,ru⟩:=Cg r;cases ru;obtain⟨aC,rv,p,hz⟩:=I.list (SqL.of ha);have hl:=rv.length;rw[Ow] at hl;refine call_any_walk (cG p.isList ?_);have bo:a≠s.heap.objs.size:=by
  obtain⟨o,ho,_⟩:=p.isList;exact O6 (Uc ho)
 refine⟨s.heap.objs.size,_,_,_,_,_,λj=>bs.getD j false,rfl,lY.list (A:=X.A.in1) (show X.A.in1.handled=none from I.ok.hd hc) s.heap.objs.size a bo aC.toArray,⟨⟨_,ar.get?_push_size _ rfl,rfl,rfl⟩,p.isList.push _⟩,λi v s' Q' E' hP hQ=>?_,λh' tk k=>?_⟩
 ·have hv:aC[i]? = some v:=by simpa using hP
  have hi:i<aC.length:=(O8.mp hv).1;have g:(bs.map V.bl)[i]? = some (.bl (bs[i]'(by lia))):=by
   rw[Pf,Ox (by lia)];rfl
  obtain⟨u,hu,ru⟩:=rv.get g;rw[hv] at hu;cases hu;cases ru;have e:bs.getD i false=bs[i]'(by lia):=by simp[List.getD,(by lia:i<bs.length)]
  have qA:Q' (bs.getD i false) s':=hQ;rw[e] at qA;exact aR qA
 ·refine⟨.bl (bs.any id),H,I.kept (t':=tk) λb o e=>k b o (λz=>?_) (Ud _ e),?_,q⟩
  ·have z':b=s.heap.objs.size:=by simpa using z
   exact absurd (Uc e) (by rw[z'];exact Qg _)
  ·show aa.bool _=aa.bool _;congr 1;rw[O0,<-hl];rw[Qu,Rm,Rm];constructor
   ·rintro ⟨j,hj,e⟩;have gf:=Qb.mp hj;refine⟨_,Ps gf,?_⟩;simpa [List.getD,gf] using e
   ·rintro ⟨b,hb,e⟩;obtain⟨j,hj,rfl⟩:=P7.mp hb;exact⟨j,Qb.mpr hj,by simpa [List.getD,hj] using e⟩
def Xkk:V->List V->Hp->VK->Prop:=λx vs H Q=>∃l xs y,x = .ref l/\vs=[y]/\H l=some (.lst xs)/\B2 y=true/\xs.all B2=true/\Q (.int (xs.countP λz=>eqV z y)) H
theorem Xda:∀{xs:List V} {aC:List aa},Vals xs aC->xs.all B2=true->aC.countP (eqU y)=xs.countP λz=>eqV z y
 | _,_,.nil,_=>rfl
 | _,_,.cons (a:=a) (b:=b) r t,f=>by
  rw[Tu,Pa] at f;rw[Qw,Qw,Xda t f.2,Jm r f.1]
def M9:MtM X "list.count" Xkk:=by
 intro pins s Z H x vs v us Q I rx rv h;obtain⟨l,xs,y,rfl,rfl,hH,fy,fs,q⟩:=h;cases rx;obtain⟨u,rfl,ru⟩:=rv.one;obtain⟨z,aC,n,r,hl,e⟩:=I.lstM hH;refine dP F.slot_list_count ⟨_,e,rfl⟩ F.entry_list_count (F.args_list_count_2 _ _) (SeqAt.list_countAt l aC.toArray n _ _ u (eqU y)) ⟨e,λw hw=>Fp ru fy r fs w (by simpa using hw),?_⟩;refine⟨.int _,H,I.tok _,⟨_,rfl⟩,?_⟩;have e2:((aC.toArray.toList.countP (eqU y):Nat):Int)=((xs.countP λz=>eqV z y:Nat):Int):=by rw[<-Xda r fs]
 exact e2 ▸ q
def Xdb(row:Za)(x):(row.map V.str).countP (λz=>eqV z (.str x))=row.count x:=by
 rw[List.countP_map,List.count_eq_countP];rfl
def Xdc:Bw X (.builtin "sorted") (λxs H Q=>∃a ks,xs=[.ref a]/\H a=some (.lst (ks.map V.str))/\ks.length<64/\∀l,H l=none->Q (.ref l) (upd H l (.lst ((srt ks).map V.str)))):=by
 intro pins s Z H xs us Q I r h;obtain⟨a,ks,rfl,ha,cV,q⟩:=h;obtain⟨u,rfl,rx⟩:=Cg r;cases rx;obtain⟨aC,rv,pl,hz⟩:=I.list (SqL.of ha);have hl:=rv.length;rw[Ow] at hl;refine sorted_strs pl.isList (Gf rv) (by lia) λout qS h1 h2 h3=>?_;obtain⟨e,he⟩:=vk s.heap aC out;have es:qS=srt ks:=Gg h2 h3;subst es;have hf:H (s.heap.objs.size+1)=none:=I.hok.fresh (Q5 _);refine⟨.ref (s.heap.objs.size+1),_,I.laid (t':=s.toks) (h':=nN s.heap aC out) (o:=.lst ((srt ks).map V.str)) (λb ob q=>tI q) (Q5 _) ?_,rfl,q _ hf⟩;refine⟨by rw[Ow,h2.length_eq,T5];lia,out.toList,e,Xcf h1,?_⟩;rw[he]
def Na:R2:=λx y H Q=>∃a b xs ys,x = .ref a/\y = .ref b/\H a=some (.tup xs)/\H b=some (.tup ys)/\xs.length+ys.length<=sizeLine/\∀p H',Same H H'->H' p=some (.tup (xs++ys))->Q (.ref p) H'
def Ia:OpR X (bg .Add) Na:=by
 intro pins s Z H x y v u Q I rx ry h;obtain⟨a,b,xs,ys,rfl,rfl,ha,hb,hz,q⟩:=h;by_cases hx:xs=[]
 ·subst hx;cases rx;cases ry;obtain⟨aC,r1,p1,_⟩:=I.tuple (SqT.of (K:=X.K) ha);obtain⟨ib,r2,p2,_⟩:=I.tuple (SqT.of (K:=X.K) hb);cases r1;obtain⟨⟨cls,dd,data,sl⟩,ho,hc,n,hd⟩:=id p1;obtain⟨⟨qb,lZ,data2,me⟩,jl,fX,n2,cS⟩:=id p2;simp only at hc hd fX cS;subst hc hd fX cS;exact iO ⟨_,ho,rfl⟩ ⟨_,jl,rfl⟩ eW hJ PySem.F.slot_tuple_add PySem.F.entry_tuple_add (PySem.F.args_tuple_add_2 _ _)
   (tuple_addW0 a b _ _ n n2 dd lZ sl me (by simp)) ⟨ho,jl,⟨.ref b,H,I,rfl,q b H (Same.refl H) hb⟩⟩
 ·refine Xho pins s Z H (.ref a) (.ref b) v u Q I rx ry ⟨a,b,xs,ys,rfl,rfl,SqT.of ha,SqT.of hb,hx,hz,λhy=>?_,λhy p np=>?_⟩
  ·subst hy;exact q a H (Same.refl H) (by rw[P3];exact ha)
  ·exact q p _ ((Same.refl H).step np) Ab
end
end L2
namespace HT
open PySem.Calls L2
section
variable {prog:av}{w:a8}{A:aB}{E:Zb}{s:ak}
def getItem_tuple_whole    {lo hi} (ht:cX s.heap t ax) (hs:s.heap.IsSliceOf sl vl vu .none) (pl:db vl lo) (pu:db vu hi)
  (hw:sIx ax.size 0 lo=0/\sIx ax.size ax.size hi=ax.size) (h:Q (.ref t) s):aj (ai prog w) A (bU (.ref t) (.ref sl)) Q E s:=by
 obtain⟨os,fr,mR,kf⟩:=id hs;have kg:s.TypeIs (.ref sl) "slice" := ⟨os,fr,mR⟩;unfold bU
 try with_reducible refine aA ?_
 first | refine Tz (T0 ?_) | skip
 refine Tz (eu ht.typeIs (by decide) ?_);refine Tz (bu (name:=aq.ofString "__getitem__") ht.typeIs PyProof.Rows.slot_tuple_getitem
  (aP PyProof.Rows.slot_tuple_getitem ht.typeIs dA ?_ (dN _ _)))
 show aj _ _ (am.Tuple.tupleItemsOf (.ref t) >>= _) _ _ s;refine Tz (hW ht ?_);refine Tz (bi kg ?_);rw[T7 (by decide)];refine Tz (Xa4 hs pl pu ?_);have vm:((((sIx ax.size 0 lo:Nat):Int)==0&&(1:Int)==1&&(sIx ax.size ax.size hi - sIx ax.size 0 lo)==ax.size)=true):=by
  rw[hw.1,hw.2];simp
 show aj _ _ (if (((sIx ax.size 0 lo:Nat):Int)==0&&(1:Int)==1&&(sIx ax.size ax.size hi - sIx ax.size 0 lo)==ax.size)=true then _ else _) _ _ s;rw[T7 vm];have hx:∀{Q':Bool->ak->Prop},Q' true s->aj (ai prog w) A.in1 (am.Tuple.tupleIsExact (.ref t)) Q' E s:=λ{Q'} q=>by
  unfold am.Tuple.tupleIsExact;obtain⟨o,ho,hc,n,hd⟩:=ht
  repeat (first | exact T0 q | refine Tz (bi ⟨o,ho,hc⟩ ?_) | refine bi ⟨o,ho,hc⟩ ?_ | wp_step)
 refine Tz (hx ?_);rw[T7 rfl];exact Tz (aS (Tz (T0 (T0 ⟨_,rfl,T0 h⟩))))
def Xkl(n:Nat):am.Slice.sliceAdjust none none (-1) (n:Int)=((n:Int) - 1, -1):=by
 unfold am.Slice.sliceAdjust;simp
def Xkm(n:Nat):am.Slice.slicePlaces ((n:Int) - 1) (-1) (-1)=n:=by
 unfold am.Slice.slicePlaces;rw[T6 (by decide)];by_cases h:(n:Int) - 1 > -1
 ·rw[T7 h,show (- -1:Int)=1 from rfl,Int.ediv_one]
  lia
 ·rw[T6 h]
  lia
def Xkn  {n:Nat}  (hs:s.heap.IsSliceOf sl .none .none (.int (-1) tk))
  (h:Q ((n:Int) - 1, -1,n) s):aj (ai prog w) A (am.Slice.sliceApplied (.ref sl) (pure (n:Int))) Q E s:=by
 obtain⟨os,fr,mR,kf⟩:=id hs;unfold am.Slice.sliceApplied am.Slice.sliceFields;refine Tz (Tz (cI fr kf (x:=.none) rfl (Tz (cI fr kf (x:=.none) rfl (Tz (cI fr kf (x:=.int (-1) tk) rfl (T0 ?_)))))));refine Tz (t7 ?_);show aj _ _ (if ((-1:Int)==0)=true then _ else _) _ _ s;rw[T6 (by decide)];refine Tz (dc (Tz (dc (Tz (T0 ?_)))));show aj _ _ (match am.Slice.sliceAdjust none none (-1) (n:Int) with | (lo,hi)=>pure (lo,(-1:Int),am.Slice.slicePlaces lo hi (-1))) _ _ s;rw[Xkl];show aj _ _ (pure ((n:Int) - 1,(-1:Int),am.Slice.slicePlaces ((n:Int) - 1) (-1) (-1))) _ _ s;rw[Xkm];exact T0 h
def Xko(xs:Array aa):((List.range xs.size).filterMap λ(m:Nat)=>xs[((xs.size:Int) - 1+(m:Int) * -1).toNat]?).toArray=xs.toList.reverse.toArray:=by
 have e:(List.range xs.size).filterMap (λ(m:Nat)=>xs[((xs.size:Int) - 1+(m:Int) * -1).toNat]?)=((List.range xs.size).map λk=>xs.size - 1 - k).filterMap (xs[·]?):=by
  rw[Tc];have cT:∀(l:List Nat),(∀m∈l,m<xs.size)->l.filterMap (λ(m:Nat)=>xs[((xs.size:Int) - 1+(m:Int) * -1).toNat]?)=l.filterMap ((λx=>xs[x]?) ∘ λk=>xs.size - 1 - k):=by
   intro l
   induction l with
   | nil=>intro _;rfl
   | cons m l ih=>
    intro hm;have h1:=hm m O3;have e1:((xs.size:Int) - 1+(m:Int) * -1).toNat=xs.size - 1 - m:=by lia
    rw[Ql,Ql,ih λx hx=>hm x (O4 _ hx),e1];rfl
  exact cT _ λm hm=>Qb.mp hm
 rw[e,PySem.W.krv_range,List.filterMap_reverse,PySem.W.krv_all]
def getItem_tuple_rev    (ht:cX s.heap t ax) (hs:s.heap.IsSliceOf sl .none .none (.int (-1) tk))
  (h:Q (.ref s.heap.objs.size) {s with heap:=s.heap.push {cls:=.type "tuple",data:=.seq ax.toList.reverse.toArray} })
  (hsz:ax.size<=sizeLine):aj (ai prog w) A (bU (.ref t) (.ref sl)) Q E s:=by
 have df:sizeOk (.seq ax.toList.reverse.toArray):=by
  show ax.toList.reverse.toArray.size<=sizeLine;rw[O0,Ry,O1];exact hsz
 obtain⟨os,fr,mR,kf⟩:=id hs;have kg:s.TypeIs (.ref sl) "slice" := ⟨os,fr,mR⟩;unfold bU
 try with_reducible refine aA ?_
 first | refine Tz (T0 ?_) | skip
 refine Tz (eu ht.typeIs (by decide) ?_);refine Tz (bu (name:=aq.ofString "__getitem__") ht.typeIs PyProof.Rows.slot_tuple_getitem
  (aP PyProof.Rows.slot_tuple_getitem ht.typeIs dA ?_ (dN _ _)))
 show aj _ _ (am.Tuple.tupleItemsOf (.ref t) >>= _) _ _ s;refine Tz (hW ht ?_);refine Tz (bi kg ?_);rw[T7 (by decide)];refine Tz (Xkn hs ?_);have eF:¬((((ax.size:Int) - 1)==0&&(-1:Int)==1&&ax.size==ax.size)=true):=by
  intro q;rw[Pa,Pa] at q;exact absurd (eq_of_beq q.1.2) (by decide)
 show aj _ _ (if (((ax.size:Int) - 1)==0&&(-1:Int)==1&&ax.size==ax.size)=true then _ else _) _ _ s;rw[T6 eF,Xko]
 first
  | exact Tz (m:=am.Tuple.tupleExact _) (aG (T0 ⟨_,rfl,T0 h⟩) df)
  | exact Tz (m:=am.Tuple.tupleExact _) (aG (Tz (T0 (T0 ⟨_,rfl,T0 h⟩))) df)
  | exact Tz (Tz (m:=am.Tuple.tupleExact _) (aG (T0 (T0 ⟨_,rfl,T0 h⟩)) df))
  | exact Tz (Tz (m:=am.Tuple.tupleExact _) (aG (T0 ⟨_,rfl,T0 h⟩) df))
end
end HT
namespace L2
section
variable {X:Cx}{pos p2:cN}{e:aL}{te:TE}
def Nb:V->Option Int->Option Int->Hp->VK->Prop:=λx lo hi H Q=>∃a xs,x = .ref a/\H a=some (.tup xs)/\∀p H',Same H H'->H' p=some (.tup (B8 xs lo hi))->Q (.ref p) H'
def Ib:SlR X Nb:=by
 intro pins s Z H x v vl vu lo hi sl Q I rx hs pl pu h;obtain⟨a,xs,rfl,hx,q⟩:=h;by_cases hw:HT.sIx xs.length 0 lo=0/\HT.sIx xs.length xs.length hi=xs.length
 ·cases rx;obtain⟨aC,r,ht,hz⟩:=I.tuple (SqT.of (K:=X.K) hx);have aO:aC.toArray.size=xs.length:=by rw[O0];exact r.length.symm
  refine⟨"tuple",_,PyProof.Rows.slot_tuple_getitem.lookup,ht.typeIs,?_⟩;refine HT.getItem_tuple_whole ht hs pl pu (by rw[aO];exact hw) ⟨.ref a,H,I,rfl,q a H (Same.refl H) ?_⟩;unfold B8;rw[hw.1,hw.2,Rr,Tf,Qo];exact hx
 ·exact Xhm pins s Z H (.ref a) v vl vu lo hi sl Q I rx hs pl pu ⟨a,xs,rfl,SqT.of hx,hw,λp np=>q p _ ((Same.refl H).step np) Ab⟩
def Xkp (te:TE):TE:=fun Z H Q=>te Z H λx H1=>∃a xs,x = .ref a/\H1 a=some (.tup xs)/\∀p,H1 p=none->Q (.ref p) (upd H1 p (.tup xs.reverse))
def Xkq  (he:PE X e te):PE X (.Subscript e (.Slice none none (some (.UnaryOp .USub (.Constant (.int 1) k p3) p4)) p2) pos) (Xkp te):=by
 intro pins s Z H Q I h;refine dO (thn (he pins s Z H _ I h) λv s1 ⟨x,H1,I1,r1,q1⟩=>?_);have jB:PE X (.UnaryOp .USub (.Constant (.int 1) k p3) p4) (tUn (rU λi=>.int (-i)) (tC (.int 1))):=Lj Lk Af;refine ju ?_;rw[dH];refine T0 (T0 ?_);rw[hX];refine thn (jB pins s1 Z H1 (λy H2=>y = .int (-1)/\H2=H1) I1 ⟨1,rfl,rfl,rfl⟩) λu s2 ⟨y,H2,I2,r2,ey,eH⟩=>?_;subst ey eH;obtain⟨t,rfl⟩:=r2;obtain⟨a,xs,ex,hx,q⟩:=q1;subst ex;cases r1;have I4:Inv X pins Z H2 {s2 with heap:=s2.heap.push {cls:=.type "slice",data:=.fields #[.none,.none,.int (-1) t]} }:=I2.kept (t':=s2.toks) λb ob q=>Ud _ q;obtain⟨uR,r4,ln,oK⟩:=I4.tuple (SqT.of (K:=X.K) hx);have aO:=r4.length;refine jv (ops:=[.ref a,.ref s2.heap.objs.size]) ln.typeIs PyProof.Rows.slot_tuple_getitem.lookup (HT.getItem_tuple_rev ln (ar.IsSliceOf.new ..) ?_ (by rw[O0];lia)) (by with_unfolding_all rfl);refine⟨.ref _,_,I4.laid (t':=s2.toks) (o:=.tup xs.reverse) (λb ob q=>Ud _ q) (Oy _) ?_,rfl,q _ (I4.hok.fresh (Oy _))⟩;exact⟨by rw[Ry];exact oK,_,Vals.reverse r4,cX.new _ _⟩
end
section
variable {X:Cx}{es:List aL}{t:L2.St->Hp->(Hp->Prop)->Prop}{e:aL}{te:TE}{pos:cN}
def Xkr (te:TE) (t:L2.St->Hp->(Hp->Prop)->Prop):L2.St->Hp->(Hp->Prop)->Prop:=fun Z H Q=>te Z H λx H1=>∃(a:ae) (ss:Za),x = .ref a/\H1 a=some (.tup (ss.map V.str))/\ss.length<=24/\(∀z∈ss,z.length<=20/\∀c∈z.cps.toList,c<16 ^ 8)/\t Z H1 Q
theorem Xdd:∀(ss:Za),(∀z∈ss,z.length<=20/\∀c∈z.cps.toList,c<16 ^ 8)->piled (ss.map eQ)<=204 * ss.length
 | [],_=>by simp[piled]
 | z::ss,h=>by
  obtain⟨h1,h2⟩:=h z O3;have:=StrLaws.reprText_len z h2;have ih:=Xdd ss λy hy=>h y (O4 _ hy);rw[Pw,piled_cons,Pj]
  lia
def Xks(ts):(iK ts).length<=piled ts+3:=by
 unfold iK;rw[il,il];have e1:((("(" : String):aq)).length=1:=rfl;have e3:(((if ts.length==1 then ",)" else ")" : String):aq)).length<=2:=by split<;>decide
 rw[e1];by_cases h:ts=[]
 ·subst h;have:(aq.join ", " []).length=0:=rfl
  lia
 ·have:=join_length_add ts h
  lia
theorem Xde  : ∀{ss:Za} {us:List aa},(∀z∈ss,z.length<=20/\∀c∈z.cps.toList,c<16 ^ 8)->Vals (ss.map V.str) us->ReprAll P w us (ss.map eQ)
 | [],_,_,r=>by cases r;exact .nil
 | z::ss,_,h,r=>by
  cases r with
  | cons r1 r2=>
   obtain⟨tk,rfl⟩:=r1;obtain⟨h1,h2⟩:=h z O3;have:=StrLaws.reprText_len z h2;exact .cons (ReprIs.str z tk (by rw[T5];lia)) (Xde (λy hy=>h y (O4 _ hy)) r2)
def Xkt  (hr:Room k X.A) (ha:PE X e te) (h:PJ X es t) (he:bV (.FormattedValue e 114 none p::es) X.env=eval (.FormattedValue e 114 none p) X.env::bV es X.env:=by rfl):PJ X (.FormattedValue e 114 none p::es) (Xkr te t):=by
 intro out pins s Z H Q I hw hl;rw[he];rw[Pj] at hl;refine dg (gU (thn (ha pins s Z H _ I hw) λv s1 ⟨x,H1,I1,r1,q1⟩=>?_));obtain⟨a,ss,ez,hp,h1,h2,q⟩:=q1;subst ez;cases r1;obtain⟨aC,rv,pl,hz⟩:=I1.tuple (SqT.of (K:=X.K) hp);obtain⟨o,ho,hc,n,hd⟩:=pl;have yd:=Xks (ss.map eQ);have vb:=Xdd ss h2;have yq:(iK (ss.map eQ)).length<=5000:=by lia
 have oK:(iK (ss.map eQ)).length<=sizeLine:=by rw[T5];lia
 refine wpAny_pyReprObj_tuple (g:=[]) ⟨o,ho,hc⟩ hr.gd (by simp) hr.units0 ho hd (Xde h2 (by simpa using rv)) (λu tk=>?_) oK;refine oU (λt' k=>⟨by rw[Ee];lia,?_⟩) oK;exact h _ pins _ Z H1 Q ((I1.tok _).tok _) q (by rw[Ee];lia)
def Xku:V->List V->Hp->VK->Prop:=λx vs H Q=>∃l xs y j,x = .ref l/\vs=[y]/\H l=some (.lst xs)/\B2 y=true/\xs.all B2=true/\xs.length<=1000/\(∃z,xs[j]? = some z/\eqV z y=true)/\(∀m z,m<j->xs[m]? = some z->eqV z y=false)/\Q (.int (j:Nat)) H
def Xkv:MtM X "list.index" Xku:=by
 intro pins s Z H x vs v us Q I rx rv h;obtain⟨l,xs,y,j,rfl,rfl,hH,fy,fs,aO,⟨z,hz,BK⟩,eF,q⟩:=h;cases rx;obtain⟨u,rfl,ru⟩:=rv.one;obtain⟨zz,aC,n,r,hl,e⟩:=I.lstM hH;have hj:j<xs.length:=(O8.mp hz).1;have yu:j<aC.toArray.size:=by rw[O0];lia
 have at':∀m (hm:m<aC.toArray.size),∃w,xs[m]? = some w/\eqU y aC.toArray[m]=eqV w y:=λm hm=>by
  rw[O0] at hm;have g:xs[m]? = some (xs[m]'(by lia)):=Ox (by lia);obtain⟨uu,hu,BL⟩:=r.get g;have e1:aC.toArray[m]=uu:=by
   rw[Sx];rw[Ox hm] at hu;exact Pd hu
  refine⟨_,g,?_⟩;rw[e1];exact Jm BL (Po.mp fs _ (Ps _))
 refine dP F.slot_list_index ⟨_,e,rfl⟩ F.entry_list_index (F.args_list_index_2 _ _) (SeqAt.list_indexAt l aC.toArray n _ _ u (eqU y) j yu (by lia) ?_ ?_) ⟨e,λw hw=>Fp ru fy r fs w (by simpa using hw),?_⟩
 ·obtain⟨w,h1,h2⟩:=at' j yu;rw[hz] at h1;cases h1;rw[h2];exact BK
 ·intro m hm BM;obtain⟨w,h1,h2⟩:=at' m hm;rw[h2];exact eF m w BM h1
 ·exact⟨.int _,H,I.tok _,⟨_,rfl⟩,q⟩
end
def Xdf{K}  (sb:KY K (.ref C) (.type "BaseException")=some true)(BN:KY K (.ref S) (.type "BaseException")=some true)(ic:LJ K S=true)(ty:LL K (.ref S)=some (.type "type"))(h:KY K (.ref C) (.ref S)=some b):LK K (.ref C) (.ref S)=some b:=by
 unfold LK;rw[BN,T7 (by decide)];exact Xcr ic ty h
def E1 (c:ae) (q:aq):ar->Prop:=λh=>h.CodeRec (.ref c) q
def E2 (f:ae) (fd:bK):ar->Prop:=λh=>∃o,h.get? f=some o/\o.data = .func fd
def Xkw  : ∀h1 h2:ar,E1 c q h1->(∀o,h1.get? c=some o->h2.get? c=some o)->E1 c q h2:=by
 rintro h1 h2 ⟨c1,o,vs,t,e,ho,r⟩ k;cases e;exact⟨c,o,vs,t,rfl,k _ ho,r⟩
def Xdg  : ∀h1 h2:ar,E2 f fd h1->(∀o,h1.get? f=some o->h2.get? f=some o)->E2 f fd h2:=by
 rintro h1 h2 ⟨o,ho,r⟩ k;exact⟨o,k _ ho,r⟩
def Xkx    {K}                 {Q}  (hf:H f=some (.ext (E2 f (LF name qual params body scope [] pm (.ref c) iX)))) (hc:H c=some (.ext (E1 c qual))) (S:FnScope N ps scope) (hr:Room (k+1) A) (e0:Env0 P w K mg base A outer s H)
  (hl:vs.length=ps.length) (r:Vals vs us) (hb:el (LF name qual params body scope [] pm (.ref c) iX) ⟨us,[]⟩=pure (ps.zip us))
  (ht:PE (Cp CX P w K mg base N qual scope f (.ref c) A outer s H E) body t) (hq:t (start N vs) H Q):
  br (ai P w) A (.call (.ref f) ⟨us,[]⟩) (CR CX outer P w H s Q E) s:=by
 obtain⟨⟨of,BO,BP⟩,_⟩:=e0.hok f _ hf;obtain⟨vn,_⟩:=e0.hok c _ hc;have uG:s.heap.NoLimit:=e0.mod.nolimit.keeps λb o e=>(e0.bs b o e).1;have fq:∀y∈ps.zip us,scope.names.lookup y.1=some .local\/(scope.names.lookup y.1=some .cell/\((bH (s.heap.objs.size+1) scope.names []).lookup y.1).isSome=true):=λ⟨n,v⟩ hy=>by
  rcases S.par n (S6 hy).1 with q | q
  ·exact .inl q
  ·exact .inr ⟨q,L' _ _ _ (.inl q)⟩
 refine PySem.W.kla_callFunE hr.depth BO BP S.co S.gen rfl vn ?_;rw[hb];refine T0 ?_;refine fW S.kind fq λenv he s1 x=>?_;subst he;refine⟨uG.keeps x.toInCall.keep,PySem.W.kla_codeExpr ?_⟩;have I:Inv (Cp CX P w K mg base N qual scope f (.ref c) A outer s H E) [] (start N vs) H s1:=Xa1 S hr.hd e0 hl r x;refine aN (ht [] s1 (start N vs) H _ I hq) (λu s' hs=>?_) λe s' hs=>hs;obtain⟨v,H',J,rv,q⟩:=hs;exact⟨v,H',J.os,J.bare,J.base,J.hok,rv,q⟩
def BmOk (mg:aq->Option aa) (base:ar):Prop:=∃bm ob,mg "__builtins__" = some (.ref bm)/\bm≠cQ/\base.get? bm=some ob/\ob.cls = .type "module" /\ ob.dict=some cQ/\ob.data = .plain
def Bi (T:ae) (pos:cN) (q:aq) (H:Hp):Prop:=H T=some (.tbl #[]) \/ ∃c,H T=some (.tbl #[be pos.line,be pos.col,.ref c])/\H c=some (.ext (E1 c q))
def tLam (T:ae) (q:aq) (params:mW) (body:aL) (scope:cx) (pos:cN):TE:=λ_ H Q=>Bi T pos q H /\
 ∀(f c:ae) (pm iX:aa) (H':Hp),H f=none->H' f=some (.ext (E2 f (LF "<lambda>" q params body scope [] pm (.ref c) iX)))->H' c=some (.ext (E1 c q))->Bi T pos q H'->(∀b o,H b=some o->b≠T->H' b=some o)->Q (.ref f) H'
section
variable {X:Cx}{T c0:ae}{params:mW}{body:aL}{scope:cx}{pos:cN}{q:aq}
def Xky    {h':ar} {tk} {fd} {o} (I:Inv X pins Z H s) (k:∀b o,s.heap.get? b=some o->h'.get? b=some o) (hsz:s.heap.objs.size<=h'.objs.size) (ho:o.data = .func fd) (iR:o.isFreed=false):
  Inv X pins Z (upd H h'.objs.size (.ext (E2 h'.objs.size fd))) {s with heap:=h'.push o,toks:=tk}:=by
 refine I.laid (t':=tk) (h':=h'.push o) (λb ob e=>Ud _ (k b ob e)) hsz ?_;exact⟨⟨o,ar.get?_push_size _ iR,ho⟩,⟨o,ar.get?_push_size _ iR⟩,Xdg⟩
def Xkz      {tk}  {o}  (I:Inv X pins Z H s) (hT:H T=some (.tbl #[])) (hx:ar.ExtBut T s.heap h') (oV:s.heap.objs.size<=c) (bo:c<h'.objs.size)
  (nO:h'.CodeRec (.ref c) q) (vo:h'.get? T=some (LB (#[]++ps))) (ho:o.data = .func fd) (iR:o.isFreed=false):
  Inv X pins Z (upd (upd (upd H T (.tbl ps)) c (.ext (E1 c q))) h'.objs.size (.ext (E2 h'.objs.size fd))) {s with heap:=h'.push o,toks:=tk}:=by
 have qT:h'.get? T=some {cls:=.none,data:=.fields ps}:=by simpa using vo
 have nf:∀b u,s.heap.get? b=some u->b≠c/\b≠h'.objs.size:=λb u e=>by
  have z:=Pg (Uc e) oV;exact⟨O6 z,O6 (Rx z bo)⟩
 have nH:∀b u,H b=some u->b≠c/\b≠h'.objs.size:=λb u e=>by
  have z:=Pg (I.hok.lt e) oV;exact⟨O6 z,O6 (Rx z bo)⟩
 have nT:∀b,H b=none->b≠T:=λb n z=>by rw[z,hT] at n;cases n
 have kp:∀b u,b≠T->s.heap.get? b=some u->(h'.push o).get? b=some u:=λb u n e=>Ud _ (hx b u n e);have up:∀b u,H b=some u->b≠T->(upd (upd (upd H T (.tbl ps)) c (.ext (E1 c q))) h'.objs.size (.ext (E2 h'.objs.size fd))) b=some u:=λb u e n=>by
  rw[Ad (nH b u e).2,Ad (nH b u e).1,Ad n];exact e
 refine I.step (g':=s.gens) (d':=s.drawn) (t':=tk) (h':=h'.push o) (ch:=[]) (λ_ z=>nomatch z) (λb u _ _ _ e n=>kp b u (nT b n) e) (λb u _ _ _ e n=>⟨u.slots,kp b u (nT b n) e⟩) (λb u _ e n=>?_) (λb u _ e=>?_)
  (λb xs e=>up b _ e λz=>by rw[z,hT] at e;cases e) (λb u v e=>up b _ e λz=>by rw[z,hT] at e;cases e) (λb pz e=>?_) (λm hn=>(hn.extBut hx (nT _ I.free)).push _) ?_ I.bare
 ·rw[Ad (nf b u e).2,Ad (nf b u e).1,Ad (nT b n)];exact n
 ·by_cases z:b=T
  ·exact⟨_,z ▸ Ud _ qT⟩
  ·exact⟨u,kp b u z e⟩
 ·by_cases z:b=T
  ·subst z;rw[hT] at e;cases e;refine⟨ps,?_⟩;rw[Ad (nH b _ hT).2,Ad (nH b _ hT).1,Ab];simp
  ·exact⟨#[],by rw[up b _ e z];simp⟩
 ·intro b u e;by_cases z1:b=h'.objs.size
  ·subst z1;rw[Ab] at e;cases e;exact⟨⟨o,ar.get?_push_size _ iR,ho⟩,⟨o,ar.get?_push_size _ iR⟩,Xdg⟩
  ·rw[Ad z1] at e;by_cases z2:b=c
   ·subst z2;rw[Ab] at e;cases e;obtain⟨c1,oc,vs,t,e1,kK,r⟩:=nO;cases e1;exact⟨⟨b,oc,vs,t,rfl,Ud _ kK,r⟩,⟨oc,Ud _ kK⟩,Xkw⟩
   ·rw[Ad z2] at e;by_cases z3:b=T
    ·subst z3;rw[Ab] at e;cases e;exact Ud _ qT
    ·rw[Ad z3] at e;refine(I.hok b u e).stay (λd v hd g=>kp d v ?_ g) (λd g=>up d _ g λz=>by rw[z,hT] at g;cases g) λd xs g=>up d _ g λz=>by rw[z,hT] at g;cases g
     rcases hd with rfl | hd
     ·exact z3
     ·intro z;rw[z,hT] at hd;cases hd
def Xk0(nP:BmOk X.mg X.base)(vp:defaultsOf params X.env=([],[]))(iH:kX scope X.env=pure [])(m4:X.env.code = .ref c0)(hhd:LA X.K c0 T=true)(hq:X.env.qual ++ "<lambda>" = q):
  PE X (.Lambda params body scope pos) (tLam T q params body scope pos):=by
 intro pins s Z H Q I h;obtain⟨tab,k⟩:=h;obtain⟨bm,ob,b1,b2,b3,b4,b5,b6⟩:=nP;have hg:s.heap.Ns au X.mg:=I.mod.glob.keeps I.bk;have C:PySem.W.CodeHd s.heap c0 T:=LO I.kIn hhd;have nb:bm≠T:=λz=>by
  have n:=(I.bs bm ob b3).2;rw[z] at n;rcases tab with e | ⟨c,e,_⟩<;>(rw[e] at n;cases n)
 have BQ:bm≠au:=λz=>by
  obtain⟨o,es,ep,e,hd,_⟩:=I.mod.glob;rw[z,e] at b3;cases b3;rw[hd] at b6;cases b6
 have hB:s.heap.BuiltinsAt X.mg T:=⟨bm,ob,b1,b2,BQ,nb,I.bk _ _ b3,b4,b5,b6⟩;refine PySem.W.kla_eval vp ?_;rw[hq];rcases tab with e | ⟨c,e,ec⟩
 ·have hP:s.heap.get? T=some (LB #[]):=I.hok T _ e;have BR:au≠T:=λz=>by
   obtain⟨o,es,ep,e2,hd,_⟩:=hg;rw[z,hP] at e2;cases e2;cases hd
  refine PySem.W.kla_makeFunction (mg:=X.mg) (clos:=[]) iH I.ok.glob hg m4 C hP trivial rfl BR hB λc' iX h' tk hx oV bo nO vo=>?_;have J:=Xkz (tk:=tk) (o:=PySem.W.kla_obj "<lambda>" q params body scope [] ((X.mg "__name__").getD .none) c' iX) I e hx oV bo nO vo rfl rfl;have tJ:∀b o,H b=some o->b<c':=λb o eb=>Pg (I.hok.lt eb) oV;have BS:c'≠T:=(O6 (tJ _ _ e)).symm;have yw:c'≠h'.objs.size:=O6 bo;have BU:T≠h'.objs.size:=O6 (Rx (tJ _ _ e) bo);refine⟨.ref h'.objs.size,_,J,rfl,k _ c' _ iX _ (I.hok.fresh (Si (Te oV bo))) Ab (by rw[Ad yw,Ab]) (.inr ⟨c',by rw[Ad BU,Ad BS.symm,Ab],by rw[Ad yw,Ab]⟩) λb o eb nb=>?_⟩;rw[Ad (O6 (Rx (tJ _ _ eb) bo)),Ad (O6 (tJ _ _ eb)),Ad nb];exact eb
 ·have hP:s.heap.get? T=some (LB #[be pos.line,be pos.col,.ref c]):=I.hok T _ e;refine PySem.W.kla_makeFunctionHit (mg:=X.mg) (clos:=[]) (cv:=.ref c) iH I.ok.glob hg m4 C hP trivial (by simp[codeAmong,be]) hB λiX h' tk hk hsz=>?_;have J:=Xky (tk:=tk) (fd:=LF "<lambda>" q params body scope [] ((X.mg "__name__").getD .none) (.ref c) iX) (o:={cls:=.type "function",data:=.func (LF "<lambda>" q params body scope [] ((X.mg "__name__").getD .none) (.ref c) iX)}) I hk hsz rfl rfl;have nf:∀b o,H b=some o->b≠h'.objs.size:=λb o eb=>O6 (Pg (I.hok.lt eb) hsz);refine⟨.ref h'.objs.size,_,J,rfl,k _ c _ iX _ (I.hok.fresh hsz) Ab (by rw[Ad (nf _ _ ec)];exact ec) (.inr ⟨c,by rw[Ad (nf _ _ e)];exact e,by rw[Ad (nf _ _ ec)];exact ec⟩) λb o eb _=>?_⟩;rw[Ad (nf b o eb)];exact eb
end
end L2
namespace SH
open L2
structure Bl (mg:aq->Option aa):Prop where
 len:mg "len" = none
 range:mg "range" = none
 list:mg "list" = none
 min:mg "min" = none
 isi:mg "isinstance" = none
 all:mg "all" = none
 str:mg "str" = none
 val:mg "ValueError" = none
 sorted:mg "sorted" = none
 set:mg "set" = none
 enum:mg "enumerate" = none
 int:mg "int" = none
 bool:mg "bool" = none
 tuple:mg "tuple" = none
 any:mg "any" = none
 dict:mg "dict" = none
 sum:mg "sum" = none
 max:mg "max" = none
structure DrawOk (H:Hp) (dr sc:ae):Prop where
 ex:∃(ns:List Int) (p:Nat) (c m k:Int),H dr=some (.lst [.ref sc,.int p,.int c,.int m,.int k])/\H sc=some (.lst (ns.map V.int))/\p<=ns.length/\ns.length<=63/\0<=m/\m<1000000007
def Xdh (K:KQ):Sp:=λvs H Q _=>∃(a:ae) (ns:List Int),vs=[.ref a]/\SqL K H a (ns.map V.int)/\ns.length<=63/\∀dr sc H',H dr=none->H sc=none->DrawOk H' dr sc->Same H H'->Q (.ref dr) H'
def Xdi:Sp:=λvs H Q _=>∃(dr sc:ae) (n:Int),vs=[.ref dr,.int n]/\0<n/\n<=1000/\DrawOk H dr sc /\
 ∀r H',0<=r->r<n->DrawOk H' dr sc->(∀b o,H b=some o->b≠dr->H' b=some o)->Q (.int r) H'
abbrev NP:Za:=["_law_draw", "_law_many", "_law_cell", "_law_got"]
def D5 (H:Hp) (dr sc:ae) (ns:List Int) (p:Nat) (c m k:Int):Prop:=H dr=some (.lst [.ref sc,.int p,.int c,.int m,.int k])/\H sc=some (.lst (ns.map V.int))
def cpow3(h0:0<=m)(h1:m<1000000007):CPow m 3:=⟨by decide,by decide,by lia⟩
def E3 (row:Za) (x:aq) (a b:Nat):Za:=row.take a++[x]++(row.drop a).take (b - a)++[x]++row.drop b
def Xdj(row)(x)(a b)(fu:a<=b):(E3 row x a b).Perm (x::x::row):=by
 unfold E3;have e:row=row.take a++((row.drop a).take (b - a)++row.drop b):=by
  have e1:row.drop b=(row.drop a).drop (b - a):=by rw[List.drop_drop];congr 1;lia
  rw[e1,Pi,Pi]
 generalize hA:row.take a=A at *;generalize hB:(row.drop a).take (b - a)=B at *;generalize hC:row.drop b=C at *;rw[e];have p1:(A++[x]++B++[x]++C).Perm (x::(A++B++[x]++C)):=by
  have:A++[x]++B++[x]++C=A++x::(B++[x]++C):=by simp
  rw[this];refine R1.trans ?_;simp
 refine p1.trans (List.Perm.cons x ?_);have:A++B++[x]++C=(A++B)++x::C:=by simp
 rw[this];refine R1.trans ?_;simp
def Xdk:Sp:=λvs H Q _=>∃(r:ae) (row:Za) (x:aq) (a b:Nat),vs=[.ref r,.str x,.int a,.int b]/\H r=some (.lst (row.map V.str))/\row.length<=1000/\a<=b/\b<=row.length /\
 ∀l H',H l=none->H' l=some (.lst ((E3 row x a b).map V.str))->Same H H'->Q (.ref l) H'
abbrev NPut:Za:=["_law_row_here", "_law_name", "_law_at", "_law_to", "_law_told"]
def A4 (x:aq):Nat->Za->List Int
 | _,[]=>[]
 | n,y::r=>if y=x then (n:Int)::A4 x (n+1) r else A4 x (n+1) r
def plc (row:Za) (x:aq):List Int:=A4 x 0 row
theorem Xdl(x y):∀n r,A4 x n (r++[y])=A4 x n r++(if y=x then [((n+r.length:Nat):Int)] else [])
 | n,[]=>by
  show (if y=x then ((n:Nat):Int)::A4 x (n+1) [] else A4 x (n+1) [])=_;split<;>simp[A4]
 | n,z::r=>by
  have ih:=Xdl x y (n+1) r;show (if z=x then (n:Int)::A4 x (n+1) (r++[y]) else A4 x (n+1) (r++[y]))=(if z=x then (n:Int)::A4 x (n+1) r else A4 x (n+1) r)++_;rw[ih,Pj,show n+1+r.length=n+(r.length+1) by lia];split<;>simp
theorem J8(x):∀n r,(A4 x n r).length=r.count x
 | _,[]=>rfl
 | n,z::r=>by
  show (if z=x then (n:Int)::A4 x (n+1) r else A4 x (n+1) r).length=_;rw[List.count_cons];split
  ·rename_i e;rw[Pj,J8,T7 (by simpa using e)]
  ·rename_i e;rw[J8,T6 (by simpa using e)];rfl
def Nc(row)(x):(plc row x).length=row.count x:=J8 x 0 row
def Nd(r)(x y):plc (r++[y]) x=plc r x++(if y=x then [(r.length:Int)] else []):=by
 have e:=Xdl x y 0 r;rw[Qy] at e;exact e
structure Wh (H:Hp) (kvs:List (Key×V)) (row:Za):Prop where
 keys:∀k∈kvs.map (·.1),∃x,k=Sum.inr x/\x∈row
 val:∀x∈row,∃l,Av kvs (Sum.inr x:Key)=some (.ref l)/\H l=some (.lst ((plc row x).map V.int))
 none:∀x,x∉row->Av kvs (Sum.inr x:Key)=none
 nd:(kvs.map (·.1)).Nodup
 len:kvs.length<=row.length
def Xdm  {k:Key}  (h:Av kvs k=some l):(Bj kvs k v).map (·.1)=kvs.map (·.1):=by
 unfold Bj;rw[Et,h,T7 Td,P4];refine Qm λp _=>?_;show (if p.1=k then (p.1,v) else p).1=p.1;split<;>rfl
def Wh.snoc   (w:Wh H kvs row) (y) (l) (hl:H' l=some (.lst ((plc (row++[y]) y).map V.int)))
  (s:∀b xs,H b=some (.lst xs)->H' b=some (.lst xs)):Wh H' (Bj kvs (Sum.inr y) (.ref l)) (row++[y]):=by
 refine⟨λk hk=>?_,λx hx=>?_,λx hx=>?_,?_,?_⟩
 ·by_cases hy:y∈row
  ·obtain⟨l0,e,_⟩:=w.val y hy;rw[Xdm e] at hk;obtain⟨x,e1,e2⟩:=w.keys k hk;exact⟨x,e1,Qc _ e2⟩
  ·rw[Jr _ (w.none y hy),O9] at hk;rcases O5.mp hk with hk | hk
   ·obtain⟨x,e1,e2⟩:=w.keys k hk;exact⟨x,e1,Qc _ e2⟩
   ·exact⟨y,by simpa using hk,by simp⟩
 ·rw[Jp];by_cases e:x=y
  ·subst e;exact⟨l,T7 rfl,hl⟩
  ·have kh:x∈row:=by
    rcases O5.mp hx with z | z
    ·exact z
    ·exact absurd (Oz.mp z) e
   obtain⟨l0,e1,e2⟩:=w.val x kh;refine⟨l0,by rw[T6 (λz=>e (Rq z))];exact e1,?_⟩;rw[Nd,T6 (λz=>e z.symm),P3];exact s _ _ e2
 ·rw[Jp];have h1:x∉row:=λz=>hx (Qc _ z);have h2:x≠y:=λz=>hx (by rw[z];simp);rw[T6 (λz=>h2 (Rq z))];exact w.none x h1
 ·by_cases hy:y∈row
  ·obtain⟨l0,e,_⟩:=w.val y hy;rw[Xdm e];exact w.nd
  ·exact Xik _ w.nd (w.none y hy)
 ·have:=Jq kvs (Sum.inr y:Key) (.ref l);have:=w.len;rw[O2,P9]
  lia
def Nf:Sp:=λvs H Q _=>∃(r:ae) (row:Za),vs=[.ref r]/\H r=some (.lst (row.map V.str))/\row.length<=1000 /\
 ∀d kvs H',H d=none->H' d=some (.dK kvs)->Wh H' kvs row->Same H H'->Q (.ref d) H'
abbrev NWh:Za:=["_law_row_here", "_law_told", "_law_at"]
def inn (a b:Int) (ys:List Int):List Int:=ys.filter λt=>decide (a<t)&&decide (t<b)
def Ng(a b)(ys):(inn a b ys).length<=ys.length:=P1 ..
def words3:Za:=["same", "cross", "around"]
def Dy (a b c e:Int) (same:Bool):aq:=
 if (same||decide (0<(inn a b [c,e]).length))=true then words3.getD (inn a b [c,e]).length "apart" else if c<a/\b<e then "within" else "apart"
def spWord:Sp:=λvs H Q _=>∃(d l1 l2:ae) (kvs:List (Key×V)) (x y:aq) (a b c e:Int),vs=[.ref d,.str x,.str y]/\Rd H d (.dK kvs)/\Av kvs (Sum.inr x:Key)=some (.ref l1)/\Av kvs (Sum.inr y:Key)=some (.ref l2) /\
 H l1=some (.lst [.int a,.int b])/\H l2=some (.lst [.int c,.int e])/\∀H',Same H H'->Q (.str (Dy a b c e (decide (x=y)))) H'
abbrev NWo:Za:=["_law_where_here", "_law_one", "_law_other", "_law_low", "_law_high", "_law_inner"]
def Rd.same   (r:Rd H d o) (s:Same H H'):Rd H' d o:=by
 rcases r with r | ⟨u,r⟩
 ·exact .inl (s _ _ r)
 ·exact .inr ⟨u,s _ _ r⟩
def DGet.rd     (e:Rd H a (.dK kvs)) (h:Av kvs (Sum.inr x:Key)=some v):DGet H a (.str x) (some v):=.inl ⟨kvs,Sum.inr x,e,rfl,h.symm⟩
def Xk1  (h:row.count x=2):∃a b,plc row x=[a,b]:=by
 have e:=Nc row x;rw[h] at e
 match q:plc row x,e with
 | [a,b],_=>exact⟨a,b,rfl⟩
abbrev NBa:Za:=["_law_row_here", "_law_name", "_law_where_here", "_law_met", "_law_at", "_law_other"]
abbrev NBc:Za:=["_law_one", "_law_name", "_law_where_here"]
abbrev Fz:aq := "kqvzbdgmprtxhnjfwlycsaeiou"
def signOf (i:Nat):aq:=⟨#[(Fz.cps.toList).getD i 0]⟩
def Ie (st:Nat) (aX:Bool) (k:Nat):aq:=
 if aX=true then (repS "m" ((st+k * k) % 7)++signOf ((st+k) % 26)) ++ "y" else signOf ((st+k) % 26)++repS "m" ((st+k * k) % 7)
def Bd (st:Nat) (aX:Bool) (n:Nat):Za:=(List.range n).map (Ie st aX)
def Xk2:∀st<26,∀aX:Bool,(Bd st aX 14).Nodup:=by decide +kernel
def Nh{st}  (hs:st<26)(hn:n<=14):(Bd st aX n).Nodup:=by
 refine(Xk2 st hs aX).sublist ?_;unfold Bd;refine List.Sublist.map _ ?_;have e:List.range 14=List.range n++(List.range (14 - n)).map (n + ·):=by
  rw[<-List.range_add];congr 1
  lia
 rw[e];exact List.sublist_append_left ..
def But (dr:ae) (H H':Hp):Prop:=∀b o,H b=some o->b≠dr->H' b=some o
def But.trans  (a:But dr H H1) (b:But dr H1 H2):But dr H H2:=λc o e h=>b c o (a c o e h) h
def But.same  (a:But dr H H1) (b:Same H1 H2):But dr H H2:=λc o e h=>b c o (a c o e h)
def But.free   (a:But dr H H') (hd:H' dr=some o) (h:H' b=none):H b=none:=by
 cases q:H b with
 | none=>rfl
 | some u=>
  by_cases e:b=dr
  ·rw[e,hd] at h;cases h
  ·rw[a b u q e] at h;cases h
def But.upd{dr a}{H H'}{o}(x:But dr H H')(h:H a=none):But dr H (L2.upd H' a o):=λb u e hb=>by
 rw[Ad (Au e h)];exact x b u e hb
def DrawOk.at{H}(d:DrawOk H dr sc):∃xs,H dr=some (.lst xs):=let ⟨_,_,_,_,_,h,_⟩:=d.ex; ⟨_,h⟩
def DrawOk.same  (d:DrawOk H dr sc) (s:Same H H'):DrawOk H' dr sc:=
 let ⟨ns,p,c,m,k,h1,h2,r⟩:=d.ex; ⟨ns,p,c,m,k,s _ _ h1,s _ _ h2,r⟩
def DrawOk.upd{H}{dr sc a}{o}(d:DrawOk H dr sc)(h1:a≠dr)(h2:a≠sc):DrawOk (L2.upd H a o) dr sc:=
 let ⟨ns,p,c,m,k,e1,e2,r⟩:=d.ex; ⟨ns,p,c,m,k,by rw[Ad h1.symm];exact e1,by rw[Ad h2.symm];exact e2,r⟩
def DrawOk.ne  (d:DrawOk H dr sc) (h:H a=none):a≠dr/\a≠sc:=by
 obtain⟨ns,p,c,m,k,e1,e2,r⟩:=d.ex;exact⟨(Au e1 h).symm,(Au e2 h).symm⟩
def Xdn:Sp:=λvs H Q _=>∃(dr sc:ae) (n:Nat),vs=[.ref dr,.int n]/\n<=14/\DrawOk H dr sc /\
 ∀l st aX H',H l=none->st<26->H' l=some (.lst ((Bd st aX n).map V.str))->l≠sc->DrawOk H' dr sc->But dr H H'->Q (.ref l) H'
abbrev FnPick (P:av) (w:a8) (K:KQ) (mg:aq->Option aa) (base:ar):Prop:=Fn P w K mg base CX0 1 "_law_pick" ["_law_draw", "_law_many"] Xdi
abbrev NNa:Za:=["_law_draw", "_law_many", "_law_base", "_law_start", "_law_late", "_law_told", "_law_k", "_law_sign", "_law_hum"]
def Xk3{i:Nat}(h:i<26):atI Fz.cps.toList (i:Int)=some ((Fz.cps.toList).getD i 0):=by
 have hl:i<Fz.cps.toList.length:=h;refine Du ?_;rw[Ox hl];simp[List.getD,Ox hl]
def Gm(h:l.Nodup){row:Za}(p:row.Perm (l++l)):∀y∈row,row.count y=2:=λy hy=>by
 rw[p.count_eq,Qz];have fS:y∈l:=by
  rcases O5.mp (p.mem_iff.mp hy) with z | z
  ·exact z
  ·exact z
 have e1:l.count y<=1:=List.nodup_iff_count.mp h y;have e2:0<l.count y:=R4.mpr fS
 lia
def Xdo{A row bS:Za}(p:row.Perm (A++A))(q:bS.Perm (x::x::row)):bS.Perm ((A++[x])++(A++[x])):=by
 refine q.trans (((p.cons x).cons x).trans ?_);have e:(A++[x])++(A++[x])=A++x::(A++x::[]):=by simp
 rw[e];refine List.Perm.trans ?_ R1.symm;refine List.Perm.cons x ?_;have e2:A++(A++x::[])=(A++A)++x::[]:=by simp
 rw[e2];refine List.Perm.trans ?_ R1.symm;simp
abbrev NRo:Za:=["_law_draw", "_law_names_here", "_law_cut", "_law_row_here", "_law_name", "_law_at", "_law_to", "_law_more"]
def Xq6:Sp:=λvs H Q _=>∃(dr sc:ae) (m:Nat),vs=[.ref dr,.int m]/\m<=14/\DrawOk H dr sc /\
 ∀(l:ae) (row:Za) (n st:Nat) (aX:Bool) (H':Hp),H l=none->n<=m->st<26->H' l=some (.lst (row.map V.str))->row.Perm (Bd st aX n++Bd st aX n)->DrawOk H' dr sc->But dr H H'->Q (.ref l) H'
abbrev NIs:Za:=["_law_draw", "_law_most", "_law_few", "_law_many"]
def Ni(K)(T):KZ K (.type T) (.type T)=some true:=by
 unfold KZ;rw[T7 (beq_self_eq_true _)]
def Nj(row)(x):((List.range row.length).filter λi=>decide (row.getD i aq.empty=x)).map (λi:Nat=>(i:Int))=plc row x:=by
 have go:∀n,n<=row.length->((List.range n).filter λi=>decide (row.getD i aq.empty=x)).map (λi:Nat=>(i:Int))=plc (row.take n) x:=by
  intro n
  induction n with
  | zero=>intro _;rfl
  | succ n ih=>
   intro h;have hn:n<row.length:=by lia
   have e:row.getD n aq.empty=row[n]:=by simp[List.getD,hn]
   rw[Qa,Pm,O9,ih (by lia),Pk hn,Nd,P6,e,Pc,Rg (by lia)];by_cases q:row[n]=x
   ·rw[T7 q,T7 (T8 q)];rfl
   ·rw[T6 q,T6 (by simpa using q)];rfl
 rw[go _ (Oy _),Qo]
def okN (x:aq):Prop:=x.length<=20/\∀c∈x.cps.toList,c<0x110000
def Xdp (C:ae):Sp:=λvs H Q E=>∃(r:ae) (row:Za) (x:aq),vs=[.ref r,.str x]/\H r=some (.lst (row.map V.str))/\okN x /\
 (x∈row->∀H',Same H H'->Q .non H')/\(x∉row->∀H',Same H H'->E (.ref C) none H')
def spDitches:Sp:=λvs H Q _=>∃(r:ae) (row:Za),vs=[.ref r]/\H r=some (.lst (row.map V.str))/\row.length<=60 /\
 ∀l H',H l=none->H' l=some (.lst ((dit row).map V.str))->Same H H'->Q (.ref l) H'
def Xdq (C:ae):Sp:=λvs H Q E=>∃(r:ae) (row:Za) (x:aq),vs=[.ref r,.str x]/\H r=some (.lst (row.map V.str))/\okN x/\row.length<=1000 /\
 (x∈row->∃a b,plc row x=[a,b]/\∀l H',H l=none->H' l=some (.tup [.int a,.int b])->Same H H'->Q (.ref l) H')/\(x∉row->∀H',Same H H'->E (.ref C) none H')
abbrev NEn:Za:=["row", "name", "found"]
abbrev NEc:Za:=["at", "end", "name"]
end SH
namespace L2
def F0(x y):decide (V.str x=V.str y)=decide (x=y):=by
 by_cases z:x=y
 ·rw[z];simp
 ·rw[T9 z,T9 (λq=>z (by injection q))]
def Xdr(x y):decide (V.int x=V.int y)=decide (x=y):=by
 by_cases z:x=y
 ·rw[z];simp
 ·rw[T9 z,T9 (λq=>z (by injection q))]
def J9(row:Za):∀v∈row.map V.str,B2 v=true:=λv h=>by
 obtain⟨x,_,rfl⟩:=Pq.mp h;rfl
def Bv{α : Type}(f : α->V)(d : α)(xs:List α)(hi:i<xs.length):(xs.map f).getD i .non=f (xs.getD i d):=by simp[List.getD,hi]
def Xk4{α : Type}(f : α->V)(d : α)(xs:List α)(hi:i<xs.length):atI (xs.map f) (i:Int)=some (f (xs.getD i d)):=by
 refine Du ?_;rw[Pf,Ox hi];simp[List.getD,hi]
end L2
namespace SH
open L2
def Wh.names   (w:Wh H kvs row):∃ss:Za,kvs.map (·.1)=ss.map (λx=>(Sum.inr x:Key))/\ss.Nodup/\∀x,x∈ss↔x∈row:=by
 have e:∀ks:List Key,(∀k∈ks,∃x,k=Sum.inr x)->∃ss:Za,ks=ss.map (λx=>(Sum.inr x:Key)):=by
  intro ks
  induction ks with
  | nil=>intro _;exact⟨[],rfl⟩
  | cons k r ih=>
   intro h;obtain⟨x,rfl⟩:=h k O3;obtain⟨ss,rfl⟩:=ih λk hk=>h k (O4 _ hk);exact⟨x::ss,rfl⟩
 obtain⟨ss,hs⟩:=e (kvs.map (·.1)) λk hk=>let ⟨x,h,_⟩:=w.keys k hk; ⟨x,h⟩;have inj:∀x,x∈ss↔(Sum.inr x:Key)∈kvs.map (·.1):=λx=>by
  rw[hs,Pq];constructor
  ·exact λh=>⟨x,h,rfl⟩
  ·rintro ⟨y,hy,e⟩;rw[<-Rq e];exact hy
 refine⟨ss,hs,?_,λx=>?_⟩
 ·have:=w.nd;rw[hs] at this;exact List.Pairwise.of_map _ (λa b fu e=>fu (congrArg _ e)) this
 ·rw[inj];constructor
  ·intro h;obtain⟨y,e,hy⟩:=w.keys _ h;rw[Rq e];exact hy
  ·intro h;obtain⟨l,e,_⟩:=w.val x h;exact Hi e
structure Isl (row:Za):Prop where
 ex:∃n st aX,n<=14/\st<26/\row.Perm (Bd st aX n++Bd st aX n)
def Xds{st n}  (hn:n<=14)(h:x∈Bd st aX n):x∈Bd st aX 14:=by
 unfold Bd at h ⊢;obtain⟨i,hi,rfl⟩:=Pq.mp h;exact Pq.mpr ⟨i,Qb.mpr (by have:=Qb.mp hi;lia),rfl⟩
instance (x:aq):Decidable (okN x):=inferInstanceAs (Decidable (_/\_))
def Xk5:∀st<26,∀aX:Bool,∀x∈Bd st aX 14,okN x:=by decide +kernel
def Isl.two(h:Isl row):∀y∈row,row.count y=2:=by
 obtain⟨n,st,aX,hn,hs,p⟩:=h.ex;exact Gm (Nh hs hn) p
def Isl.len(h:Isl row):row.length<=28:=by
 obtain⟨n,st,aX,hn,hs,p⟩:=h.ex;have:=p.length_eq;unfold Bd at this;simp at this
 lia
def Isl.ok(h:Isl row):∀y∈row,okN y:=λy hy=>by
 obtain⟨n,st,aX,hn,hs,p⟩:=h.ex;refine Xk5 st hs aX y (Xds hn ?_);rcases O5.mp (p.mem_iff.mp hy) with z | z<;>exact z
def Gn:Za->aq
 | [] => "noneatal"
 | y::_=>Txt.slice y none (some 7)++aq.ofString "q"
def stranger14:∀st<26,∀aX:Bool,∀y∈Bd st aX 14,okN (Txt.slice y none (some 7)++aq.ofString "q")/\Txt.slice y none (some 7)++aq.ofString "q" ∉ Bd st aX 14:=by decide +kernel
def Isl.stranger(h:Isl row):okN (Gn row)/\Gn row∉row:=by
 cases row with
 | nil=>exact⟨by decide +kernel,by simp⟩
 | cons y r=>
  obtain⟨n,st,aX,hn,hs,p⟩:=h.ex;have sub:∀z∈y::r,z∈Bd st aX 14:=λz hz=>Xds hn (by rcases O5.mp (p.mem_iff.mp hz) with q | q<;>exact q);obtain⟨h1,h2⟩:=stranger14 st hs aX y (sub y O3);exact⟨h1,λz=>h2 (sub _ z)⟩
def Xk6(h:okN x):Ce (.str x)=true:=by
 show ao.strOk x=true;unfold ao.strOk;rw[<-Array.all_toList,Po];intro c hc;exact T8 (h.2 c hc)
def E4   : i∈plc row x ↔ ∃k:Nat,i=k/\row[k]? = some x:=by
 rw[<-Nj,Pq];constructor
 ·rintro ⟨k,hk,rfl⟩;obtain⟨h1,h2⟩:=O7.mp hk;have gQ:=Qb.mp h1;refine⟨k,rfl,?_⟩;have:=Ua h2;rw[Ox gQ];simpa [List.getD,gQ] using this
 ·rintro ⟨k,rfl,hk⟩;have gQ:k<row.length:=(O8.mp hk).1;refine⟨k,O7.mpr ⟨Qb.mpr gQ,T8 ?_⟩,rfl⟩;simp[List.getD,hk]
def Xk7(row)(x):(plc row x).Pairwise (· < ·):=by
 rw[<-Nj,Se];refine List.Pairwise.imp ?_ (List.Pairwise.filter _ (List.pairwise_lt_range (n:=row.length)));intro a b h
 lia
def pl (row:Za) (x:aq):Int×Int:=((plc row x).getD 0 0,(plc row x).getD 1 0)
def Xdt   (h:plc row x=[a,b]):pl row x=(a,b):=by
 unfold pl;rw[h];rfl
def Da  (h:row.count x=2):plc row x=[(pl row x).1,(pl row x).2]:=by
 obtain⟨a,b,e⟩:=Xk1 h;rw[Xdt e,e]
def Bs  (h:row.count x=2):(pl row x).1<(pl row x).2:=by
 have h1:=Xk7 row x;rw[Da h] at h1;simpa using h1
def El  (hx:row.count x=2) (hy:row.count y=2) (n:x≠y):(pl row x).1≠(pl row y).1/\(pl row x).1≠(pl row y).2/\(pl row x).2≠(pl row y).1/\(pl row x).2≠(pl row y).2:=by
 have cT:∀i,i∈plc row x->i∈plc row y->False:=λi h1 h2=>by
  obtain⟨k,e1,g1⟩:=E4.mp h1;obtain⟨m,e2,g2⟩:=E4.mp h2;have:k=m:=by lia
  subst this;rw[g1] at g2;exact n (Pd g2)
 rw[Da hx,Da hy] at cT;refine⟨λe=>cT (pl row x).1 (by simp) (by rw[e];simp),λe=>cT (pl row x).1 (by simp) (by rw[e];simp),λe=>cT (pl row x).2 (by simp) (by rw[e];simp),λe=>cT (pl row x).2 (by simp) (by rw[e];simp)⟩
def Xdu  (h:row.count x=2):0<=(pl row x).1/\(pl row x).2<row.length:=by
 have h1:(pl row x).1∈plc row x:=by rw[Da h];simp
 have h2:(pl row x).2∈plc row x:=by rw[Da h];simp
 obtain⟨k,e1,g1⟩:=E4.mp h1;obtain⟨m,e2,g2⟩:=E4.mp h2;have:m<row.length:=(O8.mp g2).1
 lia
def nIn (a b:Int) (ys:List Int):Nat:=(inn a b ys).length
def Be(a b c e):nIn a b [c,e]=(if a<c/\c<b then 1 else 0)+(if a<e/\e<b then 1 else 0):=by
 unfold nIn inn;simp only[P6,S9,Pa,decide_eq_true_eq];split<;>split<;>rfl
def lieT (a b c e:Int):aq:=if a=c/\b=e then "same" else if nIn c e [a,b]=1 then "cross" else if nIn c e [a,b]=2 then "within" else if nIn a b [c,e]=2 then "around" else "apart"
def Xk8(h1:a<b)(h2:c<e)(n1:a≠c)(n2:a≠e)(n3:b≠c)(n4:b≠e):lieT a b c e=Dy a b c e false:=by
  unfold lieT Dy;rw[T6 (λz=>n1 z.1)];have e1:=Be a b c e;have e2:=Be c e a b;have e3:(inn a b [c,e]).length=nIn a b [c,e]:=rfl;rw[e3];generalize nIn a b [c,e]=p at *;generalize nIn c e [a,b]=q at *;by_cases p1:a<c/\c<b<;>by_cases p2:a<e/\e<b<;>by_cases q1:c<a/\a<e<;>by_cases q2:c<b/\b<e <;>
    (first | rw[T7 p1] at e1 | rw[T6 p1] at e1)<;>(first | rw[T7 p2] at e1 | rw[T6 p2] at e1) <;>
    (first | rw[T7 q1] at e2 | rw[T6 q1] at e2)<;>(first | rw[T7 q2] at e2 | rw[T6 q2] at e2)<;>subst e1 e2<;>first
    | (exfalso;lia)
    | rfl
    | (have hw:(c<a/\b<e):=by lia
       rw[T7 hw];rfl)
    | (have hw:¬(c<a/\b<e):=by lia
       rw[T6 hw];rfl)
def Xk9:lieT a b a b=Dy a b a b true:=by
 unfold lieT Dy;rw[T7 ⟨rfl,rfl⟩,Bool.true_or,T7 rfl];have e1:=Be a b a b;have e3:(inn a b [a,b]).length=nIn a b [a,b]:=rfl;rw[e3,e1,T6 (by lia),T6 (by lia)];rfl
def lieR (row:Za) (x y:aq):aq:=lieT (pl row x).1 (pl row x).2 (pl row y).1 (pl row y).2
def Gp  (hx:row.count x=2) (hy:row.count y=2):lieR row x y=Dy (pl row x).1 (pl row x).2 (pl row y).1 (pl row y).2 (decide (x=y)):=by
 unfold lieR;by_cases n:x=y
 ·subst n;rw[T8 rfl];exact Xk9
 ·rw[T9 n];obtain⟨n1,n2,n3,n4⟩:=El hx hy n;exact Xk8 (Bs hx) (Bs hy) n1 n2 n3 n4
def crs (row:Za):List (aq×aq):=(dit row).flatMap λx=>((dit row).filter λy=>decide (ltS x y)&&decide (lieR row x y = "cross")).map λy=>(x,y)
def prD (p:aq×aq):ao:=.tuple [.str p.1,.str p.2]
structure Spn (H:Hp) (kvs:List (Key×V)) (row:Za) (ns:Za):Prop where
 keys:kvs.map (·.1)=ns.map (λx=>(Sum.inr x:Key))
 val:∀x∈ns,∃l,Av kvs (Sum.inr x:Key)=some (.ref l)/\H l=some (.tup [.int (pl row x).1,.int (pl row x).2])
def Spn.mono   (s:Spn H kvs row ns) (h:Same H H'):Spn H' kvs row ns:=⟨s.keys,λx hx=>let ⟨l,h1,h2⟩:=s.val x hx; ⟨l,h1,h _ _ h2⟩⟩
end SH
namespace L2
open PySem
def hu3  (hr:Room k A):A.units+3<bz:=by have:=hr.units;lia
end L2
namespace SH
open L2
structure Row2 (row:Za):Prop where
 two:∀y∈row,row.count y=2
 ok:∀y∈row,okN y
 len:row.length<=60
def Isl.row2(h:Isl row):Row2 row:=⟨h.two,h.ok,by have:=h.len;lia⟩
def spSpans:Sp:=λvs H Q _=>∃(r:ae) (row:Za),vs=[.ref r]/\H r=some (.lst (row.map V.str))/\Row2 row /\
 ∀d kvs H',H d=none->H' d=some (.dK kvs)->Spn H' kvs row (dit row)->Same H H'->Q (.ref d) H'
def Lie4 (a b c e:Int):Prop:=c<=e/\(b=e->a=c)
def lie4  (hx:row.count x=2) (hy:row.count y=2):Lie4 (pl row x).1 (pl row x).2 (pl row y).1 (pl row y).2:=
 ⟨Int.le_of_lt (Bs hy),λe=>by
  by_cases n:x=y
  ·rw[n]
  ·exact absurd e (El hx hy n).2.2.2⟩
def Xla(n:¬(a=c/\b=e))(h:((decide (c<a)&&decide (a<e))==(decide (c<b)&&decide (b<e)))=false):lieT a b c e = "cross" := by
 unfold lieT;rw[T6 n,T7];rw[Be];rw[<-Bool.decide_and,<-Bool.decide_and] at h;by_cases q1:c<a/\a<e<;>by_cases q2:c<b/\b<e<;>simp[q1,q2] at h ⊢
def Xlb(n:¬(a=c/\b=e))(h:((decide (c<a)&&decide (a<e))==(decide (c<b)&&decide (b<e)))=true)(h2:(decide (c<a)&&decide (a<e))=true):lieT a b c e = "within" := by
 unfold lieT;rw[h2,beq_iff_eq] at h;simp only[Pa,decide_eq_true_eq] at h2;have h3:c<b/\b<e:=by simpa using h.symm
 rw[T6 n,Be,T7 h2,T7 h3,T6 (by decide),T7 rfl]
def Xlc(l:Lie4 a b c e)(n:¬(a=c/\b=e))(h:((decide (c<a)&&decide (a<e))==(decide (c<b)&&decide (b<e)))=true)(h2:(decide (c<a)&&decide (a<e))=false):lieT a b c e=if (decide (a<c)&&decide (c<b))=true then "around" else "apart" := by
 unfold lieT;rw[h2,beq_iff_eq] at h;have h2:¬(c<a/\a<e):=λz=>by rw[T8 z.1,T8 z.2] at h2;cases h2
 have h3:¬(c<b/\b<e):=λz=>by rw[T8 z.1,T8 z.2] at h;cases h
 rw[T6 n,Be,T6 h2,T6 h3,T6 (by decide),T6 (by decide),Be];obtain⟨l1,l2⟩:=l;have cT:a<c/\c<b->a<e/\e<b:=λz=>by
  have:b≠e:=λq=>n ⟨l2 q,q⟩
  lia
 by_cases q:a<c/\c<b
 ·rw[T7 q,T7 (cT q),T7 rfl,T7 (by simp[q])]
 ·rw[T6 q,T6 (by split<;>decide),T6 (by simpa using q)]
def spLieOf:Sp:=λvs H Q _=>∃(p q:ae) (a b c e:Int),vs=[.ref p,.ref q]/\H p=some (.tup [.int a,.int b])/\H q=some (.tup [.int c,.int e])/\Lie4 a b c e/\∀H',Same H H'->Q (.str (lieT a b c e)) H'
def Nk    {x y z} (ha:∀Q':VK,Q' (.int x) H->ta Z H Q') (hb:∀Q':VK,Q' (.int y) H->tb Z H Q') (hc:∀Q':VK,Q' (.int z) H->tc Z H Q') (h:Q (.bl (decide (x<y)&&decide (y<z))) H):
  Ln (rI0 λi j=>.bl (decide (i<j))) (rI0 λi j=>.bl (decide (i<j))) ta tb tc Z H Q:=by
 refine ha _ (hb _ ⟨x,y,rfl,rfl,_,rfl,?_⟩);refine Aw (λq=>hc _ ⟨y,z,rfl,rfl,?_⟩) (λq=>?_)
 ·rw[q,Qp] at h;exact h
 ·rw[q,Qj] at h;exact h
def Xdv:Sp:=λvs H Q _=>∃(r:ae) (row:Za),vs=[.ref r]/\H r=some (.lst (row.map V.str))/\Row2 row /\
 ∀l xs H',H l=none->H' l=some (.lst xs)->DAll (hid l H') ((crs row).map prD) xs->Same H H'->Q (.ref l) H'
abbrev NSp:Za:=["name", "row"]
abbrev NLo:Za:=["here", "there", "first", "last"]
abbrev NCr:Za:=["row", "span"]
abbrev NCc:Za:=["one", "other", "span"]
def Spn.snoc     (s:Spn H kvs row ns) (nx:x∉ns) (h:H' l=some (.tup [.int (pl row x).1,.int (pl row x).2])) (k:∀b xs,H b=some (.tup xs)->H' b=some (.tup xs)):
  Spn H' (Bj kvs (Sum.inr x) (.ref l)) row (ns++[x]):=by
 have hn:Av kvs (Sum.inr x:Key)=none:=by
  cases e:Av kvs (Sum.inr x:Key) with
  | none=>rfl
  | some v=>
   exfalso;have:=Hi e;rw[s.keys] at this;obtain⟨y,hy,e2⟩:=Pq.mp this;rw[Rq e2] at hy;exact nx hy
 refine⟨by rw[Jr _ hn,O9,O9,s.keys];rfl,λy hy=>?_⟩;rw[Jp];by_cases e:y=x
 ·subst e;exact⟨l,T7 rfl,h⟩
 ·have fS:y∈ns:=by
   rcases O5.mp hy with z | z
   ·exact z
   ·exact absurd (Oz.mp z) e
  obtain⟨l0,h1,h2⟩:=s.val y fS;exact⟨l0,by rw[T6 (λz=>e (Rq z))];exact h1,k _ _ h2⟩
def Spn.get    {x} (s:Spn H kvs row ns) (hd:Rd H d (.dK kvs)) (hx:x∈ns):∃l,DGet H d (.str x) (some (.ref l))/\H l=some (.tup [.int (pl row x).1,.int (pl row x).2]):=by
 obtain⟨l,h1,h2⟩:=s.val x hx;exact⟨l,DGet.rd hd h1,h2⟩
def Spn.at{H}{kvs}(s:Spn H kvs row ns)(i)(hi:i<ns.length):(kvs.map λp=>kV p.1).getD i .non = .str (ns.getD i aq.empty):=by
 have e:(kvs.map λp=>kV p.1)=ns.map V.str:=by
  have:(kvs.map λp=>kV p.1)=(kvs.map (·.1)).map kV:=by rw[P4];rfl
  rw[this,s.keys,P4];rfl
 rw[e];exact Bv V.str aq.empty ns hi
def Spn.len   (s:Spn H kvs row ns):kvs.length=ns.length:=by
 have:=congrArg List.length s.keys;simpa using this
def C2{ns:Za}(hi:i<ns.length):ns.getD i aq.empty∈ns:=by
 have:ns.getD i aq.empty=ns[i]:=by simp[List.getD,hi]
 rw[this];exact Ps hi
def Wh.two'    (w:Wh H kvs row) (hx:x∈row) (h:row.count x=2):∃l,Av kvs (Sum.inr x:Key)=some (.ref l)/\H l=some (.lst [.int (pl row x).1,.int (pl row x).2]):=by
 obtain⟨l,h1,h2⟩:=w.val x hx;rw[Da h] at h2;exact⟨l,h1,h2⟩
theorem Ig:∀{ss:Za} {xs:List V},DAll H (ss.map ao.str) xs->xs=ss.map V.str
 | [],xs,h=>by unfold List.map DAll at h;exact h
 | s::ss,xs,h=>by
  rw[Pw] at h;unfold DAll at h;obtain⟨v,r,rfl,h1,h2⟩:=h;unfold DAt at h1;rw[h1,Ig h2];rfl
def Nl:Sp:=λvs H Q _=>∃(r:ae) (row:Za),vs=[.ref r]/\H r=some (.lst (row.map V.str))/\(∀y∈row,y.length<=20)/\∀H',Same H H'->Q (.str (Gn row)) H'
def spTuple:Sp:=λvs H Q _=>∃(v:V) (ss:Za),vs=[v]/\DAt H (.tuple (ss.map ao.str)) v/\ss.length<=1000/\∀H',Same H H'->Q (.bl true) H'
def B9 (gW:aq) (kt:Bool):Bool:=if gW = "within" then kt else (!decide (gW = "apart") || !kt)
def told (ss:Za):Za:=srt (ddup ss)
def An (row plot:Za):Bool:=decide (plot=told plot)&&plot.all (λx=>decide (x∈row))&&plot.all λx=>(dit row).all λy=>B9 (lieR row x y) (decide (y∈plot))
def trD (t:aq×aq×aq):ao:=.tuple [.str t.1,.str t.2.1,.str t.2.2]
def Cq (row:Za) (x y:aq):Bool:=decide (lieR row x y = "within")||(decide (lieR row x y = "apart")&&decide (ltS x y))
def bars (row:Za):List (aq×aq×aq):=(dit row).flatMap λx=>((dit row).filter (Cq row x)).map λy=>(x,y,lieR row x y)
def C3 (bs:List (aq×aq×aq)) (plot:Za):Bool:=bs.all λt => !(decide (t.1∈plot) && !decide (decide (t.2.1∈plot)=decide (t.2.2 = "within")))
def E5 (row plot:Za):Bool:=decide (plot=(dit row).filter λy=>decide (y∈plot))&&C3 (bars row) plot
def Xld(h1:a<b)(h2:c<e)(n1:a≠c)(n2:a≠e)(n3:b≠c)(n4:b≠e)(h:lieT a b c e = "apart"):lieT c e a b = "apart" := by
 unfold lieT at h ⊢;rw[T6 (λz=>n1 z.1)] at h;rw[T6 (λz=>n1 z.1.symm)];have e1:=Be a b c e;have e2:=Be c e a b;generalize nIn a b [c,e]=p at *;generalize nIn c e [a,b]=q at *;by_cases p1:a<c/\c<b<;>by_cases p2:a<e/\e<b<;>by_cases q1:c<a/\a<e<;>by_cases q2:c<b/\b<e <;>
  (first | rw[T7 p1] at e1 | rw[T6 p1] at e1)<;>(first | rw[T7 p2] at e1 | rw[T6 p2] at e1) <;>
  (first | rw[T7 q1] at e2 | rw[T6 q1] at e2)<;>(first | rw[T7 q2] at e2 | rw[T6 q2] at e2)<;>subst e1 e2<;>first
  | (exfalso;lia)
  | rfl
  | (exfalso;revert h;decide +kernel)
def Xle  (hx:row.count x=2) (hy:row.count y=2) (h:lieR row x y = "apart"):lieR row y x = "apart" := by
 by_cases n:x=y
 ·subst n;exact h
 ·obtain⟨n1,n2,n3,n4⟩:=El hx hy n;exact Xld (Bs hx) (Bs hy) n1 n2 n3 n4 h
def Ka(row)(x):lieR row x x = "same" := by
 unfold lieR lieT;rw[T7 ⟨rfl,rfl⟩]
def Gq{l:Za}(h:l.Pairwise ltS):l.Pairwise leS:=h.imp λh=>Xj3 h
def Bn{l:Za}(h:l.Pairwise ltS):l.Nodup:=h.imp λh=>Hs h
def Kb(h:l.Nodup):(ddup l).Perm l:=Fw (Ho l) h (Mq l)
def Kc(h:l.Pairwise ltS):told l=l:=Eh ((Ck _).trans (Kb (Bn h))) (Dv _) (Gq h)
def Nm(l):(told l).Pairwise ltS:=Cw l
def Xdw  : x∈told l↔x∈l:=Aj
def Nn:(plot=(dit row).filter λy=>decide (y∈plot))↔(plot=told plot/\∀x∈plot,x∈row):=by
 constructor
 ·intro h;have hp:plot.Pairwise ltS:=by
   rw[h];exact(Cw row).filter _
  refine⟨(Kc hp).symm,λx hx=>?_⟩;rw[h] at hx;exact Aj.mp (O7.mp hx).1
 ·rintro ⟨h1,h2⟩;have hp:plot.Pairwise ltS:=by rw[h1];exact Nm plot
  have hq:((dit row).filter λy=>decide (y∈plot)).Pairwise ltS:=(Cw row).filter _;refine Eh (Fw (Bn hp) (Bn hq) λx=>?_) (Gq hp) (Gq hq);rw[O7,decide_eq_true_eq,Aj];exact⟨λh=>⟨h2 x h,h⟩,λh=>h.2⟩
def Kd  : t∈bars row↔t.1∈row/\t.2.1∈row/\Cq row t.1 t.2.1=true/\t.2.2=lieR row t.1 t.2.1:=by
 unfold bars;rw[List.mem_flatMap];constructor
 ·rintro ⟨x,hx,h⟩;obtain⟨y,hy,rfl⟩:=Pq.mp h;obtain⟨h1,h2⟩:=O7.mp hy;exact⟨Aj.mp hx,Aj.mp h1,h2,rfl⟩
 ·rintro ⟨h1,h2,h3,h4⟩;refine⟨t.1,Aj.mpr h1,Pq.mpr ⟨t.2.1,O7.mpr ⟨Aj.mpr h2,h3⟩,?_⟩⟩;rw[<-h4]
def Ke(h:∀y∈row,row.count y=2):E5 row plot=An row plot:=by
 unfold E5 An;by_cases hp:plot=(dit row).filter λy=>decide (y∈plot)
 ·obtain⟨p1,p2⟩:=Nn.mp hp;have e1:plot.all (λx=>decide (x∈row))=true:=Po.mpr λx hx=>T8 (p2 x hx);rw[T8 hp,T8 p1,e1,Qp,Qp];show C3 (bars row) plot=(true&&_);rw[Qp,Qu];unfold C3;rw[Po,Po];constructor
  ·intro hf x hx;rw[Po];intro y hy;have nQ:=Aj.mp hy;unfold B9;by_cases hw:lieR row x y = "within"
   ·rw[T7 hw];have:=hf (x,y,lieR row x y) (Kd.mpr ⟨p2 x hx,nQ,by unfold Cq;rw[T8 hw];rfl,rfl⟩);simpa [hx,hw] using this
   ·rw[T6 hw];by_cases ha:lieR row x y = "apart"
    ·have eZ:x≠y:=λz=>by
      rw[z,Ka] at ha
      revert ha
      decide
     have yx:=Xle (h x (p2 x hx)) (h y nQ) ha;have cT:y∉plot:=λjG=>by
      rcases Mu x y with hle | hle
      ·have bo:=ltS_of hle eZ;have:=hf (x,y,lieR row x y) (Kd.mpr ⟨p2 x hx,nQ,by unfold Cq;rw[T8 ha,T8 bo,Sl,Tw],rfl⟩);rw[ha] at this;simp[hx,jG] at this
       revert this
       decide
      ·have bo:=ltS_of hle (λz=>eZ z.symm);have:=hf (y,x,lieR row y x) (Kd.mpr ⟨nQ,p2 x hx,by unfold Cq;rw[T8 yx,T8 bo,Sl,Tw],rfl⟩);rw[yx] at this;simp[hx,jG] at this
       revert this
       decide
     rw[T9 cT];simp
    ·rw[T9 ha];rfl
  ·intro hf t ht;obtain⟨h1,h2,h3,h4⟩:=Kd.mp ht;by_cases hx:t.1∈plot
   ·have:=hf t.1 hx;rw[Po] at this;have:=this t.2.1 (Aj.mpr h2);rw[h4];unfold B9 at this;by_cases hw:lieR row t.1 t.2.1 = "within"
    ·rw[T7 hw] at this;simp[hw,Ua this]
    ·rw[T6 hw] at this;have ha:lieR row t.1 t.2.1 = "apart" := by
      unfold Cq at h3;rw[T9 hw,Bool.false_or,Pa] at h3;exact Ua h3.1
     rw[ha] at this;have hn:t.2.1∉plot:=by simpa using this
     have eZ:¬(("apart" : aq) = "within"):=by decide
     simp[hn,ha,eZ]
   ·simp[hx]
 ·rw[T9 hp,Qj];by_cases p1:plot=told plot
  ·have:¬ ∀x∈plot,x∈row:=λp2=>hp (Nn.mpr ⟨p1,p2⟩);have e1:plot.all (λx=>decide (x∈row))=false:=by
    rw[Rv];intro z;rw[Po] at z;exact this λx hx=>Ua (z x hx)
   rw[e1,Tk,Qj]
  ·rw[T9 p1,Qj,Qj]
theorem Nq:∀{bs:List Bool} {xs:List V},DAll H (bs.map ao.bool) xs->xs=bs.map V.bl
 | [],xs,h=>by unfold List.map DAll at h;exact h
 | s::ss,xs,h=>by
  rw[Pw] at h;unfold DAll at h;obtain⟨v,r,rfl,h1,h2⟩:=h;unfold DAt at h1;rw[h1,Nq h2];rfl
def Xdx(a b:Za)(h:ao.tuple (a.map ao.str)=ao.tuple (b.map ao.str)):a=b:=by
 injection h with h
 exact(Th (λx y e=>by injection e)).mp h
def Xlf{ss:Za}(h:∀y∈ss,okN y):C8 (ss.map ao.str)=true:=plainAll_map ao.str ss λx hx=>Xk6 (h x hx)
def E6{ss:Za}(h:∀y∈ss,okN y):Ce (.tuple (ss.map ao.str))=true:=Xlf h
theorem Kf:∀(ss:Za),ao.depthAll (ss.map ao.str)=0
 | []=>rfl
 | s::ss=>by
  rw[Pw];unfold ao.depthAll;rw[Kf ss];rfl
def Xdy(a b:Za):min (ao.depth (.tuple (a.map ao.str))) (ao.depth (.tuple (b.map ao.str)))<=3:=by
 have e:ao.depth (.tuple (a.map ao.str))=ao.depthAll (a.map ao.str)+1:=rfl;rw[e,Kf]
 lia
def Nr{a b:Za}(ha:∀y∈a,okN y)(hb:∀y∈b,okN y):ao.eqv (.tuple (a.map ao.str)) (.tuple (b.map ao.str))=decide (a=b):=
 Xc7 (λl:Za=>ao.tuple (l.map ao.str)) Xdx a b (E6 ha) (E6 hb)
def Dm  {ss:Za} (h:H p=some (.tup (ss.map V.str))):DAt H (.tuple (ss.map ao.str)) (.ref p):=M4 h (M3 ss)
def spTold (K:KQ):Sp:=λvs H Q _=>∃(p:ae) (ss:Za),vs=[.ref p]/\(SqL K H p (ss.map V.str)\/SqT K H p (ss.map V.str))/\ss.length<=60 /\
 ∀l H',H l=none->H' l=some (.tup ((told ss).map V.str))->Same H H'->Q (.ref l) H'
def spAllows:Sp:=λvs H Q _=>∃(gW:aq) (kt:Bool),vs=[.str gW,.bl kt]/\Q (.bl (B9 gW kt)) H
def Xdz:Sp:=λvs H Q _=>∃(r p:ae) (row ss:Za),vs=[.ref r,.ref p]/\H r=some (.lst (row.map V.str))/\Row2 row/\H p=some (.tup (ss.map V.str))/\(∀y∈ss,okN y)/\ss.length<=60 /\
 ∀H',Same H H'->Q (.bl (An row ss)) H'
abbrev NIp:Za:=["row", "plot", "span"]
abbrev NI1:Za:=["name", "span"]
abbrev NI2:Za:=["name", "other", "plot", "span"]
def Spn.has    (s:Spn H kvs row (dit row)):(Av kvs (Sum.inr x:Key)).isSome=decide (x∈row):=by
 by_cases hx:x∈row
 ·obtain⟨l,h1,_⟩:=s.val x (Aj.mpr hx);rw[h1,T8 hx];rfl
 ·rw[T9 hx];cases e:Av kvs (Sum.inr x:Key) with
  | none=>rfl
  | some v=>
   exfalso;have:=Hi e;rw[s.keys] at this;obtain⟨y,hy,e2⟩:=Pq.mp this;rw[Rq e2] at hy;exact hx (Aj.mp hy)
def Xd0(h:∀y∈ss,okN y):∀y∈told ss,okN y:=λy hy=>h y (Xdw.mp hy)
def Xlg{α : Type}(d)(p)(xs:List α):((List.range xs.length).map λi=>p (xs.getD i d)).any id=xs.any p:=by
 have e:(List.range xs.length).map (λi=>p (xs.getD i d))=xs.map p:=by
  have:=Cz d (λ_=>true) xs;rw[Py.mpr (λ_ _=>rfl),Py.mpr (λ_ _=>rfl)] at this
  conv=>rhs;rw[<-this]
  rw[P4];rfl
 rw[e,List.any_map];rfl
theorem Xd1{α : Type}(f):∀(xs:List α),(xs.flatMap f).all id=xs.all λx=>(f x).all id
 | []=>rfl
 | x::xs=>by
  rw[Rw,List.all_append,Tu,Xd1 f xs]
def Xlh{α β : Type}(d)(f : α->List β)(xs:List α):(List.range xs.length).flatMap (λi=>f (xs.getD i d))=xs.flatMap f:=by
 have this:=Cz d (λ_=>true) xs;rw[Py.mpr (λ_ _=>rfl),Py.mpr (λ_ _=>rfl)] at this
 conv=>rhs;rw[<-this]
 rw[List.flatMap_map]
end SH
namespace L2
def Kg        {T id:String} (K:KQ) (hK:X.K=K) (pa:zY T) (slot:zZ T name id) (uH:qc (.builtin id)=pure (.type "method_descriptor")) (hm:MtR X id r) (ho:PE X o to) (ha:PA X (e::es) t)
  (eJ:dI o name X.env (eval o X.env)=eval o X.env:=by rfl)
  (mS:((bw bJ (az (e::es) X.env)).all (λx => !x.1)&&(c8 bJ (bE [] X.env)).all (λx=>x.1.isSome)
   && decide ((e::es).length+([]:List cH).length+(if ([]:List cH).isEmpty then 0 else 1)<30))=true:=by rfl)
  (jy:(d9.endLine==bJ.line)=true:=by rfl) (hs:az (e::es) X.env=(false,eval e X.env)::az es X.env:=by rfl) (eK:(bw bJ (az es X.env)).any (·.1)=false:=by rfl):
  PE X (.Call (.Attribute o name d9) (e::es) [] bJ) (tBM K T r to t):=by
 subst hK;exact L3 pa slot uH hm ho ha eJ mS jy hs eK
def Xli (K:KQ) (i:Nat):TE:=fun Z H Q=>∃v, Z[i]? = some (some v)/\∃p ss,v = .ref p/\(SqL K H p (ss.map V.str)\/SqT K H p (ss.map V.str))/\ss.length<=60/\∀l H',H l=none->H' l=some (.lst ((dit ss).map V.str))->Same H H'->Q (.ref l) H'
def Nt  {i:Nat}  (hc:X.calm=true) (yy:Gl X "sorted") (nR:X.mg "sorted" = none) (vh:Gl X "set") (tK:X.mg "set" = none) (hv:PE X (.Name x pos) (Co i))
  (h1:az [.Call (.Name "set" p2) [.Name x pos] [] q2] X.env=[(false,eval (.Call (.Name "set" p2) [.Name x pos] [] q2) X.env)]:=by rfl) (h2:az [.Name x pos] X.env=[(false,eval (.Name x pos) X.env)]:=by rfl):
  PE X (.Call (.Name "sorted" p1) [.Call (.Name "set" p2) [.Name x pos] [] q2] [] q1) (Xli X.K i):=by
 intro pins s Z H Q I h;obtain⟨v,BV,p,ss,ev,hq,hl,k⟩:=h;refine(Ax (Jx hc) yy nR (by rfl) (Aa (B1 (Hr hc) vh tK (by rfl) (Aa hv Ac) (by decide) (by decide) h2) Ac) (by decide) (by decide) h1) pins s Z H Q I ?_;refine⟨v,BV,p,ss,by rw[ev],hq,by unfold aW;lia,λa na=>?_⟩;have l6:=Hq ss;refine⟨a,ddup ss,rfl,Ab,by lia,λl ls nl hp hs=>?_⟩;rw[Gg hp hs];have s1:Same H (upd H a (Ew X.prog X.w a (ddup ss))):=(Same.refl H).step na;exact k l _ (s1.free nl) Ab (s1.step nl)
end L2
namespace SH
open L2
def A2 (row:Za) (g:Nat):Za:=(dit (row.take g)).filter λx=>decide ((row.take g).count x=1)
def spSeen:Sp:=λvs H Q _=>∃(r:ae) (row:Za) (g:Nat),vs=[.ref r,.int g]/\H r=some (.lst (row.map V.str))/\row.length<=60/\g<=row.length /\
 ∀p H',H p=none->H' p=some (.tup ((A2 row g).map V.str))->Same H H'->Q (.ref p) H'
def Xlj   (h:y∈A2 row g):y∈row:=P0 (Aj.mp (O7.mp h).1)
def Xlk{a row}(h:∀x∈a,x∈row):dit a=(dit row).filter λy=>decide (y∈a):=by
 have h1:=Cw a;have h2:((dit row).filter λy=>decide (y∈a)).Pairwise ltS:=(Cw row).filter _;refine Eh (Fw (Bn h1) (Bn h2) λx=>?_) (Gq h1) (Gq h2);rw[O7,decide_eq_true_eq,Aj,Aj];exact⟨λz=>⟨h x z,z⟩,λz=>z.2⟩
def Xd2(row)(g):A2 row g=(dit row).filter λx=>decide ((row.take g).count x=1):=by
 unfold A2;rw[Xlk (row:=row) (λx hx=>P0 hx),List.filter_filter];congr 1;funext x;by_cases hc:(row.take g).count x=1
 ·have:x∈row.take g:=R4.mp (by lia);simp[hc,this]
 ·simp[hc]
def Xd3(row)(g):(A2 row g).length<=(dit row).length:=by
 rw[Xd2];exact P1 ..
def Isl.dlen(h:Isl row):(dit row).length<=14:=by
 obtain⟨n,st,aX,hn,hs,p⟩:=h.ex;have hp:(dit row).Perm (Bd st aX n):=Fw (Ht row) (Nh hs hn) λx=>by
  rw[Aj,p.mem_iff,O5,or_self]
 rw[hp.length_eq];unfold Bd;rw[Ow,Qi];exact hn
def Ih (ss:Za) (x:aq):Za:=srt (ss.filter (λy=>decide (y≠x))++(if x∈ss then [] else [x]))
def spFlip:Sp:=λvs H Q _=>∃(p:ae) (ss:Za) (x:aq),vs=[.ref p,.str x]/\H p=some (.tup (ss.map V.str))/\ss.length<=60 /\
 ∀q H',H q=none->H' q=some (.tup ((Ih ss x).map V.str))->Same H H'->Q (.ref q) H'
def Xll  (h:y∈Ih ss x):y∈ss\/y=x:=by
 unfold Ih at h;rw[Gh,O5] at h;rcases h with h | h
 ·exact .inl (O7.mp h).1
 ·split at h
  ·simp at h
  ·exact .inr (Oz.mp h)
def Xlm(ss)(x):(Ih ss x).length<=ss.length+1:=by
 unfold Ih;rw[(Ck _).length_eq,O2];have:=P1 (λy=>decide (y≠x)) ss;generalize (ss.filter λy=>decide (y≠x)).length=n at *;split
 ·rw[Q8];lia
 ·rw[P9];lia
def spOdd:Sp:=λvs H Q _=>∃(dr sc r p:ae) (row ss:Za),vs=[.ref dr,.ref r,.ref p]/\DrawOk H dr sc/\H r=some (.lst (row.map V.str))/\r≠dr/\Isl row/\H p=some (.tup (ss.map V.str))/\(∀y∈ss,okN y)/\ss.length<=50 /\
 ∀(q:ae) (qS:Za) (H':Hp),H' q=some (.tup (qS.map V.str))->(∀y∈qS,okN y)->qS.length<=ss.length+1->DrawOk H' dr sc->But dr H H'->Q (.ref q) H'
def Nv:Sp:=λvs H Q _=>∃(b p:ae) (xs:List V) (bs:List (aq×aq×aq)) (ss:Za),vs=[.ref b,.ref p]/\H b=some (.lst xs)/\DAll H (bs.map trD) xs/\H p=some (.tup (ss.map V.str)) /\
 ∀H',Same H H'->Q (.bl (C3 bs ss)) H'
def spBars:Sp:=λvs H Q _=>∃(r:ae) (row:Za),vs=[.ref r]/\H r=some (.lst (row.map V.str))/\Row2 row /\
 ∀l xs H',H l=none->H' l=some (.lst xs)->DAll H' ((bars row).map trD) xs->Same H H'->Q (.ref l) H'
def spGood:Sp:=λvs H Q _=>∃(r p:ae) (row ss:Za),vs=[.ref r,.ref p]/\H r=some (.lst (row.map V.str))/\Row2 row/\H p=some (.tup (ss.map V.str))/\(∀y∈ss,okN y)/\ss.length<=60 /\
 ∀H',Same H H'->Q (.bl (E5 row ss)) H'
def Xln   (h:DAt H (trD t) v):∃p,v = .ref p/\H p=some (.tup [.str t.1,.str t.2.1,.str t.2.2]):=by
 obtain⟨p,xs,rfl,hp,hs⟩:=M5 h;have:=Ig (ss:=[t.1,t.2.1,t.2.2]) hs;rw[this] at hp;exact⟨p,rfl,hp⟩
def C4 (row:Za) (x:aq) (ys:Za):List (aq×aq×aq):=(ys.filter (Cq row x)).map λy=>(x,y,lieR row x y)
def Db (row:Za) (i:Nat):List (aq×aq×aq):=((dit row).take i).flatMap λx=>C4 row x (dit row)
def Xlo(row):Db row (dit row).length=bars row:=by
 unfold Db;rw[Qo];rfl
def Xlp(row)(hi:i<(dit row).length):Db row (i+1)=Db row i++C4 row ((dit row).getD i aq.empty) (dit row):=by
 unfold Db;rw[Pk hi,Rz,Rw,Sh,P3];simp[List.getD,hi]
def Xlq(row)(x)(hj:j<(dit row).length):C4 row x ((dit row).take (j+1))=C4 row x ((dit row).take j)++(if Cq row x ((dit row).getD j aq.empty)=true then [(x,(dit row).getD j aq.empty,lieR row x ((dit row).getD j aq.empty))] else []):=by
 unfold C4;have e:(dit row).getD j aq.empty=(dit row)[j]:=by simp[List.getD,hj]
 rw[Pk hj,Pm,O9,e,P6];split<;>rfl
def Xd4(row)(x)(ys):(C4 row x ys).length<=ys.length:=by
 unfold C4;rw[Ow];exact P1 ..
def Xlr(row)(i):(Db row i).length<=i * (dit row).length:=by
 unfold Db;rw[List.length_flatMap];have h:∀l:Za,(l.map λx=>(C4 row x (dit row)).length).sum<=l.length * (dit row).length:=by
  intro l
  induction l with
  | nil=>simp
  | cons x l ih=>
   rw[Pw,R0,Pj,Nat.succ_mul];have:=Xd4 row x (dit row)
   lia
 refine Pu (h _) (Nat.mul_le_mul_right _ ?_);rw[Pc]
 lia
abbrev NSe:Za:=["_law_row_here", "_law_gap", "_law_ahead"]
abbrev NSe1:Za:=["_law_name", "_law_ahead"]
abbrev NFl:Za:=["_law_plot", "_law_name"]
abbrev NFl1:Za:=["_law_one", "_law_name"]
abbrev NOd:Za:=["_law_draw", "_law_row_here", "_law_plot", "_law_way", "_law_at", "_law_name"]
abbrev NFi:Za:=["_law_bars_here", "_law_plot", "_law_one", "_law_other", "_law_word_here"]
abbrev NBr:Za:=["_law_row_here", "_law_where_here", "_law_told", "_law_one", "_law_other", "_law_word_here"]
abbrev NGo:Za:=["_law_row_here", "_law_plot"]
abbrev NGo1:Za:=["_law_name", "_law_plot"]
def Xls{α : Type}(f)(xs:List α)(b:Nat):B8 (xs.map f) none (some (b:Int))=(xs.take b).map f:=by
 by_cases hb:b<=xs.length
 ·exact Dw f xs b hb
 ·unfold B8;rw[HT.sIx_none,Rr,HT.sIx_nat,Ow,Nat.min_eq_right (by lia),Tf,P5 (by rw[Ow];lia),P5 (by lia)]
def spAskPlot (C:ae):Sp:=λvs H Q E=>∃(r p:ae) (row ss:Za),vs=[.ref r,.ref p]/\H r=some (.lst (row.map V.str))/\Row2 row/\H p=some (.tup (ss.map V.str))/\(∀y∈ss,okN y)/\ss.length<=24 /\
 (An row ss=true->∀H',Same H H'->Q .non H')/\(An row ss=false->∀H',Same H H'->E (.ref C) none H')
def spAtGap (C:ae):Sp:=λvs H Q E=>∃(r:ae) (row:Za) (g:Int),vs=[.ref r,.int g]/\H r=some (.lst (row.map V.str))/\row.length<=60 /\ -1000<=g/\g<=2000 /\
 (∀n:Nat,g=n->n<=row.length->∀p H',H p=none->H' p=some (.tup ((A2 row n).map V.str))->Same H H'->Q (.ref p) H')/\(¬(0<=g/\g<=row.length)->∀H',Same H H'->E (.ref C) none H')
abbrev NAg:Za:=["row", "gap", "ahead"]
abbrev NAg1:Za:=["name", "ahead"]
def Xlt(h:∀y∈row,okN y)(g):∀y∈A2 row g,okN y:=λy hy=>h y (Xlj hy)
def Xlu{ss:Za}(h:∀y∈ss,okN y):∀z∈ss,z.length<=20/\∀c∈z.cps.toList,c<16 ^ 8:=λz hz=>⟨(h z hz).1,λc hc=>Rx ((h z hz).2 c hc) (by decide)⟩
def DrawOk.ntup  (d:DrawOk H dr sc):∀q ys,H q=some (.tup ys)->q≠dr:=λq ys e z=>by
 obtain⟨xs,h⟩:=d.at;rw[z,h] at e;cases e
def mid (row:Za) (x:aq):Za:=((row.dropWhile λy=>decide (y≠x)).tail).takeWhile λy=>decide (y≠x)
def Xd5{x y:aq}(h:x∉y::r):decide (y≠x)=true:=by
 have:y≠x:=λe=>h (by rw[e];exact O3);simpa using this
def drop_split{x:aq}(h:x∉A):(A++x::R).dropWhile (λy=>decide (y≠x))=x::R:=by
 induction A with
 | nil=>rw[Ru,Rh,T6 (by simp)]
 | cons y r ih=>
  rw[List.cons_append,Rh,T7 (Xd5 h)];exact ih λz=>h (O4 _ z)
def take_split{x:aq}(h:x∉A):(A++x::R).takeWhile (λy=>decide (y≠x))=A:=by
 induction A with
 | nil=>rw[Ru,Ri,T6 (by simp)]
 | cons y r ih=>
  rw[List.cons_append,Ri,T7 (Xd5 h)];rw[ih λz=>h (O4 _ z)]
def Nw  (hA:x∉A) (hB:x∉B):mid (A++x::(B++x::C)) x=B:=by
 unfold mid;rw[drop_split hA,List.tail_cons,take_split hB]
def split1:∀{row:Za},x∈row->∃A R,row=A++x::R/\x∉A:=by
 intro row
 induction row with
 | nil=>intro h;cases h
 | cons y r ih=>
  intro h;by_cases e:x=y
  ·exact⟨[],r,by rw[e];rfl,by simp⟩
  ·obtain⟨A,R,h1,h2⟩:=ih ((Ph.mp h).resolve_left e);exact⟨y::A,R,by rw[h1];rfl,λz=>(Ph.mp z).elim e h2⟩
def split2{x:aq}(h:row.count x=2):∃A B C,row=A++x::(B++x::C)/\x∉A/\x∉B/\x∉C:=by
 obtain⟨A,R,h1,h2⟩:=split1 (R4.mp (by lia:0<row.count x));rw[h1,Qz,Ra.mpr h2,Sf] at h;have hR:R.count x=1:=by lia
 obtain⟨B,C,h3,h4⟩:=split1 (R4.mp (by lia:0<R.count x));rw[h3,Qz,Ra.mpr h4,Sf] at hR;exact⟨A,B,C,by rw[h1,h3],h2,h4,Ra.mp (by lia)⟩
theorem Ii(x):∀n l r,A4 x n (l++r)=A4 x n l++A4 x (n+l.length) r
 | n,[],r=>rfl
 | n,y::l,r=>by
  have ih:=Ii x (n+1) l r;have e:n+(y::l).length=n+1+l.length:=by rw[Pj];lia
  rw[e];show (if y=x then (n:Int)::A4 x (n+1) (l++r) else A4 x (n+1) (l++r))=(if y=x then (n:Int)::A4 x (n+1) l else A4 x (n+1) l)++_;rw[ih];split<;>rfl
theorem Kh(x):∀n l,∀i∈A4 x n l,(n:Int)<=i/\i<n+l.length
 | n,[]=>λi h=>by cases h
 | n,y::l=>λi h=>by
  have ih:=Kh x (n+1) l;have h':i=n\/i∈A4 x (n+1) l:=by
   change i∈(if y=x then (n:Int)::A4 x (n+1) l else A4 x (n+1) l) at h;split at h
   ·exact Ph.mp h
   ·exact .inr h
  rw[Pj];rcases h' with rfl | h'
  ·lia
  ·have:=ih i h'
   lia
theorem Ki:∀n l,x∉l->A4 x n l=[]
 | _,[],_=>rfl
 | n,y::l,h=>by
  show (if y=x then (n:Int)::A4 x (n+1) l else A4 x (n+1) l)=[];rw[T6 (λe=>h (by rw[e];exact O3))];exact Ki _ _ λz=>h (O4 _ z)
def Xlv  (hx:row.count x=2) (n:x≠y):nIn (pl row x).1 (pl row x).2 (plc row y)=(mid row x).count y:=by
 obtain⟨A,B,C,e,hA,hB,hC⟩:=split2 hx;have ex:plc row x=[(A.length:Int),((A.length+1+B.length:Nat):Int)]:=by
  unfold plc;rw[e,Ii,Ki _ _ hA];show []++(if x=x then _ else _)=_;rw[T7 rfl,Ii,Ki _ _ hB];show []++(_::([]++(if x=x then _ else _)))=_;rw[T7 rfl,Ki _ _ hC];simp
 have ey:plc row y=A4 y 0 A++(A4 y (A.length+1) B++A4 y (A.length+1+B.length+1) C):=by
  unfold plc;rw[e,Ii];show _++(if x=y then _ else _)=_;rw[T6 n,Ii];show _++(_++(if x=y then _ else _))=_;rw[T6 n];simp
 rw[Xdt ex,ey];unfold nIn inn;rw[Pm,Pm];have e1:(A4 y 0 A).filter (λt=>decide ((A.length:Int)<t)&&decide (t<((A.length+1+B.length:Nat):Int)))=[]:=by
  rw[Rj];intro i hi;have:=Kh y 0 A i hi;simp;intro
  lia
 have e2:(A4 y (A.length+1) B).filter (λt=>decide ((A.length:Int)<t)&&decide (t<((A.length+1+B.length:Nat):Int)))=A4 y (A.length+1) B:=by
  rw[Py];intro i hi;have:=Kh y (A.length+1) B i hi;simp
  lia
 have e3:(A4 y (A.length+1+B.length+1) C).filter (λt=>decide ((A.length:Int)<t)&&decide (t<((A.length+1+B.length:Nat):Int)))=[]:=by
  rw[Rj];intro i hi;have:=Kh y _ C i hi;simp;intro
  lia
 rw[e1,e2,e3,Ru,P3,J8];rw[e,Nw hA hB]
def Ay (row:Za) (x y:aq):Prop:=lieR row x y = "cross"
instance (row:Za) (x y:aq):Decidable (Ay row x y):=inferInstanceAs (Decidable (_=_))
def Nx:Dy a b c e false = "cross" ↔ nIn a b [c,e]=1:=by
 unfold Dy;have e3:(inn a b [c,e]).length=nIn a b [c,e]:=rfl;have h2:(inn a b [c,e]).length<=2:=Ng a b [c,e];rw[e3] at *;generalize nIn a b [c,e]=q at *
 match q,h2 with
 | 0,_=>
  rw[T6 (by decide)];split<;>decide
 | 1,_=>rw[T7 (by decide)];decide
 | 2,_=>rw[T7 (by decide)];decide
def Kj  (hx:row.count x=2) (hy:row.count y=2) (n:x≠y):Ay row x y↔(mid row x).count y=1:=by
 unfold Ay;rw[Gp hx hy,T9 n,Nx,<-Da hy,Xlv hx n]
def E7  (hx:row.count x=2):¬Ay row x x:=by
 unfold Ay lieR lieT;rw[T7 ⟨rfl,rfl⟩];decide
def Dz  (hx:row.count x=2) (hy:row.count y=2) (h:Ay row x y):Ay row y x:=by
 by_cases n:x=y
 ·subst n;exact h
 ·obtain⟨n1,n2,n3,n4⟩:=El hx hy n;unfold Ay at *;rw[Gp hx hy,T9 n,Nx,Be] at h;rw[Gp hy hx,T9 (λe=>n e.symm),Nx,Be];have l1:=Bs hx;have l2:=Bs hy;generalize (pl row x).1=a at *;generalize (pl row x).2=b at *;generalize (pl row y).1=c at *;generalize (pl row y).2=e at *;by_cases p1:a<c/\c<b<;>by_cases p2:a<e/\e<b<;>by_cases q1:c<a/\a<e<;>by_cases q2:c<b/\b<e <;>
  (first | rw[T7 p1] at h | rw[T6 p1] at h)<;>(first | rw[T7 p2] at h | rw[T6 p2] at h) <;>
  (first | rw[T7 q1] | rw[T6 q1])<;>(first | rw[T7 q2] | rw[T6 q2])<;>lia
def Xd6  (h:p x=true):∀row:Za,mid (row.filter p) x=(mid row x).filter p:=by
 have tk:∀l:Za,(l.filter p).takeWhile (λy=>decide (y≠x))=(l.takeWhile λy=>decide (y≠x)).filter p:=by
  intro l
  induction l with
  | nil=>rfl
  | cons y r ih=>
   by_cases e:y=x
   ·subst e;rw[P6,T7 h,Ri,T6 (by simp),Ri,T6 (by simp)];rfl
   ·rw[Ri,T7 (T8 e),P6,P6];by_cases q:p y=true
    ·rw[T7 q,T7 q,Ri,T7 (T8 e),ih]
    ·rw[T6 q,T6 q,ih]
 intro row;unfold mid;rw[<-tk];congr 1
 induction row with
 | nil=>rfl
 | cons y r ih=>
  by_cases e:y=x
  ·subst e;rw[P6,T7 h,Rh,T6 (by simp),Rh,T6 (by simp)];rfl
  ·rw[Rh,T7 (T8 e),<-ih,P6];by_cases q:p y=true
   ·rw[T7 q,Rh,T7 (T8 e)]
   ·rw[T6 q]
def Xlw  (hx:row.count x=2) (hy:row.count y=2) (kh:fD.count x=2) (fS:fD.count y=2)
  (e:row.filter (λz=>decide (z=x\/z=y))=fD.filter (λz=>decide (z=x\/z=y))):Ay row x y↔Ay fD x y:=by
 by_cases n:x=y
 ·subst n;exact⟨λh=>absurd h (E7 hx),λh=>absurd h (E7 kh)⟩
 ·rw[Kj hx hy n,Kj kh fS n];have h1:∀r:Za,(mid r x).count y=(mid (r.filter λz=>decide (z=x\/z=y)) x).count y:=λr=>by
   rw[Xd6 (by simp),List.count_filter (by simp)]
  rw[h1 row,h1 fD,e]
def Bk (row:Za):Prop:=∀x∈row,∀y∈row,∀z∈row,Ay row x y->Ay row x z->¬Ay row y z
def Xlx:Bk []:=λx h=>by cases h
def Xd7{x}(h:Bk row)(h2:∀y∈row,row.count y=2)(ig:∀y∈bS,bS.count y=2)(dB:∀y∈bS,y=x\/y∈row)
  (hf:∀p:aq->Bool,p x=false->bS.filter p=row.filter p) (hb:∀y∈bS,∀z∈bS,Ay bS x y->Ay bS x z->¬Ay bS y z):Bk bS:=by
 intro a ha b dz c hc k1 k2 k3;have gX:=Dz (ig a ha) (ig b dz) k1;have eR:=Dz (ig a ha) (ig c hc) k2;have BW:=Dz (ig b dz) (ig c hc) k3;by_cases ea:a=x
 ·subst ea;exact hb b dz c hc k1 k2 k3
 by_cases eb:b=x
 ·subst eb;exact hb a ha c hc gX k3 k2
 by_cases ec:c=x
 ·subst ec;exact hb a ha b dz eR BW k1
 have ra:=(dB a ha).resolve_left ea;have rb:=(dB b dz).resolve_left eb;have rc:=(dB c hc).resolve_left ec;have go:∀u v:aq,u≠x->v≠x->u∈row->v∈row->u∈bS->v∈bS->Ay bS u v->Ay row u v:=λu v nu nv hu hv mu mv k=>
  (Xlw (ig u mu) (ig v mv) (h2 u hu) (h2 v hv) (hf _ (by
   rw[decide_eq_false_iff_not];rintro (e | e)
   ·exact nu e.symm
   ·exact nv e.symm))).mp k
 exact h a ra b rb c rc (go a b ea eb ra rb ha dz k1) (go a c ea ec ra rc ha hc k2) (go b c eb ec rb rc dz hc k3)
def Xly    (fu:a<=b) (h:p x=false):(E3 row x a b).filter p=row.filter p:=by
 unfold E3;have e:row=row.take a++((row.drop a).take (b - a)++row.drop b):=by
  have e1:row.drop b=(row.drop a).drop (b - a):=by rw[List.drop_drop];congr 1;lia
  rw[e1,Pi,Pi]
 conv=>rhs;rw[e]
 simp[Pm,P6,h]
def Xlz  (hx:(A++[x,x]++C).count x=2) (hy:(A++[x,x]++C).count y=2):¬Ay (A++[x,x]++C) x y:=by
 by_cases n:x=y
 ·subst n;exact E7 hx
 ·rw[Kj hx hy n];have hA:x∉A:=by
   rw[<-Ra];rw[Qz,Qz,Sf,Sf] at hx
   lia
  have e:A++[x,x]++C=A++x::([]++x::C):=by simp
  rw[e,Nw hA (by simp)];simp
def Xl0{row:Za}   (h:p x=false):(row.take a++[x,x]++row.drop a).filter p=row.filter p:=by
 simp[Pm,P6,h];rw[<-Pm,Pi]
def Xd8  (hF:F.Nodup) (hx:x∈F) (n:x≠y):(mid (F++F.reverse) x).count y≠1:=by
 obtain⟨A,B,rfl,hA⟩:=split1 hx;have hB:x∉B:=by
  have h1:=(Qs.mp hF).2.1;exact(Qn.mp h1).1
 have e:(A++x::B)++(A++x::B).reverse=A++x::((B++B.reverse)++x::A.reverse):=by simp
 rw[e,Nw hA (by simp[hB]),Qz,List.count_reverse]
 lia
def E8  (hn:ns.Nodup) (c) (h2:∀z∈ns,(ns++(ns.take c).reverse++(ns.drop c).reverse).count z=2)
  (h:(x∈ns.take c/\y∈ns.take c)\/(x∈ns.drop c/\y∈ns.drop c)):¬Ay (ns++(ns.take c).reverse++(ns.drop c).reverse) x y:=by
 have sub:(∀z,z∈ns.take c->z∈ns)/\∀z,z∈ns.drop c->z∈ns:=⟨λz=>P0,λz=>Qd⟩;have hx:x∈ns:=h.elim (λz=>sub.1 _ z.1) λz=>sub.2 _ z.1;have hy:y∈ns:=h.elim (λz=>sub.1 _ z.2) λz=>sub.2 _ z.2;by_cases n:x=y
 ·subst n;exact E7 (h2 x hx)
 rw[Kj (h2 x hx) (h2 y hy) n];have cT:(mid (ns++(ns.take c).reverse++(ns.drop c).reverse) x).count y=(mid ((ns++(ns.take c).reverse++(ns.drop c).reverse).filter λz=>decide (z=x\/z=y)) x).count y:=by
  rw[Xd6 (by simp),List.count_filter (by simp)]
 rw[cT];have dj:∀z,z∈ns.take c->z∈ns.drop c->False:=by
  have:=hn;rw[<-Pi c ns] at this;intro z h1 h2;exact(Qs.mp this).2.2 z h1 z h2 rfl
 have e0:ns.filter (λz=>decide (z=x\/z=y))=(ns.take c).filter (λz=>decide (z=x\/z=y))++(ns.drop c).filter (λz=>decide (z=x\/z=y)):=by
  rw[<-Pm,Pi]
 rw[Pm,Pm,e0,List.filter_reverse,List.filter_reverse];rcases h with ⟨h1,h2⟩ | ⟨h1,h2⟩
 ·have e:(ns.drop c).filter (λz=>decide (z=x\/z=y))=[]:=by
   rw[Rj];intro z hz q;rcases Ua q with q | q
   ·exact dj x h1 (q ▸ hz)
   ·exact dj y h2 (q ▸ hz)
  rw[e,P3,List.reverse_nil,P3];exact Xd8 ((hn.sublist (Qe ..)).filter _) (O7.mpr ⟨h1,by simp⟩) n
 ·have e:(ns.take c).filter (λz=>decide (z=x\/z=y))=[]:=by
   rw[Rj];intro z hz q;rcases Ua q with q | q
   ·exact dj x (q ▸ hz) h1
   ·exact dj y (q ▸ hz) h2
  rw[e,Ru,List.reverse_nil,P3];exact Xd8 ((hn.sublist (Q6 ..)).filter _) (O7.mpr ⟨h1,by simp⟩) n
def noThree_grid(hn:ns.Nodup)(c)(h2:∀z∈ns,(ns++(ns.take c).reverse++(ns.drop c).reverse).count z=2):Bk (ns++(ns.take c).reverse++(ns.drop c).reverse):=by
 have mem:∀z,z∈ns++(ns.take c).reverse++(ns.drop c).reverse->z∈ns.take c\/z∈ns.drop c:=by
  intro z hz;rw[<-O5,Pi];simp only[O5,Qx] at hz;rcases hz with (h | h) | h
  ·exact h
  ·exact P0 h
  ·exact Qd h
 intro x hx y hy z hz k1 k2 k3;rcases mem x hx with a | a<;>rcases mem y hy with b | b<;>rcases mem z hz with d | d
 ·exact E8 hn c h2 (.inl ⟨a,b⟩) k1
 ·exact E8 hn c h2 (.inl ⟨a,b⟩) k1
 ·exact E8 hn c h2 (.inl ⟨a,d⟩) k2
 ·exact E8 hn c h2 (.inr ⟨b,d⟩) k3
 ·exact E8 hn c h2 (.inl ⟨b,d⟩) k3
 ·exact E8 hn c h2 (.inr ⟨a,d⟩) k2
 ·exact E8 hn c h2 (.inr ⟨a,b⟩) k1
 ·exact E8 hn c h2 (.inr ⟨a,b⟩) k1
def spBarredN:Sp:=λvs H Q _=>∃(r:ae) (row:Za) (x:aq),vs=[.ref r,.str x]/\H r=some (.lst (row.map V.str))/\row.length<=1000/\(∀y∈row,row.count y=2)/\x∈row /\
 ∀b H',(b=false->∀y∈row,∀z∈row,Ay row x y->Ay row x z->¬Ay row y z)->Same H H'->Q (.bl b) H'
def spRowN:Sp:=λvs H Q _=>∃(dr sc nl:ae) (ns:Za),vs=[.ref dr,.ref nl]/\DrawOk H dr sc/\H nl=some (.lst (ns.map V.str))/\nl≠dr/\ns.Nodup/\ns.length<=14 /\
 ∀(l:ae) (row:Za) (H':Hp),H l=none->H' l=some (.lst (row.map V.str))->row.Perm (ns++ns)->Bk row->DrawOk H' dr sc->But dr H H'->Q (.ref l) H'
def spIslandN:Sp:=λvs H Q _=>∃(dr sc:ae) (m:Nat),vs=[.ref dr,.int m]/\m<=14/\DrawOk H dr sc /\
 ∀(l:ae) (row:Za) (n st:Nat) (aX:Bool) (H':Hp),H l=none->n<=m->st<26->H' l=some (.lst (row.map V.str))->row.Perm (Bd st aX n++Bd st aX n)->Bk row->DrawOk H' dr sc->But dr H H'->Q (.ref l) H'
def Xd9{_:Decidable p}(h:decide p=false):¬p:=Ub h
def Wh.pl{H:Hp}{kvs:List (Key×V)}{row:Za}{x:aq}(w:Wh H kvs row)(hx:x∈row)(h:row.count x=2):∃l,Av kvs (Sum.inr x:Key)=some (.ref l)/\H l=some (.lst [.int (pl row x).1,.int (pl row x).2]):=by
 obtain⟨l,h1,h2⟩:=w.val x hx;rw[Da h] at h2;exact⟨l,h1,h2⟩
def deg2 {α : Type} (R : α -> α->Bool) (l:List α):Nat:=(l.map λx=>l.countP (R x)).sum
def Xl1{a b:List Nat}(p:a.Perm b):a.sum=b.sum:=by
 induction p with
 | nil=>rfl
 | cons x _ ih=>simp[ih]
 | swap x y l=>simp;lia
 | trans _ _ h1 h2=>exact h1.trans h2
def Xl2{α : Type}{R}{a b:List α}(p:a.Perm b):deg2 R a=deg2 R b:=by
 unfold deg2;have e:(a.map λx=>a.countP (R x))=a.map λx=>b.countP (R x):=Qm λx _=>p.countP_eq _;rw[e];exact Xl1 (p.map _)
theorem F2{α : Type}(f g : α->Nat):∀l:List α,(l.map λx=>f x+g x).sum=(l.map f).sum+(l.map g).sum
 | []=>rfl
 | x::r=>by simp[F2 f g r];lia
theorem Em{α : Type}(p):∀l:List α,(l.map λx=>if p x=true then 1 else 0).sum=l.countP p
 | []=>rfl
 | x::r=>by
  rw[Pw,R0,Em p r,Qw]
  lia
theorem Xea{α : Type}:∀l:List α,(l.map λ_=>0).sum=0
 | []=>rfl
 | _::r=>by rw[Pw,R0,Xea r]
def mantel{α : Type}[DecidableEq α]{R}:∀(n:Nat) (l:List α),l.length=n->l.Nodup->(∀x∈l,R x x=false)->(∀x∈l,∀y∈l,R x y=R y x) ->
  (∀x∈l,∀y∈l,∀z∈l,R x y=true->R x z=true->R y z=false)->2 * deg2 R l<=n * n:=by
 intro n
 induction n using Nat.strongRecOn with
 | ind n ih=>
  intro l hl nd irr sy yz;by_cases h:∃u∈l,∃v∈l,R u v=true
  ·obtain⟨u,hu,v,hv,l7⟩:=h;have BX:u≠v:=λe=>by subst e;rw[irr u hu] at l7;cases l7
   have p1:l.Perm (u::l.erase u):=List.perm_cons_erase hu;have BY:v∈l.erase u:=(List.mem_erase_of_ne BX.symm).mpr hv;have p2:l.Perm (u::v::(l.erase u).erase v):=p1.trans (List.Perm.cons u (List.perm_cons_erase BY));generalize (l.erase u).erase v=r at p2;have aO:=p2.length_eq;simp only[Pj] at aO;have BZ:=p2.nodup_iff.mp nd;have mr:∀x∈r,x∈l:=λx hx=>p2.mem_iff.mpr (O4 _ (O4 _ hx));have y0:r.Nodup:=(Qn.mp (Qn.mp BZ).2).2;have J':=ih r.length (by lia) r rfl y0 (λx hx=>irr x (mr x hx)) (λx hx y hy=>sy x (mr x hx) y (mr y hy)) (λx hx y hy z hz=>yz x (mr x hx) y (mr y hy) z (mr z hz));have e:deg2 R l=2+2 * (r.countP (R u)+r.countP (R v))+deg2 R r:=by
    rw[Xl2 p2];unfold deg2;rw[Pw,Pw,R0,R0];have ef:(r.map λx=>(u::v::r).countP (R x))=r.map λx=>((if R u x=true then 1 else 0)+(if R v x=true then 1 else 0))+r.countP (R x):=by
     refine Qm λx hx=>?_;rw[Qw,Qw,sy x (mr x hx) u hu,sy x (mr x hx) v hv]
     lia
    rw[ef,F2,F2,Em,Em,Qw,Qw,Qw,Qw,irr u hu,irr v hv,l7,sy v hv u hu,l7];simp
    lia
   have le:r.countP (R u)+r.countP (R v)<=r.length:=by
    rw[<-Em (R u),<-Em (R v),<-F2];have:∀m:List α,(∀x∈m,x∈l)->(m.map λx=>(if R u x=true then 1 else 0)+(if R v x=true then 1 else 0)).sum<=m.length:=by
     intro m
     induction m with
     | nil=>intro _;exact Oy _
     | cons x t Ch=>
      intro hm;have h1:=Ch λy hy=>hm y (O4 _ hy);have hx:=hm x O3;have h2:(if R u x=true then 1 else 0)+(if R v x=true then 1 else 0)<=1:=by
       by_cases a:R u x=true
       ·have:=yz u hu v hv x hx l7 a;rw[this,T7 a];decide
       ·rw[T6 a];split<;>decide
      rw[Pw,R0,Pj]
      lia
    exact this r mr
   have hn:n=r.length+2:=by lia
   rw[e,hn];have:(r.length+2) * (r.length+2)=r.length * r.length+4 * r.length+4:=by
    rw[Nat.add_mul,Nat.mul_add];lia
   rw[this]
   lia
  ·have z:deg2 R l=0:=by
    unfold deg2;have:(l.map λx=>l.countP (R x))=l.map λ_=>0:=by
     refine Qm λx hx=>?_;rw[List.countP_eq_zero];intro y hy q;exact h ⟨x,hx,y,hy,q⟩
    rw[this];exact Xea l
   rw[z];exact Px _
theorem Xeb{α β : Type}(p : α -> β->Bool)(m:List β):∀l:List α,(l.map λx=>m.countP (p x)).sum=(m.map λy=>l.countP λx=>p x y).sum
 | []=>by
  show 0=_
  induction m with
  | nil=>rfl
  | cons y r ih=>rw[Pw,R0,<-ih];rfl
 | x::l=>by
  rw[Pw,R0,Xeb p m l];have e:(m.map λy=>(x::l).countP λx=>p x y)=m.map λy=>(if p x y=true then 1 else 0)+l.countP λx=>p x y:=by
   refine Qm λy _=>?_;rw[Qw]
   lia
  rw[e,F2,Em]
def Xl3(h2:∀y∈row,row.count y=2):2 * (crs row).length=deg2 (λx y=>decide (Ay row x y)) (dit row):=by
 have e:(crs row).length=((dit row).map λx=>(dit row).countP λy=>decide (ltS x y)&&decide (Ay row x y)).sum:=by
  unfold crs;rw[List.length_flatMap];congr 1;refine Qm λx _=>?_;rw[Ow,R5];rfl
 have e2:=Xeb (λx y=>decide (ltS x y)&&decide (Ay row x y)) (dit row) (dit row);have e3:2 * (crs row).length=((dit row).map λx=>(dit row).countP λy=>decide (ltS x y)&&decide (Ay row x y)).sum+((dit row).map λy=>(dit row).countP λx=>decide (ltS x y)&&decide (Ay row x y)).sum:=by
  rw[<-e2,e];lia
 rw[e3,<-F2];unfold deg2;congr 1;refine Qm λx hx=>?_;rw[<-Em,<-Em,<-Em,<-F2];congr 1;refine Qm λy hy=>?_;have kh:=Aj.mp hx;have fS:=Aj.mp hy;by_cases c:Ay row x y
 ·have c':=Dz (h2 x kh) (h2 y fS) c;have n:x≠y:=λe=>by subst e;exact E7 (h2 x kh) c
  by_cases l:ltS x y
  ·have l':¬ltS y x:=λq=>Jy x (Jz l q);simp[c,c',l,l']
  ·have l':ltS y x:=ltS_of (Mv.mp l) n.symm;simp[c,c',l,l']
 ·have c':¬Ay row y x:=λq=>c (Dz (h2 y fS) (h2 x kh) q);simp[c,c']
def Xec(h2:∀y∈row,row.count y=2)(h3:Bk row)(hl:(dit row).length<=14):(crs row).length<=49:=by
 have m:=mantel (R:=λx y=>decide (Ay row x y)) (dit row).length (dit row) rfl (Ht row) (λx hx=>T9 (E7 (h2 x (Aj.mp hx))))
  (λx hx y hy=>by
   by_cases c:Ay row x y
   ·rw[T8 c,T8 (Dz (h2 x (Aj.mp hx)) (h2 y (Aj.mp hy)) c)]
   ·rw[T9 c,T9 λq=>c (Dz (h2 y (Aj.mp hy)) (h2 x (Aj.mp hx)) q)])
  (λx hx y hy z hz a b=>T9 (h3 x (Aj.mp hx) y (Aj.mp hy) z (Aj.mp hz) (Ua a) (Ua b)))
 rw[<-Xl3 h2] at m;have:(dit row).length * (dit row).length<=14 * 14:=Nat.mul_le_mul hl hl
 lia
def upB (row:Za) (x y:aq):Bool:=decide (y=x)||decide (lieR row x y = "within")
def span (row:Za) (x:aq):Nat:=((pl row x).2 - (pl row x).1).toNat
def Xl4(a b c e):lieT a b c e = "same" \/ lieT a b c e = "cross" \/ lieT a b c e = "within" \/ lieT a b c e = "around" \/ lieT a b c e = "apart" := by
 unfold lieT;split
 ·exact .inl rfl
 ·split
  ·exact .inr (.inl rfl)
  ·split
   ·exact .inr (.inr (.inl rfl))
   ·split
    ·exact .inr (.inr (.inr (.inl rfl)))
    ·exact .inr (.inr (.inr (.inr rfl)))
def Xl5  (hx:row.count x=2) (hy:row.count y=2) (n:x≠y) (h:lieR row x y = "around"):span row y<span row x:=by
 obtain⟨n1,n2,n3,n4⟩:=El hx hy n;have l1:=Bs hx;have l2:=Bs hy;unfold span;unfold lieR lieT at h;rw[T6 (λz=>n1 z.1)] at h;split at h
 ·exact absurd h (by decide)
 ·split at h
  ·exact absurd h (by decide)
  ·split at h
   ·rename_i q;rw[Be] at q;generalize (pl row x).1=a at *;generalize (pl row x).2=b at *;generalize (pl row y).1=c at *;generalize (pl row y).2=e at *;by_cases p1:a<c/\c<b
    ·by_cases p2:a<e/\e<b
     ·lia
     ·rw[T7 p1,T6 p2] at q;lia
    ·rw[T6 p1] at q;split at q<;>lia
   ·exact absurd h (by decide)
def Xed  (hx:row.count x=2) (hy:row.count y=2) (h:lieR row x y = "same"):x=y:=by
 refine Classical.byContradiction λn=>?_;obtain⟨n1,n2,n3,n4⟩:=El hx hy n;unfold lieR lieT at h;rw[T6 (λz=>n1 z.1)] at h;split at h
 ·exact absurd h (by decide)
 ·split at h
  ·exact absurd h (by decide)
  ·split at h
   ·exact absurd h (by decide)
   ·exact absurd h (by decide)
theorem least{α : Type}(f : α->Nat):∀l:List α,l≠[]->∃a∈l,∀b∈l,f a<=f b
 | [],h=>absurd rfl h
 | [a],_=>⟨a,O3,λb hb=>by rw[Oz.mp hb];exact Oy _⟩
 | a::c::r,_=>by
  obtain⟨m,hm,hl⟩:=least f (c::r) (by simp);by_cases q:f a<=f m
  ·exact⟨a,O3,λb hb=>by
    rcases Ph.mp hb with e | e
    ·rw[e];exact Oy _
    ·exact Pu q (hl b e)⟩
  ·exact⟨m,O4 _ hm,λb hb=>by
    rcases Ph.mp hb with e | e
    ·rw[e];lia
    ·exact hl b e⟩
def cands (row:Za):List (Za):=(dit row).map (λa=>(dit row).filter (upB row a))++(crs row).map λp=>(dit row).filter λy=>upB row p.1 y||upB row p.2 y
def Xee(h2:∀y∈row,row.count y=2)(h3:Bk row)(eZ:S≠[])(hg:An row S=true):S∈cands row:=by
 have tL:=hg;rw[<-Ke h2] at tL;unfold E5 at tL;rw[Pa] at tL;have hS:=Ua tL.1;unfold An at hg;rw[Pa,Pa] at hg;obtain⟨⟨_,vq⟩,cW⟩:=hg;have inr:∀x∈S,x∈row:=λx hx=>Ua (Po.mp vq x hx);have al:∀x∈S,∀y∈row,B9 (lieR row x y) (decide (y∈S))=true:=λx hx y hy=>Po.mp (Po.mp cW x hx) y (Aj.mpr hy);have within:∀x∈S,∀y∈row,lieR row x y = "within" -> y∈S:=λx hx y hy e=>by
  have:=al x hx y hy;unfold B9 at this;rw[T7 e] at this;exact Ua this
 have apart:∀x∈S,∀y∈S,lieR row x y ≠ "apart" := λx hx y hy e=>by
  have:=al x hx y (inr y hy);unfold B9 at this;rw[T6 (by rw[e];decide),e,T8 hy] at this;exact absurd this (by decide)
 have gW:∀a∈S,∀c∈S,upB row a c=false->¬span row c<span row a->Ay row a c:=λa ha c hc hu hs=>by
  have y1:=Sy.mp hu;have n1:c≠a:=Ub y1.1;have n2:=Ub y1.2;rcases Xl4 (pl row a).1 (pl row a).2 (pl row c).1 (pl row c).2 with q | q | q | q | q
  ·exact absurd (Xed (h2 a (inr a ha)) (h2 c (inr c hc)) q).symm n1
  ·exact q
  ·exact absurd q n2
  ·exact absurd (Xl5 (h2 a (inr a ha)) (h2 c (inr c hc)) (λe=>n1 e.symm) q) hs
  ·exact absurd q (apart a ha c hc)
 have nU:∀a∈S,∀y∈row,upB row a y=true->y∈S:=λa ha y hy q=>by
  rcases S8.mp q with q | q
  ·rw[Ua q];exact ha
  ·exact within a ha y hy (Ua q)
 obtain⟨a,ha,la⟩:=least (span row) S eZ;unfold cands;rw[O5];by_cases c6:∀c∈S,upB row a c=true
 ·left;rw[Pq];refine⟨a,Aj.mpr (inr a ha),?_⟩;rw[hS];refine List.filter_congr λy hy=>?_;by_cases q:y∈S
  ·rw[c6 y q,T8 q]
  ·rw[T9 q,Rv];exact λz=>q (nU a ha y (Aj.mp hy) z)
 ·right;have vt:S.filter (λc => !upB row a c)≠[]:=λe=>c6 λc hc=>by
   rw[Rj] at e;have:=e c hc;simpa using this
  obtain⟨b,hb,lb⟩:=least (span row) _ vt;obtain⟨l8,vw⟩:=O7.mp hb;have vw:upB row a b=false:=by simpa using vw
  have cab:=gW a ha b l8 vw (by have:=la b l8;lia);have all2:∀c∈S,upB row a c=true\/upB row b c=true:=λc hc=>by
   refine Classical.byContradiction λz=>?_;have z1:upB row a c=false:=by
    cases q:upB row a c with
    | false=>rfl
    | true=>exact absurd (.inl q) z
   have z2:upB row b c=false:=by
    cases q:upB row b c with
    | false=>rfl
    | true=>exact absurd (.inr q) z
   have k1:=gW a ha c hc z1 (by have:=la c hc;lia);have k2:=gW b l8 c hc z2 (by have:=lb c (O7.mpr ⟨hc,by simp[z1]⟩);lia);exact h3 a (inr a ha) b (inr b l8) c (inr c hc) cab k1 k2
  have cT:∀p q:aq,p∈S->q∈S->(∀c∈S,upB row p c=true\/upB row q c=true)->(dit row).filter (λy=>upB row p y||upB row q y)=S:=λp q hp hq h=>by
   conv=>rhs;rw[hS]
   refine List.filter_congr λy hy=>?_;by_cases m:y∈S
   ·rw[T8 m,S8];exact h y m
   ·rw[T9 m,Sy];exact⟨Rv.mpr λz=>m (nU p hp y (Aj.mp hy) z),Rv.mpr λz=>m (nU q hq y (Aj.mp hy) z)⟩
  have CA:a≠b:=λe=>by subst e;exact E7 (h2 a (inr a ha)) cab
  have mk:∀p q:aq,p∈S->q∈S->ltS p q->Ay row p q->(p,q)∈crs row:=λp q hp hq l c=>by
   unfold crs;rw[List.mem_flatMap];refine⟨p,Aj.mpr (inr p hp),Pq.mpr ⟨q,O7.mpr ⟨Aj.mpr (inr q hq),?_⟩,rfl⟩⟩;rw[Pa];exact⟨T8 l,T8 c⟩
  rw[Pq];by_cases l:ltS a b
  ·exact⟨(a,b),mk a b ha l8 l cab,cT a b ha l8 all2⟩
  ·have l':=ltS_of (Mv.mp l) CA.symm;exact⟨(b,a),mk b a l8 ha l' (Dz (h2 a (inr a ha)) (h2 b (inr b l8)) cab),cT b a l8 ha λc hc=>(all2 c hc).symm⟩
theorem Kk{α : Type}[DecidableEq α]:∀{a b:List α},a.Nodup->(∀x∈a,x∈b)->a.length<=b.length
 | [],_,_,_=>Px _
 | x::r,b,h,s=>by
  obtain⟨h1,h2⟩:=Qn.mp h;have hx:=s x O3;have:=Kk (a:=r) (b:=b.erase x) h2 λy hy=>(List.mem_erase_of_ne (show y≠x from λe=>h1 (e ▸ hy))).mpr (s y (O4 _ hy));rw[List.length_erase_of_mem hx] at this;have:0<b.length:=List.length_pos_of_mem hx;rw[Pj]
  lia
def Ny{L:List (Za)}(h2:∀y∈row,row.count y=2)(h3:Bk row)(hl:(dit row).length<=14)(nd:L.Nodup)(h:∀S∈L,S≠[]/\An row S=true):L.length<64:=by
 have l1:=Kk nd λS hS=>Xee h2 h3 (h S hS).1 (h S hS).2;have l2:=Xec h2 h3 hl;unfold cands at l1;rw[O2,Ow,Ow] at l1
 lia
end SH
namespace L2
open PySem.W (KasT kas_asc kas_desc kas_rev kas_tail3 kas_descPart kas_count kas_place kas_bin kas_sort kas_ask kas_item kat_run kat_snds kat_kind kat_lt KatLex kat_cons kat_go kat_yes kat_no kat_one kat_nil KatTups)
def KAll {α : Type} (n:Nat) (P : α->Prop):KasT α->Prop
 | .ret a=>P a
 | .ask i j k=>i<n/\j<n/\∀b,KAll n P (k b)
theorem KAll.bind{α β : Type}{P}{Q : β->Prop}{f}(hf:∀a,P a->KAll n Q (f a)):∀{t:KasT α},KAll n P t->KAll n Q (t.bind f)
 | .ret a,h=>hf a h
 | .ask i j k,h=>⟨h.1,h.2.1,λb=>KAll.bind hf (h.2.2 b)⟩
def Gd (n:Nat) (p:Array Nat):Prop:=p.Perm (List.toArray (List.range n))
def Gd.lt{n}{p}(h:Gd n p)(hn:0<n)(i):p.getD i 0<n:=by
 by_cases hi:i<p.size
 ·have e:p.getD i 0=p[i]:=by simp[Array.getD,hi]
  rw[e];have:p[i]∈p:=Array.getElem_mem hi;have:=h.mem_iff.mp this;simpa using this
 ·have e:p.getD i 0=0:=by simp[Array.getD,hi]
  rw[e];exact hn
def Gd.rev  (h:Gd n p) (i j):Gd n (kas_rev p i j):=(y3 p i j _).trans h
theorem Nz  (hn:0<n) (h:Gd n p):∀f m,KAll n (λ_=>True) (kas_asc p f m)
 | 0,_=>trivial
 | f+1,m=>⟨h.lt hn _,h.lt hn _,λb=>by
  cases b with
  | true=>exact trivial
  | false=>exact Nz hn h f (m+1)⟩
theorem Kl(hn:0<n):∀f (p:Array Nat) m q,Gd n p->KAll n (λr=>Gd n r.1) (kas_desc f p m q)
 | 0,p,m,q,h=>h
 | f+1,p,m,q,h=>⟨h.lt hn _,h.lt hn _,λb=>by
  cases b with
  | true=>
   show KAll n _ (if q > 0 then kas_desc f (kas_rev p (m - (q+1)) m) (m+1) 0 else kas_desc f p (m+1) 0);split
   ·exact Kl hn f _ _ _ (h.rev _ _)
   ·exact Kl hn f _ _ _ h
  | false=>
   refine⟨h.lt hn _,h.lt hn _,λd=>?_⟩;cases d with
   | true=>exact h
   | false=>exact Kl hn f _ _ _ h⟩
def Xef  (hn:0<n) (h:Gd n p) (m r):KAll n (λr=>Gd n r.2) (kas_tail3 m r p):=by
 unfold kas_tail3;refine KAll.bind (P:=λ_=>True) (Q:=λ(r:Nat×Array Nat)=>Gd n r.2) (λa _=>?_) (Nz hn (h.rev 0 m) _ _);exact h.rev 0 m
def Xeg  (hn:0<n) (h:Gd n p) (m r):KAll n (λr=>Gd n r.2) (kas_descPart m r p):=by
 refine KAll.bind (P:=λr=>Gd n r.1) (λa ha=>?_) (Kl hn _ _ _ _ h);split
 ·exact Xef hn (ha.rev _ _) _ _
 ·exact Xef hn ha _ _
def Xl6  (hn:0<n) (h:Gd n p) (r):KAll n (λr=>Gd n r.2) (kas_count r p):=by
 refine KAll.bind (P:=λ_=>True) (λa _=>?_) (Nz hn h _ _);split
 ·exact h
 ·split
  ·refine⟨h.lt hn _,h.lt hn _,λb=>?_⟩;cases b with
   | true=>exact h
   | false=>exact Xeg hn (h.rev _ _) _ _
  ·exact Xeg hn h _ _
theorem N0  (hn:0<n) (h:Gd n p) (k):∀f l r,KAll n (λ_=>True) (kas_place p k f l r)
 | 0,_,_=>trivial
 | f+1,l,r=>by
  show KAll n _ (if l ≥ r then _ else _);split
  ·exact trivial
  ·refine⟨h.lt hn _,h.lt hn _,λb=>?_⟩;cases b with
   | true=>exact N0 hn h k f _ _
   | false=>exact N0 hn h k f _ _
theorem Xeh(hn:0<n):∀f (p:Array Nat) k,Gd n p->KAll n (Gd n) (kas_bin f p k)
 | 0,p,_,h=>h
 | f+1,p,k,h=>KAll.bind (P:=λ_=>True) (λl _=>Xeh hn f _ _ ((jH p k _).trans h)) (N0 hn h k _ _ _)
def Km{n}(hn:0<n):KAll n (Gd n) (kas_sort n):=by
 refine KAll.bind (P:=λr=>Gd n r.2) (λa ha=>?_) (Xl6 hn (Ta _) n);split
 ·exact Xeh hn _ _ _ ha
 ·exact ha
section
variable {prog:av}{w:a8}{A:aB}{E:Zb}{s:ak}
def Xei (h:ar) (v:aa):Prop:=∃a o xs n ss,v = .ref a/\h.get? a=some o/\o.cls = .type "tuple" /\ o.data = .seq xs n/\aF xs.toList ss/\ss≠[]
theorem Xej:∀{vs:List aa},(∀v∈vs,Xei s.heap v)->∃fs,KatTups s.heap vs fs/\fs.length=vs.length/\∀f∈fs,∃x t,f = .str x t
 | [],_=>⟨[],KatTups.nil,rfl,λ_ h=>by cases h⟩
 | v::vs,h=>by
  obtain⟨fs,h1,h2,h3⟩:=Xej (vs:=vs) λu hu=>h u (O4 _ hu);obtain⟨a,o,xs,n,ss,rfl,g1,g2,g3,g4,g5⟩:=h v O3;obtain⟨f,x,t,hf,rfl⟩:∃f x t,xs[0]? = some f/\f = .str x t:=by
   have e:xs[0]? = xs.toList[0]?:=by simp
   rw[e];generalize xs.toList=l at g4;cases g4 with
   | nil=>exact absurd rfl g5
   | cons x t r=>exact⟨_,x,t,rfl,rfl⟩
  exact⟨_::fs,KatTups.cons g1 g2 g3 hf h1,by simp[h2],λf hf=>by
   rcases Ph.mp hf with e | e
   ·exact⟨x,t,e⟩
   ·exact h3 f e⟩
end
section
variable {X:Cx}
end
section
variable {X:Cx}
def Xl7:Bw X (.builtin "sorted") (λxs H Q=>∃(a:ae) (ks:Za),xs=[.ref a]/\H a=some (.tup (ks.map V.str))/\ks.length<64/\∀l,H l=none->Q (.ref l) (upd H l (.lst ((srt ks).map V.str)))):=by
 intro pins s Z H xs us Q I r h;obtain⟨a,ks,rfl,ha,cV,q⟩:=h;obtain⟨u,rfl,rx⟩:=Cg r;cases rx;obtain⟨aC,r2,p2,_⟩:=I.tuple (SqT.of (K:=X.K) ha);obtain⟨o,ho,hc,n,hd⟩:=id p2;have hl:aC.length=ks.length:=by
  have:=r2.length;rw[Ow] at this;exact this.symm
 refine Ms cV (λR k=>wpAny_collect_seq a (.inr rfl) ho hc hd (λh' kk=>k _ _ ks kk rfl rfl (by simpa using Gf r2) (Qv _)) (by rw[O0,hl,T5];lia)) λs1 s' vs ls e k1 o1 g1 k2 o2 g2 he st p so=>?_;refine Mt I cV k1 o1 g1 k2 o2 g2 he st p λl hl=>?_;rw[Gg p so];exact q l hl
def Xl8(hu:X.A.units+4<bz):OpR X (aJ .NotIn) (λx y H Q=>∃d ds,DAt H d x/\DAt H (.list ds) y/\d.canLay0=true/\ao.canLayAll0 ds=true/\d.depth<=3/\Q (.bl (!ds.any λe=>ao.eqv e d)) H):=by
 intro pins s Z H x y v u Q I rx ry h;obtain⟨d,ds,h1,h2,c1,c2,hd,q⟩:=h;obtain⟨as,ra⟩:=Fx I d x v h1 rx;obtain⟨bs,rb⟩:=Fx I (.list ds) y u h2 ry;exact SeqAt.notIn_list_reads rb ra c2 c1 (by lia) ⟨.bl _,H,I,rfl,q⟩
end
end L2
namespace SH
open L2
def tupD (ss:Za):ao:=.tuple (ss.map ao.str)
def Plts (row:Za) (H:Hp) (ps:List ae):Prop:=∀p∈ps,∃ss:Za,H p=some (.tup (ss.map V.str))/\An row ss=true
def Cn(h:An row ss=true):(∀x∈ss,x∈row)/\ss.Pairwise ltS:=by
 unfold An at h;rw[Pa,Pa] at h;refine⟨λx hx=>Ua (Po.mp h.1.2 x hx),?_⟩;rw[Ua h.1.1];exact Nm ss
def Gr(h:An row ss=true):ss.length<=(dit row).length:=
 Kk (Bn (Cn h).2) λx hx=>Aj.mpr ((Cn h).1 x hx)
def Gs(row):An row []=true:=by
 unfold An;rw[Kc .nil];rfl
def Xl9  (h2:∀y∈row,row.count y=2) (h:An row ss=true) (hx:x∈row) (n:x∉ss) (hf:C3 (bars row) (srt (ss++[x]))=true):An row (srt (ss++[x]))=true:=by
 rw[<-Ke h2];unfold E5;rw[hf,Bool.and_true];obtain⟨hr,hl⟩:=Cn h;have nd:(ss++[x]).Nodup:=by
  rw[Qs];exact⟨Bn hl,by simp,λa ha b hb e=>n (by rw[Oz.mp hb] at e;exact e ▸ ha)⟩
 refine T8 (Nn.mpr ⟨?_,λy hy=>?_⟩)
 ·unfold told;have e1:srt (ddup (srt (ss++[x])))=srt (srt (ss++[x])):=Xcm (Kb ((Ck _).nodup_iff.mpr nd));have e2:srt (srt (ss++[x]))=srt (ss++[x]):=Eh (Ck _) (Dv _) (Dv _);exact(e1.trans e2).symm
 ·rcases O5.mp (Gh.mp hy) with q | q
  ·exact hr y q
  ·rw[Oz.mp q];exact hx
def Xma  : srt (ss++[x])≠[]:=λe=>by
 have:x∈srt (ss++[x]):=Gh.mpr (by simp);rw[e] at this;cases this
structure Fresh (row:Za) (H:Hp) (f:ae) (xs:List V) (Ts:List (Za)):Prop where
 at':H f=some (.lst xs)
 all:DAll H (Ts.map tupD) xs
 nd:Ts.Nodup
 ok:∀T∈Ts,T≠[]/\An row T=true
def Fresh.same{row}   {xs}(h:Fresh row H f xs Ts)(s:Same H H'):Fresh row H' f xs Ts:=⟨s _ _ h.at',DAll.same s _ _ h.all,h.nd,h.ok⟩
abbrev NPl:Za:=["_law_row_here", "_law_bars_here", "_law_names_here", "_law_told", "_law_layer", "_law_k", "_law_fresh", "_law_plot", "_law_name", "_law_over"]
end SH
namespace L2
def Tups (H:Hp) (ps:List ae) (Ts:List (Za)):Prop:=ps.length=Ts.length/\∀i,i<ps.length->H (ps.getD i 0)=some (.tup ((Ts.getD i []).map V.str))
def Tups.same   (h:Tups H ps Ts) (s:Same H H'):Tups H' ps Ts:=⟨h.1,λi hi=>s _ _ (h.2 i hi)⟩
def Tups.nil(H):Tups H [] []:=⟨rfl,λi hi=>absurd hi (Qq _)⟩
def Tups.cons{H}{p}{T}{ps}{Ts}(h:H p=some (.tup (T.map V.str)))(r:Tups H ps Ts):Tups H (p::ps) (T::Ts):=by
 refine⟨by simp[r.1],λi hi=>?_⟩;cases i with
 | zero=>exact h
 | succ i=>exact r.2 i (by simpa using hi)
theorem Tups.app:∀{ps qs:List ae} {Ts Us:List (Za)},Tups H ps Ts->Tups H qs Us->Tups H (ps++qs) (Ts++Us)
 | [],qs,Ts,Us,h,g=>by
  have:Ts=[]:=P8.mp h.1.symm;rw[this];exact g
 | p::ps,qs,[],Us,h,g=>by have:=h.1;simp at this
 | p::ps,qs,T::Ts,Us,h,g=>by
  have r:Tups H ps Ts:=⟨by simpa using h.1,λi hi=>by simpa using h.2 (i+1) (by simpa using hi)⟩;exact Tups.cons (h.2 0 (by simp)) (Tups.app r g)
open PySem.W (KasT kas_asc kas_desc kas_rev kas_tail3 kas_descPart kas_count kas_place kas_bin kas_sort kas_ask kas_item kat_run kat_snds kat_kind kat_lt KatLex kat_cons kat_go kat_yes kat_no kat_one kat_nil KatTups)
def Ba {α : Type} (lt:Nat->Nat->Bool):KasT α -> α
 | .ret a=>a
 | .ask i j k=>Ba lt (k (lt i j))
theorem Gu{α β : Type}{lt}{f : α->KasT β}:∀t:KasT α,Ba lt (t.bind f)=Ba lt (f (Ba lt t))
 | .ret _=>rfl
 | .ask i j k=>Gu (k (lt i j))
theorem N1{α : Type}{n}{lt}{P}{G}  (hc:∀i j C,i<n->j<n->C (lt i j) s->CB i j C s):
  ∀{t:KasT α},KAll n P t->G (Ba lt t) s->t.kasWp CB G s
 | .ret a,_,h=>h
 | .ask i j k,h,g=>hc i j _ h.1 h.2.1 (N1 hc (h.2.2 _) g)
theorem KAll.run{α : Type}  {P}:∀{t:KasT α},KAll n P t->P (Ba lt t)
 | .ret a,h=>h
 | .ask i j k,h=>KAll.run (t:=k (lt i j)) (h.2.2 (lt i j))
structure Lin (n:Nat) (lt:Nat->Nat->Bool):Prop where
 irr:∀i,lt i i=false
 tr:∀i j k,lt i j=true->lt j k=true->lt i k=true
 tot:∀i j,i<n->j<n->i≠j->lt i j=true\/lt j i=true
section
variable {n:Nat}{lt:Nat->Nat->Bool}{p:Array Nat}
def B0 (lt:Nat->Nat->Bool) (p:Array Nat) (m:Nat):Prop:=∀i j,i<j->j<m->lt (p.getD i 0) (p.getD j 0)=true
def Xek (lt:Nat->Nat->Bool) (p:Array Nat) (m:Nat):Prop:=∀i j,i<j->j<m->lt (p.getD j 0) (p.getD i 0)=true
def Gd.size(h:Gd n p):p.size=n:=by
 have:=h.size_eq;simpa using this
def Gd.inj  (h:Gd n p) (hi:i<n) (hj:j<n) (ne:i≠j):p.getD i 0≠p.getD j 0:=λe=>by
 have sz:=h.size;have nd:p.toList.Nodup:=by
  have q:p.toList.Perm (List.range n):=by simpa using h.toList
  exact q.nodup_iff.mpr List.nodup_range
 have eS:i<p.toList.length:=by rw[O1,sz];exact hi
 have gf:j<p.toList.length:=by rw[O1,sz];exact hj
 have e1:p.getD i 0=p.toList[i]:=by simp[Array.getD,sz,hi]
 have e2:p.getD j 0=p.toList[j]:=by simp[Array.getD,sz,hj]
 rw[e1,e2] at e;exact ne ((Sg nd).mp e)
def Lin.flip(L:Lin n lt)(h:Gd n p)(hi:i<n)(hj:j<n)(ne:i≠j)(e:lt (p.getD i 0) (p.getD j 0)=false):lt (p.getD j 0) (p.getD i 0)=true:=by
 have hn:0<n:=by lia
 rcases L.tot _ _ (h.lt hn i) (h.lt hn j) (h.inj hi hj ne) with z | z
 ·rw[z] at e;cases e
 ·exact z
theorem N2(L:Lin n lt)(h:Gd n p):∀f m,1<=m->m+f<=n->B0 lt p m->m<=Ba lt (kas_asc p f m)/\Ba lt (kas_asc p f m)<=m+f/\B0 lt p (Ba lt (kas_asc p f m)) /\
  (Ba lt (kas_asc p f m)<m+f->lt (p.getD (Ba lt (kas_asc p f m)) 0) (p.getD (Ba lt (kas_asc p f m) - 1) 0)=true)
 | 0,m,_,_,so=>⟨Oy _,Oy _,so,λz=>absurd z (by show ¬m<m+0;lia)⟩
 | f+1,m,h1,hn,so=>by
  have e:Ba lt (kas_asc p (f+1) m)=Ba lt (if lt (p.getD m 0) (p.getD (m - 1) 0)=true then KasT.ret m else kas_asc p f (m+1)):=rfl;cases c:lt (p.getD m 0) (p.getD (m - 1) 0) with
  | true=>
   rw[e,c,T7 rfl];exact⟨Oy _,by show m<=_;lia,so,λ_=>c⟩
  | false=>
   rw[e,c,T6 (by decide)];have c':=L.flip h (by lia) (by lia) (by lia) c;obtain⟨a1,a2,a3,a4⟩:=N2 L h f (m+1) (by lia) (by lia) (λi j ir hj=>by
    by_cases vy:j<m
    ·exact so i j ir vy
    ·have:j=m:=by lia
     subst this;by_cases hi:i=j - 1
     ·subst hi;exact c'
     ·exact L.tr _ _ _ (so i (j - 1) (by lia) (by lia)) c')
   exact⟨by lia,by lia,a3,λz=>a4 (by lia)⟩
theorem Xel(L:Lin n lt)(h:Gd n p):∀f m,1<=m->m+f<=n->Xek lt p m->∃r,Ba lt (kas_desc f p m 0)=(p,r,0)/\m<=r/\r<=m+f/\Xek lt p r
 | 0,m,_,_,so=>⟨m,rfl,Oy _,Oy _,so⟩
 | f+1,m,h1,hn,so=>by
  have e:Ba lt (kas_desc (f+1) p m 0)=Ba lt (if lt (p.getD m 0) (p.getD (m - 1) 0)=true then (if 0 > 0 then kas_desc f (kas_rev p (m - (0+1)) m) (m+1) 0 else kas_desc f p (m+1) 0)
   else .ask (p.getD (m - 1) 0) (p.getD m 0) λd=>if d=true then .ret (p,m,0) else kas_desc f p (m+1) (0+1)):=rfl
  cases c:lt (p.getD m 0) (p.getD (m - 1) 0) with
  | true=>
   rw[e,c,T7 rfl,T6 (by lia)];obtain⟨r,a1,a2,a3,a4⟩:=Xel L h f (m+1) (by lia) (by lia) (λi j ir hj=>by
    by_cases vy:j<m
    ·exact so i j ir vy
    ·have:j=m:=by lia
     subst this;by_cases hi:i=j - 1
     ·subst hi;exact c
     ·exact L.tr _ _ _ c (so i (j - 1) (by lia) (by lia)))
   exact⟨r,a1,by lia,by lia,a4⟩
  | false=>
   rw[e,c,T6 (by decide)];have c':=L.flip h (by lia) (by lia) (by lia) c;refine⟨m,?_,Oy _,by lia,so⟩;show Ba lt (if lt (p.getD (m - 1) 0) (p.getD m 0)=true then _ else _)=_;rw[T7 c'];rfl
def Ij(p:Array Nat)(i):p.getD i 0=(p[i]?).getD 0:=by simp
def Xem  (hm:m<=p.size) (hi:i<m):(kas_rev p 0 m).getD i 0=p.getD (m - 1 - i) 0:=by
 rw[Ij,Ij];show ((mirror p 0 m ((m - 0) / 2))[i]?).getD 0=_;rw[kw hm,T7 (by lia)];congr 2
 lia
def Xmb(L:Lin n lt)(h:Gd n p)(hn:1<=n):∃m p',Ba lt (kas_count n p)=(m,p')/\1<=m/\m<=n/\Gd n p'/\B0 lt p' m:=by
 have sz:=h.size;unfold kas_count;rw[Gu];obtain⟨a1,a2,a3,a4⟩:=N2 (lt:=lt) L h (n - 1) 1 (Oy _) (by lia) (λi j ir hj=>by lia);generalize Ba lt (kas_asc p (n - 1) 1)=r at *;by_cases e1:(r==n)=true
 ·rw[T7 e1];exact⟨r,p,rfl,a1,by lia,h,a3⟩
 ·rw[T6 e1];have rn:r≠n:=λz=>e1 (by rw[z];exact beq_self_eq_true _);by_cases e2:r > 1
  ·rw[T7 e2];refine⟨r,p,?_,a1,by lia,h,a3⟩;show Ba lt (if lt (p.getD 0 0) (p.getD (r - 1) 0)=true then _ else _)=_;rw[T7 (a3 0 (r - 1) (by lia) (by lia))];rfl
  ·rw[T6 e2];obtain rfl:r=1:=by lia
   have a4:=a4 (by lia);unfold kas_descPart;rw[Gu];obtain⟨r2,b1,b2,b3,b4⟩:=Xel (lt:=lt) L h (n - (1+1)) (1+1) (by lia) (by lia) (λi j ir hj=>by
    have:j=1:=by lia
    subst this;have:i=0:=by lia
    subst this;exact a4)
   rw[b1];dsimp only;rw[T6 (by lia)];unfold kas_tail3;rw[Gu];have y4:=h.rev 0 r2;obtain⟨c1,c2,c3,_⟩:=N2 (lt:=lt) L y4 (n - r2) r2 (by lia) (by lia) (λi j ir hj=>by
    rw[Xem (by lia) (by lia),Xem (by lia) (by lia)];exact b4 _ _ (by lia) (by lia))
   exact⟨_,_,rfl,by lia,by lia,y4,c3⟩
theorem N3(L:Lin n lt)(h:Gd n p){k}(hk:k<n)(so:B0 lt p k):∀f l r,r - l<=f->l<=r->r<=k->(∀i,i<l->lt (p.getD i 0) (p.getD k 0)=true)->(∀i,r<=i->i<k->lt (p.getD k 0) (p.getD i 0)=true) ->
  Ba lt (kas_place p k f l r)<=k/\(∀i,i<Ba lt (kas_place p k f l r)->lt (p.getD i 0) (p.getD k 0)=true)/\(∀i,Ba lt (kas_place p k f l r)<=i->i<k->lt (p.getD k 0) (p.getD i 0)=true)
 | 0,l,r,hf,CC,hr,hl,hg=>by
  have:l=r:=by lia
  subst this;exact⟨hr,hl,hg⟩
 | f+1,l,r,hf,CC,hr,hl,hg=>by
  unfold kas_place;by_cases e:l ≥ r
  ·rw[T7 e];have:l=r:=by lia
   subst this;exact⟨hr,hl,hg⟩
  ·rw[T6 e];have e2:Ba lt (KasT.ask (p.getD k 0) (p.getD ((l+r) / 2) 0) λc=>if c=true then kas_place p k f l ((l+r) / 2) else kas_place p k f ((l+r) / 2+1) r)=Ba lt (if lt (p.getD k 0) (p.getD ((l+r) / 2) 0)=true then kas_place p k f l ((l+r) / 2) else kas_place p k f ((l+r) / 2+1) r):=rfl;rw[e2];have nR:l<=(l+r) / 2:=by lia
   have tK:(l+r) / 2<r:=by lia
   generalize (l+r) / 2=md at *;cases c:lt (p.getD k 0) (p.getD md 0) with
   | true=>
    rw[T7 rfl];refine N3 L h hk so f l md (by lia) (by lia) (by lia) hl λi h1 h2=>?_;by_cases e3:i=md
    ·rw[e3];exact c
    ·exact L.tr _ _ _ c (so md i (by lia) h2)
   | false=>
    rw[T6 (by decide)];have c':=L.flip h hk (by lia) (by lia) c;refine N3 L h hk so f (md+1) r (by lia) (by lia) hr (λi hi=>?_) hg;by_cases e3:i=md
    ·rw[e3];exact c'
    ·exact L.tr _ _ _ (so i md (by lia) (by lia)) c'
def Xen(hk:k<p.size)(hl:l<=k)(i):(bubble p k (k - l)).getD i 0=if i=l then p.getD k 0 else if l<i/\i<=k then p.getD (i - 1) 0 else p.getD i 0:=by
 simp only[Ij];rw[oW hk _ (by lia),show k - (k - l)=l by lia];by_cases h1:i=l
 ·rw[T7 h1,T7 h1]
 ·rw[T6 h1,T6 h1];by_cases h2:l<i/\i<=k
  ·rw[T7 h2,T7 h2]
  ·rw[T6 h2,T6 h2]
theorem Xeo(L:Lin n lt):∀f (p:Array Nat) k,Gd n p->k+f<=n->B0 lt p k->B0 lt (Ba lt (kas_bin f p k)) (k+f)
 | 0,p,k,_,_,so=>so
 | f+1,p,k,h,hk,so=>by
  have sz:=h.size;have e:Ba lt (kas_bin (f+1) p k)=Ba lt ((kas_place p k k 0 k).bind λl=>kas_bin f (bubble p k (k - l)) (k+1)):=rfl;rw[e,Gu];obtain⟨a1,a2,a3⟩:=N3 (lt:=lt) L h (k:=k) (by lia) so k 0 k (by lia) (by lia) (Oy _) (λi z=>absurd z (Qq _)) (λi h1 h2=>by lia);generalize Ba lt (kas_place p k k 0 k)=l at *;have:=Xeo L f (bubble p k (k - l)) (k+1) ((jH p k _).trans h) (by lia) (λi j ir hj=>by
   rw[Xen (by lia) a1,Xen (by lia) a1];by_cases i1:i=l
   ·rw[T7 i1,T6 (by lia),T7 (by lia)];exact a3 _ (by lia) (by lia)
   ·rw[T6 i1];by_cases i2:l<i/\i<=k
    ·rw[T7 i2,T6 (by lia),T7 (by lia)];exact so _ _ (by lia) (by lia)
    ·rw[T6 i2];by_cases j1:j=l
     ·rw[T7 j1];exact a2 i (by lia)
     ·rw[T6 j1];by_cases j2:l<j/\j<=k
      ·rw[T7 j2];by_cases z:i=j - 1
       ·lia
       ·exact so _ _ (by lia) (by lia)
      ·rw[T6 j2];exact so _ _ ir (by lia))
  rw[show k+(f+1)=k+1+f by lia];exact this
def Xep(L:Lin n lt)(hn:0<n):B0 lt (Ba lt (kas_sort n)) n:=by
 unfold kas_sort;rw[Gu];obtain⟨m,p',e,h1,h2,h3,h4⟩:=Xmb (lt:=lt) L (p:=List.toArray (List.range n)) (Ta _) hn;rw[e];dsimp only;by_cases hm:m<n
 ·rw[T7 hm];have:=Xeo L (n - max m 1) p' (max m 1) h3 (by lia) (by rw[show max m 1=m by lia];exact h4)
  rwa [show max m 1+(n - max m 1)=n by lia] at this
 ·rw[T6 hm];have:m=n:=by lia
  subst this;exact h4
end
open PySem.W (KasT kas_asc kas_desc kas_rev kas_tail3 kas_descPart kas_count kas_place kas_bin kas_sort kas_ask kas_item kat_run kat_snds kat_kind kat_lt KatLex kat_cons kat_go kat_yes kat_no kat_one kat_nil KatTups)
def ltL:Za->Za->Bool
 | [],[]=>false
 | [],_::_=>true
 | _::_,[]=>false
 | x::a,y::b=>if x=y then ltL a b else decide (ltS x y)
theorem Ik:∀a,ltL a a=false
 | []=>rfl
 | x::a=>by
  show (if x=x then ltL a a else _)=false;rw[T7 rfl];exact Ik a
theorem Kn:∀a b c,ltL a b=true->ltL b c=true->ltL a c=true
 | [],[],c,h,_=>by cases h
 | [],_::_,[],_,g=>by cases g
 | [],_::_,_::_,_,_=>rfl
 | _::_,[],_,h,_=>by cases h
 | _::_,_::_,[],_,g=>by cases g
 | x::a,y::b,z::c,h,g=>by
  have h:(if x=y then ltL a b else decide (ltS x y))=true:=h;have g:(if y=z then ltL b c else decide (ltS y z))=true:=g;show (if x=z then ltL a c else decide (ltS x z))=true;by_cases e1:x=y
  ·subst e1;rw[T7 rfl] at h;by_cases e2:x=z
   ·rw[T7 e2] at g ⊢;exact Kn a b c h g
   ·rw[T6 e2] at g ⊢;exact g
  ·rw[T6 e1] at h;by_cases e2:y=z
   ·subst e2;rw[T6 e1];exact h
   ·rw[T6 e2] at g;have q:=Jz (Ua h) (Ua g);rw[T6 (Hs q)];exact T8 q
theorem N4:∀a b,a≠b->ltL a b=true\/ltL b a=true
 | [],[],n=>absurd rfl n
 | [],_::_,_=>.inl rfl
 | _::_,[],_=>.inr rfl
 | x::a,y::b,n=>by
  show (if x=y then ltL a b else decide (ltS x y))=true\/(if y=x then ltL b a else decide (ltS y x))=true;by_cases e:x=y
  ·subst e;rw[T7 rfl,T7 rfl];exact N4 a b λz=>n (by rw[z])
  ·rw[T6 e,T6 (λz=>e z.symm)];rcases Mu x y with z | z
   ·exact .inl (T8 (ltS_of z e))
   ·exact .inr (T8 (ltS_of z λq=>e q.symm))
def Xmc{Ts:List (Za)}(nd:Ts.Nodup):Lin Ts.length λi j=>ltL (Ts.getD i []) (Ts.getD j []) where
 irr i:=Ik _
 tr i j k:=Kn _ _ _
 tot i j hi hj ne:=N4 _ _ λe=>ne (by
  have e1:Ts.getD i []=Ts[i]:=by simp[List.getD,hi]
  have e2:Ts.getD j []=Ts[j]:=by simp[List.getD,hj]
  rw[e1,e2] at e;exact(Sg nd).mp e)
def Xmd{Ts}(g:Gd Ts.length p)(so:B0 (λi j=>ltL (Ts.getD i []) (Ts.getD j [])) p Ts.length):
  (p.toList.map λi=>Ts.getD i []).Perm Ts/\(p.toList.map λi=>Ts.getD i []).Pairwise λa b=>ltL a b=true:=by
 constructor
 ·have e:((List.range Ts.length).map λi=>Ts.getD i [])=Ts:=by
   refine Ro (by simp) λi h1 h2=>?_;simp[Rb,List.getElem_range,List.getD,h2]
  have q:p.toList.Perm (List.range Ts.length):=by
   have:=g.toList;simpa using this
  have:=q.map λi=>Ts.getD i [];rw[e] at this;exact this
 ·rw[Rs];intro i j hi hj ir;have sz:=g.size;rw[Ow,O1,sz] at hi hj;have:=so i j ir hj;rw[Rb,Rb];have e1:p.getD i 0=p.toList[i]'(by rw[O1,sz];exact hi):=by simp[Array.getD,sz,hi]
  have e2:p.getD j 0=p.toList[j]'(by rw[O1,sz];exact hj):=by simp[Array.getD,sz,hj]
  rw[e1,e2] at this;exact this
section
variable {prog:av}{w:a8}{A:aB}{E:Zb}{s:ak}
theorem Xeq  : ∀{us vs:List aa} {as bs:Za} (i:Nat),aF us as->aF vs bs->fin=decide (as.length<bs.length)->C (ltL as bs) s->KatLex prog w A b fin C (us.zip vs) i s
 | _,_,_,_,_,.nil,.nil,hf,h=>kat_nil (by rw[hf];exact h)
 | _,_,_,_,_,.nil,.cons _ _ _,hf,h=>kat_nil (by rw[hf];exact h)
 | _,_,_,_,_,.cons _ _ _,.nil,hf,h=>kat_nil (by rw[hf];exact h)
 | _,_,_,_,i,.cons x t r,.cons y u r',hf,h=>by
  have h:C (if x=y then ltL _ _ else decide (ltS x y)) s:=h;refine kat_cons (eqBool_str ?_);refine kat_go (λe=>kat_yes (Xeq (i+1) r r' ?_ ?_)) (λe=>kat_no ?_)
  ·rw[hf];simp
  ·rw[T7 (by simpa using e)] at h;exact h
  ·have e:¬x=y:=by simpa using e
   rw[T6 e] at h;cases (b&&i==0) with
   | true=>exact oneLt_str h
   | false=>exact kat_one _ _ (PyProof.Rows.lt_str h)
def Dn (h:ar) (v:aa) (ss:Za):Prop:=∃a o xs n,v = .ref a/\h.get? a=some o/\o.cls = .type "tuple" /\ o.data = .seq xs n/\aF xs.toList ss
def Xme    (hx:Dn s.heap x as) (hy:Dn s.heap y bs) (h:C (ltL as bs) s):aj (ai prog w) A (qU (tuples' b) x y) C E s:=by
 obtain⟨a,o,xs,n,rfl,h1,_,h2,h3⟩:=hx;obtain⟨b,o',ys,n',rfl,g1,_,g2,g3⟩:=hy;refine kat_lt h1 h2 g1 g2 (Xeq 0 h3 g3 ?_ h);have e1:=h3.length;have e2:=g3.length;rw[O1] at e1 e2;rw[e1,e2]
def Dn.toS   (t:Dn h v ss) (n:ss≠[]):Xei h v:=by
 obtain⟨a,o,xs,k,e,h1,h2,h3,h4⟩:=t;exact⟨a,o,xs,k,ss,e,h1,h2,h3,h4,n⟩
def Dn.kept{h h'}  (t:Dn h v ss)(k:∀b o,o.cls = .type "tuple" -> h.get? b=some o->h'.get? b=some o):Dn h' v ss:=by
 obtain⟨a,o,xs,n,e,h1,h2,h3,h4⟩:=t;exact⟨a,o,xs,n,e,k a o h2 h1,h2,h3,h4⟩
def Xer (h:ar) (vs:List aa) (Ts:List (Za)):Prop:=vs.length=Ts.length/\∀i,i<vs.length->Dn h (vs.getD i .none) (Ts.getD i [])
def Xmf     (ho:s.heap.get? a=some (ay "list" vs.toArray n)) (hv:Xer s.heap vs Ts) (eZ:[]∉Ts) (nd:Ts.Nodup) (cV:vs.length<64)
  (h:∀p:Array Nat,Gd vs.length p->B0 (λi j=>ltL (Ts.getD i []) (Ts.getD j [])) p vs.length->P (.done (.ret .none)) {s with heap:=BE s.heap a vs (p.toList.map λi=>vs.getD i aa.none).toArray}):
  aj (ai prog w) A (am.«list.sort» ⟨[.ref a],[]⟩) P E s:=by
 rw[list_sort_plain];have ha:a<s.heap.objs.size:=Uc ho;have L:=Xmc nd;rw[<-hv.1] at L;have mem:∀i,i<vs.length->Ts.getD i []∈Ts:=λi hi=>by
  have eS:i<Ts.length:=by rw[<-hv.1];exact hi
  have:Ts.getD i []=Ts[i]:=by simp[List.getD,eS]
  rw[this];exact Ps eS
 refine Tz (iY ho rfl ?_);refine Tz (bL ho rfl ?_);obtain⟨e1,iu⟩:∃e1,(s.heap.update a (aU.mapSeq λ_ => #[])).get? a=some (ay "list" #[] e1):=⟨_,fE ho (λ_ => #[])⟩;refine Tz (dq iu rfl ?_);refine Tz (gm ?_);refine Tz (cL ?_);refine aA ?_;have oX:(((s.heap.update a (aU.mapSeq λ_ => #[])).push (ay "tuple" vs.toArray 0)).push (ay "list" #[] 0)).get? a=some (ay "list" #[] e1):=by
  rw[ar.get?_push_ne _ _ _ (by rw[bN,ar.size_update];exact O6 (Qr ha)),ar.get?_push_ne _ _ _ (by rw[ar.size_update];exact O6 ha)];exact iu
 have vz:∀b o,o.cls = .type "tuple" -> s.heap.get? b=some o->(((s.heap.update a (aU.mapSeq λ_ => #[])).push (ay "tuple" vs.toArray 0)).push (ay "list" #[] 0)).get? b=some o:=λb o g2 g1=>by
  have eZ:b≠a:=λe=>by
   rw[e,ho] at g1;have e1:=Pd g1;rw[<-e1] at g2;exact absurd (show aa.type "list" = aa.type "tuple" from g2) (by decide)
  exact Ud _ (Ud _ (by rw[ar.get?_update_ne _ _ _ _ eZ];exact g1))
 have vA:∀i,i<vs.length->Dn (((s.heap.update a (aU.mapSeq λ_ => #[])).push (ay "tuple" vs.toArray 0)).push (ay "list" #[] 0)) (vs.getD i .none) (Ts.getD i []):=λi hi=>(hv.2 i hi).kept vz;show aj (ai prog w) A _ P E {s with heap:=((s.heap.update a (aU.mapSeq λ_ => #[])).push (ay "tuple" vs.toArray 0)).push (ay "list" #[] 0)};dsimp only;have hsz:vs.toArray.size=vs.length:=by simp
 by_cases h2:vs.toArray.size<2
 ·rw[T7 h2,T7 h2];refine Tz (T0 ?_);rw[StateT.run_pure];refine Tz (T0 ?_);dsimp only;refine Tz (dq oX rfl ?_);refine Tz (bL oX rfl ?_ (hsz2:=by rw[Array.size_map];show (pairsOf vs).size<=_;rw[pairsOf_size,T5];lia));simp only[bne_self_eq_false,Pt,if_false];have q:=h (List.toArray (List.range vs.length)) (Ta _) (λi j ir hj=>by lia);refine T0 ?_;have e:(bq (bf.mk' general' (vs.toArray.zip vs.toArray) #[] 7 none)).map (·.2)=(((List.range vs.length).toArray).toList.map λi=>vs.getD i aa.none).toArray:=by
   show ((vs.toArray.zip vs.toArray).map (·.2))=_;apply Array.toList_inj.mp;simp only[Array.toList_map,List.zip_toArray];rw[List.map_snd_zip (Oy _)];refine Ro (by simp) λi h1 h2=>?_;simp[List.getD,h1]
  rw[e];exact q
 ·rw[T6 h2,T6 h2];obtain⟨fs,t1,t2,t3⟩:=Xej (s:={s with heap:=((s.heap.update a (aU.mapSeq λ_ => #[])).push (ay "tuple" vs.toArray 0)).push (ay "list" #[] 0)}) (vs:=vs) λv hm=>by
   obtain⟨i,hi,rfl⟩:=P7.mp hm;have e:vs.getD i .none=vs[i]:=by simp[List.getD,hi]
   have:=vA i hi;rw[e] at this;exact Dn.toS this λz=>eZ (z ▸ mem i hi)
  refine Tz (kat_kind (T:=.type "str") t1 (by lia) (λv hm=>?_) (by decide) ?_)
  ·obtain⟨x,t,rfl⟩:=t3 v hm;exact .now
  have eb:((aa.type "str") != aa.type "tuple")=true:=by decide
  rw[eb];refine Tz (aN (kat_run (κ:=tuples' true) (ks:=vs) (vs:=vs) (Q:=λaD s'=>s' = {s with heap:=((s.heap.update a (aU.mapSeq λ_ => #[])).push (ay "tuple" vs.toArray 0)).push (ay "list" #[] 0)}/\bA aD=none/\∃p,Gd vs.length p/\B0 (λi j=>ltL (Ts.getD i []) (Ts.getD j [])) p vs.length/\(bq aD).map (·.2)=(p.toList.map λi=>vs.getD i aa.none).toArray)
   (G:=λp s'=>s' = {s with heap:=((s.heap.update a (aU.mapSeq λ_ => #[])).push (ay "tuple" vs.toArray 0)).push (ay "list" #[] 0)}/\Gd vs.length p/\B0 (λi j=>ltL (Ts.getD i []) (Ts.getD j [])) p vs.length) rfl (by lia) cV (λp aD s' a1 a2 a3 a4=>⟨a4.1,a3,p,a4.2.1,a4.2.2,kat_snds rfl a2⟩) ?_) ?_ λ_ _ e=>e)
  ·refine N1 (n:=vs.length) (lt:=λi j=>ltL (Ts.getD i []) (Ts.getD j [])) (λi j C hi hj hC=>?_) (Km (n:=vs.length) (by lia)) ⟨rfl,(Km (n:=vs.length) (by lia)).run,Xep L (by lia)⟩;show aj _ _ (qU (tuples' true) (vs.getD i aa.none) (vs.getD j aa.none)) C _ _;exact Xme (vA i hi) (vA j hj) hC
  rintro ⟨⟨⟩,aD⟩ s' ⟨rfl,hf,p,hp,so,ea⟩;dsimp only;refine Tz (dq oX rfl ?_);have gT:=hp.size;refine Tz (bL oX rfl ?_ (hsz2:=by
   rw[ea,O0,Ow,O1,gT,T5];lia))
  rw[hf];simp only[bne_self_eq_false,Pt,if_false];rw[ea];exact T0 (h p hp so)
def Xmg   {Ts} (hl:s.heap.IsList l vs.toArray) (hv:Xer s.heap vs Ts) (eZ:[]∉Ts) (nd:Ts.Nodup) (cV:vs.length<64)
  (h:∀p:Array Nat,Gd vs.length p->B0 (λi j=>ltL (Ts.getD i []) (Ts.getD j [])) p vs.length->Q (.ref (s.heap.objs.size+1)) {s with heap:=nN s.heap vs (p.toList.map λi=>vs.getD i aa.none).toArray}):
  aj (ai prog w) A (call (.builtin "sorted") [.ref l]) Q E s:=by
 refine Calls.call_function_entry jD iV iW (va _) ?_;unfold am.«sorted»;refine Tz (m:=lw "sorted" 1 1 _) (T0 ?_);refine Tz (vB hl ?_);refine Tz (cL ?_);have hsz:((s.heap.push (ay "list" #[] 0)).update s.heap.objs.size (aU.mapSeq (· ++ vs.toArray))).objs.size=s.heap.objs.size+1:=by
  rw[ar.size_update,bN]
 have kH:(((s.heap.push (ay "list" #[] 0)).update s.heap.objs.size (aU.mapSeq (· ++ vs.toArray))).push (ay "list" vs.toArray 0)).get? (s.heap.objs.size+1)=some (ay "list" vs.toArray 0):=by
  rw[<-hsz];exact ar.get?_push_size _ rfl
 have keep:∀b o,s.heap.get? b=some o->(((s.heap.push (ay "list" #[] 0)).update s.heap.objs.size (aU.mapSeq (· ++ vs.toArray))).push (ay "list" vs.toArray 0)).get? b=some o:=λb o q=>by
  have bo:b<s.heap.objs.size:=Uc q;rw[ar.get?_push_ne _ _ _ (by rw[hsz];exact O6 (Qr bo)),ar.get?_update_ne _ _ _ _ (O6 bo),ar.get?_push_ne _ _ _ (O6 bo)];exact q
 show aj _ _ _ _ _ {s with heap:=((s.heap.push (ay "list" #[] 0)).update s.heap.objs.size (aU.mapSeq (· ++ vs.toArray))).push (ay "list" vs.toArray 0)};rw[hsz];refine Tz (aA (aP gt ⟨_,kH,rfl⟩ fC (Xmf kH ⟨hv.1,λi hi=>(hv.2 i hi).kept λb o _=>keep b o⟩ eZ nd cV λp a1 a2=>⟨_,rfl,?_⟩) (qL _)));exact T0 ⟨_,rfl,h p a1 a2⟩
end
section
variable {X:Cx}
def Xmh:Bw X (.builtin "sorted") (λxs H Q=>∃(a:ae) (ps:List ae) (Ts:List (Za)),xs=[.ref a]/\H a=some (.lst (ps.map V.ref))/\Tups H ps Ts/\[]∉Ts/\Ts.Nodup/\ps.length<64 /\
  ∀l nV fw,H l=none->Tups H nV fw->fw.Perm Ts->(fw.Pairwise λa b=>ltL a b=true)->Q (.ref l) (upd H l (.lst (nV.map V.ref)))):=by
 intro pins s Z H xs us Q I r h;obtain⟨a,ps,Ts,rfl,ha,ht,eZ,nd,cV,q⟩:=h;obtain⟨u,rfl,rx⟩:=Cg r;cases rx;obtain⟨aC,rv,pl,hz⟩:=I.list (SqL.of ha);have nW:aC=ps.map aa.ref:=by
  clear ht cV q hz pl ha
  induction ps generalizing aC with
  | nil=>cases rv;rfl
  | cons p t ih=>
   cases rv with
   | cons r t'=>cases r;rw[ih _ t'];rfl
 subst nW;have qV:∀i,i<ps.length->(ps.map aa.ref).getD i .none = .ref (ps.getD i 0):=λi hi=>by simp[List.getD,hi]
 refine Xmg pl.isList (Ts:=Ts) ⟨by rw[Ow];exact ht.1,λi hi=>?_⟩ eZ nd (by rw[Ow];exact cV) λp h1 h2=>?_
 ·rw[Ow] at hi;obtain⟨ib,r2,p2,_⟩:=I.tuple (SqT.of (K:=X.K) (ht.2 i hi));obtain⟨o,ho,hc,n,hd⟩:=id p2;exact⟨ps.getD i 0,o,ib.toArray,n,qV i hi,ho,hc,hd,by simpa using Gf r2⟩
 ·rw[Ow] at h1 h2;obtain⟨e,he⟩:=vk s.heap (ps.map aa.ref) (p.toList.map λi=>(ps.map aa.ref).getD i aa.none).toArray;have hf:H (s.heap.objs.size+1)=none:=I.hok.fresh (Q5 _);have gT:=h1.size;have lt:∀i∈p.toList,i<ps.length:=λi hi=>by
   have q:p.toList.Perm (List.range ps.length):=by
    have:=h1.toList;simpa using this
   simpa using q.mem_iff.mp hi
  have eo:(p.toList.map λi=>(ps.map aa.ref).getD i aa.none)=(p.toList.map λi=>ps.getD i 0).map aa.ref:=by
   rw[P4];exact Qm λi hi=>qV i (lt i hi)
  have bv:=Xmd (Ts:=Ts) (by rw[<-ht.1];exact h1) (by rw[<-ht.1];exact h2);refine⟨.ref (s.heap.objs.size+1),_,I.laid (t':=s.toks) (h':=nN s.heap (ps.map aa.ref) _) (o:=.lst ((p.toList.map λi=>ps.getD i 0).map V.ref)) (λb ob q=>tI q) (Q5 _) ?_,rfl,q _ _ (p.toList.map λi=>Ts.getD i []) hf ⟨by simp,λi hi=>?_⟩ bv.1 bv.2⟩
  ·refine⟨by rw[Ow,Ow,O1,gT,T5];lia,_,e,?_,he⟩;show Vals ((p.toList.map λi=>ps.getD i 0).map V.ref) (p.toList.map λi=>(ps.map aa.ref).getD i aa.none);rw[eo];generalize (p.toList.map λi=>ps.getD i 0)=z
   induction z with
   | nil=>exact .nil
   | cons p t ih=>exact .cons rfl ih
  ·rw[Ow] at hi;have g1:(p.toList.map λi=>ps.getD i 0).getD i 0=ps.getD (p.toList[i]) 0:=by rw[Pb,Pf,Ox hi];rfl
   have g2:(p.toList.map λi=>Ts.getD i []).getD i []=Ts.getD (p.toList[i]) []:=by rw[Pb,Pf,Ox hi];rfl
   rw[g1,g2];exact ht.2 _ (lt _ (Ps hi))
end
def Xmi(x y)(xs ys):ltL (x::xs) (y::ys)=if x=y then ltL xs ys else decide (ltS x y):=rfl
def Xmj:ltL [] []=false:=rfl
def Xmk(y)(ys):ltL [] (y::ys)=true:=rfl
def Xml(x)(xs):ltL (x::xs) []=false:=rfl
def Xmm(A)(s)(a)(t)(c)(u):∃e,SeqAt.EqAt A s (.str a t) (.str c u) e/\(e=true↔a=c):=
 ⟨(a==c),SeqAt.EqAt.str_str a t c u,by simp⟩
def Xmn(A)(s)(a)(t)(c)(u)(prog)(w)(E)(Q)(h:Q (.bool (decide (ltS a c))) s):
  aj (ai prog w) A (richCompare .Lt (.str a t) (.str c u)) Q E s:=
 (PyProof.Rows.lt_str h:aj (ai prog w) A (aJ .Lt (.str a t) (.str c u)) Q E s)
section
open PySem.SeqAt
open PySem.AutoSeq1 (wpAny_loadPart')
open PySem.MeetsSeq PySem.MeetsSeq2 PySem.MeetsSeq3
def Xmo(l b)(ax cD)(n n2)(dd lZ)(sl me)(ns ms)(hi:aF ax.toList ns)(hj:aF cD.toList ms):
  Meets (am.«tuple.__lt__» ⟨[.ref l,.ref b],[]⟩)
   (λ_ R s=>s.heap.get? l=some {cls:=.type "tuple",dict:=dd,data:=.seq ax n,slots:=sl}/\s.heap.get? b=some {cls:=.type "tuple",dict:=lZ,data:=.seq cD n2,slots:=me} /\
    R (.ok (.ret (.bool (ltL ns ms)))) s):=
 .of_wp λprog w A R s h=>by
  obtain⟨hp,g,d,tk,os⟩:=s;obtain⟨hl,hb,h⟩:=h;have f2:=AutoSeq1.sub_tuple_tuple;have z1:ax.size=ns.length:=by rw[<-hi.length];simp
  have z2:cD.size=ms.length:=by rw[<-hj.length];simp
  wp_walk using wpAny_loadPart' hl,wpAny_loadPart' hb,wpAny_forIn_list _ (λrest b s'=>b.1=none/\s'=⟨hp,g,d,tk,os⟩/\∃(vs ws:List aa) (oY oZ:Za),rest=vs.zip ws /\
   aF vs oY/\aF ws oZ/\oY.length+cD.size=oZ.length+ax.size/\R (.ok (.ret (.bool (ltL oY oZ)))) ⟨hp,g,d,tk,os⟩) _
  case turn=>
   rintro ⟨y,x⟩ rest b s' ⟨dz,rfl,vs,ws,oY,oZ,hz,vC,tM,aO,hR⟩;cases vC with
   | nil=>rw[List.zip_nil_left] at hz;cases hz
   | cons a t vD=>
    cases tM with
    | nil=>rw[List.zip_nil_right] at hz;cases hz
    | cons c u vE=>
     rw[List.zip_cons_cons] at hz;injection hz with CD qW
     injection CD with hy hx
     subst hy hx;rw[Xmi] at hR;simp only[Pj] at aO;obtain⟨e,he,qX⟩:=Xmm A.in1 ⟨hp,g,d,tk,os⟩ a t c u;refine Tz (he prog w _ _ ?_);cases e with
     | true=>
      rw[T7 (qX.mp rfl)] at hR
      wp_walk
      exact⟨rfl,rfl,_,_,_,_,qW,vD,vE,by lia,hR⟩
     | false=>
      rw[T6 (λq=>absurd (qX.mpr q) Pe)] at hR;have CF:=Xmn A.in1 ⟨hp,g,d,tk,os⟩ a t c u prog w
      wp_walk using CF
      exact⟨_,rfl,by simpa using hR⟩
  case fin=>
   rintro ⟨b1,b2⟩ s' ⟨dz,rfl,vs,ws,oY,oZ,hz,vC,tM,aO,hR⟩;simp only at dz;subst dz;have hv:ltL oY oZ=decide (ax.size<cD.size):=by
    cases vC with
    | nil=>
     cases tM with
     | nil=>
      simp only[Q8] at aO;rw[Xmj];exact(T9 (by lia)).symm
     | cons c u hw=>
      simp only[Q8,Pj] at aO;rw[Xmk];exact(T8 (by lia)).symm
    | cons a t hv=>
     cases tM with
     | nil=>
      simp only[Q8,Pj] at aO;rw[Xml];exact(T9 (by lia)).symm
     | cons c u hw=>
      rw[List.zip_cons_cons] at hz;cases hz
   rw[hv] at hR
   wp_walk
   exact⟨_,rfl,by simpa [am.Tuple.tupleCompareSizes] using hR⟩
  case h=>
   exact⟨rfl,rfl,ax.toList,cD.toList,ns,ms,rfl,hi,hj,by lia,h⟩
end
open PySem.W (KasT kas_sort kas_ask kas_item kat_run kat_snds kat_kind kat_lt KatLex kat_cons kat_go kat_yes kat_no kat_one kat_nil KatTups)
section
variable {prog:av}{w:a8}{A:aB}{E:Zb}{s:ak}
def Xmp    (hl:cX s.heap l ax) (hb:cX s.heap b cD) (hi:aF ax.toList ns) (hj:aF cD.toList ms)
  (hu:A.units<bz) (h:Q (.bool (ltL ns ms)) s):aj (ai prog w) A (aJ .Lt (.ref l) (.ref b)) Q E s:=by
 obtain⟨⟨cls,dd,data,sl⟩,ho,hc,n,hd⟩:=id hl;obtain⟨⟨qb,lZ,data2,me⟩,jl,fX,n2,cS⟩:=id hb;simp only at hc hd fX cS;subst hc hd fX cS;exact richCompare_meets_room (op:=.Lt) ⟨_,ho,rfl⟩ ⟨_,jl,rfl⟩ PySem.F.slot_tuple_lt PySem.F.entry_tuple_lt (PySem.F.args_tuple_lt_2 _ _) (Xmo l b ax cD n n2 dd lZ sl me ns ms hi hj)
  ⟨ho,jl,show aa.bool (ltL ns ms)≠aa.notImplemented/\Q (.bool (ltL ns ms)) s from ⟨(λx=>nomatch x),h⟩⟩ hu
def Cr (n:Nat) (a:Za) (m:Nat) (b:Za):Bool:=if n=m then ltL a b else decide (n<m)
def Xes  (h:aF vs ss):ItemsAre (Bf prog w) (ss.map Sum.inr) vs:=by
 induction h with
 | nil=>exact .nil
 | cons x t r ih=>exact .cons (show D8 (.inr x) (.str x t)=true by simp[D8,aa.isStrOf]) ih
def Il (h:ar) (v:aa) (n:Nat) (ss:Za):Prop:=∃a o xs k t u,v = .ref a/\h.get? a=some o/\o.cls = .type "tuple" /\ o.data = .seq xs k/\xs.toList=[.int n t,u]/\Dn h u ss
def Xmq    (hu:A.units<bz) (hx:Il s.heap x n as) (hy:Il s.heap y m bs) (h:C (Cr n as m bs) s):aj (ai prog w) A (qU (tuples' true) x y) C E s:=by
 obtain⟨a,o,xs,k,t,u,rfl,h1,h2,h3,h4,h5⟩:=hx;obtain⟨b,o',ys,k',t',u',rfl,g1,g2,g3,g4,g5⟩:=hy;refine kat_lt h1 h3 g1 g3 ?_;rw[h4,g4];have ef:decide (xs.size<ys.size)=false:=by
  have e1:xs.size=2:=by rw[<-O1,h4];rfl
  have e2:ys.size=2:=by rw[<-O1,g4];rfl
  rw[e1,e2];decide
 rw[ef];show KatLex prog w A true false C [(.int n t,.int m t'),(u,u')] 0 s;unfold Cr at h;refine kat_cons (mJ ?_);refine kat_go (λe=>kat_yes ?_) (λe=>kat_no ?_)
 ·have e:n=m:=by have:=Ua e;lia
  rw[T7 e] at h;obtain⟨c,oc,cs,kc,rfl,c1,c2,c3,c4⟩:=h5;obtain⟨d,od,ds,kd,rfl,d1,d2,d3,d4⟩:=g5;refine kat_cons (wpAny_eqBool_tuple (knd:=Bf prog w) hu ⟨oc,cs,kc,c1,c2,c3,Xes c4⟩ ⟨od,ds,kd,d1,d2,d3,Xes d4⟩ ?_);refine kat_go (λe2=>kat_yes (kat_nil ?_)) (λe2=>kat_no ?_)
  ·have e2:as=bs:=by
    have:=Ua e2;exact Th (λ_ _ q=>Rq q) |>.mp this
   rw[e2,Ik] at h;exact h
  ·exact kat_one _ _ (Xmp ⟨oc,c1,c2,kc,c3⟩ ⟨od,d1,d2,kd,d3⟩ c4 d4 hu h)
 ·have e:¬n=m:=λz=>by
   have:=Ub e
   lia
  rw[T6 e] at h;refine oneLt_int ?_;have:decide ((n:Int)<(m:Int))=decide (n<m):=by simp
  rw[this];exact h
end
open PySem.W (KasT kas_sort kas_ask kas_item kat_run kat_snds kat_kind KatTups)
section
variable {X:Cx}{pins:List (ae×aU)}{Z:List (Option V)}{H:Hp}{s:ak}
def Inv.unpin(I:Inv X (p::pins) Z H s):Inv X pins Z H s:=
 I.pins_of λq hq=>I.pin q (Pr _ (O4 _ hq))
def Xmr    (I:Inv X ((D,ay "list" #[] e1)::pins) Z H s) (hD:X.s₀.heap.objs.size<=D) (k8:∀p∈X.pn++pins,p.1≠D) (hv:Vals ys out) (hz:ys.length<=sizeLine):
  Inv X pins Z (upd H D (.lst ys)) {s with heap:=s.heap.update D (aU.mapSeq λ_=>out.toArray)}:=by
 obtain⟨hg,hn,hl,hf,_⟩:=I.pin (D,ay "list" #[] e1) (Pr _ O3);have J:=I.unpin;have sb:=Ue s.heap D (aU.mapSeq λ_=>out.toArray);obtain⟨c2,fX⟩:∃c2,(s.heap.update D (aU.mapSeq λ_=>out.toArray)).get? D=some (ay "list" out.toArray c2):=⟨_,fE hg λ_=>out.toArray⟩;have kp:∀b o,b≠D->s.heap.get? b=some o->(s.heap.update D (aU.mapSeq λ_=>out.toArray)).get? b=some o:=λb o n e=>(sb.2 b n).trans e;have nD:∀b u,H b=some u->b≠D:=λb u e z=>by rw[z,hn] at e;cases e
 have up:∀b u,H b=some u->(upd H D (.lst ys)) b=some u:=λb u e=>by rw[Ad (nD b u e)];exact e
 refine J.step (g':=s.gens) (d':=s.drawn) (t':=s.toks) (ch:=[D]) (λb hb=>?_) (λb o _ _ hc e _=>kp b o (λz=>hc (by rw[z];exact Q3 _)) e) (λb o _ _ hc e _=>⟨o.slots,kp b o (λz=>hc (by rw[z];exact Q3 _)) e⟩)
  (λb o hc e n=>?_) (λb o hc e=>⟨o,kp b o (λz=>hc (by rw[z];exact Q3 _)) e⟩) (λb xs e=>up b _ e) (λb o u e=>up b _ e) (λb pz e=>⟨#[],by rw[up b _ e];simp⟩) (λm hm=>hm.sameBut sb (Ne.symm hl)) ?_ J.bare
 ·rw[Oz.mp hb];refine⟨.inr hD,hl,λx c e z=>?_,λp hp=>k8 p hp⟩;obtain⟨v,o,ho,hd⟩:=J.cell x c e;rw[z,hg] at ho;cases ho;cases hd
 ·rw[Ad (λz=>hc (by rw[z];exact Q3 _))];exact n
 ·intro b u e;by_cases z:b=D
  ·subst z;rw[Ab] at e;cases e;exact⟨hz,out,c2,hv,fX⟩
  ·rw[Ad z] at e;refine(J.hok b u e).stay (λd v hd g=>kp d v ?_ g) (λd g=>up d _ g) λd xs g=>up d _ g;rcases hd with rfl | hd
   ·exact z
   ·exact nD d _ hd
end
abbrev SM:=StateT bf f8
def Dc:Bool->aw->Array aw->Nat->Nat->Nat->SM (Option Nat):=sortPriv% PySem.Builtin.gallop
def bey (l:Bool) (k:aw) (c:Array aw) (i:Nat):SM (Option Bool):=do
 let x <-elem' c i
 if l then lt' x k else
  let r <-lt' k x
  return r.map (!·)
def Ko (l:Bool) (k:aw) (c:Array aw) (b n u0 v0:Nat):SM (Option Nat):=do
 let mut u:=u0
 let mut v:=v0
 for _ in [0:n] do
  if u ≥ v then break
  let q:=u+(v - u) / 2
  let some m <-bey l k c (b+q) | return none
  if m then u:=q+1 else v:=q
 return some v
def Xms(l:Bool)(k:aw)(c:Array aw)(b n h:Nat):Dc l k c b n h=(do
  let some r <-bey l k c (b+h) | return none
  if r then
   let mut la:=0
   let mut o:=1
   for _ in [0:n] do
    if o ≥ n - h then break
    let some m <-bey l k c (b+(h+o)) | return none
    if !m then break
    la:=o
    o:=2 * o+1
   Ko l k c b n (h+la+1) (h+min o (n - h))
  else
   let mut la:=0
   let mut o:=1
   for _ in [0:n] do
    if o ≥ h+1 then break
    let some m <-bey l k c (b+(h - o)) | return none
    if m then break
    la:=o
    o:=2 * o+1
   Ko l k c b n (h+1 - min o (h+1)) (h - la)):=rfl
open PySem.W (kas_item kas_cmp)
structure CmS (prog:av) (w:a8) (A:aB) (s:ak) (κ : bX) (it:Array aw) (n:Nat) (lt:Nat->Nat->Bool):Prop where
 L:Lin n lt
 c:∀i j (C:Bool->ak->Prop),i<n->j<n->C (lt i j) s->kas_cmp prog w A κ it i j C s
def Fk (it:Array aw) (l:List Nat):Array aw:=(l.map (kas_item it)).toArray
section
variable {prog:av}{w:a8}{A:aB}{E:Zb}{s:ak}{κ : bX}{it:Array aw}{n:Nat}{lt:Nat->Nat->Bool}
def Im(hc:CmS prog w A s κ it n lt)  (hx:x<n)(hy:y<n){st}(hk:kindOf st = κ)(h:Q (some (lt x y)) st):eU (ai prog w) A E s (lt' (kas_item it x) (kas_item it y)) Q st:=by
 rw[lt'_eq];refine T2 (bI ?_);rw[hk];refine T2 (cP (dJ (aN (hc.c x y (λb s'=>s'=s/\b=lt x y) hx hy ⟨rfl,rfl⟩) (λb s' e=>?_) λ_ _ hF=>hF.elim)));obtain⟨rfl,rfl⟩:=e;exact⟨rfl,T4 h⟩
def Bo   (hi:l[i]? = some x) {st} (h:Q (kas_item it x) st):eU (ai prog w) A E s (elem' (Fk it l) i) Q st:=by
 rw[elem'_eq];have e:(Fk it l)[i]? = some (kas_item it x):=by
  unfold Fk;rw[Sc,Pf,hi];rfl
 rw[e];exact T4 h
def beyB (lt:Nat->Nat->Bool) (l:Bool) (k x:Nat):Bool:=if l then lt x k else !lt k x
def Gv(hc:CmS prog w A s κ it n lt)  {left}  (hi:l[i]? = some x)(hx:x<n)(hk:k<n){st}(k9:kindOf st = κ)(h:Q (some (beyB lt left k x)) st):eU (ai prog w) A E s (bey left (kas_item it k) (Fk it l) i) Q st:=by
 unfold bey;refine T2 (Bo hi ?_);cases left with
 | true=>
  rw[T7 rfl];exact Im hc hx hk k9 h
 | false=>
  rw[T6 (by decide)];exact T2 (Im hc hk hx k9 (T4 h))
structure Mono (m:Nat) (P:Nat->Bool):Prop where
 dn:∀i j,i<j->j<m->P j=true->P i=true
def Mono.up   (M:Mono m P) (h:i<=j) (hj:j<m) (e:P i=false):P j=false:=by
 by_cases z:i=j
 ·rw[<-z];exact e
 ·cases q:P j with
  | false=>rfl
  | true=>rw[M.dn i j (by lia) hj q] at e;cases e
def Gw     {P} {st} (M:Mono m P) (hh:h<m)
  (ask:∀i,i<m->∀Q:Option Bool->bf->Prop,Q (some (P i)) st->eU (ai prog w) A E s (bey left cT y6 (b+i)) Q st) (hq:∀r,r<=m->(∀i,i<r->P i=true)->(∀i,r<=i->i<m->P i=false)->Q (some r) st):eU (ai prog w) A E s (Dc left cT y6 b m h) Q st:=by
 rw[Xms];have fF:∀(u v:Nat),u<=v->v<=m->(∀i,i<u->P i=true)->(∀i,v<=i->i<m->P i=false) ->
   eU (ai prog w) A E s (Ko left cT y6 b m u v) Q st:=by
  intro u v l7 hv hu CG;unfold Ko;refine T2 (bc (aK (I:=λx c aD=>aD=st/\∃u v,c=(none,u,v)/\u<=v/\v<=m/\v - u<=m - x/\(∀i,i<u->P i=true)/\(∀i,v<=i->i<m->P i=false)) (Q:=λc aD=>aD=st/\∃u,c=(none,u,u)/\u<=m/\(∀i,i<u->P i=true)/\(∀i,u<=i->i<m->P i=false)) ?step ?fin ⟨rfl,u,v,rfl,l7,hv,by lia,hu,CG⟩) ?post)
  case fin=>
   rintro c aD ⟨rfl,u,v,rfl,h1,h2,h3,h4,h5⟩;have:u=v:=by lia
   subst this;exact⟨rfl,u,rfl,h2,h4,h5⟩
  case step=>
   rintro x c aD _ hx ⟨rfl,u,v,rfl,h1,h2,h3,h4,h5⟩;dsimp only;by_cases e:u ≥ v
   ·rw[T7 e];have:u=v:=by lia
    subst this;exact T4 ⟨rfl,u,rfl,h2,h4,h5⟩
   ·rw[T6 e];refine T2 (ask _ (by lia) _ ?_);dsimp only;cases q:P (u+(v - u) / 2) with
    | true=>
     rw[T7 rfl];refine T4 ⟨rfl,_,v,rfl,by lia,h2,by lia,λi hi=>?_,h5⟩;by_cases z:i=u+(v - u) / 2
     ·rw[z];exact q
     ·exact M.dn i _ (by lia) (by lia) q
    | false=>
     rw[T6 (by decide)];refine T4 ⟨rfl,u,_,rfl,by lia,by lia,by lia,h4,λi hi hm=>M.up hi hm q⟩
  case post=>
   rintro c aD ⟨rfl,u,rfl,h2,h4,h5⟩;exact T4 (hq u h2 h4 h5)
 refine T2 (ask h hh _ ?_);dsimp only;cases q:P h with
 | true=>
  rw[T7 rfl];refine T2 (bc (aK (I:=λx c aD=>aD=st/\∃la o,c=(none,la,o)/\P (h+la)=true/\h+la<m/\la<o/\x+1<=o) (Q:=λc aD=>aD=st/\∃la o,c=(none,la,o)/\P (h+la)=true/\h+la<m/\la<o/\(h+min o (m - h)<m->P (h+min o (m - h))=false)) ?step ?fin ⟨rfl,0,1,rfl,q,hh,by lia,by lia⟩) ?post)
  case fin=>
   rintro c aD ⟨rfl,la,o,rfl,h1,h2,h3,h4⟩;exact⟨rfl,la,o,rfl,h1,h2,h3,λz=>by lia⟩
  case step=>
   rintro x c aD _ hx ⟨rfl,la,o,rfl,h1,h2,h3,h4⟩;dsimp only;by_cases e:o ≥ m - h
   ·rw[T7 e];exact T4 ⟨rfl,la,o,rfl,h1,h2,h3,λz=>by lia⟩
   ·rw[T6 e];refine T2 (ask _ (by lia) _ ?_);dsimp only;cases q2:P (h+o) with
    | true=>exact T4 ⟨rfl,o,2 * o+1,rfl,q2,by lia,by lia,by lia⟩
    | false=>exact T4 ⟨rfl,la,o,rfl,h1,h2,h3,λz=>by rw[show min o (m - h)=o by lia];exact q2⟩
  case post=>
   rintro c aD ⟨rfl,la,o,rfl,h1,h2,h3,h4⟩;dsimp only;refine fF (h+la+1) (h+min o (m - h)) (by lia) (by lia) (λi hi=>?_) (λi hi hm=>M.up hi hm (h4 (by lia)));by_cases z:i=h+la
   ·rw[z];exact h1
   ·exact M.dn i _ (by lia) h2 h1
 | false=>
  rw[T6 (by decide)];refine T2 (bc (aK (I:=λx c aD=>aD=st/\∃la o,c=(none,la,o)/\P (h - la)=false/\la<=h/\la<o/\x+1<=o) (Q:=λc aD=>aD=st/\∃la o,c=(none,la,o)/\P (h - la)=false/\la<=h/\la<o/\(o<h+1->P (h - o)=true)) ?step ?fin ⟨rfl,0,1,rfl,q,by lia,by lia,by lia⟩) ?post)
  case fin=>
   rintro c aD ⟨rfl,la,o,rfl,h1,h2,h3,h4⟩;exact⟨rfl,la,o,rfl,h1,h2,h3,λz=>by lia⟩
  case step=>
   rintro x c aD _ hx ⟨rfl,la,o,rfl,h1,h2,h3,h4⟩;dsimp only;by_cases e:o ≥ h+1
   ·rw[T7 e];exact T4 ⟨rfl,la,o,rfl,h1,h2,h3,λz=>by lia⟩
   ·rw[T6 e];refine T2 (ask _ (by lia) _ ?_);dsimp only;cases q2:P (h - o) with
    | true=>exact T4 ⟨rfl,la,o,rfl,h1,h2,h3,λz=>q2⟩
    | false=>exact T4 ⟨rfl,o,2 * o+1,rfl,q2,by lia,by lia,by lia⟩
  case post=>
   rintro c aD ⟨rfl,la,o,rfl,h1,h2,h3,h4⟩;dsimp only;refine fF (h+1 - min o (h+1)) (h - la) (by lia) (by lia) (λi hi=>?_) (λi hi hm=>M.up hi hm h1);have ho:o<h+1:=by lia
   have:=h4 ho;rw[show min o (h+1)=o by lia] at hi;by_cases z:i=h - o
   ·rw[z];exact this
   ·exact M.dn i _ (by lia) (by lia) this
end
open PySem.W (kas_item kas_cmp)
def mLo:Array aw->Array aw->SM (Array aw):=sortPriv% PySem.Builtin.mergeLo
def D0:Nat->SM Unit:=sortPriv% PySem.Builtin.setMinGallop
def Xmt(g):D0 g=modify λst=>bf.mk' (kindOf st) (bq st) (aZ st) g (bA st):=rfl
def dnL (a b o:Array aw) (i j:Nat):Array aw:=o++a.extract i a.size++b.extract j b.size
def lsL (a b o:Array aw) (i j:Nat):Array aw:=o++b.extract j b.size++a.extract i a.size
abbrev MTO:=Option (Array aw)×Array aw×Nat×Nat×Nat
abbrev MTI:=Option (Array aw)×Array aw×Nat×Nat×Nat×Nat
abbrev MTG:=Option (Array aw)×Array aw×Nat×Nat×Nat×Nat×Nat
def N5 (a b:Array aw) (g:Nat) (d:MTI):SM (ForInStep MTI):=do
 let y <-elem' b d.2.2.2.1
 let x <-elem' a d.2.2.1
 let r <-lt' y x
 match r with
 | some c=>
  if c=true then do
   let y <-elem' b d.2.2.2.1
   if (d.2.2.2.1+1==b.size)=true then pure (.done (some (dnL a b (d.2.1.push y) d.2.2.1 (d.2.2.2.1+1)),d.2.1.push y,d.2.2.1,d.2.2.2.1+1,0,d.2.2.2.2.2+1))
   else if d.2.2.2.2.2+1 ≥ g then pure (.done (none,d.2.1.push y,d.2.2.1,d.2.2.2.1+1,0,d.2.2.2.2.2+1))
   else pure (.yield (none,d.2.1.push y,d.2.2.1,d.2.2.2.1+1,0,d.2.2.2.2.2+1))
  else do
   let x <-elem' a d.2.2.1
   if (d.2.2.1+1+1==a.size)=true then pure (.done (some (lsL a b (d.2.1.push x) (d.2.2.1+1) d.2.2.2.1),d.2.1.push x,d.2.2.1+1,d.2.2.2.1,d.2.2.2.2.1+1,0))
   else if d.2.2.2.2.1+1 ≥ g then pure (.done (none,d.2.1.push x,d.2.2.1+1,d.2.2.2.1,d.2.2.2.2.1+1,0))
   else pure (.yield (none,d.2.1.push x,d.2.2.1+1,d.2.2.2.1,d.2.2.2.2.1+1,0))
 | _=>pure (.done (some (dnL a b d.2.1 d.2.2.1 d.2.2.2.1),d.2.1,d.2.2.1,d.2.2.2.1,d.2.2.2.2.1,d.2.2.2.2.2))
def gV3 (a b o:Array aw) (i j g p q:Nat):SM (ForInStep MTG):=do
 let x <-elem' a i
 if (i+1+1==a.size)=true then pure (.done (some (lsL a b (o.push x) (i+1) j),o.push x,i+1,j,g,p,q))
 else if (decide (p<7)&&decide (q<7))=true then pure (.done (none,o.push x,i+1,j,g,p,q))
 else pure (.yield (none,o.push x,i+1,j,g,p,q))
def gV2 (a b o:Array aw) (i j g p q:Nat):SM (ForInStep MTG):=do
 let y <-elem' b j
 if (j+1==b.size)=true then pure (.done (some (dnL a b (o.push y) i (j+1)),o.push y,i,j+1,g,p,q))
 else do
  let x <-elem' a i
  let r <-Dc true x b (j+1) (b.size - (j+1)) 0
  match r with
  | some k=>
   if k > 0 then
    if (j+1+k==b.size)=true then pure (.done (some (dnL a b (o.push y++b.extract (j+1) (j+1+k)) i (j+1+k)),o.push y++b.extract (j+1) (j+1+k),i,j+1+k,g,p,k))
    else gV3 a b (o.push y++b.extract (j+1) (j+1+k)) i (j+1+k) g p k
   else gV3 a b (o.push y) i (j+1) g p k
  | _=>pure (.done (some (dnL a b (o.push y) i (j+1)),o.push y,i,j+1,g,p,q))
def gV1 (a b o:Array aw) (i j g p q:Nat):SM (ForInStep MTG):=do
 D0 g
 let y <-elem' b j
 let r <-Dc false y a i (a.size - i) 0
 match r with
 | some k=>
  if k > 0 then
   if (i+k+1==a.size)=true then pure (.done (some (lsL a b (o++a.extract i (i+k)) (i+k) j),o++a.extract i (i+k),i+k,j,g,k,q))
   else if (i+k==a.size)=true then pure (.done (some (dnL a b (o++a.extract i (i+k)) (i+k) j),o++a.extract i (i+k),i+k,j,g,k,q))
   else gV2 a b (o++a.extract i (i+k)) (i+k) j g k q
  else gV2 a b o i j g k q
 | _=>pure (.done (some (dnL a b o i j),o,i,j,g,p,q))
def Kp (a b:Array aw) (c:MTO):SM (ForInStep MTO):=do
 let d <-forIn [0:a.size+b.size] ((none,c.2.1,c.2.2.1,c.2.2.2.1,0,0):MTI) λ_ d=>N5 a b c.2.2.2.2 d
 match d.1 with
 | some r=>pure (.done (some r,d.2.1,d.2.2.1,d.2.2.2.1,c.2.2.2.2))
 | none=>do
  liftM (rule "list.sort.gallop")
  let e <-forIn [0:a.size+b.size] ((none,d.2.1,d.2.2.1,d.2.2.2.1,c.2.2.2.2+1,d.2.2.2.2.1,d.2.2.2.2.2):MTG) λ_ e=>
   if e.2.2.2.2.1 > 1 then gV1 a b e.2.1 e.2.2.1 e.2.2.2.1 (e.2.2.2.2.1 - 1) e.2.2.2.2.2.1 e.2.2.2.2.2.2 else gV1 a b e.2.1 e.2.2.1 e.2.2.2.1 e.2.2.2.2.1 e.2.2.2.2.2.1 e.2.2.2.2.2.2
  match e.1 with
  | some r=>pure (.done (some r,e.2.1,e.2.2.1,e.2.2.2.1,e.2.2.2.2.1))
  | none=>do
   D0 (e.2.2.2.2.1+1)
   pure (.yield (none,e.2.1,e.2.2.1,e.2.2.2.1,e.2.2.2.2.1+1))
def Xmu(a b:Array aw):mLo a b=(do
  liftM (rule "list.sort.merge-lo")
  let x0 <-elem' b 0
  let mut o:Array aw := #[x0]
  let mut i:=0
  let mut j:=1
  if j==b.size then return dnL a b o i j
  if i+1==a.size then return lsL a b o i j
  let mut g:=dt (<-get)
  for _ in [0:a.size+b.size] do
   let mut p:=0
   let mut q:=0
   for _ in [0:a.size+b.size] do
    let some c <-lt' (<-elem' b j) (<-elem' a i) | return dnL a b o i j
    if c then
     o:=o.push (<-elem' b j)
     j:=j+1
     q:=q+1
     p:=0
     if j==b.size then return dnL a b o i j
     if q ≥ g then break
    else
     o:=o.push (<-elem' a i)
     i:=i+1
     p:=p+1
     q:=0
     if i+1==a.size then return lsL a b o i j
     if p ≥ g then break
   liftM (rule "list.sort.gallop")
   g:=g+1
   for _ in [0:a.size+b.size] do
    if g > 1 then g:=g - 1
    D0 g
    let some k <-Dc false (<-elem' b j) a i (a.size - i) 0 | return dnL a b o i j
    p:=k
    if k > 0 then
     o:=o++a.extract i (i+k)
     i:=i+k
     if i+1==a.size then return lsL a b o i j
     if i==a.size then return dnL a b o i j
    o:=o.push (<-elem' b j)
    j:=j+1
    if j==b.size then return dnL a b o i j
    let some k <-Dc true (<-elem' a i) b j (b.size - j) 0 | return dnL a b o i j
    q:=k
    if k > 0 then
     o:=o++b.extract j (j+k)
     j:=j+k
     if j==b.size then return dnL a b o i j
    o:=o.push (<-elem' a i)
    i:=i+1
    if i+1==a.size then return lsL a b o i j
    if p<7&&q<7 then break
   g:=g+1
   D0 g
  unsupported "internal:list.sort.merge-bound"):=rfl
def Xmv(a b:Array aw):mLo a b=(do
  liftM (rule "list.sort.merge-lo")
  let x0 <-elem' b 0
  if (1==b.size)=true then pure (dnL a b #[x0] 0 1)
  else if (0+1==a.size)=true then pure (lsL a b #[x0] 0 1)
  else do
   let st <-get
   let c <-forIn [0:a.size+b.size] ((none, #[x0],0,1,dt st):MTO) λ_ c=>Kp a b c
   match c.1 with
   | some r=>pure r
   | none=>unsupported "internal:list.sort.merge-bound"):=by
 rw[Xmu];congr 1;funext _u;congr 1;funext x0;dsimp only;congr 1;congr 1;congr 1;funext st;congr 1
 ·congr 1;funext _x c;unfold Kp;congr 1;funext d;obtain⟨r,d⟩:=d;cases r with
  | some r=>rfl
  | none=>
   dsimp only;congr 1;funext _v;congr 1;funext e;obtain⟨r,e⟩:=e;cases r<;>rfl
 ·funext c;obtain⟨r,c⟩:=c;cases r<;>rfl
open PySem.W (kas_item kas_cmp)
section
variable {it:Array aw}
def Io(l)(x):(Fk it l).push (kas_item it x)=Fk it (l++[x]):=by
 unfold Fk;rw[List.push_toArray,O9];rfl
def Dp(l m):Fk it l++Fk it m=Fk it (l++m):=by
 unfold Fk;rw[List.append_toArray,O9]
def D4(l)(i j):(Fk it l).extract i j=Fk it ((l.drop i).take (j - i)):=by
 unfold Fk;rw[List.extract_toArray,List.map_take,List.map_drop]
def B4(l):(Fk it l).size=l.length:=by
 unfold Fk;rw[O0,Ow]
def Ip(la lb lo)(i j):dnL (Fk it la) (Fk it lb) (Fk it lo) i j=Fk it (lo++la.drop i++lb.drop j):=by
 unfold dnL;rw[D4,D4,B4,B4,Dp,Dp,P5 (by rw[P2];exact Oy _),P5 (by rw[P2];exact Oy _)]
def Kq(la lb lo)(i j):lsL (Fk it la) (Fk it lb) (Fk it lo) i j=Fk it (lo++lb.drop j++la.drop i):=by
 unfold lsL;rw[D4,D4,B4,B4,Dp,Dp,P5 (by rw[P2];exact Oy _),P5 (by rw[P2];exact Oy _)]
end
structure Two (lt:Nat->Nat->Bool) (n:Nat) (la lb:List Nat):Prop where
 L:Lin n lt
 an:∀x∈la,x<n
 bn:∀x∈lb,x<n
 dj:∀x∈la,∀y∈lb,x≠y
 sa:la.Pairwise λx y=>lt x y=true
 sb:lb.Pairwise λx y=>lt x y=true
structure MI (lt:Nat->Nat->Bool) (la lb lo:List Nat) (i j:Nat):Prop where
 so:lo.Pairwise λx y=>lt x y=true
 pm:lo.Perm (la.take i++lb.take j)
 ba:∀x∈lo,∀y∈la.drop i,lt x y=true
 bb:∀x∈lo,∀y∈lb.drop j,lt x y=true
section
variable {lt:Nat->Nat->Bool}{n:Nat}{la lb lo:List Nat}{i j k:Nat}
def Two.flip(T:Two lt n la lb)(hx:x∈la)(hy:y∈lb)(h:lt y x=false):lt x y=true:=by
 rcases T.L.tot x y (T.an x hx) (T.bn y hy) (T.dj x hx y hy) with z | z
 ·exact z
 ·rw[z] at h;cases h
def drop_split(l:List Nat)(i k):l.drop i=(l.drop i).take k++l.drop (i+k):=by
 rw[<-List.drop_drop,Pi]
def take_split(l:List Nat)(i k):l.take (i+k)=l.take i++(l.drop i).take k:=by
 rw[List.take_add]
def MI.chA(T:Two lt n la lb)(m:MI lt la lb lo i j)(h:∀x∈(la.drop i).take k,∀y∈lb.drop j,lt x y=true):MI lt la lb (lo++(la.drop i).take k) (i+k) j:=by
 have sp:=drop_split la i k;have sd:=T.sa.sublist (Q6 i la);rw[sp] at sd;obtain⟨s1,s2,s3⟩:=Pn.mp sd;refine⟨Pn.mpr ⟨m.so,s1,λx hx y hy=>m.ba x hx y (P0 hy)⟩,?_,λx hx y hy=>?_,λx hx y hy=>?_⟩
 ·rw[take_split];refine(m.pm.append_right _).trans ?_;rw[Pp,Pp];exact Qk _ Q0
 ·rcases O5.mp hx with z | z
  ·exact m.ba x z y (by rw[sp];exact Pr _ hy)
  ·exact s3 x z y hy
 ·rcases O5.mp hx with z | z
  ·exact m.bb x z y hy
  ·exact h x z y hy
def MI.chB(T:Two lt n la lb)(m:MI lt la lb lo i j)(h:∀x∈(lb.drop j).take k,∀y∈la.drop i,lt x y=true):MI lt la lb (lo++(lb.drop j).take k) i (j+k):=by
 have sp:=drop_split lb j k;have sd:=T.sb.sublist (Q6 j lb);rw[sp] at sd;obtain⟨s1,s2,s3⟩:=Pn.mp sd;refine⟨Pn.mpr ⟨m.so,s1,λx hx y hy=>m.bb x hx y (P0 hy)⟩,?_,λx hx y hy=>?_,λx hx y hy=>?_⟩
 ·rw[take_split,<-Pp];exact m.pm.append_right _
 ·rcases O5.mp hx with z | z
  ·exact m.ba x z y hy
  ·exact h x z y hy
 ·rcases O5.mp hx with z | z
  ·exact m.bb x z y (by rw[sp];exact Pr _ hy)
  ·exact s3 x z y hy
def Xet(la lb)(h:lo.Perm (la.take i++lb.take j)):(lo++la.drop i++lb.drop j).Perm (la++lb):=by
 refine((h.append_right _).append_right _).trans ?_;rw[Pp,Pp];have e:la++lb=la.take i++(la.drop i++(lb.take j++lb.drop j)):=by rw[Pi,<-Pp,Pi]
 rw[e];refine Qk _ ?_;rw[<-Pp,<-Pp];exact Q0.append_right _
def Mrg (lt:Nat->Nat->Bool) (la lb r:List Nat):Prop:=r.Perm (la++lb)/\r.Pairwise λx y=>lt x y=true
def MI.endB(T:Two lt n la lb)(m:MI lt la lb lo i j)(h:∀x∈la.drop i,∀y∈lb.drop j,lt x y=true):Mrg lt la lb (lo++la.drop i++lb.drop j):=by
 refine⟨Xet la lb m.pm,Pn.mpr ⟨Pn.mpr ⟨m.so,T.sa.sublist (Q6 ..),m.ba⟩,T.sb.sublist (Q6 ..),λx hx y hy=>?_⟩⟩;rcases O5.mp hx with z | z
 ·exact m.bb x z y hy
 ·exact h x z y hy
def MI.endA(T:Two lt n la lb)(m:MI lt la lb lo i j)(h:∀x∈lb.drop j,∀y∈la.drop i,lt x y=true):Mrg lt la lb (lo++lb.drop j++la.drop i):=by
 refine⟨?_,Pn.mpr ⟨Pn.mpr ⟨m.so,T.sb.sublist (Q6 ..),m.bb⟩,T.sa.sublist (Q6 ..),λx hx y hy=>?_⟩⟩
 ·refine List.Perm.trans ?_ (Xet la lb m.pm);rw[Pp,Pp];exact Qk _ Q0
 ·rcases O5.mp hx with z | z
  ·exact m.ba x z y hy
  ·exact h x z y hy
def Gx{l:List Nat}(L:Lin n lt)(so:l.Pairwise λx y=>lt x y=true)(hz:l[i]? = some z)(h:lt x z=true):∀y∈l.drop i,lt x y=true:=by
 intro y hy;obtain⟨hi,e⟩:=O8.mp hz;rw[Q7 hi,e] at hy;have sd:=so.sublist (Q6 i l);rw[Q7 hi,e] at sd;rcases Ph.mp hy with q | q
 ·rw[q];exact h
 ·exact L.tr _ _ _ h (List.rel_of_pairwise_cons sd q)
end
section
variable {lt:Nat->Nat->Bool}{n:Nat}{la lb lo:List Nat}{i j k:Nat}
def Bg{l:List Nat}(h:i<l.length):l[i]? = some (l.getD i 0):=by
 rw[Pb,Ox h];rfl
def B5{l:List Nat}(h:i<l.length):l.getD i 0∈l:=Rt (Bg h)
def Dq{l:List Nat}(h:i<l.length):(l.drop i).take 1=[l.getD i 0]:=by
 rw[Q7 h];show [l[i]]=_;rw[Pb,Ox h];rfl
def Kr{l:List Nat}(h:i+1=l.length):l.drop i=[l.getD (l.length - 1) 0]:=by
 have hi:i<l.length:=by lia
 rw[Q7 hi,Qt (by lia),show l.length - 1=i by lia,Pb,Ox hi];rfl
def Dd{l:List Nat}(h:x∈(l.drop i).take k):∃t,t<k/\i+t<l.length/\x=l.getD (i+t) 0:=by
 obtain⟨t,ht,e⟩:=P7.mp h;rw[Pc,P2] at ht;rw[Su,Tq] at e;have hl:i+t<l.length:=by lia
 exact⟨t,by lia,hl,by rw[<-e,Pb,Ox hl];rfl⟩
def Gy{l:List Nat}  (h:l.Pairwise R)(fu:a<b)(hb:b<l.length):R (l.getD a 0) (l.getD b 0):=by
 have:=Rs.mp h a b (by lia) hb fu
 rwa [show l.getD a 0=l[a] by rw[Pb,Ox (show a<l.length by lia)];rfl,show l.getD b 0=l[b] by rw[Pb,Ox hb];rfl]
def MI.nil:MI lt la lb [] 0 0:=⟨.nil,.nil,λ_ h=>(nomatch h),λ_ h=>(nomatch h)⟩
end
structure SG (cf st:bf):Prop where
 k:kindOf st=kindOf cf
 a:bq st=bq cf
 p:aZ st=aZ cf
 f:bA st=bA cf
def RsI {τ : Type} (it:Array aw) (lt:Nat->Nat->Bool) (la lb:List Nat) (c:Option (Array aw)×Array aw×Nat×Nat × τ):Prop:=∃res,c.1=some (Fk it res)/\Mrg lt la lb res
def NxI {τ : Type} (it:Array aw) (lt:Nat->Nat->Bool) (la lb:List Nat) (m:Nat) (c:Option (Array aw)×Array aw×Nat×Nat × τ):Prop:=∃lo i j t,c=(none,Fk it lo,i,j,t)/\MI lt la lb lo i j/\i+1<la.length/\j<lb.length/\m<i+j
def StI {τ : Type} (it:Array aw) (lt:Nat->Nat->Bool) (la lb:List Nat) (m:Nat) (r:ForInStep (Option (Array aw)×Array aw×Nat×Nat × τ)):Prop:=match r with
 | .done c=>RsI it lt la lb c\/NxI it lt la lb m c
 | .yield c=>NxI it lt la lb m c
def StO {τ : Type} (it:Array aw) (lt:Nat->Nat->Bool) (la lb:List Nat) (m:Nat) (r:ForInStep (Option (Array aw)×Array aw×Nat×Nat × τ)):Prop:=match r with
 | .done c=>RsI it lt la lb c
 | .yield c=>NxI it lt la lb m c
def NxI.mono{τ : Type}    {c:Option (Array aw)×Array aw×Nat×Nat × τ}(h:NxI it lt la lb m c)(hm:m'<=m):NxI it lt la lb m' c:=by
 obtain⟨lo,i,j,t,e,a1,a2,a3,a4⟩:=h;exact⟨lo,i,j,t,e,a1,a2,a3,by lia⟩
section
variable {prog:av}{w:a8}{A:aB}{E:Zb}{s:ak}{κ : bX}{it:Array aw}{n:Nat}{lt:Nat->Nat->Bool}{la lb lo:List Nat}{i j k g p q:Nat}{cf st:bf}
def wS_setG(sg:SG cf st)(h:∀aD,SG cf aD->Q () aD):eU (ai prog w) A E s (D0 g) Q st:=by
 rw[Xmt];exact bO (h _ ⟨sg.k,sg.a,sg.p,sg.f⟩)
def Xmw(hc:CmS prog w A s κ it n lt)(T:Two lt n la lb)(top:∀x∈lb,lt x (la.getD (la.length - 1) 0)=true)(hk:kindOf cf = κ)(sg:SG cf st)(m:MI lt la lb lo i j)(hi:i+1<la.length)(hj:j<lb.length)(h:∀r,StI it lt la lb (i+j) r->Q r st):eU (ai prog w) A E s (N5 (Fk it la) (Fk it lb) g (none,Fk it lo,i,j,p,q)) Q st:=by
 unfold N5;dsimp only;have eS:i<la.length:=by lia
 have ea:=Bg eS;have eb:=Bg hj;have ma:=B5 eS;have mb:=B5 hj;refine T2 (Bo eb (T2 (Bo ea (T2 (Im hc (T.bn _ mb) (T.an _ ma) (sg.k.trans hk) ?_)))));dsimp only;cases c:lt (lb.getD j 0) (la.getD i 0) with
 | true=>
  rw[T7 rfl];refine T2 (Bo eb ?_);rw[Io,Ip,B4];have m':=MI.chB (k:=1) T m (by rw[Dq hj];intro x hx y hy;rw[Oz.mp hx];exact Gx T.L T.sa ea c y hy);rw[Dq hj] at m';by_cases e:(j+1==lb.length)=true
  ·rw[T7 e];have e':j+1=lb.length:=by simpa using e
   exact T4 (h _ (.inl ⟨_,rfl,m'.endB T (by rw[Qt (by lia:lb.length<=j+1)];intro _ _ y hy;cases hy)⟩))
  ·rw[T6 e];have e':j+1≠lb.length:=by simpa using e
   by_cases e2:q+1 ≥ g
   ·rw[T7 e2];exact T4 (h _ (.inr ⟨_,_,_,_,rfl,m',hi,by lia,by lia⟩))
   ·rw[T6 e2];exact T4 (h _ ⟨_,_,_,_,rfl,m',hi,by lia,by lia⟩)
 | false=>
  rw[T6 (by decide)];have c':=T.flip ma mb c;refine T2 (Bo ea ?_);rw[Io,Kq,B4];have m':=MI.chA (k:=1) T m (by rw[Dq eS];intro x hx y hy;rw[Oz.mp hx];exact Gx T.L T.sb eb c' y hy);rw[Dq eS] at m';by_cases e:(i+1+1==la.length)=true
  ·rw[T7 e];have e':i+1+1=la.length:=by simpa using e
   exact T4 (h _ (.inl ⟨_,rfl,m'.endA T (by rw[Kr e'];intro x hx y hy;rw[Oz.mp hy];exact top x (Qd hx))⟩))
  ·rw[T6 e];have e':i+1+1≠la.length:=by simpa using e
   by_cases e2:p+1 ≥ g
   ·rw[T7 e2];exact T4 (h _ (.inr ⟨_,_,_,_,rfl,m',by lia,hj,by lia⟩))
   ·rw[T6 e2];exact T4 (h _ ⟨_,_,_,_,rfl,m',by lia,hj,by lia⟩)
def Xeu(T:Two lt n la lb)(top:∀x∈lb,lt x (la.getD (la.length - 1) 0)=true)(m:MI lt la lb lo i j)(hi:i+1<la.length)(hj:j<lb.length)(c:lt (la.getD i 0) (lb.getD j 0)=true)  (hm:m0<=i+j)(h:∀r,StI it lt la lb m0 r->Q r st):eU (ai prog w) A E s (gV3 (Fk it la) (Fk it lb) (Fk it lo) i j g p q) Q st:=by
 unfold gV3;have eS:i<la.length:=by lia
 refine T2 (Bo (Bg eS) ?_);rw[Io,Kq,B4];have m':=MI.chA (k:=1) T m (by rw[Dq eS];intro x hx y hy;rw[Oz.mp hx];exact Gx T.L T.sb (Bg hj) c y hy);rw[Dq eS] at m';by_cases e:(i+1+1==la.length)=true
 ·rw[T7 e];have e':i+1+1=la.length:=by simpa using e
  exact T4 (h _ (.inl ⟨_,rfl,m'.endA T (by rw[Kr e'];intro x hx y hy;rw[Oz.mp hy];exact top x (Qd hx))⟩))
 ·rw[T6 e];have e':i+1+1≠la.length:=by simpa using e
  by_cases e2:(decide (p<7)&&decide (q<7))=true
  ·rw[T7 e2];exact T4 (h _ (.inr ⟨_,_,_,_,rfl,m',by lia,hj,by lia⟩))
  ·rw[T6 e2];exact T4 (h _ ⟨_,_,_,_,rfl,m',by lia,hj,by lia⟩)
def Xev(hc:CmS prog w A s κ it n lt)(T:Two lt n la lb)(top:∀x∈lb,lt x (la.getD (la.length - 1) 0)=true)(hk:kindOf cf = κ)(sg:SG cf st)(m:MI lt la lb lo i j)(hi:i+1<la.length)(hj:j<lb.length)(c:lt (lb.getD j 0) (la.getD i 0)=true)  (hm:m0<=i+j)(h:∀r,StI it lt la lb m0 r->Q r st):eU (ai prog w) A E s (gV2 (Fk it la) (Fk it lb) (Fk it lo) i j g p q) Q st:=by
 unfold gV2;have eS:i<la.length:=by lia
 have ea:=Bg eS;have ma:=B5 eS;refine T2 (Bo (Bg hj) ?_);rw[Io,Ip,B4];have m':=MI.chB (k:=1) T m (by rw[Dq hj];intro x hx y hy;rw[Oz.mp hx];exact Gx T.L T.sa ea c y hy);rw[Dq hj] at m';by_cases e:(j+1==lb.length)=true
 ·rw[T7 e];have e':j+1=lb.length:=by simpa using e
  exact T4 (h _ (.inl ⟨_,rfl,m'.endB T (by rw[Qt (by lia:lb.length<=j+1)];intro _ _ y hy;cases hy)⟩))
 rw[T6 e];have e':j+1≠lb.length:=by simpa using e
 refine T2 (Bo ea ?_);refine T2 (Gw (P:=λt=>lt (lb.getD (j+1+t) 0) (la.getD i 0)) ⟨λa b fu hb e=>?_⟩ (by lia) (λt ht Q' hq=>?_) λr hr iG kD=>?_)
 ·exact T.L.tr _ _ _ (Gy T.sb (by lia) (by lia)) e
 ·exact Gv hc (Bg (by lia)) (T.bn _ (B5 (by lia))) (T.an _ ma) (sg.k.trans hk) (left:=true) hq
 dsimp only;by_cases jI:r > 0
 ·rw[T7 jI,D4,Dp,Ip,show j+1+r - (j+1)=r by lia];have m2:=MI.chB (k:=r) T m' (λx hx y hy=>by
   obtain⟨t,h1,h2,rfl⟩:=Dd hx;exact Gx T.L T.sa ea (iG t h1) y hy)
  by_cases e3:(j+1+r==lb.length)=true
  ·rw[T7 e3];have l9:j+1+r=lb.length:=by simpa using e3
   exact T4 (h _ (.inl ⟨_,rfl,m2.endB T (by rw[Qt (by lia:lb.length<=j+1+r)];intro _ _ y hy;cases hy)⟩))
  ·rw[T6 e3];have l9:j+1+r≠lb.length:=by simpa using e3
   have y7:j+1+r<lb.length:=by lia
   exact Xeu T top m2 hi y7 (T.flip ma (B5 y7) (kD r (Oy _) (by lia))) (by lia) h
 ·rw[T6 jI];have hz:=kD 0 (by lia) (by lia);exact Xeu T top m' hi (by lia) (T.flip ma (B5 (by lia)) hz) (by lia) h
def Xew(hc:CmS prog w A s κ it n lt)(T:Two lt n la lb)(top:∀x∈lb,lt x (la.getD (la.length - 1) 0)=true)(hk:kindOf cf = κ)(sg:SG cf st)(m:MI lt la lb lo i j)(hi:i+1<la.length)(hj:j<lb.length)(h:∀r aD,SG cf aD->StI it lt la lb (i+j) r->Q r aD):eU (ai prog w) A E s (gV1 (Fk it la) (Fk it lb) (Fk it lo) i j g p q) Q st:=by
 unfold gV1;refine T2 (wS_setG sg λaD cE=>?_);have eb:=Bg hj;have mb:=B5 hj;refine T2 (Bo eb ?_);rw[B4];refine T2 (Gw (P:=λt => !lt (lb.getD j 0) (la.getD (i+t) 0)) ⟨λa b fu hb e=>?_⟩ (by lia) (λt ht Q' hq=>?_) λr hr iG kD=>?_)
 ·have e:lt (lb.getD j 0) (la.getD (i+b) 0)=false:=by simpa using e
  cases q:lt (lb.getD j 0) (la.getD (i+a) 0) with
  | false=>rfl
  | true=>
   have:=T.L.tr _ _ _ q (Gy T.sa (show i+a<i+b by lia) (by lia));rw[this] at e;cases e
 ·exact Gv hc (Bg (by lia)) (T.an _ (B5 (by lia))) (T.bn _ mb) (cE.k.trans hk) (left:=false) hq
 dsimp only;have tp:=top _ mb;have c7:r<la.length - i:=by
  rcases Nat.lt_or_ge r (la.length - i) with z | z
  ·exact z
  ·have:=iG (la.length - 1 - i) (by lia);rw[show i+(la.length - 1 - i)=la.length - 1 by lia,tp] at this;cases this
 have fT:lt (lb.getD j 0) (la.getD (i+r) 0)=true:=by
  have:=kD r (Oy _) c7;simpa using this
 by_cases jI:r > 0
 ·rw[T7 jI,D4,Dp,Ip,Kq,show i+r - i=r by lia];have m2:=MI.chA (k:=r) T m (λx hx y hy=>by
   obtain⟨t,h1,h2,rfl⟩:=Dd hx;have:=iG t h1;exact Gx T.L T.sb eb (T.flip (B5 h2) mb (by simpa using this)) y hy)
  by_cases e3:(i+r+1==la.length)=true
  ·rw[T7 e3];have l9:i+r+1=la.length:=by simpa using e3
   exact T4 (h _ _ cE (.inl ⟨_,rfl,m2.endA T (by rw[Kr l9];intro x hx y hy;rw[Oz.mp hy];exact top x (Qd hx))⟩))
  ·rw[T6 e3];have l9:i+r+1≠la.length:=by simpa using e3
   have e4:¬(i+r==la.length)=true:=by
    simp
    lia
   rw[T6 e4];exact Xev hc T top hk cE m2 (by lia) hj fT (by lia) λr' nX=>h r' _ cE nX
 ·rw[T6 jI];have:r=0:=by lia
  subst this;exact Xev hc T top hk cE m hi hj fT (Oy _) λr' nX=>h r' _ cE nX
def Xmx(hc:CmS prog w A s κ it n lt)(T:Two lt n la lb)(top:∀x∈lb,lt x (la.getD (la.length - 1) 0)=true)(hk:kindOf cf = κ)(sg:SG cf st)(m:MI lt la lb lo i j)(hi:i+1<la.length)(hj:j<lb.length)(h:∀r aD,SG cf aD->StO it lt la lb (i+j) r->Q r aD):eU (ai prog w) A E s (Kp (Fk it la) (Fk it lb) (none,Fk it lo,i,j,g)) Q st:=by
 unfold Kp;dsimp only;rw[B4,B4];refine T2 (bc (aK (I:=λx c aD=>SG cf aD/\∃jo i' j' t,c=(none,Fk it jo,i',j',t)/\MI lt la lb jo i' j'/\i'+1<la.length/\j'<lb.length/\i+j+x<=i'+j') (Q:=λc aD=>SG cf aD/\(RsI it lt la lb c\/NxI it lt la lb (i+j) c)) ?step ?fin ⟨sg,lo,i,j,_,rfl,m,hi,hj,Oy _⟩) ?post)
 case fin=>
  rintro c aD ⟨cE,jo,i',j',t,rfl,m',h1,h2,h3⟩;exact⟨cE,.inr ⟨jo,i',j',t,rfl,m',h1,h2,by lia⟩⟩
 case step=>
  rintro x c aD _ hx ⟨cE,jo,i',j',t,rfl,m',h1,h2,h3⟩;refine Xmw hc T top hk cE m' h1 h2 λr hr=>?_;cases r with
  | done c=>
   rcases hr with z | z
   ·exact⟨cE,.inl z⟩
   ·exact⟨cE,.inr (z.mono (by lia))⟩
  | yield c=>
   obtain⟨qY,i2,j2,t2,e,a1,a2,a3,a4⟩:=hr;exact⟨cE,qY,i2,j2,t2,e,a1,a2,a3,by lia⟩
 case post=>
  rintro ⟨r,o1,i1,j1,p1,q1⟩ iS ⟨qZ,z⟩;rcases z with ⟨res,e,mr⟩ | ⟨lo1,i2,j2,t,e,m1,a1,a2,a3⟩
  ·obtain rfl:r=some (Fk it res):=e;exact T4 (h _ _ qZ ⟨res,rfl,mr⟩)
  ·cases e;dsimp only;refine T2 (cP (aS ⟨rfl,?_⟩));refine T2 (bc (aK (I:=λx c aD=>SG cf aD/\NxI it lt la lb (i+j) c) (Q:=λc aD=>SG cf aD/\(RsI it lt la lb c\/NxI it lt la lb (i+j) c)) ?step ?fin ⟨qZ,lo1,i1,j1,_,rfl,m1,a1,a2,a3⟩) ?post)
   case fin=>exact λc aD z=>⟨z.1,.inr z.2⟩
   case step=>
    rintro x c aD _ hx ⟨cE,jo,i',j',⟨g',p',q'⟩,rfl,m',h1,h2,h3⟩;dsimp only;have go:∀(r:ForInStep MTG) bY,SG cf bY->StI it lt la lb (i'+j') r->(match r with
     | .done c'=>SG cf bY/\(RsI it lt la lb c'\/NxI it lt la lb (i+j) c')
     | .yield c'=>SG cf bY/\NxI it lt la lb (i+j) c'):=λr bY dD hr=>by
     cases r with
     | done c=>
      rcases hr with z | z
      ·exact⟨dD,.inl z⟩
      ·exact⟨dD,.inr (z.mono (by lia))⟩
     | yield c=>exact⟨dD,NxI.mono hr (by lia)⟩
    by_cases e:g' > 1
    ·rw[T7 e];exact Xew hc T top hk cE m' h1 h2 λr bY s1 s2=>by have:=go r bY s1 s2;cases r<;>exact this
    ·rw[T6 e];exact Xew hc T top hk cE m' h1 h2 λr bY s1 s2=>by have:=go r bY s1 s2;cases r<;>exact this
   case post=>
    rintro ⟨r,o2,i2,j2,g2,p2,q2⟩ dG ⟨lA,z⟩;rcases z with ⟨res,e,mr⟩ | ⟨qY,i3,j3,t,e,m2,b1,b2,b3⟩
    ·obtain rfl:r=some (Fk it res):=e;exact T4 (h _ _ lA ⟨res,rfl,mr⟩)
    ·cases e;dsimp only;exact T2 (wS_setG lA λoH vF=>T4 (h _ _ vF ⟨qY,i2,j2,_,rfl,m2,b1,b2,b3⟩))
def Xmy(hc:CmS prog w A s κ it n lt)(T:Two lt n la lb)(ha:1<=la.length)(hb:1<=lb.length)(h0:∀y∈la,lt (lb.getD 0 0) y=true)(top:∀x∈lb,lt x (la.getD (la.length - 1) 0)=true)
  (hk:kindOf st = κ) (h:∀res aD,Mrg lt la lb res->SG st aD->Q (Fk it res) aD):eU (ai prog w) A E s (mLo (Fk it la) (Fk it lb)) Q st:=by
 rw[Xmv];have nY:SG st st:=⟨rfl,rfl,rfl,rfl⟩;refine T2 (cP (aS ⟨rfl,?_⟩));have dz:0<lb.length:=hb;refine T2 (Bo (Bg dz) ?_);have e0:(#[kas_item it (lb.getD 0 0)]:Array aw)=Fk it [lb.getD 0 0]:=rfl;rw[e0,Ip,Kq,B4,B4];have m1:=MI.chB (k:=1) T (MI.nil (lt:=lt) (la:=la) (lb:=lb)) (by rw[Dq dz];intro x hx y hy;rw[Oz.mp hx];exact h0 y (Qd hy));rw[Dq dz,Ru,Qy] at m1;by_cases e1:(1==lb.length)=true
 ·rw[T7 e1];have nZ:1=lb.length:=by simpa using e1
  exact T4 (h _ _ (m1.endB T (by rw[Qt (by lia:lb.length<=1)];intro _ _ y hy;cases hy)) nY)
 rw[T6 e1];have nZ:1≠lb.length:=by simpa using e1
 by_cases e2:(0+1==la.length)=true
 ·rw[T7 e2];have tN:0+1=la.length:=by simpa using e2
  exact T4 (h _ _ (m1.endA T (by rw[Kr tN];intro x hx y hy;rw[Oz.mp hy];exact top x (Qd hx))) nY)
 rw[T6 e2];have tN:0+1≠la.length:=by simpa using e2
 refine T2 (bI ?_);refine T2 (bc (aK (I:=λx c aD=>SG st aD/\NxI it lt la lb x c) (Q:=λc aD=>SG st aD/\RsI it lt la lb c) ?step ?fin ⟨nY,_,_,_,_,rfl,m1,by lia,by lia,by lia⟩) ?post)
 case fin=>
  rintro c aD ⟨cE,jo,i',j',t,rfl,m',h1,h2,h3⟩
  lia
 case step=>
  rintro x c aD _ hx ⟨cE,jo,i',j',t,rfl,m',h1,h2,h3⟩;refine Xmx hc T top hk cE m' h1 h2 λr bY dD hr=>?_;cases r with
  | done c=>exact⟨dD,hr⟩
  | yield c=>exact⟨dD,NxI.mono hr (by lia)⟩
 case post=>
  rintro ⟨r,o2,i2,j2,g2⟩ dG ⟨lA,res,e,mr⟩;obtain rfl:r=some (Fk it res):=e;exact T4 (h res _ mr lA)
end
open PySem.W (kas_item kas_cmp)
def mHi:Array aw->Array aw->SM (Array aw):=sortPriv% PySem.Builtin.mergeHi
def dnH (a b o:Array aw) (i j:Nat):Array aw:=a.extract 0 i++b.extract 0 j++o.reverse
def fsH (a b o:Array aw) (i j:Nat):Array aw:=b.extract 0 j++a.extract 0 i++o.reverse
abbrev HTO:=Option (Array aw)×Nat×Nat×Array aw×Nat
abbrev HTI:=Option (Array aw)×Nat×Nat×Array aw×Nat×Nat
abbrev HTG:=Option (Array aw)×Nat×Nat×Array aw×Nat×Nat×Nat
def N6 (a b:Array aw) (g:Nat) (d:HTI):SM (ForInStep HTI):=do
 let y <-elem' b (d.2.2.1 - 1)
 let x <-elem' a (d.2.1 - 1)
 let r <-lt' y x
 match r with
 | some c=>
  if c=true then do
   let x <-elem' a (d.2.1 - 1)
   if (d.2.1 - 1==0)=true then pure (.done (some (dnH a b (d.2.2.2.1.push x) (d.2.1 - 1) d.2.2.1),d.2.1 - 1,d.2.2.1,d.2.2.2.1.push x,d.2.2.2.2.1+1,0))
   else if d.2.2.2.2.1+1 ≥ g then pure (.done (none,d.2.1 - 1,d.2.2.1,d.2.2.2.1.push x,d.2.2.2.2.1+1,0))
   else pure (.yield (none,d.2.1 - 1,d.2.2.1,d.2.2.2.1.push x,d.2.2.2.2.1+1,0))
  else do
   let y <-elem' b (d.2.2.1 - 1)
   if (d.2.2.1 - 1==1)=true then pure (.done (some (fsH a b (d.2.2.2.1.push y) d.2.1 (d.2.2.1 - 1)),d.2.1,d.2.2.1 - 1,d.2.2.2.1.push y,0,d.2.2.2.2.2+1))
   else if d.2.2.2.2.2+1 ≥ g then pure (.done (none,d.2.1,d.2.2.1 - 1,d.2.2.2.1.push y,0,d.2.2.2.2.2+1))
   else pure (.yield (none,d.2.1,d.2.2.1 - 1,d.2.2.2.1.push y,0,d.2.2.2.2.2+1))
 | _=>pure (.done (some (dnH a b d.2.2.2.1 d.2.1 d.2.2.1),d.2.1,d.2.2.1,d.2.2.2.1,d.2.2.2.2.1,d.2.2.2.2.2))
def gH3 (a b o:Array aw) (i j g p q:Nat):SM (ForInStep HTG):=do
 let x <-elem' a (i - 1)
 if (i - 1==0)=true then pure (.done (some (dnH a b (o.push x) (i - 1) j),i - 1,j,o.push x,g,p,q))
 else if (decide (p<7)&&decide (q<7))=true then pure (.done (none,i - 1,j,o.push x,g,p,q))
 else pure (.yield (none,i - 1,j,o.push x,g,p,q))
def gH2 (a b o:Array aw) (i j g p q:Nat):SM (ForInStep HTG):=do
 let y <-elem' b (j - 1)
 if (j - 1==1)=true then pure (.done (some (fsH a b (o.push y) i (j - 1)),i,j - 1,o.push y,g,p,q))
 else do
  let x <-elem' a (i - 1)
  let r <-Dc true x b 0 (j - 1) (j - 1 - 1)
  match r with
  | some r=>
   if j - 1 - r > 0 then
    if (r==1)=true then pure (.done (some (fsH a b (o.push y++(b.extract r (j - 1)).reverse) i r),i,r,o.push y++(b.extract r (j - 1)).reverse,g,p,j - 1 - r))
    else if (r==0)=true then pure (.done (some (dnH a b (o.push y++(b.extract r (j - 1)).reverse) i r),i,r,o.push y++(b.extract r (j - 1)).reverse,g,p,j - 1 - r))
    else gH3 a b (o.push y++(b.extract r (j - 1)).reverse) i r g p (j - 1 - r)
   else gH3 a b (o.push y) i (j - 1) g p (j - 1 - r)
  | _=>pure (.done (some (dnH a b (o.push y) i (j - 1)),i,j - 1,o.push y,g,p,q))
def gH1 (a b o:Array aw) (i j g p q:Nat):SM (ForInStep HTG):=do
 D0 g
 let y <-elem' b (j - 1)
 let r <-Dc false y a 0 i (i - 1)
 match r with
 | some r=>
  if i - r > 0 then
   if (r==0)=true then pure (.done (some (dnH a b (o++(a.extract r i).reverse) r j),r,j,o++(a.extract r i).reverse,g,i - r,q))
   else gH2 a b (o++(a.extract r i).reverse) r j g (i - r) q
  else gH2 a b o i j g (i - r) q
 | _=>pure (.done (some (dnH a b o i j),i,j,o,g,p,q))
def Ks (a b:Array aw) (c:HTO):SM (ForInStep HTO):=do
 let d <-forIn [0:a.size+b.size] ((none,c.2.1,c.2.2.1,c.2.2.2.1,0,0):HTI) λ_ d=>N6 a b c.2.2.2.2 d
 match d.1 with
 | some r=>pure (.done (some r,d.2.1,d.2.2.1,d.2.2.2.1,c.2.2.2.2))
 | none=>do
  liftM (rule "list.sort.gallop")
  let e <-forIn [0:a.size+b.size] ((none,d.2.1,d.2.2.1,d.2.2.2.1,c.2.2.2.2+1,d.2.2.2.2.1,d.2.2.2.2.2):HTG) λ_ e=>
   if e.2.2.2.2.1 > 1 then gH1 a b e.2.2.2.1 e.2.1 e.2.2.1 (e.2.2.2.2.1 - 1) e.2.2.2.2.2.1 e.2.2.2.2.2.2 else gH1 a b e.2.2.2.1 e.2.1 e.2.2.1 e.2.2.2.2.1 e.2.2.2.2.2.1 e.2.2.2.2.2.2
  match e.1 with
  | some r=>pure (.done (some r,e.2.1,e.2.2.1,e.2.2.2.1,e.2.2.2.2.1))
  | none=>do
   D0 (e.2.2.2.2.1+1)
   pure (.yield (none,e.2.1,e.2.2.1,e.2.2.2.1,e.2.2.2.2.1+1))
def Xmz(a b:Array aw):mHi a b=(do
  liftM (rule "list.sort.merge-hi")
  let mut i:=a.size - 1
  let mut j:=b.size
  let x0 <-elem' a i
  let mut o:Array aw := #[x0]
  if i==0 then return dnH a b o i j
  if j==1 then return fsH a b o i j
  let mut g:=dt (<-get)
  for _ in [0:a.size+b.size] do
   let mut p:=0
   let mut q:=0
   for _ in [0:a.size+b.size] do
    let some c <-lt' (<-elem' b (j - 1)) (<-elem' a (i - 1)) | return dnH a b o i j
    if c then
     i:=i - 1
     o:=o.push (<-elem' a i)
     p:=p+1
     q:=0
     if i==0 then return dnH a b o i j
     if p ≥ g then break
    else
     j:=j - 1
     o:=o.push (<-elem' b j)
     q:=q+1
     p:=0
     if j==1 then return fsH a b o i j
     if q ≥ g then break
   liftM (rule "list.sort.gallop")
   g:=g+1
   for _ in [0:a.size+b.size] do
    if g > 1 then g:=g - 1
    D0 g
    let some r <-Dc false (<-elem' b (j - 1)) a 0 i (i - 1) | return dnH a b o i j
    let k:=i - r
    p:=k
    if k > 0 then
     o:=o++(a.extract r i).reverse
     i:=r
     if i==0 then return dnH a b o i j
    j:=j - 1
    o:=o.push (<-elem' b j)
    if j==1 then return fsH a b o i j
    let some r <-Dc true (<-elem' a (i - 1)) b 0 j (j - 1) | return dnH a b o i j
    let k:=j - r
    q:=k
    if k > 0 then
     o:=o++(b.extract r j).reverse
     j:=r
     if j==1 then return fsH a b o i j
     if j==0 then return dnH a b o i j
    i:=i - 1
    o:=o.push (<-elem' a i)
    if i==0 then return dnH a b o i j
    if p<7&&q<7 then break
   g:=g+1
   D0 g
  unsupported "internal:list.sort.merge-bound"):=rfl
def Xm0(a b:Array aw):mHi a b=(do
  liftM (rule "list.sort.merge-hi")
  let x0 <-elem' a (a.size - 1)
  if (a.size - 1==0)=true then pure (dnH a b #[x0] (a.size - 1) b.size)
  else if (b.size==1)=true then pure (fsH a b #[x0] (a.size - 1) b.size)
  else do
   let st <-get
   let c <-forIn [0:a.size+b.size] ((none,a.size - 1,b.size, #[x0],dt st):HTO) λ_ c=>Ks a b c
   match c.1 with
   | some r=>pure r
   | none=>unsupported "internal:list.sort.merge-bound"):=by
 rw[Xmz];congr 1;funext _u;dsimp only;congr 1;funext x0;congr 1;congr 1;congr 1;funext st;congr 1
 ·congr 1;funext _x c;unfold Ks;congr 1;funext d;obtain⟨r,d⟩:=d;cases r with
  | some r=>rfl
  | none=>
   dsimp only;congr 1;funext _v;congr 1;funext e;obtain⟨r,e⟩:=e;cases r<;>rfl
 ·funext c;obtain⟨r,c⟩:=c;cases r<;>rfl
open PySem.W (kas_item kas_cmp)
section
variable {it:Array aw}
def N7(l):(Fk it l).reverse=Fk it l.reverse:=by
 unfold Fk;rw[List.reverse_toArray,List.map_reverse]
def Kt(l)(j):(Fk it l).extract 0 j=Fk it (l.take j):=by
 rw[D4,Rr,Tf]
def Xex(l lo)(r i):Fk it lo.reverse++((Fk it l).extract r i).reverse=Fk it (((l.take i).drop r)++lo).reverse:=by
 rw[D4,N7,Dp,List.reverse_append,Sv]
def Ku(lo)(x):(Fk it lo.reverse).push (kas_item it x)=Fk it (x::lo).reverse:=by
 rw[Io,Tl]
def Iq(la lb lo)(i j):dnH (Fk it la) (Fk it lb) (Fk it lo.reverse) i j=Fk it (la.take i++lb.take j++lo):=by
 unfold dnH;rw[Kt,Kt,N7,Sz,Dp,Dp]
def Kv(la lb lo)(i j):fsH (Fk it la) (Fk it lb) (Fk it lo.reverse) i j=Fk it (lb.take j++la.take i++lo):=by
 unfold fsH;rw[Kt,Kt,N7,Sz,Dp,Dp]
end
structure MJ (lt:Nat->Nat->Bool) (la lb lo:List Nat) (i j:Nat):Prop where
 so:lo.Pairwise λx y=>lt x y=true
 pm:lo.Perm (la.drop i++lb.drop j)
 ba:∀x∈la.take i,∀y∈lo,lt x y=true
 bb:∀x∈lb.take j,∀y∈lo,lt x y=true
section
variable {lt:Nat->Nat->Bool}{n:Nat}{la lb lo:List Nat}{i j k r:Nat}
def Kw{l:List Nat}(h:r<=i):l.take i=l.take r++(l.take i).drop r:=by
 have:=Pi r (l.take i);rw[List.take_take,Rg h] at this;exact this.symm
def Xey{l:List Nat}(h:r<=i)(hi:i<=l.length):l.drop r=(l.take i).drop r++l.drop i:=by
 have e:=Pi i l;have:=congrArg (List.drop r) e;rw[List.drop_append_of_le_length (by rw[Pc];lia)] at this;exact this.symm
def MJ.chA(T:Two lt n la lb)(m:MJ lt la lb lo i j)(hr:r<=i)(hi:i<=la.length)(h:∀x∈lb.take j,∀y∈(la.take i).drop r,lt x y=true):MJ lt la lb ((la.take i).drop r++lo) r j:=by
 have sd:=T.sa.sublist (Qe i la);rw[Kw hr] at sd;obtain⟨s1,s2,s3⟩:=Pn.mp sd;refine⟨Pn.mpr ⟨s2,m.so,λx hx y hy=>m.ba x (Qd hx) y hy⟩,?_,λx hx y hy=>?_,λx hx y hy=>?_⟩
 ·rw[Xey hr hi,Pp];exact Qk _ m.pm
 ·rcases O5.mp hy with z | z
  ·exact s3 x hx y z
  ·exact m.ba x (by rw[Kw hr];exact Qc _ hx) y z
 ·rcases O5.mp hy with z | z
  ·exact h x hx y z
  ·exact m.bb x hx y z
def MJ.chB(T:Two lt n la lb)(m:MJ lt la lb lo i j)(hr:r<=j)(hj:j<=lb.length)(h:∀x∈la.take i,∀y∈(lb.take j).drop r,lt x y=true):MJ lt la lb ((lb.take j).drop r++lo) i r:=by
 have sd:=T.sb.sublist (Qe j lb);rw[Kw hr] at sd;obtain⟨s1,s2,s3⟩:=Pn.mp sd;refine⟨Pn.mpr ⟨s2,m.so,λx hx y hy=>m.bb x (Qd hx) y hy⟩,?_,λx hx y hy=>?_,λx hx y hy=>?_⟩
 ·rw[Xey hr hj];refine(Qk _ m.pm).trans ?_;rw[<-Pp,<-Pp];exact Q0.append_right _
 ·rcases O5.mp hy with z | z
  ·exact h x hx y z
  ·exact m.ba x hx y z
 ·rcases O5.mp hy with z | z
  ·exact s3 x hx y z
  ·exact m.bb x (by rw[Kw hr];exact Qc _ hx) y z
def Xez(h:lo.Perm (la.drop i++lb.drop j)):(la.take i++lb.take j++lo).Perm (la++lb):=by
 refine(Qk _ h).trans ?_;have e:la++lb=la.take i++(la.drop i++(lb.take j++lb.drop j)):=by rw[Pi,<-Pp,Pi]
 rw[e,Pp];refine Qk _ ?_;rw[<-Pp,<-Pp];exact Q0.append_right _
def MJ.endD(T:Two lt n la lb)(m:MJ lt la lb lo i j)(h:∀x∈la.take i,∀y∈lb.take j,lt x y=true):Mrg lt la lb (la.take i++lb.take j++lo):=by
 refine⟨Xez m.pm,Pn.mpr ⟨Pn.mpr ⟨T.sa.sublist (Qe ..),T.sb.sublist (Qe ..),h⟩,m.so,λx hx y hy=>?_⟩⟩;rcases O5.mp hx with z | z
 ·exact m.ba x z y hy
 ·exact m.bb x z y hy
def MJ.endF(T:Two lt n la lb)(m:MJ lt la lb lo i j)(h:∀x∈lb.take j,∀y∈la.take i,lt x y=true):Mrg lt la lb (lb.take j++la.take i++lo):=by
 refine⟨?_,Pn.mpr ⟨Pn.mpr ⟨T.sb.sublist (Qe ..),T.sa.sublist (Qe ..),h⟩,m.so,λx hx y hy=>?_⟩⟩
 ·refine List.Perm.trans ?_ (Xez m.pm);exact Q0.append_right _
 ·rcases O5.mp hx with z | z
  ·exact m.bb x z y hy
  ·exact m.ba x z y hy
def Ir{l:List Nat}(L:Lin n lt)(so:l.Pairwise λx y=>lt x y=true)(hi:1<=i)(hl:i<=l.length)(h:lt (l.getD (i - 1) 0) x=true):∀y∈l.take i,lt y x=true:=by
 intro y hy;obtain⟨t,ht,e⟩:=P7.mp hy;rw[Pc] at ht;rw[Su] at e;have rg:t<l.length:=by lia
 have ey:y=l.getD t 0:=by rw[<-e,Pb,Ox rg];rfl
 by_cases z:t=i - 1
 ·rw[ey,z];exact h
 ·rw[ey];exact L.tr _ _ _ (Gy so (by lia) (by lia)) h
def D6{l:List Nat}(h1:1<=i)(h:i<=l.length):(l.take i).drop (i - 1)=[l.getD (i - 1) 0]:=by
 rw[Sv,show i - (i - 1)=1 by lia];exact Dq (by lia)
def N8{l:List Nat}(h:x∈(l.take i).drop r)(hi:i<=l.length):∃t,r<=t/\t<i/\x=l.getD t 0:=by
 rw[Sv] at h;obtain⟨t,h1,h2,e⟩:=Dd h;exact⟨r+t,by lia,by lia,e⟩
def F3{l:List Nat}(h:x∈l.take i)(hi:i<=l.length):∃t,t<i/\x=l.getD t 0:=by
 obtain⟨t,_,h2,e⟩:=N8 (r:=0) (by rw[Rr];exact h) hi;exact⟨t,h2,e⟩
end
def RsH {τ : Type} (it:Array aw) (lt:Nat->Nat->Bool) (la lb:List Nat) (c:Option (Array aw) × τ):Prop:=∃res,c.1=some (Fk it res)/\Mrg lt la lb res
def NxH {τ : Type} (it:Array aw) (lt:Nat->Nat->Bool) (la lb:List Nat) (m:Nat) (c:Option (Array aw)×Nat×Nat×Array aw × τ):Prop:=∃lo i j t,c=(none,i,j,Fk it lo.reverse,t)/\MJ lt la lb lo i j/\1<=i/\2<=j/\i<=la.length/\j<=lb.length/\i+j<m
def StH {τ : Type} (it:Array aw) (lt:Nat->Nat->Bool) (la lb:List Nat) (m:Nat) (r:ForInStep (Option (Array aw)×Nat×Nat×Array aw × τ)):Prop:=match r with
 | .done c=>RsH it lt la lb c\/NxH it lt la lb m c
 | .yield c=>NxH it lt la lb m c
def SuH {τ : Type} (it:Array aw) (lt:Nat->Nat->Bool) (la lb:List Nat) (m:Nat) (r:ForInStep (Option (Array aw)×Nat×Nat×Array aw × τ)):Prop:=match r with
 | .done c=>RsH it lt la lb c
 | .yield c=>NxH it lt la lb m c
def NxH.mono{τ : Type}    {c:Option (Array aw)×Nat×Nat×Array aw × τ}(h:NxH it lt la lb m c)(hm:m<=m'):NxH it lt la lb m' c:=by
 obtain⟨lo,i,j,t,e,a1,a2,a3,a4,a5,a6⟩:=h;exact⟨lo,i,j,t,e,a1,a2,a3,a4,a5,by lia⟩
section
variable {prog:av}{w:a8}{A:aB}{E:Zb}{s:ak}{κ : bX}{it:Array aw}{n:Nat}{lt:Nat->Nat->Bool}{la lb lo:List Nat}{i j k g p q:Nat}{cf st:bf}
def Xm1(hc:CmS prog w A s κ it n lt)(T:Two lt n la lb)(gy:∀y∈la,lt (lb.getD 0 0) y=true)(hk:kindOf cf = κ)(sg:SG cf st)(m:MJ lt la lb lo i j)(hi:1<=i)(hj:2<=j)(ha:i<=la.length)(hb:j<=lb.length)(h:∀r,StH it lt la lb (i+j) r->Q r st):eU (ai prog w) A E s (N6 (Fk it la) (Fk it lb) g (none,i,j,Fk it lo.reverse,p,q)) Q st:=by
 unfold N6;dsimp only;have ea:=Bg (show i - 1<la.length by lia);have eb:=Bg (show j - 1<lb.length by lia);have ma:=B5 (show i - 1<la.length by lia);have mb:=B5 (show j - 1<lb.length by lia);refine T2 (Bo eb (T2 (Bo ea (T2 (Im hc (T.bn _ mb) (T.an _ ma) (sg.k.trans hk) ?_)))));dsimp only;cases c:lt (lb.getD (j - 1) 0) (la.getD (i - 1) 0) with
 | true=>
  rw[T7 rfl];refine T2 (Bo ea ?_);rw[Ku,Iq];have m':=MJ.chA (r:=i - 1) T m (by lia) ha (by rw[D6 hi ha];intro x hx y hy;rw[Oz.mp hy];exact Ir T.L T.sb (by lia) hb c x hx);rw[D6 hi ha] at m';by_cases e:(i - 1==0)=true
  ·rw[T7 e];have e':i - 1=0:=by simpa using e
   exact T4 (h _ (.inl ⟨_,rfl,m'.endD T (by rw[e'];intro _ hx;simp at hx)⟩))
  ·rw[T6 e];have e':i - 1≠0:=by simpa using e
   by_cases e2:p+1 ≥ g
   ·rw[T7 e2];exact T4 (h _ (.inr ⟨_,_,_,_,rfl,m',by lia,hj,by lia,hb,by lia⟩))
   ·rw[T6 e2];exact T4 (h _ ⟨_,_,_,_,rfl,m',by lia,hj,by lia,hb,by lia⟩)
 | false=>
  rw[T6 (by decide)];have c':=T.flip ma mb c;refine T2 (Bo eb ?_);rw[Ku,Kv];have m':=MJ.chB (r:=j - 1) T m (by lia) hb (by rw[D6 (by lia) hb];intro x hx y hy;rw[Oz.mp hy];exact Ir T.L T.sa hi ha c' x hx);rw[D6 (by lia) hb] at m';by_cases e:(j - 1==1)=true
  ·rw[T7 e];have e':j - 1=1:=by simpa using e
   refine T4 (h _ (.inl ⟨_,rfl,m'.endF T λx hx y hy=>?_⟩));obtain⟨t,ht,rfl⟩:=F3 hx (by lia);rw[show t=0 by lia];exact gy y (P0 hy)
  ·rw[T6 e];have e':j - 1≠1:=by simpa using e
   by_cases e2:q+1 ≥ g
   ·rw[T7 e2];exact T4 (h _ (.inr ⟨_,_,_,_,rfl,m',hi,by lia,ha,by lia,by lia⟩))
   ·rw[T6 e2];exact T4 (h _ ⟨_,_,_,_,rfl,m',hi,by lia,ha,by lia,by lia⟩)
def Xe0(T:Two lt n la lb)(m:MJ lt la lb lo i j)(hi:1<=i)(hj:2<=j)(ha:i<=la.length)(hb:j<=lb.length)(c:∀x∈lb.take j,lt x (la.getD (i - 1) 0)=true)  (hm:i+j<=m0)(h:∀r,StH it lt la lb m0 r->Q r st):eU (ai prog w) A E s (gH3 (Fk it la) (Fk it lb) (Fk it lo.reverse) i j g p q) Q st:=by
 unfold gH3;refine T2 (Bo (Bg (show i - 1<la.length by lia)) ?_);rw[Ku,Iq];have m':=MJ.chA (r:=i - 1) T m (by lia) ha (by rw[D6 hi ha];intro x hx y hy;rw[Oz.mp hy];exact c x hx);rw[D6 hi ha] at m';by_cases e:(i - 1==0)=true
 ·rw[T7 e];have e':i - 1=0:=by simpa using e
  exact T4 (h _ (.inl ⟨_,rfl,m'.endD T (by rw[e'];intro _ hx;simp at hx)⟩))
 ·rw[T6 e];have e':i - 1≠0:=by simpa using e
  by_cases e2:(decide (p<7)&&decide (q<7))=true
  ·rw[T7 e2];exact T4 (h _ (.inr ⟨_,_,_,_,rfl,m',by lia,hj,by lia,hb,by lia⟩))
  ·rw[T6 e2];exact T4 (h _ ⟨_,_,_,_,rfl,m',by lia,hj,by lia,hb,by lia⟩)
def Xe1(hc:CmS prog w A s κ it n lt)(T:Two lt n la lb)(gy:∀y∈la,lt (lb.getD 0 0) y=true)(hk:kindOf cf = κ)(sg:SG cf st)(m:MJ lt la lb lo i j)(hi:1<=i)(hj:2<=j)(ha:i<=la.length)(hb:j<=lb.length)(c:lt (la.getD (i - 1) 0) (lb.getD (j - 1) 0)=true)  (hm:i+j<=m0)(h:∀r,StH it lt la lb m0 r->Q r st):eU (ai prog w) A E s (gH2 (Fk it la) (Fk it lb) (Fk it lo.reverse) i j g p q) Q st:=by
 unfold gH2;have ea:=Bg (show i - 1<la.length by lia);have ma:=B5 (show i - 1<la.length by lia);refine T2 (Bo (Bg (show j - 1<lb.length by lia)) ?_);rw[Ku,Kv];have m':=MJ.chB (r:=j - 1) T m (by lia) hb (by rw[D6 (by lia) hb];intro x hx y hy;rw[Oz.mp hy];exact Ir T.L T.sa hi ha c x hx);rw[D6 (by lia) hb] at m';by_cases e:(j - 1==1)=true
 ·rw[T7 e];have e':j - 1=1:=by simpa using e
  refine T4 (h _ (.inl ⟨_,rfl,m'.endF T λx hx y hy=>?_⟩));obtain⟨t,ht,rfl⟩:=F3 hx (by lia);rw[show t=0 by lia];exact gy y (P0 hy)
 rw[T6 e];have e':j - 1≠1:=by simpa using e
 refine T2 (Bo ea ?_);refine T2 (Gw (P:=λt=>lt (lb.getD t 0) (la.getD (i - 1) 0)) ⟨λa b fu dz e=>?_⟩ (by lia) (λt ht Q' hq=>?_) λr hr iG kD=>?_)
 ·exact T.L.tr _ _ _ (Gy T.sb fu (by lia)) e
 ·rw[Qy];exact Gv hc (Bg (by lia)) (T.bn _ (B5 (by lia))) (T.an _ ma) (sg.k.trans hk) (left:=true) hq
 dsimp only;have below:∀z≤r,∀x∈lb.take z,lt x (la.getD (i - 1) 0)=true:=λz hz x hx=>by
  obtain⟨t,ht,rfl⟩:=F3 hx (by lia);exact iG t (by lia)
 by_cases jI:j - 1 - r > 0
 ·rw[T7 jI,Xex,Iq,Kv];have m2:=MJ.chB (r:=r) T m' hr (by lia) (λx hx y hy=>by
   obtain⟨t,h1,h2,rfl⟩:=N8 hy (by lia);exact Ir T.L T.sa hi ha (T.flip ma (B5 (by lia)) (kD t h1 h2)) x hx)
  by_cases e3:(r==1)=true
  ·rw[T7 e3];have l9:r=1:=by simpa using e3
   refine T4 (h _ (.inl ⟨_,rfl,m2.endF T λx hx y hy=>?_⟩));obtain⟨t,ht,rfl⟩:=F3 hx (by lia);rw[show t=0 by lia];exact gy y (P0 hy)
  ·rw[T6 e3];have l9:r≠1:=by simpa using e3
   by_cases e4:(r==0)=true
   ·rw[T7 e4];have y8:r=0:=by simpa using e4
    exact T4 (h _ (.inl ⟨_,rfl,m2.endD T (by rw[y8];intro _ _ y hy;simp at hy)⟩))
   ·rw[T6 e4];have y8:r≠0:=by simpa using e4
    exact Xe0 T m2 hi (by lia) ha (by lia) (below r (Oy _)) (by lia) h
 ·rw[T6 jI];exact Xe0 T m' hi (by lia) ha (by lia) (below (j - 1) (by lia)) (by lia) h
def Xe2(hc:CmS prog w A s κ it n lt)(T:Two lt n la lb)(gy:∀y∈la,lt (lb.getD 0 0) y=true)(hk:kindOf cf = κ)(sg:SG cf st)(m:MJ lt la lb lo i j)(hi:1<=i)(hj:2<=j)(ha:i<=la.length)(hb:j<=lb.length)(h:∀r aD,SG cf aD->StH it lt la lb (i+j) r->Q r aD):eU (ai prog w) A E s (gH1 (Fk it la) (Fk it lb) (Fk it lo.reverse) i j g p q) Q st:=by
 unfold gH1;refine T2 (wS_setG sg λaD cE=>?_);have eb:=Bg (show j - 1<lb.length by lia);have mb:=B5 (show j - 1<lb.length by lia);refine T2 (Bo eb ?_);refine T2 (Gw (P:=λt => !lt (lb.getD (j - 1) 0) (la.getD t 0)) ⟨λa b fu dz e=>?_⟩ (by lia) (λt ht Q' hq=>?_) λr hr iG kD=>?_)
 ·have e:lt (lb.getD (j - 1) 0) (la.getD b 0)=false:=by simpa using e
  cases q:lt (lb.getD (j - 1) 0) (la.getD a 0) with
  | false=>rfl
  | true=>
   have:=T.L.tr _ _ _ q (Gy T.sa fu (by lia));rw[this] at e;cases e
 ·rw[Qy];exact Gv hc (Bg (by lia)) (T.an _ (B5 (by lia))) (T.bn _ mb) (cE.k.trans hk) (left:=false) hq
 dsimp only;have fF:1<=r->lt (la.getD (r - 1) 0) (lb.getD (j - 1) 0)=true:=λh1=>by
  have:=iG (r - 1) (by lia);exact T.flip (B5 (by lia)) mb (by simpa using this)
 by_cases jI:i - r > 0
 ·rw[T7 jI,Xex,Iq];have m2:=MJ.chA (r:=r) T m hr ha (λx hx y hy=>by
   obtain⟨t,h1,h2,rfl⟩:=N8 hy (by lia);have:=kD t h1 h2;exact Ir T.L T.sb (by lia) hb (by simpa using this) x hx)
  by_cases e3:(r==0)=true
  ·rw[T7 e3];have l9:r=0:=by simpa using e3
   exact T4 (h _ _ cE (.inl ⟨_,rfl,m2.endD T (by rw[l9];intro _ hx;simp at hx)⟩))
  ·rw[T6 e3];have l9:r≠0:=by simpa using e3
   exact Xe1 hc T gy hk cE m2 (by lia) hj (by lia) hb (fF (by lia)) (by lia) λr' nX=>h r' _ cE nX
 ·rw[T6 jI];have:r=i:=by lia
  subst this;exact Xe1 hc T gy hk cE m hi hj ha hb (fF hi) (Oy _) λr' nX=>h r' _ cE nX
def Xm2(hc:CmS prog w A s κ it n lt)(T:Two lt n la lb)(gy:∀y∈la,lt (lb.getD 0 0) y=true)(hk:kindOf cf = κ)(sg:SG cf st)(m:MJ lt la lb lo i j)(hi:1<=i)(hj:2<=j)(ha:i<=la.length)(hb:j<=lb.length)(h:∀r aD,SG cf aD->SuH it lt la lb (i+j) r->Q r aD):eU (ai prog w) A E s (Ks (Fk it la) (Fk it lb) (none,i,j,Fk it lo.reverse,g)) Q st:=by
 unfold Ks;dsimp only;rw[B4,B4];refine T2 (bc (aK (I:=λx c aD=>SG cf aD/\NxH it lt la lb (i+j+1 - x) c) (Q:=λc aD=>SG cf aD/\(RsH it lt la lb c\/NxH it lt la lb (i+j) c)) ?step ?fin ⟨sg,lo,i,j,_,rfl,m,hi,hj,ha,hb,by lia⟩) ?post)
 case fin=>
  rintro c aD ⟨cE,z⟩;exact⟨cE,.inr (z.mono (by lia))⟩
 case step=>
  rintro x c aD _ hx ⟨cE,jo,i',j',t,rfl,m',h1,h2,h3,h4,h5⟩;refine Xm1 hc T gy hk cE m' h1 h2 h3 h4 λr hr=>?_;cases r with
  | done c=>
   rcases hr with z | z
   ·exact⟨cE,.inl z⟩
   ·exact⟨cE,.inr (z.mono (by lia))⟩
  | yield c=>exact⟨cE,NxH.mono hr (by lia)⟩
 case post=>
  rintro ⟨r,i1,j1,o1,p1,q1⟩ iS ⟨qZ,z⟩;rcases z with ⟨res,e,mr⟩ | ⟨lo1,i2,j2,t,e,m1,a1,a2,a3,a4,a5⟩
  ·obtain rfl:r=some (Fk it res):=e;exact T4 (h _ _ qZ ⟨res,rfl,mr⟩)
  ·cases e;dsimp only;refine T2 (cP (aS ⟨rfl,?_⟩));refine T2 (bc (aK (I:=λx c aD=>SG cf aD/\NxH it lt la lb (i+j) c) (Q:=λc aD=>SG cf aD/\(RsH it lt la lb c\/NxH it lt la lb (i+j) c)) ?step ?fin ⟨qZ,lo1,i1,j1,_,rfl,m1,a1,a2,a3,a4,a5⟩) ?post)
   case fin=>exact λc aD z=>⟨z.1,.inr z.2⟩
   case step=>
    rintro x c aD _ hx ⟨cE,jo,i',j',⟨g',p',q'⟩,rfl,m',h1,h2,h3,h4,h5⟩;dsimp only;have go:∀(r:ForInStep HTG) bY,SG cf bY->StH it lt la lb (i'+j') r->(match r with
     | .done c'=>SG cf bY/\(RsH it lt la lb c'\/NxH it lt la lb (i+j) c')
     | .yield c'=>SG cf bY/\NxH it lt la lb (i+j) c'):=λr bY dD hr=>by
     cases r with
     | done c=>
      rcases hr with z | z
      ·exact⟨dD,.inl z⟩
      ·exact⟨dD,.inr (z.mono (by lia))⟩
     | yield c=>exact⟨dD,NxH.mono hr (by lia)⟩
    by_cases e:g' > 1
    ·rw[T7 e];exact Xe2 hc T gy hk cE m' h1 h2 h3 h4 λr bY s1 s2=>by have:=go r bY s1 s2;cases r<;>exact this
    ·rw[T6 e];exact Xe2 hc T gy hk cE m' h1 h2 h3 h4 λr bY s1 s2=>by have:=go r bY s1 s2;cases r<;>exact this
   case post=>
    rintro ⟨r,i2,j2,o2,g2,p2,q2⟩ dG ⟨lA,z⟩;rcases z with ⟨res,e,mr⟩ | ⟨qY,i3,j3,t,e,m2,b1,b2,b3,b4,b5⟩
    ·obtain rfl:r=some (Fk it res):=e;exact T4 (h _ _ lA ⟨res,rfl,mr⟩)
    ·cases e;dsimp only;exact T2 (wS_setG lA λoH vF=>T4 (h _ _ vF ⟨qY,i2,j2,_,rfl,m2,b1,b2,b3,b4,b5⟩))
def Xm3(hc:CmS prog w A s κ it n lt)(T:Two lt n la lb)(ha:1<=la.length)(hb:1<=lb.length)(gy:∀y∈la,lt (lb.getD 0 0) y=true)(top:∀x∈lb,lt x (la.getD (la.length - 1) 0)=true)
  (hk:kindOf st = κ) (h:∀res aD,Mrg lt la lb res->SG st aD->Q (Fk it res) aD):eU (ai prog w) A E s (mHi (Fk it la) (Fk it lb)) Q st:=by
 rw[Xm0];have nY:SG st st:=⟨rfl,rfl,rfl,rfl⟩;refine T2 (cP (aS ⟨rfl,?_⟩));rw[B4,B4];refine T2 (Bo (Bg (show la.length - 1<la.length by lia)) ?_);have e0:(#[kas_item it (la.getD (la.length - 1) 0)]:Array aw)=Fk it [la.getD (la.length - 1) 0].reverse:=rfl;rw[e0,Iq,Kv];have mn:MJ lt la lb [] la.length lb.length:=⟨.nil,by rw[Qt (Oy _),Qt (Oy _)];exact .nil,λ_ _ _ h=>(nomatch h),λ_ _ _ h=>(nomatch h)⟩;have m1:=MJ.chA (r:=la.length - 1) T mn (by lia) (Oy _) (by rw[D6 ha (Oy _)];intro x hx y hy;rw[Oz.mp hy];exact top x (P0 hx));rw[D6 ha (Oy _),P3] at m1;by_cases e1:(la.length - 1==0)=true
 ·rw[T7 e1];have nZ:la.length - 1=0:=by simpa using e1
  exact T4 (h _ _ (m1.endD T (by rw[nZ];intro _ hx;simp at hx)) nY)
 rw[T6 e1];have nZ:la.length - 1≠0:=by simpa using e1
 by_cases e2:(lb.length==1)=true
 ·rw[T7 e2];have tN:lb.length=1:=by simpa using e2
  refine T4 (h _ _ (m1.endF T λx hx y hy=>?_) nY);obtain⟨t,ht,rfl⟩:=F3 hx (Oy _);rw[show t=0 by lia];exact gy y (P0 hy)
 rw[T6 e2];have tN:lb.length≠1:=by simpa using e2
 refine T2 (bI ?_);refine T2 (bc (aK (I:=λx c aD=>SG st aD/\NxH it lt la lb (la.length+lb.length - x) c) (Q:=λc aD=>SG st aD/\RsH it lt la lb c) ?step ?fin ⟨nY,_,_,_,_,rfl,m1,by lia,by lia,by lia,by lia,by lia⟩) ?post)
 case fin=>
  rintro c aD ⟨cE,jo,i',j',t,rfl,m',h1,h2,h3,h4,h5⟩
  lia
 case step=>
  rintro x c aD _ hx ⟨cE,jo,i',j',t,rfl,m',h1,h2,h3,h4,h5⟩;refine Xm2 hc T gy hk cE m' h1 h2 h3 h4 λr bY dD hr=>?_;cases r with
  | done c=>exact⟨dD,hr⟩
  | yield c=>exact⟨dD,NxH.mono hr (by lia)⟩
 case post=>
  rintro ⟨r,o2,i2,j2,g2⟩ dG ⟨lA,res,e,mr⟩;obtain rfl:r=some (Fk it res):=e;exact T4 (h res _ mr lA)
end
open PySem.W (kas_item kas_cmp kas_swaps_map)
def SoL (lt:Nat->Nat->Bool) (l:List Nat) (u v:Nat):Prop:=∀i j,u<=i->i<j->j<v->lt (l.getD i 0) (l.getD j 0)=true
def DeL (lt:Nat->Nat->Bool) (l:List Nat) (u v:Nat):Prop:=∀i j,u<=i->i<j->j<v->lt (l.getD j 0) (l.getD i 0)=true
structure SA (κ : bX) (it:Array aw) (pd:Array (Nat×Nat×Nat)) (l:List Nat) (st:bf):Prop where
 k:kindOf st = κ
 a:bq st=Fk it l
 f:bA st=none
 p:aZ st=pd
section
variable {κ : bX}{it:Array aw}{pd:Array (Nat×Nat×Nat)}{l:List Nat}{st:bf}
def Gz:Fk it l=l.toArray.map (kas_item it):=by
 unfold Fk;rw[List.map_toArray]
def Iu(l:List Nat)(k):l.getD k 0=(l.toArray[k]?).getD 0:=by
 rw[Sc,Pb]
def Xe3(p:Array Nat)(k):p.toList.getD k 0=(p[k]?).getD 0:=by
 rw[Pb,Sa]
def Xm4(bv:SA κ it pd l st){i j}(hj:j<=l.length):∃l',SA κ it pd l' (iZ st (mirror (bq st) i j ((j - i) / 2)))/\l'.Perm l/\∀k,l'.getD k 0=if i<=k/\k<j then l.getD (i+j - 1 - k) 0 else l.getD k 0:=by
 refine⟨(mirror l.toArray i j ((j - i) / 2)).toList,⟨bv.k,?_,bv.f,bv.p⟩,?_,λk=>?_⟩
 ·show mirror (bq st) i j ((j - i) / 2)=_;rw[bv.a,Gz,Gz];exact kas_swaps_map (kas_item it) (λk=>i+k) (λk=>j - 1 - k) _ l.toArray
 ·have:=(y3 l.toArray i j ((j - i) / 2)).toList;simpa using this
 ·rw[Xe3,kw (by simpa using hj)];split<;>rw[Iu]
def Xm5(bv:SA κ it pd l st){k d}(hk:k<l.length)(hd:d<=k):∃l',SA κ it pd l' (iZ st (bubble (bq st) k (k - d)))/\l'.Perm l/\∀i,l'.getD i 0=if i=d then l.getD k 0 else if d<i/\i<=k then l.getD (i - 1) 0 else l.getD i 0:=by
 refine⟨(bubble l.toArray k (k - d)).toList,⟨bv.k,?_,bv.f,bv.p⟩,?_,λi=>?_⟩
 ·show bubble (bq st) k (k - d)=_;rw[bv.a,Gz,Gz];exact kas_swaps_map (kas_item it) (λi=>k - i) (λi=>k - i - 1) _ l.toArray
 ·have:=(jH l.toArray k (k - d)).toList;simpa using this
 ·rw[Xe3,oW (by simpa using hk) _ (by lia),show k - (k - d)=d by lia];split
  ·rw[Iu]
  ·split<;>rw[Iu]
end
section
variable {prog:av}{w:a8}{A:aB}{E:Zb}{s:ak}{κ : bX}{it:Array aw}{n:Nat}{lt:Nat->Nat->Bool}{pd:Array (Nat×Nat×Nat)}{l:List Nat}{st:bf}
structure Al (n:Nat) (l:List Nat):Prop where
 pm:l.Perm (List.range n)
def Al.len(h:Al n l):l.length=n:=by rw[h.pm.length_eq,Qi]
def Al.ltn(h:Al n l)(hi:i<n):l.getD i 0<n:=Qb.mp (h.pm.mem_iff.mp (B5 (by rw[h.len];exact hi)))
def Al.nd(h:Al n l):l.Nodup:=h.pm.nodup_iff.mpr List.nodup_range
def Al.ne(h:Al n l)(hi:i<n)(hj:j<n)(ne:i≠j):l.getD i 0≠l.getD j 0:=λe=>by
 have hl:=h.len;have e1:l.getD i 0=l[i]'(by lia):=by rw[Pb,Ox (by lia)];rfl
 have e2:l.getD j 0=l[j]'(by lia):=by rw[Pb,Ox (by lia)];rfl
 rw[e1,e2] at e;exact ne ((Sg h.nd).mp e)
def Al.flip(L:Lin n lt)(h:Al n l)(hi:i<n)(hj:j<n)(ne:i≠j)(e:lt (l.getD i 0) (l.getD j 0)=false):lt (l.getD j 0) (l.getD i 0)=true:=by
 rcases L.tot _ _ (h.ltn hi) (h.ltn hj) (h.ne hi hj ne) with z | z
 ·rw[z] at e;cases e
 ·exact z
def G0(hc:CmS prog w A s κ it n lt)(bv:SA κ it pd l st)(al:Al n l)  (hi:i<n)(hj:j<n)(h:Q (some (lt (l.getD i 0) (l.getD j 0))) st):eU (ai prog w) A E s (ltAt' i j) Q st:=by
 rw[ltAt'_eq];refine T2 (bI ?_)
 show eU _ _ _ _ (do  let x <-elem' (bq st) i;let y <-elem' (bq st) j;lt' x y) Q st;rw[bv.a];have hl:=al.len;exact T2 (Bo (Bg (by lia)) (T2 (Bo (Bg (by lia)) (Im hc (al.ltn hi) (al.ltn hj) bv.k h))))
def Xe4(L:Lin n lt){u v}(so:SoL lt l u v)(l7:u<v)(h:lt (l.getD (v - 1) 0) (l.getD v 0)=true):SoL lt l u (v+1):=λi j h1 h2 h3=>by
 by_cases e:j<v
 ·exact so i j h1 h2 e
 ·have:j=v:=by lia
  subst this;by_cases z:i=j - 1
  ·rw[z];exact h
  ·exact L.tr _ _ _ (so i (j - 1) h1 (by lia) (by lia)) h
def Xe5(L:Lin n lt){u v}(so:DeL lt l u v)(l7:u<v)(h:lt (l.getD v 0) (l.getD (v - 1) 0)=true):DeL lt l u (v+1):=λi j h1 h2 h3=>by
 by_cases e:j<v
 ·exact so i j h1 h2 e
 ·have:j=v:=by lia
  subst this;by_cases z:i=j - 1
  ·rw[z];exact h
  ·exact L.tr _ _ _ h (so i (j - 1) h1 (by lia) (by lia))
def Xe6(hc:CmS prog w A s κ it n lt)(bv:SA κ it pd l st)(al:Al n l){lo r}(hr:1<=r)(hn:lo+r=n)(h:∀m l' aD,SA κ it pd l' aD->l'.Perm l->1<=m->m<=r->SoL lt l' lo (lo+m)->(∀i,i<lo->l'.getD i 0=l.getD i 0)->Q (some m) aD):eU (ai prog w) A E s (countRun' lo r) Q st:=by
 have L:=hc.L;have hl:=al.len;rw[countRun'_eq];refine T2 (bc (aK (I:=λx c aD=>st=aD/\c=(none,x)/\SoL lt l lo (lo+x)) (Q:=λc aD=>st=aD/\∃m,c=(none,m)/\1<=m/\m<=r/\SoL lt l lo (lo+m)/\(m<r->lt (l.getD (lo+m) 0) (l.getD (lo+m - 1) 0)=true)) ?step ?fin ⟨rfl,rfl,λi j h1 h2 h3=>by lia⟩) ?post)
 case fin=>
  rintro c aD ⟨rfl,rfl,so⟩;exact⟨rfl,_,rfl,by lia,by lia,so,λz=>by lia⟩
 case step=>
  rintro x c aD qB hx ⟨rfl,rfl,so⟩;dsimp only;refine T2 (G0 hc bv al (by lia) (by lia) ?_);dsimp only;cases e:lt (l.getD (lo+x) 0) (l.getD (lo+x - 1) 0) with
  | true=>
   rw[T7 rfl];exact T4 ⟨rfl,x,rfl,qB,by lia,so,λ_=>e⟩
  | false=>
   rw[T6 (by decide)];exact T4 ⟨rfl,rfl,Xe4 (v:=lo+x) L so (by lia) (al.flip L (by lia) (by lia) (by lia) e)⟩
 case post=>
  rintro c aD ⟨rfl,m,rfl,m1,m2,so,nx⟩;dsimp only;by_cases e1:(m==r)=true
  ·rw[T7 e1];exact T4 (h m l _ bv (.refl _) m1 m2 so λ_ _=>rfl)
  rw[T6 e1];have nZ:m≠r:=by simpa using e1
  by_cases e2:m > 1
  ·rw[T7 e2];refine T2 (G0 hc bv al (by lia) (by lia) ?_);dsimp only;rw[so lo (lo+m - 1) (Oy _) (by lia) (by lia),T7 rfl];exact T4 (h m l _ bv (.refl _) m1 m2 so λ_ _=>rfl)
  rw[T6 e2];obtain rfl:m=1:=by lia
  have nx:=nx (by lia);refine T2 (cP (aS ⟨rfl,?_⟩));refine T2 (bc (aK (I:=λx c aD=>st=aD/\c=(none,x,0)/\DeL lt l lo (lo+x)) (Q:=λc aD=>st=aD/\∃m,c=(none,m,0)/\2<=m/\m<=r/\DeL lt l lo (lo+m)) ?step ?fin ⟨rfl,rfl,Xe5 (v:=lo+1) L (λi j h1 h2 h3=>by lia) (by lia) nx⟩) ?post)
  case fin=>
   rintro c aD ⟨rfl,rfl,so⟩;exact⟨rfl,_,rfl,by lia,by lia,so⟩
  case step=>
   rintro x c aD qB hx ⟨rfl,rfl,so⟩;dsimp only;refine T2 (G0 hc bv al (by lia) (by lia) ?_);dsimp only;cases e:lt (l.getD (lo+x) 0) (l.getD (lo+x - 1) 0) with
   | true=>
    rw[T7 rfl,T6 (by lia)];exact T4 ⟨rfl,rfl,Xe5 (v:=lo+x) L so (by lia) e⟩
   | false=>
    rw[T6 (by decide)];refine T2 (G0 hc bv al (by lia) (by lia) ?_);dsimp only;rw[al.flip L (by lia) (by lia) (by lia) e,T7 rfl];exact T4 ⟨rfl,x,rfl,by lia,by lia,so⟩
  case post=>
   rintro c aD ⟨rfl,m,rfl,m1,m2,de⟩;dsimp only;rw[T6 (by lia)];obtain⟨l',iS,iw,g1⟩:=Xm4 bv (i:=lo) (j:=lo+m) (by lia);refine T2 (wpS_reverse ?_);have pc:Al n l':=⟨iw.trans al.pm⟩;have fG:SoL lt l' lo (lo+m):=λi j h1 h2 h3=>by
    rw[g1,g1,T7 (by lia),T7 (by lia)];exact de _ _ (by lia) (by lia) (by lia)
   have pre:∀i,i<lo->l'.getD i 0=l.getD i 0:=λi hi=>by rw[g1,T6 (by lia)]
   refine T2 (bc (aK (I:=λx c aD=>SA κ it pd l' aD/\c=(none,x)/\SoL lt l' lo (lo+x)) (Q:=λc aD=>SA κ it pd l' aD/\∃m,c=(none,m)/\1<=m/\m<=r/\SoL lt l' lo (lo+m)) ?step ?fin ⟨iS,rfl,fG⟩) ?post)
   case fin=>
    rintro c aD ⟨s1,rfl,so⟩;exact⟨s1,_,rfl,by lia,by lia,so⟩
   case step=>
    rintro x c aD qB hx ⟨s1,rfl,so⟩;dsimp only;refine T2 (G0 hc s1 pc (by lia) (by lia) ?_);dsimp only;cases e:lt (l'.getD (lo+x) 0) (l'.getD (lo+x - 1) 0) with
    | true=>
     rw[T7 rfl];exact T4 ⟨s1,x,rfl,by lia,by lia,so⟩
    | false=>
     rw[T6 (by decide)];exact T4 ⟨s1,rfl,Xe4 (v:=lo+x) L so (by lia) (pc.flip L (by lia) (by lia) (by lia) e)⟩
   case post=>
    rintro c aD ⟨s1,m',rfl,a1,a2,a3⟩;exact T4 (h m' l' _ s1 iw a1 a2 a3 pre)
def Xe7(hc:CmS prog w A s κ it n lt)(bv:SA κ it pd l st)(al:Al n l){lo m ok}(h1:1<=ok)(h2:ok<=m)(hn:lo+m<=n)(so:SoL lt l lo (lo+ok))(h:∀l' aD,SA κ it pd l' aD->l'.Perm l->SoL lt l' lo (lo+m)->(∀i,i<lo->l'.getD i 0=l.getD i 0)->Q true aD):eU (ai prog w) A E s (binarySort' lo m ok) Q st:=by
 have L:=hc.L;have hl:=al.len;rw[binarySort'_eq];refine T2 (bc (aK (I:=λx c aD=>c=(none,())/\∃l',SA κ it pd l' aD/\l'.Perm l/\SoL lt l' lo (lo+x)/\(∀i,i<lo->l'.getD i 0=l.getD i 0)) (Q:=λc aD=>c=(none,())/\∃l',SA κ it pd l' aD/\l'.Perm l/\SoL lt l' lo (lo+m)/\(∀i,i<lo->l'.getD i 0=l.getD i 0)) ?step ?fin ⟨rfl,l,bv,.refl _,by rw[show max ok 1=ok by lia];exact so,λ_ _=>rfl⟩) ?post)
 case fin=>
  rintro c aD ⟨rfl,l',s1,pm,fG,pre⟩;exact⟨rfl,l',s1,pm,by rw[show max (max ok 1) m=m by lia] at fG;exact fG,pre⟩
 case post=>
  rintro c aD ⟨rfl,l',s1,pm,fG,pre⟩;exact T4 (h l' _ s1 pm fG pre)
 case step=>
  rintro k c aD JA hk ⟨rfl,l',s1,pm,fG,pre⟩;have pc:Al n l':=⟨pm.trans al.pm⟩;have nC:=pc.len;refine T2 (bc (aK (I:=λx c bY=>aD=bY/\∃u v,c=(none,u,v)/\u<=v/\v<=k/\v - u<=k - x/\(∀i,i<u->lt (l'.getD (lo+i) 0) (l'.getD (lo+k) 0)=true)/\(∀i,v<=i->i<k->lt (l'.getD (lo+k) 0) (l'.getD (lo+i) 0)=true))
   (Q:=λc bY=>aD=bY/\∃u,c=(none,u,u)/\u<=k/\(∀i,i<u->lt (l'.getD (lo+i) 0) (l'.getD (lo+k) 0)=true)/\(∀i,u<=i->i<k->lt (l'.getD (lo+k) 0) (l'.getD (lo+i) 0)=true)) ?step ?fin ⟨rfl,0,k,rfl,by lia,by lia,by lia,λi hi=>by lia,λi h1 h2=>by lia⟩) ?post)
  case fin=>
   rintro c bY ⟨rfl,u,v,rfl,b1,b2,b3,b4,b5⟩;have:u=v:=by lia
   subst this;exact⟨rfl,u,rfl,b2,b4,b5⟩
  case step=>
   rintro x c bY _ hx ⟨rfl,u,v,rfl,b1,b2,b3,b4,b5⟩;dsimp only;by_cases e:u ≥ v
   ·rw[T7 e];have:u=v:=by lia
    subst this;exact T4 ⟨rfl,u,rfl,b2,b4,b5⟩
   ·rw[T6 e];refine T2 (G0 hc s1 pc (by lia) (by lia) ?_);dsimp only;have q1:u<=(u+v) / 2:=by lia
    have q2:(u+v) / 2<v:=by lia
    generalize (u+v) / 2=md at q1 q2;cases c:lt (l'.getD (lo+k) 0) (l'.getD (lo+md) 0) with
    | true=>
     rw[T7 rfl];refine T4 ⟨rfl,u,md,rfl,q1,by lia,by lia,b4,λi z1 z2=>?_⟩;by_cases z:i=md
     ·rw[z];exact c
     ·exact L.tr _ _ _ c (fG _ _ (by lia) (by lia) (by lia))
    | false=>
     rw[T6 (by decide)];have c':=pc.flip L (by lia) (by lia) (by lia) c;refine T4 ⟨rfl,md+1,v,rfl,by lia,b2,by lia,λi z1=>?_,b5⟩;by_cases z:i=md
     ·rw[z];exact c'
     ·exact L.tr _ _ _ (fG _ _ (by lia) (by lia) (by lia)) c'
  case post=>
   rintro c bY ⟨rfl,u,rfl,b2,b4,b5⟩;dsimp only;obtain⟨l2,s2,gz,g2⟩:=Xm5 s1 (k:=lo+k) (d:=lo+u) (by lia) (by lia);have wm:∀{Q:Unit->bf->Prop},Q () (iZ aD (bubble (bq aD) (lo+k) (lo+k - (lo+u))))->eU (ai prog w) A E s (moveDown' (lo+k) (lo+u)) Q aD:=λhq=>by
    rw[moveDown'_eq];exact bO hq
   refine T2 (wm (T4 ⟨rfl,l2,s2,gz.trans pm,λi j h1 h2 h3=>?_,λi hi=>?_⟩))
   ·rw[g2,g2];by_cases i1:i=lo+u
    ·rw[T7 i1,T6 (by lia),T7 (by lia)];have:=b5 (j - 1 - lo) (by lia) (by lia)
     rwa [show lo+(j - 1 - lo)=j - 1 by lia] at this
    ·rw[T6 i1];by_cases i2:lo+u<i/\i<=lo+k
     ·rw[T7 i2,T6 (by lia),T7 (by lia)];exact fG _ _ (by lia) (by lia) (by lia)
     ·rw[T6 i2];by_cases j1:j=lo+u
      ·rw[T7 j1];have:=b4 (i - lo) (by lia)
       rwa [show lo+(i - lo)=i by lia] at this
      ·rw[T6 j1];by_cases j2:lo+u<j/\j<=lo+k
       ·rw[T7 j2];exact fG _ _ (by lia) (by lia) (by lia)
       ·rw[T6 j2];exact fG _ _ (by lia) h2 (by lia)
   ·rw[g2,T6 (by lia),T6 (by lia)];exact pre i hi
end
open PySem.W (kas_item kas_cmp kas_swaps_map)
def G1 (m:Array aw) (u:Nat) (c:Array aw):Array aw:=m.toList.zipIdx.foldl (λa z=>a.setIfInBounds (u+z.2) z.1) c
def Xe8 (c:Array aw) (u v m r:Nat):SM Bool:=do
 let z <-if m<=r then mLo (c.extract u v) (c.extract v (v+r)) else mHi (c.extract u v) (c.extract v (v+r))
 modify λs=>iZ s (G1 z u (bq s))
 return (bA (<-get)).isNone
def Xm6(i:Nat):rh i=(do
  let s <-get
  let (some (u,m,pw),some (v,r,_)):=((aZ s)[i]?,(aZ s)[i+1]?) | unsupported "internal:list.sort.pending"
  set (bf.mk' (kindOf s) (bq s) (((aZ s).setIfInBounds i (u,m+r,pw)).eraseIdxIfInBounds (i+1)) (dt s) (bA s))
  let some k <-Dc false (<-elem' (bq s) v) (bq s) u m 0 | return false
  if m - k==0 then return true
  let some q <-Dc true (<-elem' (bq s) (u+k+(m - k) - 1)) (bq s) v r (r - 1) | return false
  if q==0 then return true
  Xe8 (bq s) (u+k) v (m - k) q):=rfl
theorem Xe9(k):∀(xs:List aw) (o:Nat) (c:Array aw) (m:Nat),k+o+xs.length<=c.size->((xs.zipIdx o).foldl (λa z=>a.setIfInBounds (k+z.2) z.1) c)[m]? = if k+o<=m/\m<k+o+xs.length then xs[m - (k+o)]? else c[m]?
 | [],o,c,m,_=>by rw[T6 (by simp)];rfl
 | x::xs,o,c,m,h=>by
  have hl:(x::xs).length=xs.length+1:=rfl;rw[List.zipIdx_cons,R7,Xe9 k xs (o+1) _ m (by rw[Array.size_setIfInBounds];lia),Array.getElem?_setIfInBounds];by_cases h1:k+(o+1)<=m/\m<k+(o+1)+xs.length
  ·rw[T7 h1,T7 (by lia),show m - (k+o)=m - (k+(o+1))+1 by lia,List.getElem?_cons_succ]
  ·rw[T6 h1];by_cases h2:k+o=m
   ·rw[T7 h2,T7 (by lia),T7 (by lia),show m - (k+o)=0 by lia];rfl
   ·rw[T6 h2,T6 (by lia)]
def Xm7   (h:k+res.length<=l.length):G1 (Fk it res) k (Fk it l)=Fk it (l.take k++res++l.drop (k+res.length)):=by
 have e1:(Fk it res).toList=res.map (kas_item it):=by unfold Fk;rfl
 unfold G1;rw[e1];apply Array.ext_getElem?;intro m;rw[Xe9 k _ 0 _ m (by rw[Ow,B4];lia),Ow,Nat.add_zero];unfold Fk;rw[Sc,Sc,Pf,Pf,Pf];by_cases h1:k<=m/\m<k+res.length
 ·rw[T7 h1,Qh (by rw[O2,Pc];lia),Rk (by rw[Pc];lia),Pc,Rg (by lia)]
 ·rw[T6 h1];by_cases h2:m<k
  ·rw[Qh (by rw[O2,Pc];lia),Qh (by rw[Pc];lia),Ti,T7 h2]
  ·rw[Rk (by rw[O2,Pc];lia),O2,Pc,Sm];congr 2
   lia
def Kx{lt}{l}{u v}(h:SoL lt l u v)(hv:v<=l.length):((l.take v).drop u).Pairwise λx y=>lt x y=true:=by
 rw[Rs];intro i j hi hj ir;rw[P2,Pc] at hi hj;rw[Tq,Tq,Su,Su];have:=h (u+i) (u+j) (by lia) (by lia) (by lia)
 rwa [Pb,Pb,Ox (by lia),Ox (by lia)] at this
section
variable {prog:av}{w:a8}{A:aB}{E:Zb}{s:ak}{κ : bX}{it:Array aw}{n:Nat}{lt:Nat->Nat->Bool}{l:List Nat}{st:bf}
def wS_mAt(hc:CmS prog w A s κ it n lt)  (bv:SA κ it #[(0,n1,pw),(n1,n2,0)] l st)(al:Al n l)(h1:1<=n1)(h2:1<=n2)(hn:n1+n2=n)(ja:SoL lt l 0 n1)(jb:SoL lt l n1 n)(h:∀l' aD,SA κ it #[(0,n,pw)] l' aD->l'.Perm l->SoL lt l' 0 n->Q true aD):eU (ai prog w) A E s (rh 0) Q st:=by
 have L:=hc.L;have hl:=al.len;rw[Xm6];refine T2 (bI ?_);rw[bv.p,bv.a];have e0:(#[(0,n1,pw),(n1,n2,0)]:Array (Nat×Nat×Nat))[0]? = some (0,n1,pw):=rfl;have e1:(#[(0,n1,pw),(n1,n2,0)]:Array (Nat×Nat×Nat))[0+1]? = some (n1,n2,0):=rfl;have ep:((#[(0,n1,pw),(n1,n2,0)]:Array (Nat×Nat×Nat)).setIfInBounds 0 (0,n1+n2,pw)).eraseIdxIfInBounds (0+1) = #[(0,n1+n2,pw)]:=by simp
 rw[e0,e1];dsimp only;rw[ep];clear e0 e1 ep;have s1:SA κ it #[(0,n,pw)] l (bf.mk' (kindOf st) (Fk it l) #[(0,n1+n2,pw)] (dt st) (bA st)):=⟨bv.k,rfl,bv.f,by rw[<-hn]⟩;have vG:∀{Q:PUnit->bf->Prop} {x y:bf},Q ⟨⟩ x->eU (ai prog w) A E s (set x:StateT bf f8 PUnit) Q y:=λhq=>by
  unfold eU;rw[StateT.run_set];exact T0 ⟨rfl,hq⟩
 refine T2 (vG ?_);generalize bf.mk' (kindOf st) (Fk it l) #[(0,n1+n2,pw)] (dt st) (bA st)=iS at s1;have m1:l.getD n1 0∈l:=B5 (by lia);refine T2 (Bo (Bg (show n1<l.length by lia)) ?_);refine T2 (Gw (P:=λt => !lt (l.getD n1 0) (l.getD t 0)) ⟨λa b fu hb e=>?_⟩ (by lia) (λt ht Q' hq=>?_) λk hk iG kD=>?_)
 ·have e:lt (l.getD n1 0) (l.getD b 0)=false:=by simpa using e
  cases q:lt (l.getD n1 0) (l.getD a 0) with
  | false=>rfl
  | true=>
   have:=L.tr _ _ _ q (ja a b (Px _) fu hb);rw[this] at e;cases e
 ·rw[Qy];exact Gv hc (Bg (by lia)) (al.ltn (by lia)) (al.ltn (by lia)) s1.k (left:=false) hq
 dsimp only;have lo1:∀t,t<k->lt (l.getD t 0) (l.getD n1 0)=true:=λt ht=>by
  have:=iG t ht;exact al.flip L (by lia) (by lia) (by lia) (by simpa using this)
 have y9:∀t,k<=t->t<n1->lt (l.getD n1 0) (l.getD t 0)=true:=λt ht nJ=>by
  have:=kD t ht nJ;simpa using this
 have ge:∀{x t:Nat},n1<=t->t<n->lt x (l.getD n1 0)=true->lt x (l.getD t 0)=true:=λ{x t} h1 h2 hx=>by
  by_cases z:t=n1
  ·rw[z];exact hx
  ·exact L.tr _ _ _ hx (jb n1 t (Oy _) (by lia) h2)
 by_cases e1:(n1 - k==0)=true
 ·rw[T7 e1];have nZ:n1 - k=0:=by simpa using e1
  refine T4 (h l _ s1 (.refl _) λi j a1 a2 a3=>?_);by_cases c1:j<n1
  ·exact ja i j a1 a2 c1
  ·by_cases c2:n1<=i
   ·exact jb i j c2 a2 a3
   ·exact ge (by lia) a3 (lo1 i (by lia))
 rw[T6 e1];have nZ:n1 - k≠0:=by simpa using e1
 rw[show 0+k+(n1 - k) - 1=n1 - 1 by lia,Qy];refine T2 (Bo (Bg (show n1 - 1<l.length by lia)) ?_);refine T2 (Gw (P:=λt=>lt (l.getD (n1+t) 0) (l.getD (n1 - 1) 0)) ⟨λa b fu hb e=>?_⟩ (by lia) (λt ht Q' hq=>?_) λr hr vH vI=>?_)
 ·exact L.tr _ _ _ (jb _ _ (by lia) (by lia) (by lia)) e
 ·exact Gv hc (Bg (by lia)) (al.ltn (by lia)) (al.ltn (by lia)) s1.k (left:=true) hq
 dsimp only;have gq:∀t,r<=t->t<n2->lt (l.getD (n1 - 1) 0) (l.getD (n1+t) 0)=true:=λt a b=>al.flip L (by lia) (by lia) (by lia) (vI t a b);have le:∀{x t:Nat},t<n1->lt (l.getD (n1 - 1) 0) x=true->lt (l.getD t 0) x=true:=λ{x t} h1 hx=>by
  by_cases z:t=n1 - 1
  ·rw[z];exact hx
  ·exact L.tr _ _ _ (ja t (n1 - 1) (Px _) (by lia) (by lia)) hx
 have r1:1<=r:=by
  rcases Nat.eq_zero_or_pos r with z | z
  ·have a:=gq 0 (by lia) (by lia);have b:=y9 (n1 - 1) (by lia) (by lia);have:=L.tr _ _ _ a b;rw[L.irr] at this;cases this
  ·exact z
 rw[T6 (by simp;lia)];unfold Xe8;rw[D4,D4,show n1+r - n1=r by lia];have CH:(l.drop k).take (n1 - k)=(l.take n1).drop k:=(Sv ..).symm;have CI:(l.drop n1).take r=(l.take (n1+r)).drop n1:=by rw[Sv,show n1+r - n1=r by lia]
 have T:Two lt n ((l.drop k).take (n1 - k)) ((l.drop n1).take r):=by
  refine⟨L,λx hx=>?_,λx hx=>?_,λx hx y hy=>?_,?_,?_⟩
  ·obtain⟨t,b1,b2,rfl⟩:=Dd hx;exact al.ltn (by lia)
  ·obtain⟨t,b1,b2,rfl⟩:=Dd hx;exact al.ltn (by lia)
  ·obtain⟨t,b1,b2,rfl⟩:=Dd hx;obtain⟨t',c1,c2,rfl⟩:=Dd hy;exact al.ne (by lia) (by lia) (by lia)
  ·rw[CH];exact Kx (λi j a1 a2 a3=>ja i j (Px _) a2 a3) (by lia)
  ·rw[CI];exact Kx (λi j a1 a2 a3=>jb i j a1 a2 (by lia)) (by lia)
 have rj:((l.drop k).take (n1 - k)).length=n1 - k:=by rw[Pc,P2];lia
 have vJ:((l.drop n1).take r).length=r:=by rw[Pc,P2];lia
 have b0:((l.drop n1).take r).getD 0 0=l.getD n1 0:=by
  rw[Pb,Ti,T7 (by lia),Sm,<-Pb];rfl
 have a9:((l.drop k).take (n1 - k)).getD (((l.drop k).take (n1 - k)).length - 1) 0=l.getD (n1 - 1) 0:=by
  rw[rj,Pb,Ti,T7 (by lia),Sm,show k+(n1 - k - 1)=n1 - 1 by lia,<-Pb]
 have gy:∀y∈(l.drop k).take (n1 - k),lt (((l.drop n1).take r).getD 0 0) y=true:=λy hy=>by
  obtain⟨t,b1,b2,rfl⟩:=Dd hy;rw[b0];exact y9 _ (by lia) (by lia)
 have top:∀x∈(l.drop n1).take r,lt x (((l.drop k).take (n1 - k)).getD (((l.drop k).take (n1 - k)).length - 1) 0)=true:=λx hx=>by
  obtain⟨t,b1,b2,rfl⟩:=Dd hx;rw[a9];exact vH t b1
 have fin:∀res aD,Mrg lt ((l.drop k).take (n1 - k)) ((l.drop n1).take r) res->SG iS aD->eU (ai prog w) A E s (do
   modify λs=>iZ s (G1 (Fk it res) k (bq s))
   let z <-get
   pure (bA z).isNone) Q aD:=by
  intro res aD mr sg;have jJ:res.length=n1 - k+r:=by rw[mr.1.length_eq,O2,rj,vJ]
  refine T2 (bO (T2 (bI (T4 ?_))));have ef:bA (iZ aD (G1 (Fk it res) k (bq aD)))=none:=sg.f.trans s1.f;rw[ef];have rl:∀x∈res,(∃t,k<=t/\t<n1/\x=l.getD t 0)\/(∃t,t<r/\x=l.getD (n1+t) 0):=λx hx=>by
   rcases O5.mp (mr.1.mem_iff.mp hx) with z | z
   ·obtain⟨t,b1,b2,e⟩:=Dd z;exact .inl ⟨k+t,by lia,by lia,e⟩
   ·obtain⟨t,b1,b2,e⟩:=Dd z;exact .inr ⟨t,b1,e⟩
  refine h (l.take k++res++l.drop (k+res.length)) _ ⟨sg.k.trans s1.k,?_,ef,sg.p.trans s1.p⟩ ?_ ?_
  ·show G1 (Fk it res) k (bq aD)=_;rw[sg.a,s1.a,Xm7 (by lia)]
  ·rw[show k+res.length=n1+r by lia];have e:l=l.take k++((l.drop k).take (n1 - k)++(l.drop n1).take r)++l.drop (n1+r):=by
    rw[<-Pp,<-take_split,show k+(n1 - k)=n1 by lia,<-take_split,Pi]
   refine List.Perm.trans ?_ (List.Perm.of_eq e.symm);exact(Qk _ mr.1).append_right _
  ·have pw:(l.take k++res++l.drop (k+res.length)).Pairwise λx y=>lt x y=true:=by
    refine Pn.mpr ⟨Pn.mpr ⟨?_,mr.2,λx hx y hy=>?_⟩,?_,λx hx y hy=>?_⟩
    ·have:=Kx (u:=0) (v:=k) (l:=l) (lt:=lt) (λi j a1 a2 a3=>ja i j a1 a2 (by lia)) (by lia)
     rwa [Rr] at this
    ·obtain⟨t,ht,rfl⟩:=F3 hx (by lia);rcases rl y hy with ⟨u,c1,c2,rfl⟩ | ⟨u,c1,rfl⟩
     ·exact ja _ _ (Px _) (by lia) c2
     ·exact ge (by lia) (by lia) (lo1 t ht)
    ·have:=Kx (u:=k+res.length) (v:=n) (l:=l) (lt:=lt) (λi j a1 a2 a3=>jb i j (by lia) a2 a3) (by lia)
     rwa [P5 (by lia)] at this
    ·have fS:y∈(l.drop (k+res.length)).take n:=by rw[P5 (by rw[P2];lia)];exact hy
     obtain⟨u,c1,c2,rfl⟩:=Dd fS;have CJ:k+res.length+u=n1+(r+u):=by lia
     rw[CJ];have vK:=gq (r+u) (by lia) (by lia);rcases O5.mp hx with z | z
     ·obtain⟨t,ht,rfl⟩:=F3 z (by lia);exact ge (by lia) (by lia) (lo1 t ht)
     ·rcases rl x z with ⟨t,c1,c2,rfl⟩ | ⟨t,c1,rfl⟩
      ·exact le c2 vK
      ·exact jb _ _ (by lia) (by lia) (by lia)
   have len:(l.take k++res++l.drop (k+res.length)).length=n:=by
    rw[O2,O2,Pc,P2]
    lia
   exact λi j a1 a2 a3=>Gy pw a2 (by lia)
 by_cases e5:n1 - k<=r
 ·rw[T7 e5];exact T2 (Xmy hc T (by lia) (by lia) gy top s1.k λres aD mr sg=>fin res aD mr sg)
 ·rw[T6 e5];exact T2 (Xm3 hc T (by lia) (by lia) gy top s1.k λres aD mr sg=>fin res aD mr sg)
end
open PySem.W (KasT kas_item kas_cmp kas_ask kas_sort kat_run kat_snds kat_ask_eq kas_range)
section
variable {prog:av}{w:a8}{A:aB}{E:Zb}{s:ak}{κ : bX}{it:Array aw}{lt:Nat->Nat->Bool}{l:List Nat}{st:bf}
def Rn (κ : bX) (it:Array aw) (lt:Nat->Nat->Bool) (l:List Nat) (st:bf):Prop:=∃l',l'.Perm l/\((SA κ it #[(0,64,0)] l' st/\SoL lt l' 0 64) \/ ∃n1 n2 pw,1<=n1/\1<=n2/\n1+n2=64/\SA κ it #[(0,n1,pw),(n1,n2,0)] l' st/\SoL lt l' 0 n1/\SoL lt l' n1 64)
def Xm8(hc:CmS prog w A s κ it 64 lt)(bv:SA κ it #[] l st)(al:Al 64 l){Q}(h:∀l' aD pd,SA κ it pd l' aD->l'.Perm l->SoL lt l' 0 64->Q () aD):eU (ai prog w) A E s JB Q st:=by
 have hl:=al.len;rw[sortRuns'_eq];refine T2 (bI ?_);have hsz:(bq st).size=64:=by rw[bv.a,B4,hl]
 have CK:minRun' 64 64 0=32:=by
  rw[minRun'_succ,T6 (by decide)];rfl
 dsimp only;rw[hsz,CK];refine T2 (bc (aK (I:=λx c aD=>(x=0/\c=(none,0)/\SA κ it #[] l aD)\/(x=1/\∃l' n1,c=(none,n1)/\SA κ it #[(0,n1,0)] l' aD/\l'.Perm l/\32<=n1/\n1<=64/\SoL lt l' 0 n1)\/(2<=x/\c=(none,64)/\Rn κ it lt l aD)) (Q:=λc aD=>c=(none,64)/\Rn κ it lt l aD) ?step ?fin (.inl ⟨rfl,rfl,bv⟩)) ?post)
 case fin=>
  rintro c aD (⟨z,_⟩ | ⟨z,_⟩ | ⟨_,z⟩)
  ·exact absurd z (by decide)
  ·exact absurd z (by decide)
  ·exact z
 case step=>
  rintro x c aD _ hx (⟨rfl,rfl,s0⟩ | ⟨rfl,l1,n1,rfl,s1,iw,b1,b2,ja⟩ | ⟨x2,rfl,z⟩)
  ·dsimp only;rw[T6 (by lia),Tf];refine T2 (Xe6 hc s0 al (by lia) (by lia) λm l1 iS s1 iw m1 m2 so _=>?_);have og:Al 64 l1:=⟨iw.trans al.pm⟩;dsimp only;rw[Qy] at so;by_cases hm:m<32
   ·rw[T7 hm];refine T2 (cP (aS ⟨rfl,?_⟩));refine T2 (Xe7 hc s1 og m1 (by lia) (by lia) (by rw[Qy];exact so) λl2 dG s2 gz jb _=>?_);rw[T6 (by decide)];refine T2 (bI ?_);rw[s2.p];refine T2 (bO (T4 (.inr (.inl ⟨rfl,l2,32,rfl,⟨s2.k,s2.a,s2.f,?_⟩,gz.trans iw,by lia,by lia,jb⟩))));show (aZ dG).push _=_;rw[s2.p];rfl
   ·rw[T6 hm];refine T2 (bI ?_);rw[s1.p];refine T2 (bO (T4 (.inr (.inl ⟨rfl,l1,m,by rw[Qy],⟨s1.k,s1.a,s1.f,?_⟩,iw,by lia,by lia,so⟩))));show (aZ iS).push _=_;rw[s1.p];rfl
  ·dsimp only;by_cases e:n1 ≥ 64
   ·rw[T7 e];obtain rfl:n1=64:=by lia
    exact T4 ⟨rfl,l1,iw,.inl ⟨s1,ja⟩⟩
   rw[T6 e];have og:Al 64 l1:=⟨iw.trans al.pm⟩;have fin:∀l2 dG,SA κ it #[(0,n1,0)] l2 dG->l2.Perm l1->SoL lt l2 n1 64->(∀i,i<n1->l2.getD i 0=l1.getD i 0)->∀pw,SA κ it #[(0,n1,pw),(n1,64 - n1,0)] l2 (lB (lB dG ((aZ dG).modify ((aZ dG).size - 1) λx=>(x.fst,x.2.fst,pw))) ((aZ (lB dG ((aZ dG).modify ((aZ dG).size - 1) λx=>(x.fst,x.2.fst,pw)))).push (n1,64 - n1,0)))/\SoL lt l2 0 n1:=by
    intro l2 dG s2 gz jb pre pw;refine⟨⟨s2.k,s2.a,s2.f,?_⟩,λi j a1 a2 a3=>?_⟩
    ·show ((aZ dG).modify ((aZ dG).size - 1) λx=>(x.fst,x.2.fst,pw)).push (n1,64 - n1,0)=_;rw[s2.p];simp[Array.modify,Array.modifyM]
    ·rw[pre i (by lia),pre j (by lia)];exact ja i j a1 a2 a3
   refine T2 (Xe6 hc s1 og (by lia) (by lia) λm l2 dG s2 gz m1 m2 so pre=>?_);have rm:Al 64 l2:=⟨gz.trans og.pm⟩;dsimp only;by_cases hm:m<32
   ·rw[T7 hm];refine T2 (cP (aS ⟨rfl,?_⟩));rw[show min (64 - n1) 32=64 - n1 by lia];refine T2 (Xe7 hc s2 rm m1 (by lia) (by lia) so λl3 oH s3 rp tO vL=>?_);rw[T6 (by decide)];have rq:SoL lt l3 n1 64:=by rw[show n1+(64 - n1)=64 by lia] at tO;exact tO
    refine T2 (bI ?_);rw[s3.p];have eb:(#[(0,n1,0)]:Array (Nat×Nat×Nat)).back? = some (0,n1,0):=rfl;rw[eb];dsimp only;refine T2 (bc (aK (I:=λx c aD=>c=(none,())/\SA κ it #[(0,n1,0)] l3 aD) (Q:=λc aD=>c=(none,())/\SA κ it #[(0,n1,0)] l3 aD) ?_ (λc aD z=>z) ⟨rfl,s3⟩) ?_)
    ·rintro x c aD _ _ ⟨rfl,q⟩;refine T2 (bI ?_);rw[q.p,T6 (by show ¬ 1 > 1;decide)];exact T4 ⟨rfl,q⟩
    ·rintro c aD ⟨rfl,q⟩;dsimp only;obtain⟨q1,q2⟩:=fin l3 aD q (rp.trans gz) rq (λi hi=>(vL i hi).trans (pre i hi)) (power' 64 (2 * 0+n1) (2 * 0+n1+n1+(64 - n1)) 64);refine T2 (bO (T2 (bO (T4 (.inr (.inr ⟨by lia,by rw[show n1+(64 - n1)=64 by lia],l3,((rp.trans gz)).trans iw,.inr ⟨n1,64 - n1,_,by lia,by lia,by lia,q1,q2,rq⟩⟩))))))
   ·rw[T6 hm];obtain rfl:m=64 - n1:=by lia
    have fG:SoL lt l2 n1 64:=by rw[show n1+(64 - n1)=64 by lia] at so;exact so
    refine T2 (bI ?_);rw[s2.p];have eb:(#[(0,n1,0)]:Array (Nat×Nat×Nat)).back? = some (0,n1,0):=rfl;rw[eb];dsimp only;refine T2 (bc (aK (I:=λx c aD=>c=(none,())/\SA κ it #[(0,n1,0)] l2 aD) (Q:=λc aD=>c=(none,())/\SA κ it #[(0,n1,0)] l2 aD) ?_ (λc aD z=>z) ⟨rfl,s2⟩) ?_)
    ·rintro x c aD _ _ ⟨rfl,q⟩;refine T2 (bI ?_);rw[q.p,T6 (by show ¬ 1 > 1;decide)];exact T4 ⟨rfl,q⟩
    ·rintro c aD ⟨rfl,q⟩;dsimp only;obtain⟨q1,q2⟩:=fin l2 aD q gz fG pre (power' 64 (2 * 0+n1) (2 * 0+n1+n1+(64 - n1)) 64);refine T2 (bO (T2 (bO (T4 (.inr (.inr ⟨by lia,by rw[show n1+(64 - n1)=64 by lia],l2,(gz).trans iw,.inr ⟨n1,64 - n1,_,by lia,by lia,by lia,q1,q2,fG⟩⟩))))))
  ·dsimp only;rw[T7 (Oy _)];exact T4 ⟨rfl,z⟩
 case post=>
  rintro c aD ⟨rfl,l1,iw,z⟩;dsimp only;have og:Al 64 l1:=⟨iw.trans al.pm⟩;refine T2 (bc (aK (I:=λx c aD=>c=(none,())/\∃l2 pd,l2.Perm l/\Al 64 l2/\SA κ it pd l2 aD/\((pd.size<=1/\SoL lt l2 0 64)\/(x=0/\∃n1 n2 pw,1<=n1/\1<=n2/\n1+n2=64/\pd = #[(0,n1,pw),(n1,n2,0)]/\SoL lt l2 0 n1/\SoL lt l2 n1 64))) (Q:=λc aD=>c=(none,())/\∃l2 pd,l2.Perm l/\SA κ it pd l2 aD/\SoL lt l2 0 64) ?step ?fin ?init) ?post)
  case init=>
   rcases z with ⟨s1,so⟩ | ⟨n1,n2,pw,a1,a2,a3,s1,ja,jb⟩
   ·exact⟨rfl,l1,_,iw,og,s1,.inl ⟨by show 1<=1;decide,so⟩⟩
   ·exact⟨rfl,l1,_,iw,og,s1,.inr ⟨rfl,n1,n2,pw,a1,a2,a3,rfl,ja,jb⟩⟩
  case fin=>
   rintro c aD ⟨rfl,l2,pd,gz,rm,s2,⟨_,so⟩ | ⟨e,_⟩⟩
   ·exact⟨rfl,l2,pd,gz,s2,so⟩
   ·exact absurd e (by decide)
  case step=>
   rintro x c aD _ _ ⟨rfl,l2,pd,gz,rm,s2,⟨e,so⟩ | ⟨rfl,n1,n2,pw,a1,a2,a3,rfl,ja,jb⟩⟩
   ·refine T2 (bI ?_);rw[s2.p,T7 e];exact T4 ⟨rfl,l2,pd,gz,s2,so⟩
   ·refine T2 (bI ?_);rw[s2.p,T6 (by show ¬ 2<=1;decide)]
    show eU _ _ _ _ (do
     let b <-rh 0
     if (!b)=true then pure (ForInStep.done (some (),())) else pure (ForInStep.yield (none,()))) _ _
    refine T2 (wS_mAt hc s2 rm a1 a2 a3 ja jb λl3 oH s3 rp tO=>?_);rw[T6 (by decide)];exact T4 ⟨rfl,l3,_,rp.trans gz,⟨rp.trans rm.pm⟩,s3,.inl ⟨by show 1<=1;decide,tO⟩⟩
  case post=>
   rintro c aD ⟨rfl,l2,pd,gz,s2,so⟩;exact T4 (h l2 _ pd s2 gz so)
end
section
variable {prog:av}{w:a8}{A:aB}{E:Zb}{s:ak}{κ : bX}{ks vs:List aa}{lt:Nat->Nat->Bool}
def Xm9{Q:bf->ak->Prop}(hl:ks.length=vs.length)(h2:2<=vs.length)(cV:vs.length<=64)(L:Lin vs.length lt)
  (hc:∀i j (C:Bool->ak->Prop),i<vs.length->j<vs.length->C (lt i j) s->kas_ask prog w A κ ks i j C s)
  (h:∀p aD,Gd vs.length p->B0 lt p vs.length->bq aD=p.map (kas_item (ks.toArray.zip vs.toArray))->bA aD=none->Q aD s):
  aj (ai prog w) A ((JB).run (bf.mk' κ (ks.toArray.zip vs.toArray) #[] 7 none)) (λr s'=>Q r.2 s') E s:=by
 by_cases e:vs.length<64
 ·exact kat_run (G:=λp s'=>s'=s/\Gd vs.length p/\B0 lt p vs.length) hl h2 e (λp aD s' _ b1 b2 ⟨e1,b3,b4⟩=>by subst e1;exact h p aD b3 b4 b1 b2)
   (N1 (n:=vs.length) (lt:=lt) (λi j C hi hj hC=>hc i j C hi hj hC) (Km (n:=vs.length) (by lia)) ⟨rfl,(Km (n:=vs.length) (by lia)).run,Xep L (by lia)⟩)
 ·have tP:vs.length=64:=by lia
  have hz:(ks.toArray.zip vs.toArray).size=64:=by simp[hl,tP]
  rw[tP] at L;have cm:CmS prog w A s κ (ks.toArray.zip vs.toArray) 64 lt:=⟨L,λi j C hi hj hC=>by
   have:=hc i j C (by lia) (by lia) hC;rw[kat_ask_eq hl] at this;exact this⟩
  have ea:(ks.toArray.zip vs.toArray)=Fk (ks.toArray.zip vs.toArray) (List.range 64):=by
   have:=kas_range (ks.toArray.zip vs.toArray);rw[hz] at this;rw[Gz];exact this.symm
  have s0:SA κ (ks.toArray.zip vs.toArray) #[] (List.range 64) (bf.mk' κ (ks.toArray.zip vs.toArray) #[] 7 none):=⟨rfl,ea,rfl,rfl⟩;have run:=Xm8 (E:=E) (Q:=λ_ aD=>Q aD s) cm s0 ⟨.refl _⟩ λl' aD pd s1 pm so=>by
   refine h l'.toArray aD ?_ ?_ ?_ s1.f
   ·rw[tP];exact(List.perm_iff_toArray_perm).mp pm
   ·rw[tP];intro i j h1 h2;have:=so i j (Px _) h1 h2;show lt (l'.toArray.getD i 0) (l'.toArray.getD j 0)=true;rw[Ij,Ij,<-Iu,<-Iu];exact this
   ·rw[s1.a,Gz]
  exact aN run (λr s' q=>by obtain⟨rfl,q⟩:=q;exact q) λ_ _ z=>z
end
open PySem.W (KasT kas_sort kas_ask kas_item kat_run kat_snds kat_kind KatTups)
def E9 (Ts:List (Za)) (i j:Nat):Bool:=Cr (Ts.getD i []).length (Ts.getD i []) (Ts.getD j []).length (Ts.getD j [])
def Xna(n)(a):Cr n a n a=false:=by unfold Cr;rw[T7 rfl];exact Ik a
def Xnb  (h:Cr n a m b=true) (g:Cr m b k c=true):Cr n a k c=true:=by
 unfold Cr at *;by_cases e1:n=m
 ·rw[T7 e1] at h;by_cases e2:m=k
  ·rw[T7 e2] at g;rw[T7 (e1.trans e2)];exact Kn _ _ _ h g
  ·rw[T6 e2] at g;rw[T6 (by lia)];have:=Ua g;exact T8 (by lia)
 ·rw[T6 e1] at h;have h:=Ua h;by_cases e2:m=k
  ·rw[T6 (by lia)];exact T8 (by lia)
  ·rw[T6 e2] at g;have g:=Ua g;rw[T6 (by lia)];exact T8 (by lia)
def Xnc  (h:a≠b):Cr n a m b=true\/Cr m b n a=true:=by
 unfold Cr;by_cases e:n=m
 ·rw[T7 e,T7 e.symm];exact N4 _ _ h
 ·rw[T6 e,T6 (Ne.symm e)];rcases Nat.lt_or_ge n m with z | z
  ·exact .inl (T8 z)
  ·exact .inr (T8 (by lia))
def linP{Ts:List (Za)}(nd:Ts.Nodup):Lin Ts.length (E9 Ts) where
 irr i:=Xna _ _
 tr i j k:=Xnb
 tot i j hi hj ne:=Xnc λe=>ne (by
  have e1:Ts.getD i []=Ts[i]:=by simp[List.getD,hi]
  have e2:Ts.getD j []=Ts[j]:=by simp[List.getD,hj]
  rw[e1,e2] at e;exact(Sg nd).mp e)
def Turns (X:Cx) (f:ae) (H:Hp) (ps:List ae) (Ts:List (Za)):Prop:=
 ∀(pins:List (ae×aU)) (Z:L2.St) (s1:ak) (H1:Hp) (i:Nat),i<ps.length->Same H H1->Inv X pins Z H1 s1 ->
  aj (ai X.prog X.w) X.A.in1.in1 (call (.ref f) [.ref (ps.getD i 0)]) (λu s'=>∃t H2,u = .ref t/\Inv X pins Z H2 s'/\H2 t=some (.tup [.int (Ts.getD i []).length,.ref (ps.getD i 0)])/\Same H1 H2) (λ_ _=>False) s1
section
variable {X:Cx}{pins:List (ae×aU)}{Z:L2.St}{H:Hp}{s:ak}
def Xnd  {n:Nat} (I:Inv X pins Z H s) (ht:H t=some (.tup [.int n,.ref p])) (hp:H p=some (.tup (ss.map V.str))):Il s.heap (.ref t) n ss:=by
 obtain⟨aC,r,⟨o,ho,hc,k,hd⟩,_⟩:=I.tuple (SqT.of (K:=X.K) ht);obtain⟨ib,r2,⟨o2,jl,fX,k2,cS⟩,_⟩:=I.tuple (SqT.of (K:=X.K) hp);cases r with
 | cons r1 r'=>
  cases r' with
  | cons CL CM=>
   cases CM;obtain⟨tk,rfl⟩:∃tk,_=aa.int n tk:=r1;cases CL;exact⟨t,o,_,k,tk,.ref p,rfl,ho,hc,hd,rfl,p,o2,_,k2,rfl,jl,fX,cS,by simpa using Gf r2⟩
def Xfa    {st} {out:List ae}   (I:Inv X ((D,ay "list" #[] e1)::pins) Z H s) (hD:X.s₀.heap.objs.size<=D) (k8:∀p∈X.pn++pins,p.1≠D)
  (hk:H kS=some (.lst ks)) (ho:(bq st).map (·.2)=(out.map aa.ref).toArray) (hf:bA st=none) (hz:out.length<=64) (h:∀s',Inv X pins Z (upd (upd H kS (.lst [])) D (.lst (out.map V.ref))) s'->P (.done (.ret .none)) s'):
  aj (ai X.prog X.w) A (ksk_tail D false e1 (.ref kS) st) P E s:=by
 obtain⟨z,aC,n,r,hl,e⟩:=I.lstM hk;have J:=I.lset (its':=[]) (f:=λ_ => #[]) (ys:=[]) (t':=s.toks) hk e rfl .nil (by decide);unfold ksk_tail
 try dsimp only
 rw[ho];simp only[Pt,if_false];refine Tz (bL e rfl ?_ (by rw[O0,<-hl];exact z) (Px _));refine Tz (wpAny_letGo ?_);obtain⟨hg,_⟩:=J.pin (D,ay "list" #[] e1) (Pr _ O3);refine Tz (dq hg rfl ?_);refine Tz (bL hg rfl ?_ (Px _) (by rw[O0,Ow,T5];lia));rw[hf];simp only[bne_self_eq_false,Pt,if_false];refine T0 (h _ ?_);have vr:Vals (out.map V.ref) (out.map aa.ref):=by
  clear ho hz h
  induction out with
  | nil=>exact .nil
  | cons p t ih=>exact .cons rfl ih
 exact Xmr J hD k8 vr (by rw[Ow,T5];lia)
def Xne   {ks} {ps:List ae}  {aC:List aa}   (I:Inv X ((D,ay "list" #[] e1)::pins) Z H s) (hu:A.units<bz) (hD:X.s₀.heap.objs.size<=D) (k8:∀p∈X.pn++pins,p.1≠D)
  (hk:H kS=some (.lst ks)) (aO:aC.length=ps.length) (hT:ps.length=Ts.length) (nd:Ts.Nodup) (hp:∀i,i<ps.length->Il s.heap (aC.getD i .none) (Ts.getD i []).length (Ts.getD i [])) (cV:ps.length<=64)
  (h:∀(p:Array Nat) s',Gd ps.length p->B0 (E9 Ts) p ps.length->Inv X pins Z (upd (upd H kS (.lst [])) D (.lst ((p.toList.map λi=>ps.getD i 0).map V.ref))) s'->P (.done (.ret .none)) s'):
  aj (ai X.prog X.w) A (ksk_end D false (ps.map aa.ref).toArray e1 (.ref kS) aC.toArray) P E s:=by
 have hsz:(ps.map aa.ref).toArray.size=ps.length:=by simp
 have L:=linP nd;rw[<-hT] at L;have rs:∀p:Array Nat,Gd ps.length p->(p.toList.map λi=>(ps.map aa.ref).getD i aa.none)=((p.toList.map λi=>ps.getD i 0).map aa.ref):=λp g=>by
  rw[P4];refine Qm λi hi=>?_;have eS:i<ps.length:=by
   have:=(Array.perm_iff_toList_perm.mp g).mem_iff.mp hi;simpa using this
  simp[List.getD,eS]
 unfold ksk_end
 try dsimp only
 simp only[Pt,if_false];by_cases h2:(ps.map aa.ref).toArray.size<2
 ·rw[T7 h2,T7 h2];refine Tz (T0 ?_);rw[StateT.run_pure];refine Tz (T0 ?_)
  try dsimp only
  have g0:Gd ps.length (List.toArray (List.range ps.length)):=Ta _;refine Xfa (st:=bf.mk' general' (aC.toArray.zip (ps.map aa.ref).toArray) #[] 7 none) (out:=(List.toArray (List.range ps.length)).toList.map λi=>ps.getD i 0) I hD k8 hk ?_ rfl (by simpa using cV) λs' J=>h _ s' g0 (λi j ir hj=>by lia) J;rw[<-rs _ g0];show ((aC.toArray.zip (ps.map aa.ref).toArray).map (·.2))=_;apply Array.toList_inj.mp;simp only[Array.toList_map,List.zip_toArray];rw[List.map_snd_zip (by simp[aO])];refine Ro (by simp) λi h1 h2=>?_;simp[List.getD] at h1 ⊢;simp[h1]
 ·rw[T6 h2,T6 h2];have fst:∀(l:List aa) (q:∀v∈l,∃n ss,Il s.heap v n ss),∃fs,KatTups s.heap l fs/\fs.length=l.length/\∀f∈fs,∃(x:Int) (t:IL),f = .int x t:=by
   intro l
   induction l with
   | nil=>exact λ_=>⟨[],KatTups.nil,rfl,λ_ h=>by cases h⟩
   | cons v l ih=>
    intro q;obtain⟨fs,t1,t2,t3⟩:=ih λu hm=>q u (O4 _ hm);obtain⟨n,ss,a,o,xs,k,t,u,rfl,g1,g2,g3,g4,_⟩:=q v O3;refine⟨.int n t::fs,KatTups.cons g1 g2 g3 ?_ t1,by simp[t2],λf hf=>?_⟩
    ·have:xs[0]? = xs.toList[0]?:=by simp
     rw[this,g4];rfl
    ·rcases Ph.mp hf with e | e
     ·exact⟨_,_,e⟩
     ·exact t3 f e
  obtain⟨fs,t1,t2,t3⟩:=fst aC λv hv=>by
   obtain⟨i,hi,rfl⟩:=P7.mp hv;have:=hp i (by lia);have e:aC.getD i .none=aC[i]:=by simp[List.getD,hi]
   rw[e] at this;exact⟨_,_,this⟩
  refine Tz (kat_kind (T:=.type "int") t1 (by lia) (λv hm=>?_) (by decide) ?_)
  ·obtain⟨x,t,rfl⟩:=t3 v hm;exact .now
  have eb:((aa.type "int") != aa.type "tuple")=true:=by decide
  rw[eb];refine Tz (aN (Xm9 (lt:=E9 Ts) (κ:=tuples' true) (ks:=aC) (vs:=ps.map aa.ref) (Q:=λaD s'=>s'=s/\bA aD=none/\∃p,Gd ps.length p/\B0 (E9 Ts) p ps.length/\(bq aD).map (·.2)=(p.toList.map λi=>(ps.map aa.ref).getD i aa.none).toArray)
   (by simp[aO]) (by rw[Ow];lia) (by rw[Ow];exact cV) (by rw[Ow];exact L) (λi j C hi hj hC=>?_) (λp aD g so a2 a3=>by rw[Ow] at g so;exact⟨rfl,a3,p,g,so,kat_snds (by simp[aO]) a2⟩)) ?_ λ_ _ e=>e)
  ·rw[Ow] at hi hj;show aj _ _ (qU (tuples' true) (aC.getD i aa.none) (aC.getD j aa.none)) C _ _;exact Xmq hu (hp i hi) (hp j hj) hC
  rintro ⟨⟨⟩,aD⟩ s' ⟨rfl,hf,p,g,so,ea⟩
  try dsimp only
  refine Xfa (out:=p.toList.map λi=>ps.getD i 0) I hD k8 hk (by rw[ea,rs p g]) hf (by rw[Ow,O1,g.size];exact cV) λs' J=>h p s' g so J
end
section
variable {X:Cx}{pins:List (ae×aU)}{Z:L2.St}{H:Hp}{s:ak}
def Xnf{D kS f}      (hA:A=X.A.in1.in1)(I:Inv X ((D,ay "list" #[] e1)::pins) Z (upd H kS (.lst [])) s)(pe:H kS=none)(hu:A.units<bz)(hD:X.s₀.heap.objs.size<=D)(k8:∀p∈X.pn++pins,p.1≠D)(nF:H D=none)
  (hT:Tups H ps Ts) (nd:Ts.Nodup) (cV:ps.length<=64) (turn:Turns X f H ps Ts)
  (h:∀(p:Array Nat) (H':Hp) s',Gd ps.length p->B0 (E9 Ts) p ps.length->Same H H'->H' D=some (.lst ((p.toList.map λi=>ps.getD i 0).map V.ref))->Inv X pins Z H' s'->P (.done (.ret .none)) s'):
  aj (ai X.prog X.w) A (ksk_rest D (.ref f) false (ps.map aa.ref).toArray e1 (.ref kS)) P E s:=by
 subst hA;unfold ksk_rest;refine Tz (aS ?_)
 first
  | rw[List.forIn_toArray]
  | (rw[<-Sn];simp only[List.toList_toArray])
  | rw[<-Sn]
 refine Tz (ksk_fold (λi s'=>∃(H':Hp) (ks:List V),Inv X ((D,ay "list" #[] e1)::pins) Z H' s'/\Same H H'/\H' kS=some (.lst ks)/\ks.length=i/\∀j,j<i->∃t,ks[j]? = some (.ref t)/\H' t=some (.tup [.int (Ts.getD j []).length,.ref (ps.getD j 0)])) (ps.map aa.ref) 0 s
  ⟨_,[],I,Same.upd0 pe,Ab,rfl,λj hj=>absurd hj (Qq _)⟩ ?step ?done)
 case step=>
  rintro j x s' hx ⟨H',ks,J,sm,hk,kn,k9⟩;simp only[Qy] at kn k9 ⊢;obtain⟨hj,ex⟩:=O8.mp hx;rw[Ow] at hj;have xO:x = .ref (ps.getD j 0):=by rw[<-ex];simp[List.getD,hj]
  subst xO;refine Tz (dJ (aN (turn _ Z s' H' j hj sm J) (λv mQ he=>?_) λ_ _ hF=>hF.elim));obtain⟨t,H2,rfl,J2,ht,vM⟩:=he
  try dsimp only
  have vN:=vM _ _ hk;obtain⟨z,aC,n,r,hl,e⟩:=J2.lstM vN;have CN:t≠kS:=λq=>by rw[q,vN] at ht;cases ht
  refine Tz (bL e rfl ?_ (by rw[O0,<-hl];exact z) (by rw[Array.size_push,O0,<-hl,kn,T5];lia));refine T0 ⟨rfl,_,ks++[.ref t],J2.lset (ys:=ks++[.ref t]) (its':=aC++[.ref t]) (t':=mQ.toks) vN e (by simp) (r.append (.cons (show Ah (.ref t) (.ref t) from rfl) .nil)) (by rw[O2,P9,kn,T5];lia),(sm.trans vM).upd pe,Ab,by simp[kn],λi hi=>?_⟩;by_cases q:i=j
  ·subst q;exact⟨t,by rw[Rk (by lia),kn];simp,by rw[Ad CN];exact ht⟩
  ·obtain⟨t',a1,a2⟩:=k9 i (by lia);refine⟨t',by rw[Qh (by lia)];exact a1,?_⟩;rw[Ad λq=>by rw[q,hk] at a2;cases a2];exact vM _ _ a2
 case done=>
  rintro s' ⟨H',ks,J,sm,hk,kn,k9⟩;simp only[Qy,Ow] at kn k9
  try dsimp only
  obtain⟨z,aC,n,r,hl,e⟩:=J.lstM hk;refine Tz (iY e rfl ?_);have kg:=hT.same sm;have JC:kS≠D:=λq=>by
   obtain⟨_,hn,_⟩:=J.pin (D,ay "list" #[] e1) (Pr _ O3);have hn:H' D=none:=hn;rw[<-q,hk] at hn;cases hn
  refine Xne (ks:=ks) J hu hD k8 hk (by lia) hT.1 nd (λi hi=>?_) cV λp s2 g so J2=>h p _ s2 g so ((sm.upd pe).upd nF) Ab J2;obtain⟨t,a1,a2⟩:=k9 i hi;obtain⟨u,CO,pf⟩:=r.get a1;have pf:u=aa.ref t:=pf;have e2:aC.getD i .none = .ref t:=by simp[List.getD,CO,pf]
  rw[e2];exact Xnd J a2 (kg.2 i hi)
def Xng    (I:Inv X pins Z H s) (hu:X.A.in1.in1.units<bz) (hl:H l=some (.lst (ps.map V.ref))) (hT:Tups H ps Ts) (nd:Ts.Nodup) (cV:ps.length<=64) (turn:Turns X f H ps Ts)
  (h:∀(D:ae) (p:Array Nat) (H':Hp),H D=none->Gd ps.length p->B0 (E9 Ts) p ps.length->Same H H'->H' D=some (.lst ((p.toList.map λi=>ps.getD i 0).map V.ref))->Q (.ref D) H'):
  aj (ai X.prog X.w) X.A (call (.builtin "sorted") [.ref l] [(aq.ofString "key",.ref f)]) (EP X pins Z Q) X.xe s:=by
 obtain⟨aC,rv,pl,hz⟩:=I.list (SqL.of hl);have nW:aC=ps.map aa.ref:=by
  clear hT cV turn h pl hl hz
  induction ps generalizing aC with
  | nil=>cases rv;rfl
  | cons p t ih=>
   cases rv with
   | cons r t'=>cases r;rw[ih _ t'];rfl
 subst nW;refine call_function_entry_kw jD iV iW (ksk_s1 _ _) ?_;unfold am.«sorted»;refine Tz (m:=lw "sorted" 1 1 _) (T0 ?_);refine Tz (vB pl.isList ?_ (by rw[Ow,T5];lia));refine Tz (cL ?_ (by rw[Ow,T5];lia));generalize y':ps.map aa.ref=vs at *;have lu:vs.length=ps.length:=by rw[<-y',Ow]
 have hsz:((s.heap.push (ay "list" #[] 0)).update s.heap.objs.size (aU.mapSeq (· ++ vs.toArray))).objs.size=s.heap.objs.size+1:=by
  rw[ar.size_update,bN]
 have kH:(((s.heap.push (ay "list" #[] 0)).update s.heap.objs.size (aU.mapSeq (· ++ vs.toArray))).push (ay "list" vs.toArray 0)).get? (s.heap.objs.size+1)=some (ay "list" vs.toArray 0):=by
  rw[<-hsz];exact ar.get?_push_size _ rfl
 have keep:∀b o,s.heap.get? b=some o->(((s.heap.push (ay "list" #[] 0)).update s.heap.objs.size (aU.mapSeq (· ++ vs.toArray))).push (ay "list" vs.toArray 0)).get? b=some o:=λb o q=>by
  have bo:b<s.heap.objs.size:=Uc q;rw[ar.get?_push_ne _ _ _ (by rw[hsz];exact O6 (Qr bo)),ar.get?_update_ne _ _ _ _ (O6 bo),ar.get?_push_ne _ _ _ (O6 bo)];exact q
 have vO:(((s.heap.push (ay "list" #[] 0)).update s.heap.objs.size (aU.mapSeq (· ++ vs.toArray))).push (ay "list" vs.toArray 0)).objs.size=s.heap.objs.size+2:=by
  rw[bN,hsz]
 show aj _ _ _ _ _ {s with heap:=((s.heap.push (ay "list" #[] 0)).update s.heap.objs.size (aU.mapSeq (· ++ vs.toArray))).push (ay "list" vs.toArray 0)};rw[hsz];generalize JD:((s.heap.push (ay "list" #[] 0)).update s.heap.objs.size (aU.mapSeq (· ++ vs.toArray))).push (ay "list" vs.toArray 0)=hA at *;refine Tz (aA (wpAny_call_entry_kw gt ⟨_,kH,rfl⟩ fC ?body (ksk_l1 _ _)))
 case body=>
  show aj (ai X.prog X.w) X.A.in1.in1 (am.«list.sort» ⟨[.ref (s.heap.objs.size+1)],[(aq.ofString "key",.ref f)]⟩) _ _ _;rw[ksk_t1];unfold ksk_tree;refine Tz (iY kH rfl ?_);refine Tz (bL kH rfl ?_ (by rw[O0,lu,T5];lia) (Px _));obtain⟨e1,iu⟩:∃e1,(hA.update (s.heap.objs.size+1) (aU.mapSeq λ_=>(#[]:Array aa))).get? (s.heap.objs.size+1)=some (ay "list" #[] e1):=⟨_,fE kH λ_ => #[]⟩;refine Tz (dq iu rfl ?_);refine Tz (gm ?_ (by show vs.length<=_;rw[lu,T5];lia));refine Tz (cL ?_ (Px _));refine aA ?_;have pe:((hA.update (s.heap.objs.size+1) (aU.mapSeq λ_=>(#[]:Array aa))).push (ay "tuple" vs.toArray 0)).objs.size=s.heap.objs.size+3:=by rw[bN,ar.size_update,vO]
  have k6:∀b o,s.heap.get? b=some o->(((hA.update (s.heap.objs.size+1) (aU.mapSeq λ_=>(#[]:Array aa))).push (ay "tuple" vs.toArray 0)).push (ay "list" #[] 0)).get? b=some o:=λb o e=>by
   refine Ud _ (Ud _ ?_);rw[ar.get?_update_ne _ _ _ _ (O6 (Qr (Uc e)))];exact keep b o e
  have oX:(((hA.update (s.heap.objs.size+1) (aU.mapSeq λ_=>(#[]:Array aa))).push (ay "tuple" vs.toArray 0)).push (ay "list" #[] 0)).get? (s.heap.objs.size+1)=some (ay "list" #[] e1):=Ud _ (Ud _ iu);have vz:(((hA.update (s.heap.objs.size+1) (aU.mapSeq λ_=>(#[]:Array aa))).push (ay "tuple" vs.toArray 0)).push (ay "list" #[] 0)).get? (s.heap.objs.size+3)=some (ay "list" #[] 0):=by rw[<-pe];exact ar.get?_push_size _ rfl
  have J0:Inv X pins Z (upd H (s.heap.objs.size+3) (.lst [])) {s with heap:=((hA.update (s.heap.objs.size+1) (aU.mapSeq λ_=>(#[]:Array aa))).push (ay "tuple" vs.toArray 0)).push (ay "list" #[] 0)}:=
   I.laid (t':=s.toks) (o:=.lst []) k6 (by lia) ⟨by decide,[],0,.nil,vz⟩
  have nF:H (s.heap.objs.size+1)=none:=I.hok.fresh (Q5 _);have k8:∀p∈X.pn++pins,p.1≠s.heap.objs.size+1:=λp hp=>O6 (Qr (Uc (I.pin p hp).1));have J1:Inv X ((s.heap.objs.size+1,ay "list" #[] e1)::pins) Z (upd H (s.heap.objs.size+3) (.lst [])) {s with heap:=((hA.update (s.heap.objs.size+1) (aU.mapSeq λ_=>(#[]:Array aa))).push (ay "tuple" vs.toArray 0)).push (ay "list" #[] 0)}:=by
   refine J0.pins_of λp hp=>?_;rcases Ph.mp hp with rfl | hp
   ·exact⟨oX,by rw[Ad (by show s.heap.objs.size+1≠s.heap.objs.size+3;lia)];exact nF,Tv (Qr I.lt),I.nofs (Q5 _),λv q=>by cases q⟩
   ·exact J0.pin p (Pr _ hp)
  rw[pe];subst y';refine Xnf (f:=f) rfl J1 (I.hok.fresh (by lia)) hu (Pu I.sz (Q5 _)) k8 nF hT nd cV turn λp H' s' g so sm eg J=>⟨_,rfl,?_⟩;exact T0 ⟨_,rfl,⟨.ref (s.heap.objs.size+1),H',J,rfl,h _ p H' nF g so sm eg⟩⟩
end
structure FunT (K:KQ) (x:aq) (st:aV) (f:ae) (fd:bK) (T:ae):Prop where
 ex:∃(oc:aa) (od:Option ae) (kV cZ pm:aa) (an:Option ae) (c0:ae) (ct:aa) (iE:Array (Option aa)),
  fd=LD x x (Ec st) (Cv st) (defScope st) .none kV cZ pm an (.ref c0) ct/\K.lookup f=some ⟨oc,od,.func fd,iE⟩/\LG K (.ref c0) x=true/\LA K c0 T=true
 kp:KU K (.ref f)=true
structure DefT (K:KQ) (x:aq) (st:aV) (T:ae):Prop where
 ex:∃f fd,KS K au x=some (some (.ref f))/\KU K (.ref f)=true/\FunT K x st f fd T/\Fun K x x st f fd
def DefT.of{K}{x}{st}    {kV cZ pm ct}(a:KS K au x=some (some (.ref f)))
  (l:K.lookup f=some ⟨oc,od,.func (LD x x (Ec st) (Cv st) (defScope st) .none kV cZ pm an (.ref c0) ct),iE⟩) (c:LG K (.ref c0) x=true) (k:KU K (.ref f)=true) (t:LA K c0 T=true):DefT K x st T:=
 ⟨⟨f,_,a,k,⟨⟨oc,od,kV,cZ,pm,an,c0,ct,iE,rfl,l,c,t⟩,k⟩,Xbo l c k⟩⟩
section
variable {P:av}{w:a8}{K:KQ}{mg:aq->Option aa}{base:ar}
def FunT.ok{x}{st}  {fd}   (F:FunT K x st f fd T)(S:FnScope N ps (defScope st))(len:∀vs H Q E,sp vs H Q E->vs.length=ps.length)
  (er:∀(c0:ae),LA K c0 T=true->∀(A:aB) (outer:List eV) (s:ak) (H:Hp) (vs:List V) (Q:VK) (E:XK),Room k (A.deeper (aM x (defScope st) s.heap.objs.size f (.ref c0)))->sp vs H Q E ->
   ∃t,PSs (Cp CX0 P w K mg base N x (defScope st) f (.ref c0) A outer s H E).nox (Cv st) t/\t {nx:=λ_ H'=>Q .non H',rt:=Q} (start N vs) H):FnOk P w K mg base CX0 (k+1) f fd ps sp:=by
 obtain⟨oc,od,kV,cZ,pm,an,c0,ct,iE,rfl,lk,gN,hhd⟩:=F.ex;refine Lu lk gN S len λA outer s H vs Q E hr gO=>?_;obtain⟨t,h,q⟩:=er c0 hhd A outer s H vs Q E hr gO;exact⟨t,h.nox,q⟩
end
section
variable {X:Cx}
def Xnh (X:Cx) (ta tk:TA):TE:=fun Z H Q=>ta Z H λvs H1=>tk Z H1 λzs H2=>∃(l f:ae) (ps:List ae) (Ts:List (Za)),vs=[.ref l]/\zs=[.ref f]/\H2 l=some (.lst (ps.map V.ref))/\Tups H2 ps Ts/\Ts.Nodup/\ps.length<=64/\Turns X f H2 ps Ts /\
 ∀(D:ae) (p:Array Nat) (H':Hp),H2 D=none->Gd ps.length p->B0 (E9 Ts) p ps.length->Same H2 H'->H' D=some (.lst ((p.toList.map λi=>ps.getD i 0).map V.ref))->Q (.ref D) H'
def Xfb      (hu:X.A.in1.in1.units<bz) (hg:Gl X x) (hm:X.mg x=none) (hv:bG x=some (.builtin "sorted")) (ha:PA X (e::es) ta) (CP:PK X kb tk)
  (k9:(c8 pos (bE kb X.env)).filterMap (·.1)=[aq.ofString "key"]:=by rfl)
  (hn:x ≠ "__name__" := by decide) (h9:(x==("__debug__" : aq))=false:=by decide)
  (he:bw pos (az (e::es) X.env)=(false,eval e X.env)::bw pos (az es X.env):=by rfl)
  (eK:(bw pos (az (e::es) X.env)).any (·.1)=false:=by rfl)
  (c6:(c8 pos (bE kb X.env)).all (·.1.isSome)=true:=by rfl)
  (eF:(c8 pos (bE kb X.env)).any (·.1.isNone)=false:=by rfl):PE X (.Call (.Name x p) (e::es) kb pos) (Xnh X ta tk):=by
 intro pins s Z H Q I h;refine bM (F7 I hg hm hv ?_ hn h9);refine callWith_kw (thn (ha pos pins s Z H _ I h) λus s1 ⟨vs,H1,I1,r1,q1⟩=>thn (CP pos pins s1 Z H1 _ I1 q1) λws s2 ⟨zs,H2,I2,r2,q2⟩=>?_) he eK c6 eF;rw[k9];obtain⟨l,f,ps,Ts,rfl,rfl,hl,hT,nd,cV,turn,k⟩:=q2;obtain⟨u,rfl,rx⟩:=Cg r1;obtain⟨v,rfl,rf⟩:=Cg r2;cases rx;cases rf;exact Xng I2 hu hl hT nd cV turn k
def Xni{k}  {x qual}       (hf:H f=some (.ext (E2 f (LF "<lambda>" qual params body scope [] pm (.ref c) iX))))(hc:H c=some (.ext (E1 c qual)))
  (S:FnScope [x] [x] scope) (hr:Room (k+3) X.A) (hb:∀u,el (LF "<lambda>" qual params body scope [] pm (.ref c) iX) ⟨[u],[]⟩=pure ([x].zip [u]))
  (fV:∀(A:aB) (outer:List eV) (s1:ak) (H1:Hp) (i:Nat),i<ps.length->Same H H1->Room k (A.deeper (aM qual scope s1.heap.objs.size f (.ref c)))->∃t,PE (Cp CX0 X.prog X.w X.K X.mg X.base [x] qual scope f (.ref c) A outer s1 H1 E0) body t /\
   ∀Q:VK,(∀t H2,H2 t=some (.tup [.int (Ts.getD i []).length,.ref (ps.getD i 0)])->Same H1 H2->Q (.ref t) H2)->t (start [x] [.ref (ps.getD i 0)]) H1 Q):Turns X f H ps Ts:=by
 intro pins Z s1 H1 i hi sm I;have c7:Room (k+1) X.A.in1.in1:=(Room.in1 (k:=k+2) hr).in1;obtain⟨t,ht,hq⟩:=fV X.A.in1.in1 X.stack s1 H1 i hi sm (c7.deeper _);refine dM (bh (Xkx (Q:=λv H2=>∃t,v = .ref t/\H2 t=some (.tup [.int (Ts.getD i []).length,.ref (ps.getD i 0)])/\Same H1 H2) (sm _ _ hf) (sm _ _ hc) S c7 I.env0.in1.in1 rfl (.cons (show Ah (.ref (ps.getD i 0)) (.ref (ps.getD i 0)) from rfl) .nil) (hb _) ht (hq _ λt H2 a b=>⟨t,rfl,a,b⟩)) λr s' jK=>?_);cases r with
 | error e=>exact jK.elim
 | ok fl=>
  cases fl with
  | next=>exact False.elim jK
  | brk=>exact False.elim jK
  | cont=>exact False.elim jK
  | ret u=>
   obtain⟨v,H2,J,rv,t,rfl,a,b⟩:=I.after jK;exact⟨t,H2,rv,J,a,b⟩
end
end L2
namespace SH
open L2
def N9  : B9 gW kt=true↔(gW = "within" -> kt=true)/\(gW = "apart" -> kt=false):=by
 unfold B9;by_cases h:gW = "within"
 ·rw[T7 h];have n:gW ≠ "apart" := by rw[h];decide
  exact⟨λz=>⟨λ_=>z,λz=>absurd z n⟩,λz=>z.1 h⟩
 ·rw[T6 h];by_cases g:gW = "apart"
  ·rw[T8 g];constructor
   ·exact λz=>⟨λq=>absurd q h,λ_=>by simpa using z⟩
   ·intro z;rw[z.2 g];rfl
  ·rw[T9 g];exact⟨λ_=>⟨λq=>absurd q h,λq=>absurd q g⟩,λ_=>rfl⟩
def Fa:An row S=true↔S.Pairwise ltS/\(∀x∈S,x∈row)/\(∀x∈S,∀y∈row,lieR row x y = "within" -> y∈S)/\(∀x∈S,∀y∈S,lieR row x y ≠ "apart"):=by
 constructor
 ·intro h;obtain⟨h1,h2⟩:=Cn h;unfold An at h;rw[Pa] at h;have al:∀x∈S,∀y∈row,B9 (lieR row x y) (decide (y∈S))=true:=λx hx y hy=>Po.mp (Po.mp h.2 x hx) y (Aj.mpr hy);refine⟨h2,h1,λx hx y hy e=>Ua ((N9.mp (al x hx y hy)).1 e),λx hx y hy e=>?_⟩;have:=(N9.mp (al x hx y (h1 y hy))).2 e;rw[T8 hy] at this;cases this
 ·rintro ⟨h1,h2,h3,h4⟩;unfold An;rw[Pa,Pa];refine⟨⟨T8 (Kc h1).symm,Po.mpr λx hx=>T8 (h2 x hx)⟩,Po.mpr λx hx=>Po.mpr λy hy=>N9.mpr ⟨λe=>T8 (h3 x hx y (Aj.mp hy) e),λe=>T9 λz=>h4 x hx y z e⟩⟩
def Ky(h:lieT a b c e = "within"):c<a/\a<e/\c<b/\b<e:=by
 unfold lieT at h;split at h
 ·exact absurd h (by decide)
 ·split at h
  ·exact absurd h (by decide)
  ·split at h
   ·rename_i q;rw[Be] at q;by_cases p1:c<a/\a<e
    ·by_cases p2:c<b/\b<e
     ·exact⟨p1.1,p1.2,p2.1,p2.2⟩
     ·rw[T7 p1,T6 p2] at q;lia
    ·rw[T6 p1] at q;split at q<;>lia
   ·split at h
    ·exact absurd h (by decide)
    ·exact absurd h (by decide)
def Xnj  (hx:row.count x=2) (h:lieR row x y = "within"):span row x<span row y:=by
 have l1:=Bs hx;obtain⟨h1,h2,h3,h4⟩:=Ky h;unfold span
 lia
def Xnk{S:Za}(h:S.Pairwise ltS):(S.filter p).Pairwise ltS:=h.filter p
def Xnl(h2:∀y∈row,row.count y=2)(h:An row S=true)(ne:S≠[]):∃x∈S,An row (S.filter λy=>decide (y≠x))=true:=by
 obtain⟨p1,p2,p3,p4⟩:=Fa.mp h;obtain⟨x,hx,lx⟩:=least (span row) S ne;refine⟨x,hx,Fa.mpr ⟨Xnk p1,λy hy=>p2 y (O7.mp hy).1,λy hy z hz e=>?_,λy hy z hz=>p4 y (O7.mp hy).1 z (O7.mp hz).1⟩⟩;obtain⟨ko,jG⟩:=O7.mp hy;refine O7.mpr ⟨p3 y ko z hz e,T8 λq=>?_⟩;subst q;have:=Xnj (h2 y (p2 y ko)) e;have:=lx y ko
 lia
def Xfc  (h:S.Pairwise ltS) (hx:x∈S):srt ((S.filter λy=>decide (y≠x))++[x])=S:=by
 have nd:=Bn h;refine Eh ((Ck _).trans (Fw ?_ nd λy=>?_)) (Dv _) (Gq h)
 ·rw[Qs];refine⟨nd.filter _,by simp,λa ha b hb e=>?_⟩;rw[Oz.mp hb] at e;exact Ua (O7.mp ha).2 e
 ·rw[O5,Oz,O7];constructor
  ·rintro (z | z)
   ·exact z.1
   ·rw[z];exact hx
  ·intro z;by_cases e:y=x
   ·exact .inr e
   ·exact .inl ⟨z,T8 e⟩
def Xnm{S:Za}(h:S.Pairwise ltS)(hx:x∈S):(S.filter λy=>decide (y≠x)).length+1=S.length:=by
 have e:=Xfc h hx;have:=congrArg List.length e;rw[(Ck _).length_eq,O2] at this;exact this
theorem Oa:∀{Ts:List (Za)} {xs:List V},DAll H (Ts.map tupD) xs->∃ps:List ae,xs=ps.map V.ref/\Tups H ps Ts
 | [],xs,h=>by unfold List.map DAll at h;exact⟨[],h,Tups.nil H⟩
 | T::Ts,xs,h=>by
  rw[Pw] at h;unfold DAll at h;obtain⟨v,vr,rfl,h1,h2⟩:=h;obtain⟨p,ys,rfl,hp,hy⟩:=M5 h1;rw[Ig hy] at hp;obtain⟨ps,rfl,hq⟩:=Oa h2;exact⟨p::ps,rfl,Tups.cons hp hq⟩
theorem Xfd:∀{ps:List ae} {Ts:List (Za)},Tups H ps Ts->DAll H (Ts.map tupD) (ps.map V.ref)
 | [],Ts,h=>by
  have:Ts=[]:=P8.mp h.1.symm;rw[this];unfold List.map DAll;rfl
 | p::ps,[],h=>by have:=h.1;simp at this
 | p::ps,T::Ts,h=>by
  rw[Pw,Pw];unfold DAll;exact⟨.ref p,ps.map V.ref,rfl,Dm (h.2 0 (by simp)),Xfd ⟨by simpa using h.1,λi hi=>by simpa using h.2 (i+1) (by simpa using hi)⟩⟩
def Xnn(h2:∀y∈row,row.count y=2)(h:An row T=true):C3 (bars row) T=true:=by
 rw[<-Ke h2] at h;unfold E5 at h;rw[Pa] at h;exact h.2
def Cov (row:Za) (Us:List (Za)) (j:Nat) (Ts:List (Za)):Prop:=∀i,i<j->∀x∈row,x∉Us.getD i []->An row (srt (Us.getD i []++[x]))=true->srt (Us.getD i []++[x])∈Ts
theorem Kz{α : Type}{R}(irr:∀a,¬R a a)(tr:∀a b c,R a b->R b c->R a c):∀{A B:List α},A.Pairwise R->B.Pairwise R->(∀x,x∈A↔x∈B)->A=B
 | [],[],_,_,_=>rfl
 | [],b::_,_,_,h=>absurd ((h b).mpr O3) (by simp)
 | a::_,[],_,_,h=>absurd ((h a).mp O3) (by simp)
 | a::A,b::B,hA,hB,h=>by
  obtain⟨a1,a2⟩:=Rp.mp hA;obtain⟨b1,b2⟩:=Rp.mp hB;have e:a=b:=by
   rcases Ph.mp ((h a).mp O3) with z | z
   ·exact z
   ·rcases Ph.mp ((h b).mpr O3) with u | u
    ·exact u.symm
    ·exact absurd (tr _ _ _ (a1 b u) (b1 a z)) (irr a)
  subst e;rw[Kz irr tr a2 b2 λx=>?_];constructor
  ·intro hx;rcases Ph.mp ((h x).mp (O4 _ hx)) with z | z
   ·exact absurd (z ▸ a1 x hx) (irr a)
   ·exact z
  ·intro hx;rcases Ph.mp ((h x).mpr (O4 _ hx)) with z | z
   ·exact absurd (z ▸ b1 x hx) (irr a)
   ·exact z
def LayC (row:Za) (n:Nat) (Us:List (Za)):Prop:=∀T,T∈Us↔An row T=true/\T.length=n
end SH
namespace L2
def Xfe{t u}   (P:St->Hp->Prop)(h2:∀Z' H',P Z' H'->u D Z' H')(h1:∀nx,(∀Z' H',P Z' H'->nx Z' H')->t {D with nx:=nx} Z H):Ja t u D Z H:=h1 (u D) h2
end L2
namespace SH
open L2
def spOne:Sp:=λvs H Q _=>∃(dr sc l:ae) (xs:List V),vs=[.ref dr,.ref l]/\DrawOk H dr sc/\H l=some (.lst xs)/\l≠dr/\0<xs.length/\xs.length<=1000 /\
 ∀(i:Nat) (H':Hp),i<xs.length->DrawOk H' dr sc->But dr H H'->Q (xs.getD i .non) H'
def mostL (a b c:Za):Za:=srt ((a.filter λx=>decide (x∈b)||decide (x∈c))++(b.filter λx=>decide (x∈c) && !decide (x∈a)))
def G2{a b:Za}(ha:a.Pairwise ltS)(hb:b.Pairwise ltS)(h:∀x,x∈a↔x∈b):a=b:=Kz Jy (λ_ _ _=>Jz) ha hb h
end SH
set_option maxHeartbeats 3200000
namespace L2
open PySem.Calls
def it5 (mask:Nat):Nat->Nat->Nat
 | 0,i=>i
 | m+1,i=>it5 mask m ((i * 5+1) % (mask+1))
def Xno:∀i<8,∀j<8,∃m<8,it5 7 m i=j:=by decide +kernel
def Xnp:∀i<16,∀j<16,∃m<16,it5 15 m i=j:=by decide +kernel
def Xnq:∀i<32,∀j<32,∃m<32,it5 31 m i=j:=by decide +kernel
def Mask (mask:Nat):Prop:=mask=7\/mask=15\/mask=31
def Xnr(h:Mask mask):∀i<mask+1,∀j<mask+1,∃m<mask+1,it5 mask m i=j:=by
 rcases h with rfl | rfl | rfl
 ·exact Xno
 ·exact Xnp
 ·exact Xnq
section
variable {mask:Nat}{owner:Array (Option Nat)}
abbrev Free (owner:Array (Option Nat)) (j:Nat):Prop:=owner.getD j (some 0)=none
def Xff(fuel i p):(∃j,ag.layClean.free mask owner (fuel+1) i p=some j/\Free owner j) \/
  (¬Free owner i/\ag.layClean.free mask owner (fuel+1) i p=ag.layClean.free mask owner fuel ((i * 5+1+p / 32) % (mask+1)) (p / 32)):=by
 rw[ag.layClean.free];cases hf:(List.range (ag.runEnd mask i+1 - i)).find? λk=>(owner.getD (i+k) (some 0)).isNone with
 | some k=>
  left;refine⟨i+k,rfl,?_⟩;have:=List.find?_some hf;exact Option.isNone_iff_eq_none.mp this
 | none=>
  right;refine⟨λz=>?_,rfl⟩;rw[List.find?_eq_none] at hf;have hr:0<ag.runEnd mask i+1 - i:=by
   unfold ag.runEnd;split<;>lia
  have:=hf 0 (Qb.mpr hr);rw[Nat.add_zero] at this;have z:owner.getD i (some 0)=none:=z;rw[z] at this;exact this rfl
theorem Xfg:∀fuel i,(∃m,m<fuel/\Free owner (it5 mask m i))->∃j,ag.layClean.free mask owner fuel i 0=some j/\Free owner j
 | 0,_,⟨_,h,_⟩=>absurd h (Qq _)
 | fuel+1,i,⟨m,hm,hf⟩=>by
  rcases Xff (mask:=mask) (owner:=owner) fuel i 0 with h | ⟨h1,h2⟩
  ·exact h
  ·rw[h2];cases m with
   | zero=>exact absurd hf h1
   | succ m=>exact Xfg fuel _ ⟨m,by lia,hf⟩
theorem Xfh:∀c fuel i p,p<32 ^ c->i<mask+1->(∀i,i<mask+1->∃m,m<fuel/\Free owner (it5 mask m i))->∃j,ag.layClean.free mask owner (fuel+c) i p=some j/\Free owner j
 | 0,fuel,i,p,hp,hi,h=>by
  have:p=0:=by lia
  subst this;exact Xfg fuel i (h i hi)
 | c+1,fuel,i,p,hp,hi,h=>by
  rcases Xff (mask:=mask) (owner:=owner) (fuel+c) i p with h' | ⟨_,h2⟩
  ·exact h'
  ·rw[<-Nat.add_assoc,h2];exact Xfh c fuel _ _ (by rw[Nat.pow_succ] at hp;lia) (Tp _ (by lia)) h
def De (owner:Array (Option Nat)):List Nat:=owner.toList.filterMap id
def Xns(h:Free owner j):(De (owner.setIfInBounds j (some k))).Perm (k::De owner):=by
 have hj:j<owner.size:=by
  by_cases q:j<owner.size
  ·exact q
  ·have h:owner.getD j (some 0)=none:=h;simp[Array.getD,q] at h
 have h':owner.toList[j]'(by simpa using hj)=none:=by
  have h:owner.getD j (some 0)=none:=h;simpa [Array.getD,hj] using h
 unfold De;rw[Array.toList_setIfInBounds];have e:∀(l:List (Option Nat)) (j:Nat) (hj:j<l.length),l[j]=none->((l.set j (some k)).filterMap id).Perm (k::l.filterMap id):=by
  intro l
  induction l with
  | nil=>intro j hj;exact absurd hj (Qq _)
  | cons o l ih=>
   intro j hj hn;cases j with
   | zero=>
    have:o=none:=hn;subst this;simp
   | succ j=>
    have:=ih j (by simpa using hj) (by simpa using hn);cases o with
    | none=>simpa using this
    | some v=>
     simp only[List.set_cons_succ,Ql,id];exact(this.cons v).trans (List.Perm.swap k v _)
 exact e _ j (by simpa using hj) h'
def Xnt(hn:(De owner).length<owner.size):∃j,j<owner.size/\Free owner j:=by
 refine Classical.byContradiction λz=>?_;have all:∀o∈owner.toList,o≠none:=λo ho e=>by
  obtain⟨j,hj,e2⟩:=P7.mp ho;have gf:j<owner.size:=by simpa using hj
  refine z ⟨j,gf,?_⟩;show owner.getD j (some 0)=none;rw[<-e,<-e2];simp[Array.getD,gf]
 have:(De owner).length=owner.toList.length:=by
  unfold De;generalize owner.toList=l at all;clear hn z
  induction l with
  | nil=>rfl
  | cons o l ih=>
   cases o with
   | none=>exact absurd rfl (all none O3)
   | some v=>
    have:=ih λo ho=>all o (O4 _ ho);simp only[Ql,id,Pj,this]
 exact absurd hn (by rw[this,O1];exact Qg _)
end
def Xnu(h):ag.bits h<32 ^ 14:=by
 unfold ag.bits;have h1:h % (2 ^ 64:Int)<2 ^ 64:=R6 _ (by decide);have h2:0<=h % (2 ^ 64:Int):=So _ (by decide);have:(h % (2 ^ 64:Int)).toNat<2 ^ 64:=by lia
 exact Pg this (by decide)
def Ob (mask:Nat) (acc:Option (Array (Option Nat)×Nat)) (h:Int):Option (Array (Option Nat)×Nat):=do
 let (owner,k) <-acc
 let j <-ag.layClean.free mask owner (ag.turns mask) (ag.bits h % (mask+1)) (ag.bits h)
 pure (owner.setIfInBounds j (some k),k+1)
theorem Xfi(hm:Mask mask):∀(hs:List Int) (owner:Array (Option Nat)) (k:Nat),owner.size=mask+1->(De owner).Perm (List.range k)->k+hs.length<=mask ->
  ∃ix,hs.foldl (Ob mask) (some (owner,k))=some (ix,k+hs.length)/\ix.size=mask+1/\(De ix).Perm (List.range (k+hs.length))
 | [],owner,k,h1,h2,_=>⟨owner,rfl,h1,h2⟩
 | h::hs,owner,k,h1,h2,h3=>by
  have hl:(De owner).length=k:=by rw[h2.length_eq,Qi]
  rw[Pj] at h3;obtain⟨j0,vP,tQ⟩:=Xnt (owner:=owner) (by lia);obtain⟨j,e,hf⟩:=Xfh (mask:=mask) (owner:=owner) 14 (mask+1) (ag.bits h % (mask+1)) (ag.bits h) (Xnu h) (Tp _ (by lia)) λi hi=>by
   obtain⟨m,nR,tK⟩:=Xnr hm i hi j0 (by lia);exact⟨m,nR,by rw[tK];exact tQ⟩
  have e1:Ob mask (some (owner,k)) h=some (owner.setIfInBounds j (some k),k+1):=by
   show (do let j <-ag.layClean.free mask owner (ag.turns mask) (ag.bits h % (mask+1)) (ag.bits h);pure (owner.setIfInBounds j (some k),k+1))=_;have:ag.turns mask=mask+1+14:=by unfold ag.turns;lia
   rw[this,e];rfl
  rw[R7,e1];obtain⟨o',a1,a2,a3⟩:=Xfi hm hs (owner.setIfInBounds j (some k)) (k+1) (by simpa using h1) (by
   refine(Xns hf).trans ((h2.cons k).trans ?_);rw[Qa];exact(List.perm_append_singleton k (List.range k)).symm) (by lia)
  rw[show k+(h::hs).length=k+1+hs.length by rw[Pj];lia];exact⟨o',a1,a2,a3⟩
def Xnv(mask)(hs):ag.layClean mask hs=(hs.toList.foldl (Ob mask) (some (Array.replicate (mask+1) none,0))).map (·.1):=by
 unfold ag.layClean;rw[<-Array.foldl_toList];rfl
def Xfj:∀owner,((List.range owner.size).filterMap λj=>(owner.getD j none).map (j, ·)).map (·.2)=De owner:=by
 intro owner;unfold De;rw[List.map_filterMap];have e:owner.toList=(List.range owner.size).map λj=>owner.getD j none:=by
  refine Ro (by simp) λi h1 h2=>?_;have:i<owner.size:=by simpa using h1
  simp[Array.getD,this]
 rw[e,Tc];congr 1;funext j;show Option.map _ (Option.map _ (owner.getD j none))=owner.getD j none;cases owner.getD j none<;>rfl
def Xnw{mask finger moves}{led plain}{hs}(hm:Mask mask)(hn:hs.size<=mask):
  ∃t o,ag.laid mask finger moves led plain hs=some (t,o)/\o.toList.Perm (List.range hs.size)/\t.fits hs.size=true/\t.led=led/\t.plain=plain:=by
 obtain⟨owner,e1,e2,e3⟩:=Xfi hm hs.toList (Array.replicate (mask+1) none) 0 (by simp) (by
  unfold De;rw[Array.toList_replicate];have:∀n,(List.replicate n (none:Option Nat)).filterMap id=[]:=λn=>by
   induction n with
   | zero=>rfl
   | succ n ih=>rw[Q4];simpa using ih
  rw[this];exact Qv _) (by simpa using hn)
 rw[O1,Qy] at e1 e3;have ec:ag.layClean mask hs=some owner:=by rw[Xnv,e1];rfl
 unfold ag.laid;rw[ec];refine⟨_,_,rfl,?_,?_,rfl,rfl⟩
 ·show (((List.range (mask+1)).filterMap λj=>(owner.getD j none).map (j, ·)).map (·.2)).Perm _;rw[<-e2,Xfj];exact e3
 ·have l1:(((List.range (mask+1)).filterMap λj=>(owner.getD j none).map (j, ·))).length=hs.size:=by
   have:=congrArg List.length (Xfj owner);rw[Ow,e2,e3.length_eq,Qi] at this;exact this
  simp only[ag.fits,ag.fill,Pa,beq_iff_eq,decide_eq_true_eq,O0,Ow,l1];exact⟨trivial,by simpa using hn⟩
def Xnx{mask finger moves}{led plain}(hm:Mask mask):∃t,ag.laid mask finger moves led plain #[]=some (t, #[])/\t.mask=mask/\t.place = #[]/\t.dummies = #[]/\t.led=led/\t.plain=plain:=by
 have ec:ag.layClean mask #[]=some (Array.replicate (mask+1) none):=rfl;unfold ag.laid;rw[ec];have l0:((List.range (mask+1)).filterMap λj=>((Array.replicate (mask+1) (none:Option Nat)).getD j none).map (j, ·))=[]:=by
  rw[List.filterMap_eq_nil_iff];intro j hj;have:j<mask+1:=Qb.mp hj;simp[Array.getD,this]
 refine⟨⟨mask, #[], #[],finger,led,moves,plain⟩,?_,rfl,rfl,rfl,rfl,rfl⟩;show some (_,_)=_;rw[l0];rfl
def reord (es:Array (Int×aa)) (laid:Option (ag×Array Nat)):f8 (Array (Int×aa)×ag):=do
 let some (t,r0):=laid | unsupported "internal:set-table-without-room"
 let cC:=r0.filterMap (es[·]?)
 if cC.size != es.size then unsupported "internal:set-table-lost-an-element"
 pure (cC,t)
def Xny(a:ae)(iy:Nat):setRelay a iy=(do
  let (es,_,t) <-g7 a
  if ag.sizeAbove iy > sizeLine then unsupported "set:memory"
  let (es,t) <-reord es (t.relaid (es.map (·.1)) iy)
  gi a es t):=rfl
def Xnz(s o:ae)(im:f8 Unit):setMerge s o im=(do
  if s==o then return
  let (eo,jL,to) <-g7 o
  if eo.isEmpty then return
  lC s eo.size
  let (_,_,ts) <-g7 s
  match ts.road to with
  | .slotForSlot=>gi s eo {to with finger:=ts.finger,led:=ts.led&&to.led,moves:=ts.moves,plain:=ts.plain&&to.plain}
  | .clean=>
   let (es,t) <-reord eo (ag.laid ts.mask ts.finger ts.moves (led:=ts.led&&to.led) (plain:=ts.plain&&to.plain) (eo.map (·.1)))
   gi s es t
  | .oneByOne=>
   for (h,x) in <-iz o [s] (some s) do
    let _ <-holding [x] (cU s x h)
    im
    if (<-g7 o).2.1 != jL then unsupported "set.changed-during-merge"):=rfl
def Oc (es:Array (Int×aa)) (t:ag):f8 Unit:=do
 if !t.led&&es.size > 1 then unsupported "set:maker-not-led"
def Xn0(a:ae):mi a=(do
  let (es,jL,t) <-g7 a
  if <-cb then return bR ((<-ask).params.setOrder a jL) es
  if !t.plain&&decide (es.size > 1) then return (<-iJ es.size es.toList).toArray
  Oc es t
  return es):=rfl
def Xn1:∀m<16,5<=m->(ag.sizeAbove (m * 2) - 1=15\/ag.sizeAbove (m * 2) - 1=31)/\m<=ag.sizeAbove (m * 2) - 1/\¬ag.sizeAbove (m * 2) > sizeLine:=by decide +kernel
section
variable {P:av}{w:a8}{A:aB}{E:Zb}{s:ak}{a b c:ae}{ks ls:Za}
def wp_reord{es}   (h:o.toList.Perm (List.range es.size))(q:∀cC:Array (Int×aa),cC.toList.Perm es.toList->cC.size=es.size->Q (cC,t) s):
  aj (ai P w) A (reord es (some (t,o))) Q E s:=by
 have p:(o.filterMap (es[·]?)).toList.Perm es.toList:=by
  rw[Array.toList_filterMap];have:=h.filterMap (λi=>es[i]?)
  rwa [filterMap_getElem?_range] at this
 have z:(o.filterMap (es[·]?)).size=es.size:=by rw[<-O1,p.length_eq,O1]
 unfold reord;dsimp only;rw[z];simp only[bne_self_eq_false,Pt,if_false];exact T0 (q _ p z)
def K0(hT:s.TypeIs (.ref a) "set")(h:Q true s):aj (ai P w) A (am.Frozenset.isAnySet (.ref a)) Q E s:=by
 unfold am.Frozenset.isAnySet;show aj _ _ (dQ (.ref a) (.type "set") >>= λb=>_) _ _ s;refine Tz (cO hT iT ?_);exact T0 h
def Xn2(hT:s.TypeIs (.ref a) "set")(h:Q (.type "set") s):aj (ai P w) A (am.Frozenset.baseOf a) Q E s:=by
 unfold am.Frozenset.baseOf;refine Tz (cO hT iT ?_);exact T0 h
def SSet.typeIs(S:SSet P w s.heap a ks):s.TypeIs (.ref a) "set" := by
 obtain⟨o,_,_,_,_,ho,hex,_⟩:=S;exact⟨o,ho,hex.1⟩
structure Nu (w:a8) (h:ar) (a:ae) (n:Nat):Prop where
 ex:∃o ep t,h.get? a=some o/\o.ExactSet/\o.data = .set #[] ep t/\t.place = #[]/\t.dummies = #[]/\Mask t.mask/\n<=t.mask/\t.led = !A5 w/\t.plain=true
def Xn3{t:ag}(h1:t.place = #[])(h2:t.dummies = #[]):t.fits 0=true:=by
 simp[ag.fits,ag.fill,h1,h2]
def Xn4    (ho:s.heap.get? a=some o) (hex:o.ExactSet) (hd:o.data = .set #[] ep (.fresh 0 0 (!A5 w))) (hn:n<16)
  (h:∀h',ar.SameBut a s.heap h'->Nu w h' a n->Q () {s with heap:=h'}):aj (ai P w) A (lC a n) Q E s:=by
 have hf:(ag.fresh 0 0 (!A5 w)).fits (#[]:Array (Int×aa)).size=true:=rfl;unfold lC;refine Tz (aE ho hd hf ?_);dsimp only;by_cases hr:n * 5 ≥ 21
 ·have e:(ag.fresh 0 0 (!A5 w)).roomFor n=some (n * 2):=by
   unfold ag.roomFor;rw[T7 (by show (0+0+n) * 5 ≥ 7 * 3;lia)];show some ((0+n) * 2)=_;rw[Qy]
  rw[e];dsimp only;rw[Xny];refine Tz (aE ho hd hf ?_);dsimp only;obtain⟨m1,m2,m3⟩:=Xn1 n hn (by lia);have hM:Mask (ag.sizeAbove (n * 2) - 1):=.inr m1;rw[T6 m3];obtain⟨t,e1,t1,t2,t3,t4,t5⟩:=Xnx (finger:=(ag.fresh 0 0 (!A5 w)).finger) (moves:=(ag.fresh 0 0 (!A5 w)).movedTo (ag.sizeAbove (n * 2) - 1)) (led := !A5 w) (plain:=true) hM;have e2:(ag.fresh 0 0 (!A5 w)).relaid ((#[]:Array (Int×aa)).map (·.1)) (n * 2)=some (t, #[]):=by
   unfold ag.relaid;rw[Array.map_empty];exact e1
  rw[e2];refine Tz (wp_reord (es := #[]) (by simp) λcC p z=>?_);have:cC = #[]:=Array.eq_empty_of_size_eq_zero z;subst this;refine bj ho hd ?_ (Px _);have g:=ar.get?_update_self (aU.putSet #[] t) ho (by rw[bQ #[] t hd];rfl);rw[bQ #[] t hd] at g;exact h _ (Ue _ a _) ⟨_,ep+1,t,g,hex,rfl,t2,t3,by rw[t1];exact hM,by rw[t1];exact m2,t4,t5⟩
 ·have e:(ag.fresh 0 0 (!A5 w)).roomFor n=none:=by
   unfold ag.roomFor;rw[T6 (by show ¬(0+0+n) * 5 ≥ 7 * 3;lia)]
  rw[e];exact T0 (h _ (ar.SameBut.refl a _) ⟨o,ep,_,ho,hex,hd,rfl,rfl,.inl rfl,by show n<=7;lia,rfl,rfl⟩)
def Xn5{id}  {ep}(ho:s.heap.get? c=some o)(hex:o.ExactSet)(hd:o.data = .set #[] ep (.fresh 0 0 (!A5 w)))(S:SSet P w s.heap b ls)(hl:ls.length<16)(CQ:c≠b)
  (h:∀h',ar.SameBut c s.heap h'->SSet P w h' c ls->Q () {s with heap:=h'}):aj (ai P w) A (am.Frozenset.merge id c b) Q E s:=by
 obtain⟨ob,eo,JE,to,JF,tE,CS,yA,vQ,r6,yB,vR,ph,iG,r9⟩:=S;have hz:eo.size=ls.length:=by
  have:=r6.length;rw[Ow,O1] at this;rw[this,yB.length_eq]
 unfold am.Frozenset.merge;refine Tz (bW tE yA ph ?_);rw[Xnz];rw[T6 (by simpa using CQ)];refine Tz (aE tE yA ph ?_);dsimp only;by_cases he:eo.isEmpty=true
 ·rw[T7 he];have e0:eo = #[]:=by simpa using he
  have:ls=[]:=P8.mp (by rw[<-hz,e0];rfl);subst this;exact T0 (h _ (ar.SameBut.refl c _) ⟨o, #[],ep,_,[],ho,hex,hd,λe he=>by simp at he,.nil,Qv _,by decide,rfl,rfl,λ_=>rfl⟩)
 ·rw[T6 he];refine Tz (Xn4 ho hex hd (by rw[hz];exact hl) λh1 lD nu=>?_);obtain⟨o1,CT,t1,iu,vS,rA,p1,p2,hM,yC,l1,yD⟩:=nu.ex;have nh:t1.fits (#[]:Array (Int×aa)).size=true:=Xn3 p1 p2;refine Tz (aE (s:={s with heap:=h1}) iu rA nh ?_);dsimp only;have fin:∀(cC:Array (Int×aa)) (t':ag),cC.toList.Perm eo.toList->t'.fits cC.size=true->t'.led = !A5 w->(t'.plain=true->cC.size=0)->Q () {s with heap:=h1.update c (aU.putSet cC t')}:=λcC t' pp ff fl fp=>by
   obtain⟨oN,aD,q'⟩:=Jv pp r6;have z':cC.size=eo.size:=by rw[<-O1,pp.length_eq,O1]
   have g:=ar.get?_update_self (aU.putSet cC t') iu (by rw[bQ cC t' rA];rfl);rw[bQ cC t' rA] at g;exact h _ (lD.trans (Ue _ c _)) ⟨_,cC,CT+1,t',oN,g,vS,rfl,vQ.perm pp,aD,q'.trans yB,by rw[z'];exact vR,ff,fl,fp⟩
  have rB:t1.road to=if (t1.mask==to.mask&&to.dummies.isEmpty)=true then ag.Road.slotForSlot else ag.Road.clean:=by
   unfold ag.road;have:(t1.fill != 0)=false:=by simp[ag.fill,p1,p2]
   rw[this,T6 (by decide)]
  rw[rB];by_cases hr:(t1.mask==to.mask&&to.dummies.isEmpty)=true
  ·rw[T7 hr];dsimp only;refine bj (s:={s with heap:=h1}) iu rA ?_ (aY vR);exact fin eo _ (Qv _) ph (by show (t1.led&&to.led)=_;rw[l1,iG,Sl]) (by show (t1.plain&&to.plain)=true->_;rw[yD,Qp];exact r9)
  ·rw[T6 hr];dsimp only;obtain⟨t2,od,e1,e2,e3,e4,e5⟩:=Xnw (finger:=t1.finger) (moves:=t1.moves) (led:=t1.led&&to.led) (plain:=t1.plain&&to.plain) (hs:=eo.map (·.1)) hM (by rw[Array.size_map];exact yC);rw[e1];rw[Array.size_map] at e2 e3;refine Tz (wp_reord e2 λcC pp zz=>?_);refine bj (s:={s with heap:=h1}) iu rA ?_ (aY (by rw[zz];exact vR));exact fin cC t2 pp (by rw[zz];exact e3) (by rw[e4,l1,iG,Sl]) (by rw[e5,yD,Qp,zz];exact r9)
def Wl (P:av) (w:a8) (wl:Array (Int×aa)) (ks:Za):Prop:=eP (PySem.strKind P w) wl.toList/\∃zs,aF (wl.toList.map (·.2)) zs/\zs.Perm ks
def Xn6{es wl:Array (Int×aa)}(dY:eP (PySem.strKind P w) es.toList)(hs:aF (es.toList.map (·.2)) yl)(hp:yl.Perm ks)(pp:wl.toList.Perm es.toList):Wl P w wl ks:=by
 obtain⟨zs,st,q⟩:=Jv pp hs;exact⟨dY.perm pp,zs,st,q.trans hp⟩
theorem Xfk  (hf:∀(x:Int×aa) (r:Option Bool×Unit),(∀p,x.2 ≠ .ref p)->f x r=pure (.yield (none,()))):
  ∀(l:List (Int×aa)),(∀e∈l,∀p,e.2 ≠ .ref p)->Q (none,()) s->aj (ai P w) A (forIn l (none,()) f) Q E s
 | [],_,h=>by rw[Tj];exact T0 h
 | x::l,hn,h=>by
  rw[S7,hf x _ (hn x O3)];exact Tz (T0 (Xfk hf l (λe he=>hn e (O4 _ he)) h))
end
section
variable {P:av}{w:a8}{A:aB}{E:Zb}{s:ak}{a b c:ae}{ks ls:Za}
def Xfl(h:eP (PySem.strKind P w) l):∀e∈l,∀p,e.2 ≠ .ref p:=λe he p z=>by
 have:=(h e he).2;rw[z] at this;cases this
def Xfm  (hf:∀(x:Int×aa) (r:Option Bool×Unit),(∀p,x.2 ≠ .ref p)->f x r=pure (.yield (none,())))
  {es:Array (Int×aa)} (hn:∀e∈es.toList,∀p,e.2 ≠ .ref p) (h:Q (none,()) s):aj (ai P w) A (forIn es (none,()) f) Q E s:=by
 rw[<-Sn];exact Xfk hf _ hn h
def Xn7(S:SSet P w s.heap a ks)(F:SSet P w s.heap b ls)(h:Q true s):aj (ai P w) A (JG [a,b]) Q E s:=by
 obtain⟨o,es,ep,t,l0,ho,hex,hd,dY,bv,hp,hb,hf,hl,cj⟩:=S;obtain⟨o',cC,ka,t',JH,dW,CU,gK,vT,CV,jm,dz,CW,nC,CY⟩:=F;have hq:∀(x:Int×aa) (r:Option Bool×Unit),(∀p,x.2 ≠ .ref p)->(match x.2 with
   | aa.ref a=>do
    let jc <-specialOf x.2 (aq.ofString "__eq__")
    if (jc != some (aa.builtin "object.__eq__"))=true then pure (ForInStep.done (some false,())) else pure (ForInStep.yield (none,()))
   | x=>pure (ForInStep.yield (none,())):f8 (ForInStep (Option Bool×Unit)))=pure (.yield (none,())):=λx r hx=>by
  split
  ·rename_i e;exact absurd e (hx _)
  ·rfl
 unfold JG;simp only[S7,Tj];refine Tz (Tz (Tz (cy ho hd hf (Tz (Xfm hq (Xfl dY) (T0 ?_))))));refine Tz (Tz (cy dW gK CW (Tz (Xfm hq (Xfl vT) (T0 ?_)))));exact T0 (T0 h)
def wp_unseen(S:SSet P w s.heap a ks)(F:SSet P w s.heap c ls)(kE:a≠c)
  (h:∀wl h' d,Wl P w wl ks->ar.SameBut c s.heap h'->SSet P w h' c ls->Q wl {s with heap:=h',drawn:=d}):aj (ai P w) A (iz a [c] (some c)) Q E s:=by
 obtain⟨o,es,ep,t,l0,ho,hex,hd,dY,bv,hp,hb,hf,hl,cj⟩:=id S;have rC:∀wl:Array (Int×aa),wl.toList.Perm es.toList->Wl P w wl ks:=λwl pp=>Xn6 dY bv hp pp;have walk:aj (ai P w) A (mi a) Q E s:=by
  rw[Xn0];refine Tz (aE ho hd hf ?_);dsimp only;unfold cb;refine Tz (Tz (aQ (T0 ?_)));show aj _ _ (if A5 w=true then _ else _) _ _ s;cases hw:A5 w with
  | true=>
   rw[T7 rfl];refine Tz (aQ (T0 ?_));exact h _ s.heap s.drawn (rC _ (Xb8 _ es)) (ar.SameBut.refl c _) F
  | false=>
   rw[T6 (by decide)];by_cases hc:(!t.plain&&decide (es.size > 1))=true
   ·rw[T7 hc];refine Tz (Xb9 _ _ _ _ (O1) λos d po=>T0 ?_);exact h _ s.heap d (rC _ (by simpa using po)) (ar.SameBut.refl c _) F
   ·rw[T6 hc];have hm:Oc es t=pure ():=by
     unfold Oc;rw[hl,hw];rfl
    refine Tz (ft hm (T0 ?_));exact h _ s.heap s.drawn (rC _ (Qv _)) (ar.SameBut.refl c _) F
 unfold iz;refine Tz (aE ho hd hf ?_);dsimp only;unfold cb;refine Tz (Tz (aQ (T0 ?_)));show aj _ _ (if (A5 w||(t.led&&t.plain)||decide (es.size<=1))=true then mi a else _) _ _ s;by_cases hc:(A5 w||(t.led&&t.plain)||decide (es.size<=1))=true
 ·rw[T7 hc];exact walk
 ·rw[T6 hc];refine Tz (Xn7 S F ?_);simp only[Sk,Pt,if_false];refine Tz (aS ?_);obtain⟨oc,ec,CZ,tc,lc,kK,lj,tR,vU,vV,Do,yE,yF,DA,vW⟩:=id F;refine Tz (aE kK tR yF ?_);dsimp only;by_cases hs:((tc.led && !t.led)||(tc.plain && !t.plain))=true
  ·rw[T7 hs];refine Tz (bj kK tR (T0 ?_) (aY yE));obtain⟨g,S1⟩:_/\SSet P w (s.heap.update c (aU.putSet ec {tc with led:=tc.led&&t.led,plain:=tc.plain&&t.plain})) c ls:=by
    have g:=ar.get?_update_self (aU.putSet ec {tc with led:=tc.led&&t.led,plain:=tc.plain&&t.plain}) kK (by rw[bQ ec _ tR];rfl);rw[bQ ec _ tR] at g;exact⟨g,_,ec,CZ+1,_,lc,g,lj,rfl,vU,vV,Do,yE,yF,by show (tc.led&&t.led)=_;rw[DA,hl,Sl],by
     show (tc.plain&&t.plain)=true->_;intro z;rw[Pa] at z;exact vW z.1⟩
   exact h _ _ s.drawn (rC _ (Qv _)) (Ue _ c _) S1
  ·rw[T6 hs];exact T0 (h _ s.heap s.drawn (rC _ (Qv _)) (ar.SameBut.refl c _) F)
def xor1 (ks:Za) (x:aq):Za:=if x∈ks then ks.erase x else ks++[x]
def K1{α : Type}(xs:Array α)(i):(ag.eraseAt xs i).toList=xs.toList.eraseIdx i:=by
 unfold ag.eraseAt;rw[Array.toList_append,Array.toList_extract,Array.toList_extract,List.eraseIdx_eq_take_drop_succ];simp[List.extract];exact P5 (by simp)
theorem Xfn:∀(l:Za),l.Nodup->∀(j:Nat) (hj:j<l.length),l.erase l[j]=l.eraseIdx j
 | x::l,nd,0,_=>by simp
 | x::l,nd,j+1,hj=>by
  obtain⟨h1,h2⟩:=Qn.mp nd;have gf:j<l.length:=by simpa using hj
  have ne:x≠l[j]:=λe=>h1 (e ▸ Ps gf);rw[List.getElem_cons_succ,List.eraseIdx_cons_succ,List.erase_cons_tail (by simpa using ne),Xfn l h2 j gf]
theorem Xfo{α β : Type}(f : α -> β):∀(l:List α) (j:Nat),(l.eraseIdx j).map f=(l.map f).eraseIdx j
 | [],_=>rfl
 | x::l,0=>rfl
 | x::l,j+1=>by simp[Xfo f l j]
theorem Xfp:∀{vs:List aa} {ls:Za} (i:Nat),aF vs ls->aF (vs.eraseIdx i) (ls.eraseIdx i)
 | _,_,_,.nil=>by simp;exact .nil
 | _,_,0,.cons x t h=>h
 | _,_,i+1,.cons x t h=>.cons x t (Xfp i h)
def Xn8  (h:aF vs ls) {i} (hi:i<vs.length):∃t,vs[i] = .str (ls.getD i aq.empty) t:=by
 induction h generalizing i with
 | nil=>exact absurd hi (Qq _)
 | cons x t _ ih=>
  cases i with
  | zero=>exact⟨t,rfl⟩
  | succ i=>exact ih (by simpa using hi)
def Xn9   (S:SSet P w s.heap a ks) (nd:ks.Nodup) (hr:ks.length+1<aW)
  (h:∀h',ar.SameBut a s.heap h'->SSet P w h' a (xor1 ks x)->Q () {s with heap:=h'}):
  aj (ai P w) A (holding [.str x tk] do
   if !(<-fg a (.str x tk) ((PySem.strKind P w).hash x)) then
    let _ <-cU a (.str x tk) ((PySem.strKind P w).hash x)) Q E s:=by
 obtain⟨o,es,ep,t,l0,ho,hex,hd,dY,hs,hp,hb,hf,hl,cj⟩:=id S;have fV:(PySem.strKind P w).is x (.str x tk)=true:=gh P w x tk;have dB:x∈ks ↔ ∃e∈es.toList,(PySem.strKind P w).is x e.2=true:=hp.mem_iff.symm.trans (Xb3 hs);have aO:es.size=ks.length:=by
  have:=hs.length;rw[Ow,O1] at this;rw[this,hp.length_eq]
 refine aA (Tz ?_);unfold fg setFind setFindIn;refine Tz (Tz (aE ho hd hf ?_));dsimp only;rw[IU (knd:=PySem.strKind P w) rfl hb dY];simp only[↓reduceIte];refine Tz (aS (Tz (mZ fV ho hd hf dY ?_)));cases nh:List.findIdx? (λe=>(PySem.strKind P w).is x e.2) es.toList with
 | none=>
  dsimp only;have hx:x∉ks:=λz=>by
   obtain⟨e,he,q⟩:=dB.mp z;have:=List.findIdx?_eq_none_iff.mp nh e he;rw[q] at this;cases this
  refine T0 (T0 ?_);simp only[Bool.not_false,if_true];refine Tz (sset_add S hr λb h' sb S'=>T0 ?_);refine h h' sb ?_;unfold xor1;rw[T6 hx];rw[T6 hx] at S';exact S'
 | some j=>
  dsimp only;obtain⟨hj,qD,_⟩:=Sj.mp nh;have hx:x∈ks:=dB.mpr ⟨es.toList[j],Ps hj,qD⟩;rw[Qy];refine T0 ?_;dsimp only;refine Tz (aE ho hd hf ?_);dsimp only;have DB:j<es.size:=by simpa using hj
  have zE:(ag.eraseAt es j).size=es.size - 1:=by
   rw[<-O1,K1,Rl hj,O1]
  refine Tz (bj ho hd ?_ (aY (by rw[zE];lia)));refine Tz (wpAny_point (T0 ?_));simp only[Sk,Pt,if_false];refine T0 ?_;have g:=ar.get?_update_self (aU.putSet (ag.eraseAt es j) (t.drop j)) ho (by rw[bQ _ _ hd];rfl);rw[bQ _ _ hd] at g;have lE:t.place.size=es.size/\t.fill<=t.mask:=by
   simpa [ag.fits,Pa] using hf
  have jM:(t.drop j).fits (es.size - 1)=true/\(t.drop j).led=t.led/\(t.drop j).plain=t.plain:=by
   unfold ag.drop;have yG:j<t.place.size:=by rw[lE.1];exact DB
   rw[getElem?_pos t.place j yG];dsimp only;refine⟨?_,rfl,rfl⟩;have z1:(ag.eraseAt t.place j).size=t.place.size - 1:=by
    rw[<-O1,K1,Rl (by simpa using yG),O1]
   have z2:∀p v,(ag.insertAt t.dummies p v).size=t.dummies.size+1:=λp v=>by
    have:=(ag.insertAt_perm t.dummies p v).length_eq;simpa using this
   simp only[ag.fits,ag.fill,Pa,beq_iff_eq,decide_eq_true_eq,z1,z2];have:=lE.2;unfold ag.fill at this
   lia
  have vX:l0.getD j aq.empty=x:=by
   obtain⟨tt,e⟩:=Xn8 hs (i:=j) (by simpa using hj);rw[Rb] at e;rw[e] at qD;obtain⟨t3,e3⟩:=aa.isStrOf_shape (x:=x) (v:=.str (l0.getD j aq.empty) tt) qD;injection e3
  have JI:l0.length=es.size:=by
   have:=hs.length;rw[Ow,O1] at this;exact this.symm
  have DC:l0.Nodup:=hp.nodup_iff.mpr nd;have DD:l0.eraseIdx j=l0.erase x:=by
   have vP:j<l0.length:=by lia
   have e:l0[j]=x:=by rw[<-vX];simp[List.getD,vP]
   rw[<-e];exact(Xfn l0 DC j vP).symm
  refine h _ (Ue _ a _) ⟨_,_,ep+1,_,l0.eraseIdx j,g,hex,rfl,?_,?_,?_,by rw[zE];lia,by rw[zE];exact jM.1,jM.2.1.trans hl,?_⟩
  ·intro e he;rw[K1] at he;exact dY e (List.mem_of_mem_eraseIdx he)
  ·rw[K1];have:(es.toList.eraseIdx j).map (·.2)=(es.toList.map (·.2)).eraseIdx j:=by
    exact Xfo _ _ _
   rw[this];exact Xfp j hs
  ·rw[DD];unfold xor1;rw[T7 hx];exact hp.erase x
  ·rw[jM.2.2,zE];intro z;rw[cj z]
end
def Xoa (a:ae) (h:Int) (x:aa):f8 Unit:=holding [x] do
 if !(<-fg a x h) then
  let _ <-cU a x h
def Xfq(ks)(x):(xor1 ks x).length<=ks.length+1:=by
 unfold xor1;split
 ·exact Nat.le_succ_of_le (List.length_erase_le ..)
 ·rw[O2];exact Oy _
def Xfr  (h:ks.Nodup):(xor1 ks x).Nodup:=by
 unfold xor1;split
 ·exact h.erase x
 ·rename_i hx;exact Qs.mpr ⟨h,by simp,λa ha b hb e=>hx (by rw[Oz.mp hb] at e;exact e ▸ ha)⟩
def Xob  (h:ks.Nodup):y∈xor1 ks x↔(y∈ks/\y≠x)\/(y=x/\x∉ks):=by
 unfold xor1;split
 ·rename_i hx;rw[h.mem_erase_iff];constructor
  ·exact λz=>.inl ⟨z.2,z.1⟩
  ·rintro (z | z)
   ·exact⟨z.2,z.1⟩
   ·exact absurd hx z.2
 ·rename_i hx;rw[O5,Oz];constructor
  ·rintro (z | z)
   ·exact .inl ⟨z,λe=>hx (e ▸ z)⟩
   ·exact .inr ⟨z,hx⟩
  ·rintro (z | z)
   ·exact .inl z.1
   ·exact .inr z.1
theorem Xfs:∀(zs ms:Za),ms.Nodup->zs.Nodup->(zs.foldl xor1 ms).Nodup/\(zs.foldl xor1 ms).length<=ms.length+zs.length/\∀y,y∈zs.foldl xor1 ms↔(y∈ms/\y∉zs)\/(y∉ms/\y∈zs)
 | [],ms,h,_=>⟨h,Oy _,λy=>by simp⟩
 | z::zs,ms,h,hz=>by
  obtain⟨n1,n2⟩:=Qn.mp hz;obtain⟨a1,a2,a3⟩:=Xfs zs (xor1 ms z) (Xfr h) n2;refine⟨a1,?_,λy=>?_⟩
  ·have:=Xfq ms z;rw[Pj];rw[R7]
   lia
  ·rw[R7,a3,Xob h,Ph];by_cases e:y=z
   ·subst e;by_cases g:y∈ms<;>simp[g,n1]
   ·by_cases g:y∈ms<;>simp[g,e]
section
variable {P:av}{w:a8}{A:aB}{E:Zb}{s:ak}{a b c:ae}{ks ls:Za}
theorem Xft{id}   (hf:∀x u,f x u=(do Xoa c x.1 x.2; am.Frozenset.unchanged id a ep;pure (.yield ⟨⟩)))   (hd:o.data = .set es ep t)(km:t.fits es.size=true)(kE:a≠c):
  ∀l zs ms s Q,s.heap.get? a=some o->eP (PySem.strKind P w) l->aF (l.map (·.2)) zs->SSet P w s.heap c ms->ms.Nodup->ms.length+l.length<aW ->
   (∀h',ar.SameBut c s.heap h'->SSet P w h' c (zs.foldl xor1 ms)->Q ⟨⟩ {s with heap:=h'})->aj (ai P w) A (forIn l PUnit.unit f) Q E s
 | [],zs,ms,s,Q,_,_,hz,hS,_,_,h=>by
  rw[Tj];cases hz;exact T0 (h s.heap (ar.SameBut.refl c _) hS)
 | (hh,x)::l,zs,ms,s,Q,ho,dY,hz,hS,nd,hb,h=>by
  have DE:aF (x::l.map (·.2)) zs:=hz;clear hz;cases DE with
  | cons y t' hz=>
   obtain⟨⟨k,hk,he⟩,_⟩:=dY.head;have hk:(PySem.strKind P w).is k (.str y t')=true:=hk;obtain⟨t3,e3⟩:=aa.isStrOf_shape (x:=k) (v:=.str y t') hk;injection e3 with e3 _
   subst e3;have he:hh=(PySem.strKind P w).hash y:=he;subst he;rw[Pj] at hb;rw[S7,hf];refine Tz (Tz (Xn9 hS nd (by lia) λh1 lD S1=>?_));have iu:h1.get? a=some o:=(lD.2 a kE).trans ho;refine Tz ?_;unfold am.Frozenset.unchanged;refine Tz (bW (s:={s with heap:=h1}) iu hd km ?_);simp only[bne_self_eq_false,Pt,if_false];refine T0 (T0 ?_);have hl:=Xfq ms y;exact Xft hf hd km kE l _ (xor1 ms y) {s with heap:=h1} Q iu dY.tail hz S1 (Xfr nd) (by lia) λh2 rD S2=>h h2 (lD.trans rD) S2
def Xfu (i:String) (l:ae) (r:aa):f8 aa:=do
 let i4 <-am.Frozenset.newFrom i (<-am.Frozenset.baseOf l) r
 holding [i4] (am.Frozenset.symmetricDifferenceUpdate i (<-am.Frozenset.addrOf i4) (.ref l))
 return i4
def Xoc(x y:aa):am.«frozenset.__xor__» ⟨[x,y],[]⟩=(do
  let (self,gr) <-am.Frozenset.slot1 "__xor__" ⟨[x,y],[]⟩
  let (l,r):=if false then (gr,self) else (self,gr)
  if !(<-am.Frozenset.isAnySet l <&&> am.Frozenset.isAnySet r) then rule s!"frozenset.{"__xor__"}.declined"; return <-ret .notImplemented
  ret (<-Xfu s!"frozenset.{"__xor__"}" (<-am.Frozenset.addrOf l) r)):=rfl
def Xod   (S:SSet P w s.heap a ks) (F:SSet P w s.heap c ms) (kE:a≠c) (hk:ks.Nodup) (hm:ms.Nodup) (l1:ks.length<16) (l2:ms.length<16)
  (h:∀h' d zs,ar.SameBut c s.heap h'->SSet P w h' c zs->zs.Nodup->zs.length<=32->(∀y,y∈zs↔(y∈ms/\y∉ks)\/(y∉ms/\y∈ks))->Q () {s with heap:=h',drawn:=d}):
  aj (ai P w) A (am.Frozenset.symmetricDifferenceUpdate i c (.ref a)) Q E s:=by
 obtain⟨o,es,ep,t,l0,ho,hex,hd,dY,bv,hp,hb,hf,hl,cj⟩:=id S;unfold am.Frozenset.symmetricDifferenceUpdate;rw[T6 (by simpa using kE)];refine Tz (bi (T := "set") S.typeIs ?_);rw[T6 (by decide)];refine Tz (K0 S.typeIs ?_);rw[T7 rfl];refine Tz (T0 ?_);refine Tz (T0 ?_);refine Tz (bW ho hd hf ?_);refine aA (Tz (wp_unseen S F kE λwl h1 d W lD S1=>?_));obtain⟨vY,zs,iS,q1⟩:=W;rw[<-Sn];have iu:h1.get? a=some o:=(lD.2 a kE).trans ho;have qf:wl.toList.length=ks.length:=by
  have:=iS.length;rw[Ow] at this;rw[this,q1.length_eq]
 have vZ:zs.Nodup:=q1.nodup_iff.mpr hk;obtain⟨x1,x2,x3⟩:=Xfs zs ms hm vZ;refine Tz (Xft (id:=i) (c:=c) (a:=a) (s:={s with heap:=h1,drawn:=d}) (λx u=>rfl) hd hf kE wl.toList zs ms _ iu vY iS S1 hm (by rw[qf];unfold aW;lia) λh2 rD S2=>T0 ?_);refine h h2 d _ (lD.trans rD) S2 x1 ?_ λy=>?_
 ·have:=q1.length_eq
  lia
 ·rw[x3,q1.mem_iff]
def Xoe(S:SSet P w s.heap a ks)(F:SSet P w s.heap b ls)(hk:ks.Nodup)(hl:ls.Nodup)(l1:ks.length<16)(l2:ls.length<16)
  (h:∀h' d zs,(∀e o,s.heap.get? e=some o->h'.get? e=some o)->SSet P w h' s.heap.objs.size zs->zs.Nodup->zs.length<=32->(∀y,y∈zs↔(y∈ls/\y∉ks)\/(y∉ls/\y∈ks))->Q (.ref s.heap.objs.size) {s with heap:=h',drawn:=d}):
  aj (ai P w) A (bg .BitXor (.ref a) (.ref b)) Q E s:=by
 have ha:=S.typeIs;have hb:=F.typeIs;have la:a<s.heap.objs.size:=by obtain⟨o,_,_,_,_,g,_⟩:=S;exact Uc g
 have lb:b<s.heap.objs.size:=by obtain⟨o,_,_,_,_,g,_⟩:=F;exact Uc g
 have eX:jC table "set.__xor__" = some am.«frozenset.__xor__»:=gk (id' := "frozenset.__xor__") (by kernel_rfl) rfl (by decide +kernel) (by kernel_rfl);refine wpAny_binaryOp_same (T := "set") (id := "set.__xor__") ha hb PySem.F.fills_set_xor PySem.F.slot_set_xor (aP PySem.F.slot_set_xor ha eX ?_ (PySem.F.args_set_xor_2 _ _));rw[Xoc];unfold am.Frozenset.slot1 qH;simp only[List.isEmpty_nil,Sk,Pt, ↓reduceIte,bind_assoc,Q8,Pj,bne_self_eq_false,pure_bind];refine Tz ?_;show aj _ _ (am.Frozenset.isAnySet (.ref a) >>= λb1=>_) _ _ s;refine Tz (K0 ha ?_);show aj _ _ (am.Frozenset.isAnySet (.ref b)) _ _ s;refine K0 hb ?_;simp only[Sk,Pt, ↓reduceIte];refine Tz ?_;show aj _ _ (pure a) _ _ s;refine T0 ?_;refine Tz ?_;unfold Xfu;refine Tz (Xn2 ha ?_);refine Tz ?_;unfold am.Frozenset.newFrom newSet cb;refine Tz (Tz (Tz (aQ (T0 ?_))));dsimp only;simp only[newObj];refine Tz (j5 (T0 ?_));have keep:∀e o,s.heap.get? e=some o->(s.heap.push {cls:=.type "set",dict:=none,data:=.set #[] 0 (.fresh 0 0 (!A5 w))}).get? e=some o:=λe o q=>Ud _ q;refine Tz ?_;show aj _ _ (pure s.heap.objs.size) _ _ _;refine T0 ?_;refine Tz (aA ?_);unfold am.Frozenset.updateFrom;have F1:SSet P w (s.heap.push {cls:=.type "set",dict:=none,data:=.set #[] 0 (.fresh 0 0 (!A5 w))}) b ls:=F.stay λo q=>keep b o q;refine Tz (K0 (s:={s with heap:=s.heap.push {cls:=.type "set",dict:=none,data:=.set #[] 0 (.fresh 0 0 (!A5 w))} }) F1.typeIs ?_);rw[T7 rfl];unfold am.Frozenset.addrOf;refine Tz (T0 ?_);refine Xn5 (s:={s with heap:=s.heap.push {cls:=.type "set",dict:=none,data:=.set #[] 0 (.fresh 0 0 (!A5 w))} }) (c:=s.heap.objs.size) (ep:=0) (ar.get?_push_size _ rfl) ⟨rfl,rfl,rfl⟩ rfl F1 l2 (Tv lb) λh1 lD S1=>?_;refine T0 ?_;have k1:∀e o,s.heap.get? e=some o->h1.get? e=some o:=λe o q=>(lD.2 e (O6 (Uc q))).trans (keep e o q);refine Tz (T0 ?_);refine Tz (aA (Xod (s:={s with heap:=h1}) (S.stay λo q=>k1 a o q) S1 (O6 la) hk hl l1 l2 λh2 d zs rD S2 n2 z2 m2=>?_));refine T0 (T0 ⟨_,rfl,by simp,?_⟩);exact h h2 d zs (λe o q=>(rD.2 e (O6 (Uc q))).trans (k1 e o q)) S2 n2 z2 m2
end
section
variable {X:Cx}
def Xof:OpR X (bg .BitXor) (λx y H Q=>∃a b ks ls,x = .ref a/\y = .ref b/\H a=some (Ew X.prog X.w a ks)/\H b=some (Ew X.prog X.w b ls)/\ks.Nodup/\ls.Nodup/\ks.length<16/\ls.length<16 /\
  ∀c zs,H c=none->zs.Nodup->zs.length<=32->(∀y,y∈zs↔(y∈ls/\y∉ks)\/(y∉ls/\y∈ks))->Q (.ref c) (upd H c (Ew X.prog X.w c zs))):=by
 intro pins s Z H x y v u Q I rx ry h;obtain⟨a,b,ks,ls,rfl,rfl,ha,hb,nk,nl,l1,l2,q⟩:=h;cases rx;cases ry;obtain⟨S,_⟩:=(show A3 X.prog X.w H s.heap a (.ext λh=>SSet X.prog X.w h a ks) from I.hok a _ ha);obtain⟨F,_⟩:=(show A3 X.prog X.w H s.heap b (.ext λh=>SSet X.prog X.w h b ls) from I.hok b _ hb);refine Xoe S F nk nl l1 l2 λh' d zs k S' n' z' m'=>?_;refine⟨.ref s.heap.objs.size,_,I.laidM (s':={s with heap:=h',drawn:=d}) k rfl rfl (Oy _) ?_,rfl,q _ zs (I.hok.fresh (Oy _)) n' z' m'⟩;exact⟨S',by obtain⟨o,_,_,_,_,g,_⟩:=S';exact⟨o,g⟩,λh1 h2 S1 kk=>S1.stay kk⟩
end
end L2
set_option maxHeartbeats 4000000
namespace SH
open L2
def A6 (a b:Za):Za:=srt ((a.filter λx => !decide (x∈b))++(b.filter λx => !decide (x∈a)))
def G3  : x∈A6 a b↔(x∈a/\x∉b)\/(x∈b/\x∉a):=by
 unfold A6;rw[Gh,O5,O7,O7];simp
def Xfv{a b:Za}(ha:a.Nodup)(hb:b.Nodup):((a.filter λx => !decide (x∈b))++(b.filter λx => !decide (x∈a))).Nodup:=by
 rw[Qs];refine⟨ha.filter _,hb.filter _,λx hx y hy e=>?_⟩;subst e;have h1:=(O7.mp hx).1;have h2:=(O7.mp hy).2;simp[h1] at h2
def F4(ha:a.Nodup)(hb:b.Nodup):(A6 a b).Pairwise ltS:=by
 have wa:(A6 a b).Nodup:=(Ck _).nodup_iff.mpr (Xfv ha hb);exact(List.pairwise_and_iff.mpr ⟨Dv _,wa⟩).imp λ{x y} (h:leS x y/\x≠y)=>ltS_of h.1 h.2
def xor_srt(ha:a.Nodup)(hb:b.Nodup)(hz:zs.Nodup)(h:∀y,y∈zs↔(y∈b/\y∉a)\/(y∉b/\y∈a)):srt zs=A6 a b:=by
 refine Xcm (Fw hz (Xfv ha hb) λy=>?_);rw[h,O5,O7,O7];simp;by_cases h1:y∈a<;>by_cases h2:y∈b<;>simp[h1,h2]
def spApart:Sp:=λvs H Q _=>∃(p q:ae) (a b:Za),vs=[.ref p,.ref q]/\H p=some (.tup (a.map V.str))/\H q=some (.tup (b.map V.str))/\a.length<=24/\b.length<=24 /\
 ∀l H',H l=none->H' l=some (.lst ((A6 a b).map V.str))->Same H H'->Q (.ref l) H'
structure Two (H:Hp) (r p q:ae) (row a b:Za):Prop where
 hr:H r=some (.lst (row.map V.str))
 r2:Row2 row
 hd:(dit row).length<=14
 hp:H p=some (.tup (a.map V.str))
 hq:H q=some (.tup (b.map V.str))
 oa:∀y∈a,okN y
 ob:∀y∈b,okN y
 la:a.length<=24
 lb:b.length<=24
def F5 (a b:Za):Bool:=Cr a.length a b.length b
def Xfw{Ts}(g:Gd Ts.length p)(so:B0 (E9 Ts) p Ts.length):
  (p.toList.map λi=>Ts.getD i []).Perm Ts/\(p.toList.map λi=>Ts.getD i []).Pairwise λa b=>F5 a b=true:=by
 constructor
 ·have e:((List.range Ts.length).map λi=>Ts.getD i [])=Ts:=by
   refine Ro (by simp) λi h1 h2=>?_;simp[Rb,List.getElem_range,List.getD,h2]
  have q:p.toList.Perm (List.range Ts.length):=by
   have:=g.toList;simpa using this
  have:=q.map λi=>Ts.getD i [];rw[e] at this;exact this
 ·rw[Rs];intro i j hi hj ir;have sz:=g.size;rw[Ow,O1,sz] at hi hj;have:=so i j ir hj;rw[Rb,Rb];have e1:p.getD i 0=p.toList[i]'(by rw[O1,sz];exact hi):=by simp[Array.getD,sz,hi]
  have e2:p.getD j 0=p.toList[j]'(by rw[O1,sz];exact hj):=by simp[Array.getD,sz,hj]
  rw[e1,e2] at this;exact this
def Xfx{α : Type}(f:Nat -> α)(d : α)(l:List Nat)(hi:i<l.length):(l.map f).getD i d=f l[i]:=by simp[List.getD,hi]
def Xfy    (h:Tups H ps Ts) (g:Gd ps.length p):Tups H (p.toList.map λi=>ps.getD i 0) (p.toList.map λi=>Ts.getD i []):=by
 refine⟨by simp,λi hi=>?_⟩;rw[Ow] at hi;have e1:(p.toList.map λi=>ps.getD i 0).getD i 0=ps.getD p.toList[i] 0:=Xfx _ _ _ hi;have e2:(p.toList.map λi=>Ts.getD i []).getD i []=Ts.getD p.toList[i] []:=Xfx _ _ _ hi;rw[e1,e2];refine h.2 _ ?_;have q:p.toList.Perm (List.range ps.length):=by
  have:=g.toList;simpa using this
 simpa using q.mem_iff.mp (Ps hi)
abbrev qIn:aq:=(aq.ofString "in_order" ++ aq.ofString ".<locals>.")++aq.ofString "<lambda>"
def spInOrder (T:ae) (pos:cN):Sp:=λvs H Q _=>∃(l:ae) (ps:List ae) (Ts:List (Za)),vs=[.ref l]/\H l=some (.lst (ps.map V.ref))/\Tups H ps Ts/\Ts.Nodup/\ps.length<=64/\Bi T pos qIn H /\
 ∀(D:ae) (nV:List ae) (fw:List (Za)) (H':Hp),H D=none->H' D=some (.lst (nV.map V.ref))->Tups H' nV fw->fw.Perm Ts->(fw.Pairwise λa b=>F5 a b=true)->Bi T pos qIn H'->But T H H'->Q (.ref D) H'
def Bi.same    (h:Bi T pos q H) (s:Same H H'):Bi T pos q H':=by
 rcases h with e | ⟨c,e,ec⟩
 ·exact .inl (s _ _ e)
 ·exact .inr ⟨c,s _ _ e,s _ _ ec⟩
def Bi.but     (h:Bi T pos q H) (hd:H dr=some (.lst o')) (b:But dr H H'):Bi T pos q H':=by
 rcases h with e | ⟨c,e,ec⟩
 ·exact .inl (b _ _ e λz=>by rw[z,hd] at e;cases e)
 ·exact .inr ⟨c,b _ _ e (λz=>by rw[z,hd] at e;cases e),b _ _ ec λz=>by rw[z,hd] at ec;cases ec⟩
def lamPos (s:aV):cN:=match Cv s with
 | [.Return (some (.Call _ _ [⟨_,.Lambda _ _ _ p,_⟩] _)) _]=>p
 | _=>⟨0,0,0,0⟩
def Xog(h1:a<b)(h2:c<e)(n1:a≠c)(n2:a≠e)(n3:b≠c)(n4:b≠e)(h:lieT a b c e = "apart"):e<a\/b<c:=by
 unfold lieT at h;rw[T6 (by lia)] at h;split at h
 ·exact absurd h (by decide)
 ·split at h
  ·exact absurd h (by decide)
  ·split at h
   ·exact absurd h (by decide)
   ·rename_i q1 q2 q3;rw[Be] at q1 q2 q3;by_cases p1:c<a/\a<e
    ·by_cases p2:c<b/\b<e
     ·rw[T7 p1,T7 p2] at q2;lia
     ·rw[T7 p1,T6 p2] at q1;lia
    ·by_cases p2:c<b/\b<e
     ·rw[T6 p1,T7 p2] at q1;lia
     ·by_cases p3:a<c/\c<b
      ·by_cases p4:a<e/\e<b
       ·rw[T7 p3,T7 p4] at q3;lia
       ·lia
      ·lia
def Xfz(h1:a<b)(h:lieT a b c e = "cross"):a<e/\c<b:=by
 unfold lieT at h;split at h
 ·exact absurd h (by decide)
 ·split at h
  ·rename_i q;rw[Be] at q;by_cases p1:c<a/\a<e
   ·lia
   ·by_cases p2:c<b/\b<e
    ·lia
    ·rw[T6 p1,T6 p2] at q;lia
  ·split at h
   ·exact absurd h (by decide)
   ·split at h
    ·exact absurd h (by decide)
    ·exact absurd h (by decide)
def Xoh(h1:a<b)(h2:c<a)(h3:b<e):lieT a b c e = "within" := by
 unfold lieT;have q:nIn c e [a,b]=2:=by rw[Be,T7 ⟨h2,by lia⟩,T7 ⟨by lia,h3⟩]
 rw[T6 (by lia),q,T6 (by decide),T7 rfl]
section
variable {row:Za}
def Xf0(h:upB row a y=true):(pl row y).1<=(pl row a).1/\(pl row a).2<=(pl row y).2:=by
 unfold upB at h;rw[Sb] at h;rcases h with h | h
 ·rw[Ua h];exact⟨Int.le_refl _,Int.le_refl _⟩
 ·obtain⟨h1,h2,h3,h4⟩:=Ky (Ua h);exact⟨by lia,by lia⟩
def Xf1(hx:row.count x=2)(h:lieR row x y = "within")(g:lieR row y z = "within"):lieR row x z = "within" := by
 have l:=Bs hx;obtain⟨h1,h2,h3,h4⟩:=Ky h;obtain⟨g1,g2,g3,g4⟩:=Ky g;exact Xoh l (by lia) (by lia)
def Od:lieR row x x ≠ "within" := by rw[Ka];decide
structure Core (row:Za) (cs:Za) (p:aq->Bool):Prop where
 inr:∀c∈cs,c∈row
 is:∀y,p y=true ↔ ∃c∈cs,upB row c y=true
 ov:∀c∈cs,∀d∈cs,(pl row c).1<(pl row d).2
 an:∀c∈cs,∀d∈cs,lieR row c d ≠ "within"
variable {cs yH:Za}{p p':aq->Bool}
def Core.plot(h2:∀y∈row,row.count y=2)(C:Core row cs p):An row ((dit row).filter p)=true:=by
 refine Fa.mpr ⟨(Cw row).filter p,λx hx=>Aj.mp (O7.mp hx).1,λx hx y hy e=>?_,λx hx y hy e=>?_⟩
 ·obtain⟨c,hc,hu⟩:=(C.is x).mp (O7.mp hx).2;refine O7.mpr ⟨Aj.mpr hy,(C.is y).mpr ⟨c,hc,?_⟩⟩;unfold upB at hu ⊢;rw[Sb] at hu ⊢;rcases hu with hu | hu
  ·rw[Ua hu] at e;exact .inr (T8 e)
  ·exact .inr (T8 (Xf1 (h2 c (C.inr c hc)) (Ua hu) e))
 ·have mx:=O7.mp hx;have my:=O7.mp hy;obtain⟨c,hc,hu⟩:=(C.is x).mp mx.2;obtain⟨d,hd,hv⟩:=(C.is y).mp my.2;have oM:=h2 x (Aj.mp mx.1);have jG:=h2 y (Aj.mp my.1);have ne:x≠y:=λz=>by rw[z,Ka] at e;exact absurd e (by decide)
  obtain⟨n1,n2,n3,n4⟩:=El oM jG ne;have u1:=Xf0 hu;have u2:=Xf0 hv;have o1:=C.ov c hc d hd;have o2:=C.ov d hd c hc;rcases Xog (Bs oM) (Bs jG) n1 n2 n3 n4 e with z | z
  ·lia
  ·lia
def Core.min(h2:∀y∈row,row.count y=2)(C:Core row cs p)(x):x∈cs↔x∈(dit row).filter p/\∀y∈(dit row).filter p,lieR row y x ≠ "within" := by
 have self:∀c∈cs,c∈(dit row).filter p:=λc hc=>O7.mpr ⟨Aj.mpr (C.inr c hc),(C.is c).mpr ⟨c,hc,by unfold upB;simp⟩⟩;constructor
 ·intro hx;refine⟨self x hx,λy hy e=>?_⟩;obtain⟨c,hc,hu⟩:=(C.is y).mp (O7.mp hy).2;unfold upB at hu;rw[Sb] at hu;rcases hu with hu | hu
  ·rw[Ua hu] at e;exact C.an c hc x hx e
  ·exact C.an c hc x hx (Xf1 (h2 c (C.inr c hc)) (Ua hu) e)
 ·rintro ⟨hx,hm⟩;obtain⟨c,hc,hu⟩:=(C.is x).mp (O7.mp hx).2;unfold upB at hu;rw[Sb] at hu;rcases hu with hu | hu
  ·rw[Ua hu];exact hc
  ·exact absurd (Ua hu) (hm c (self c hc))
def Core.eq(h2:∀y∈row,row.count y=2)(C:Core row cs p)(C':Core row yH p')(e:(dit row).filter p=(dit row).filter p'):∀x,x∈cs↔x∈yH:=λx=>by
 rw[C.min h2,C'.min h2,e]
def core1(h2:∀y∈row,row.count y=2){a:aq}(ha:a∈row):Core row [a] (upB row a) where
 inr c hc:=by rw[Oz.mp hc];exact ha
 is y:=by simp
 ov c hc d hd:=by rw[Oz.mp hc,Oz.mp hd];exact Bs (h2 a ha)
 an c hc d hd:=by rw[Oz.mp hc,Oz.mp hd];exact Od
def Iv(h:q∈crs row):q.1∈row/\q.2∈row/\ltS q.1 q.2/\lieR row q.1 q.2 = "cross" := by
 unfold crs at h;obtain⟨x,hx,h⟩:=List.mem_flatMap.mp h;obtain⟨y,hy,rfl⟩:=Pq.mp h;obtain⟨h1,h3⟩:=O7.mp hy;rw[Pa] at h3;exact⟨Aj.mp hx,Aj.mp h1,Ua h3.1,Ua h3.2⟩
def core2(h2:∀y∈row,row.count y=2)(h:q∈crs row):Core row [q.1,q.2] λy=>upB row q.1 y||upB row q.2 y:=by
 obtain⟨ha,hb,hl,hx⟩:=Iv h;have hy:lieR row q.2 q.1 = "cross" := Dz (h2 _ ha) (h2 _ hb) hx;have la:=Bs (h2 _ ha);have lb:=Bs (h2 _ hb);have c1:=Xfz la hx;have c2:=Xfz lb hy;refine⟨λc hc=>?_,λy=>by simp,λc hc d hd=>?_,λc hc d hd=>?_⟩
 ·simp at hc;rcases hc with rfl | rfl
  ·exact ha
  ·exact hb
 ·simp at hc hd;rcases hc with rfl | rfl<;>rcases hd with rfl | rfl
  ·exact la
  ·exact c1.1
  ·exact c2.1
  ·exact lb
 ·simp at hc hd;rcases hc with rfl | rfl<;>rcases hd with rfl | rfl
  ·exact Od
  ·rw[hx];decide
  ·rw[hy];decide
  ·exact Od
def Xoi(h2:∀y∈row,row.count y=2):∀S∈cands row,An row S=true:=λS hS=>by
 unfold cands at hS;rcases O5.mp hS with h | h
 ·obtain⟨a,ha,rfl⟩:=Pq.mp h;exact(core1 h2 (Aj.mp ha)).plot h2
 ·obtain⟨q,hq,rfl⟩:=Pq.mp h;exact(core2 h2 hq).plot h2
def Xoj(row):(crs row).Nodup:=by
 unfold crs;have nd:=Bn (Cw row);rw[List.Nodup,List.pairwise_flatMap];refine⟨λx hx=>?_,nd.imp λ{x y} ne a ha b hb e=>?_⟩
 ·rw[Se];exact(nd.filter _).imp λne e=>ne (Prod.mk.inj e).2
 ·obtain⟨u,_,rfl⟩:=Pq.mp ha;obtain⟨v,_,rfl⟩:=Pq.mp hb;exact ne (Prod.mk.inj e).1
def Xok(h2:∀y∈row,row.count y=2):(cands row).Nodup:=by
 have nd:=Bn (Cw row);unfold cands;rw[List.Nodup,Pn];refine⟨?_,?_,?_⟩
 ·rw[Se];refine nd.imp_of_mem λ{a b} ha hb ne e=>ne ?_;have:=(Core.eq h2 (core1 h2 (Aj.mp ha)) (core1 h2 (Aj.mp hb)) e a).mp (Q3 _);exact Oz.mp this
 ·rw[Se];refine(Xoj row).imp_of_mem λ{q r} hq hr ne e=>ne ?_;have E:=Core.eq h2 (core2 h2 hq) (core2 h2 hr) e;obtain⟨_,_,l1,_⟩:=Iv hq;obtain⟨_,_,l2,_⟩:=Iv hr;have e1:=(E q.1).mp (by simp);have e2:=(E q.2).mp (by simp);have e3:=(E r.1).mpr (by simp);simp at e1 e2 e3;obtain⟨a,b⟩:=q;obtain⟨c,d⟩:=r;simp only at *;rcases e1 with e1 | e1
  ·rcases e2 with e2 | e2
   ·exact absurd (e1.trans e2.symm) (Hs l1)
   ·rw[e1,e2]
  ·rcases e2 with e2 | e2
   ·rw[e1,e2] at l1;exact absurd (Jz l1 l2) (Jy _)
   ·exact absurd (e1.trans e2.symm) (Hs l1)
 ·intro A hA B hB e;obtain⟨a,ha,rfl⟩:=Pq.mp hA;obtain⟨q,hq,rfl⟩:=Pq.mp hB;have E:=Core.eq h2 (core1 h2 (Aj.mp ha)) (core2 h2 hq) e;obtain⟨_,_,l1,_⟩:=Iv hq;have e1:=Oz.mp ((E q.1).mpr (by simp));have e2:=Oz.mp ((E q.2).mpr (by simp));exact Hs l1 (e1.trans e2.symm)
def Xol(h2:∀y∈row,row.count y=2)(h3:Bk row)(S):S∈[]::cands row↔An row S=true:=by
 constructor
 ·intro h;rcases Ph.mp h with e | e
  ·rw[e];exact Gs row
  ·exact Xoi h2 S e
 ·intro h;by_cases e:S=[]
  ·rw[e];exact O3
  ·exact O4 _ (Xee h2 h3 e h)
def Xom(h2:∀y∈row,row.count y=2):[]∉cands row:=λh=>by
 unfold cands at h;rcases O5.mp h with h | h
 ·obtain⟨a,ha,e⟩:=Pq.mp h;have:=((core1 h2 (Aj.mp ha)).min h2 a).mp (Q3 _);rw[e] at this;cases this.1
 ·obtain⟨q,hq,e⟩:=Pq.mp h;have:=((core2 h2 hq).min h2 q.1).mp (by simp);rw[e] at this;cases this.1
def Xon(h2:∀y∈row,row.count y=2):([]::cands row).Nodup:=Qn.mpr ⟨Xom h2,Xok h2⟩
end
end SH
namespace L2
def Xf2  {N:Za} {cap:List (Option Nat)}         {i:Nat}  (C:CompScope X N cap scope) (bp:X.calm=true) (hN:X.N.Nodup) (qP:X.N[i]? = some y) (hy:X.env.scope.names.lookup y=some .local) (hi:PI X tg iter wi)
  (hg:∀s0 H0 ex,PG (X.comp N scope s0 H0 ex) tg g) (ht:∀s0 H0 ex,PIfs (X.comp N scope s0 H0 ex) cr tt) (he:∀s0 H0 ex,PE (X.comp N scope s0 H0 ex) dZ te)
  (qQ:dy (.ListComp dZ [⟨tg,iter,cr,0⟩] scope pos) (some (.Name y py)) jE.line X.env=pure true:=by rfl)
  (hs:∀x,aH iter X.env x=pure x:=by intro _;rfl):PS X (.Assign [.Name y py] (.ListComp dZ [⟨tg,iter,cr,0⟩] scope pos) jE) (Xc1 i cap (.lst []) wi g tt (Hw te)):=
 Xc2 (act := fun D env => do let _ <- call (.builtin "list.append") [.ref D, <- eval dZ env]) J4 (fun use => rfl) rfl C bp Hv hN qP hy hi (fun it D env => rfl) hg ht (fun D s0 H0 ex => J3 (he s0 H0 ex)) qQ hs
end L2
namespace SH
open L2
def Xf3 (T:ae) (pos:cN):Sp:=λvs H Q _=>∃(r:ae) (row:Za),vs=[.ref r]/\H r=some (.lst (row.map V.str))/\Row2 row/\Bk row/\(dit row).length<=14/\Bi T pos qIn H /\
 ∀(D:ae) (ps:List ae) (Ts:List (Za)) (H':Hp),H D=none->H' D=some (.lst (ps.map V.ref))->Tups H' ps Ts->(∀S,S∈Ts↔An row S=true)->(Ts.Pairwise λa b=>F5 a b=true)->ps.length<=64->Bi T pos qIn H'->But T H H'->Q (.ref D) H'
abbrev NPp:Za:=["row", "span", "off", "single", "double"]
abbrev NPo:Za:=["name", "span"]
abbrev NPi:Za:=["other", "name", "span"]
abbrev NPs:Za:=["name", "off"]
abbrev NPd:Za:=["one", "other", "off"]
structure Offs (H:Hp) (kvs:List (Key×V)) (row:Za) (ns:Za):Prop where
 keys:kvs.map (·.1)=ns.map (λx=>(Sum.inr x:Key))
 val:∀x∈ns,∃l,Av kvs (Sum.inr x:Key)=some (.ref l)/\H l=some (.lst (((dit row).filter (upB row x)).map V.str))
def Offs.mono   (s:Offs H kvs row ns) (h:Same H H'):Offs H' kvs row ns:=⟨s.keys,λx hx=>let ⟨l,h1,h2⟩:=s.val x hx; ⟨l,h1,h _ _ h2⟩⟩
def Offs.snoc     (s:Offs H kvs row ns) (nx:x∉ns) (h:H' l=some (.lst (((dit row).filter (upB row x)).map V.str))) (k:∀b xs,H b=some (.lst xs)->H' b=some (.lst xs)):
  Offs H' (Bj kvs (Sum.inr x) (.ref l)) row (ns++[x]):=by
 have hn:Av kvs (Sum.inr x:Key)=none:=by
  cases e:Av kvs (Sum.inr x:Key) with
  | none=>rfl
  | some v=>
   exfalso;have:=Hi e;rw[s.keys] at this;obtain⟨y,hy,e2⟩:=Pq.mp this;rw[Rq e2] at hy;exact nx hy
 refine⟨by rw[Jr _ hn,O9,O9,s.keys];rfl,λy hy=>?_⟩;rw[Jp];by_cases e:y=x
 ·subst e;exact⟨l,T7 rfl,h⟩
 ·have fS:y∈ns:=by
   rcases O5.mp hy with z | z
   ·exact z
   ·exact absurd (Oz.mp z) e
  obtain⟨l0,h1,h2⟩:=s.val y fS;exact⟨l0,by rw[T6 (λz=>e (Rq z))];exact h1,k _ _ h2⟩
def Offs.get    {x} (s:Offs H kvs row ns) (hd:Rd H d (.dK kvs)) (hx:x∈ns):∃l,DGet H d (.str x) (some (.ref l))/\H l=some (.lst (((dit row).filter (upB row x)).map V.str)):=by
 obtain⟨l,h1,h2⟩:=s.val x hx;exact⟨l,DGet.rd hd h1,h2⟩
def Offs.at{H}{kvs}(s:Offs H kvs row ns)(i)(hi:i<ns.length):(kvs.map λp=>kV p.1).getD i .non = .str (ns.getD i aq.empty):=by
 have e:(kvs.map λp=>kV p.1)=ns.map V.str:=by
  have:(kvs.map λp=>kV p.1)=(kvs.map (·.1)).map kV:=by rw[P4];rfl
  rw[this,s.keys,P4];rfl
 rw[e];exact Bv V.str aq.empty ns hi
def Offs.len   (s:Offs H kvs row ns):kvs.length=ns.length:=by
 have:=congrArg List.length s.keys;simpa using this
def Xoo{row}{x y}(hx:row.count x=2)(hy:row.count y=2):decide (lieR row x y∈[aq.ofString "same",aq.ofString "within"])=upB row x y:=by
 unfold upB;by_cases e:y=x
 ·subst e;rw[Ka];simp
 ·have n:lieR row x y ≠ "same" := λz=>e (Xed hx hy z).symm;simp[e,n]
def ltP (a b:Za):Prop:=a.length<b.length\/(a.length=b.length/\ltL a b=true)
def Oe(a):¬ltP a a:=λh=>by
 rcases h with h | ⟨_,h⟩
 ·lia
 ·rw[Ik] at h;cases h
def Xf4(h:ltP a b)(g:ltP b c):ltP a c:=by
 rcases h with h | ⟨h1,h2⟩
 ·rcases g with g | ⟨g1,g2⟩
  ·exact .inl (by lia)
  ·exact .inl (by lia)
 ·rcases g with g | ⟨g1,g2⟩
  ·exact .inl (by lia)
  ·exact .inr ⟨by lia,Kn _ _ _ h2 g2⟩
structure IsPL (row:List aq) (Ts:List (List aq)):Prop where
 pw:Ts.Pairwise ltP
 mem:∀T,T∈Ts↔An row T=true
def IsPL.uniq{row}(h:IsPL row A)(g:IsPL row B):A=B:=Kz Oe (λ_ _ _=>Xf4) h.pw g.pw λT=>(h.mem T).trans (g.mem T).symm
def IsPL.nd  (h:IsPL row A):A.Nodup:=h.pw.imp λ{a b} (q:ltP a b)=>λ(e:a=b)=>Oe b (e ▸ q)
def IsPL.len  (h:IsPL row A) (h2:∀y∈row,row.count y=2) (h3:Bk row) (hl:(dit row).length<=14):A.length<=64:=by
 have nd:=h.nd;have q:(A.filter λS=>decide (S≠[])).length<64:=Ny (L:=A.filter λS=>decide (S≠[])) h2 h3 hl (nd.filter _) λS hS=>by
  obtain⟨s1,s2⟩:=O7.mp hS;exact⟨Ua s2,(h.mem S).mp s1⟩
 have e:(A.filter λS=>decide (S≠[])).length+1 ≥ A.length:=by
  have:=List.length_eq_countP_add_countP (p:=λS:List aq=>decide (S≠[])) (l:=A);rw[R5,R5] at this;have c:(A.filter λS=>decide ¬decide (S≠[])=true).length<=1:=by
   have wa:(A.filter λS=>decide ¬decide (S≠[])=true).Nodup:=nd.filter _;refine Pu (Kk (b:=[[]]) wa λx hx=>?_) (Oy 1);have:=(O7.mp hx).2;simp at this;simp[this]
  lia
 lia
def spPlotsO:Sp:=λvs H Q _=>∃(r:ae) (row:Za),vs=[.ref r]/\H r=some (.lst (row.map V.str))/\Row2 row/\Bk row/\(dit row).length<=14 /\
 ∀(l:ae) (ps:List ae) (Ts:List (Za)) (H':Hp),H l=none->H' l=some (.lst (ps.map V.ref))->Tups H' ps Ts->IsPL row Ts->Same H H'->Q (.ref l) H'
structure Lay (row:Za) (n:Nat) (Us:List (Za)):Prop where
 pw:Us.Pairwise λa b=>ltL a b=true
 mem:∀T,T∈Us↔An row T=true/\T.length=n
def Xop    (h2:∀y∈row,row.count y=2) (L:Lay row n Us) (c:Cov row Us Us.length Ts) (ok:∀T∈Ts,An row T=true/\T.length=n+1) (p:fw.Perm Ts) (pw:fw.Pairwise λa b=>ltL a b=true):Lay row (n+1) fw:=by
 refine⟨pw,λT=>⟨λh=>ok T (p.mem_iff.mp h),λ⟨h,hl⟩=>p.mem_iff.mpr ?_⟩⟩;have ne:T≠[]:=λe=>by rw[e] at hl;cases hl
 obtain⟨x,hx,hs⟩:=Xnl h2 h ne;obtain⟨p1,p2,_⟩:=Fa.mp h;have aO:=Xnm p1 hx;have hm:(T.filter λy=>decide (y≠x))∈Us:=(L.mem _).mpr ⟨hs,by lia⟩;obtain⟨i,hi,e⟩:=P7.mp hm;have e':Us.getD i []=T.filter λy=>decide (y≠x):=by rw[<-e];simp[List.getD,hi]
 have:=c i hi x (p2 x hx);rw[e',Xfc p1 hx] at this;exact this (λz=>by have:=(O7.mp z).2;simp at this) h
structure Upto (row:Za) (n:Nat) (Ts:List (Za)):Prop where
 pw:Ts.Pairwise ltP
 mem:∀T,T∈Ts↔An row T=true/\T.length<=n
def Upto.next   (U:Upto row n Ts) (L:Lay row (n+1) Us):Upto row (n+1) (Ts++Us):=by
 refine⟨Pn.mpr ⟨U.pw,?_,λa ha b hb=>?_⟩,λT=>?_⟩
 ·refine L.pw.imp_of_mem λ{a b} ha hb h=>.inr ⟨?_,h⟩;rw[((L.mem a).mp ha).2,((L.mem b).mp hb).2]
 ·have h1:=((U.mem a).mp ha).2;have h2:=((L.mem b).mp hb).2;exact .inl (by lia)
 ·rw[O5,U.mem,L.mem];constructor
  ·rintro (⟨h,l⟩ | ⟨h,l⟩)
   ·exact⟨h,by lia⟩
   ·exact⟨h,by lia⟩
  ·rintro ⟨h,l⟩;by_cases q:T.length<=n
   ·exact .inl ⟨h,q⟩
   ·exact .inr ⟨h,by lia⟩
def Upto.all  (U:Upto row (dit row).length Ts):IsPL row Ts:=⟨U.pw,λT=>(U.mem T).trans ⟨λh=>h.1,λh=>⟨h,Gr h⟩⟩⟩
def Xoq(row):Upto row 0 [[]]:=⟨by simp,λT=>by
 rw[Oz];exact⟨λe=>by rw[e];exact⟨Gs row,Oy _⟩,λ⟨_,h⟩=>P8.mp (by lia)⟩⟩
def Xor(row):Lay row 0 [[]]:=⟨by simp,λT=>by
 rw[Oz];exact⟨λe=>by rw[e];exact⟨Gs row,rfl⟩,λ⟨_,h⟩=>P8.mp h⟩⟩
end SH
set_option maxHeartbeats 8000000
namespace SH
open L2
theorem Xf5:∀(U:List (Za)),ao.depthAll (U.map tupD)<=1
 | []=>by show 0<=1;decide
 | S::U=>by
  have:=Xf5 U;show max (ao.depthAll (S.map ao.str)+1) (ao.depthAll (U.map tupD))<=1;rw[Kf]
  lia
def Xos{U:List (Za)}(h:∀S∈U,∀y∈S,okN y):C8 (U.map tupD)=true:=plainAll_map tupD U λS hS=>E6 (h S hS)
def Fb{U:List (Za)}(h:∀S∈U,∀y∈S,okN y):Ce (.list (U.map tupD))=true:=Xos h
def Og{U W:List (Za)}(h1:∀S∈U,∀y∈S,okN y)(h2:∀S∈W,∀y∈S,okN y):ao.eqv (.list (U.map tupD)) (.list (W.map tupD))=decide (U=W):=
 Xc7 (λU=>ao.list (U.map tupD)) (λa b e=>by injection e with e;exact(Th Xdx).mp e) U W (Fb h1) (Fb h2)
def G4    (h:H l=some (.lst (ps.map V.ref))) (t:Tups H ps Ts):DAt H (.list (Ts.map tupD)) (.ref l):=Xc5 h (Xfd t)
def Oh(U W:List (Za)):min (ao.depth (.list (U.map tupD))) (ao.depth (.list (W.map tupD)))<=3:=by
 show min (ao.depthAll (U.map tupD)+1) _<=3;have:=Xf5 U
 lia
end SH
set_option maxHeartbeats 4000000
namespace SH
open L2
def crsAt (row:Za) (x:aq) (ys:Za):List (aq×aq):=(ys.filter λy=>decide (lieR row x y = "cross")).map λy=>(x,y)
def spAllT:Sp:=λvs H Q _=>∃(l:ae) (ps:List ae) (Ts:List (Za)),vs=[.ref l]/\H l=some (.lst (ps.map V.ref))/\Tups H ps Ts/\(∀S∈Ts,S.length<=1000)/\ps.length<=1000/\∀H',Same H H'->Q (.bl true) H'
def Oi(h:F5 a b=true):ltP a b:=by
 unfold F5 Cr at h;by_cases e:a.length=b.length
 ·rw[T7 e] at h;exact .inr ⟨e,h⟩
 ·rw[T6 e] at h;exact .inl (Ua h)
def K2  (h:row.count x=2) {a b:Nat} (ha:row[a]? = some x) (hb:row[b]? = some x) (lt:a<b):pl row x=((a:Int),(b:Int)):=by
 have h1:(a:Int)∈plc row x:=E4.mpr ⟨a,rfl,ha⟩;have h2:(b:Int)∈plc row x:=E4.mpr ⟨b,rfl,hb⟩;have l:=Bs h;rw[Da h] at h1 h2;simp only[Ph,List.not_mem_nil,or_false] at h1 h2;refine Tx ?_ ?_<;>(show _=_)<;>rcases h1 with h1 | h1<;>rcases h2 with h2 | h2<;>lia
def Oj  (h:row.count x=2):∃a b:Nat,a<b/\row[a]? = some x/\row[b]? = some x/\pl row x=((a:Int),(b:Int)):=by
 have h1:(pl row x).1∈plc row x:=by rw[Da h];simp
 have h2:(pl row x).2∈plc row x:=by rw[Da h];simp
 obtain⟨a,e1,g1⟩:=E4.mp h1;obtain⟨b,e2,g2⟩:=E4.mp h2;have:=Bs h;exact⟨a,b,by lia,g1,g2,Tx e1 e2⟩
def Xot(h1:a<b)(h2:c<e)(n1:a≠c)(n2:a≠e)(n3:b≠c)(n4:b≠e):
  (lieT a b c e = "within" ↔ c<a/\b<e)/\(lieT a b c e = "apart" ↔ b<c\/e<a)/\(lieT a b c e = "cross" ↔ (c<a/\a<e/\e<b)\/(a<c/\c<b/\b<e)):=by
 have cT:∀v:aq,lieT a b c e=v->((v = "within" ↔ c<a/\b<e)/\(v = "apart" ↔ b<c\/e<a)/\(v = "cross" ↔ (c<a/\a<e/\e<b)\/(a<c/\c<b/\b<e)))->((lieT a b c e = "within" ↔ c<a/\b<e)/\(lieT a b c e = "apart" ↔ b<c\/e<a)/\(lieT a b c e = "cross" ↔ (c<a/\a<e/\e<b)\/(a<c/\c<b/\b<e))):=λv e h=>by rw[e];exact h
 have val:∀k1 k2:Nat,nIn c e [a,b]=k1->nIn a b [c,e]=k2->lieT a b c e=if k1=1 then (aq.ofString "cross") else if k1=2 then (aq.ofString "within") else if k2=2 then (aq.ofString "around") else (aq.ofString "apart"):=λk1 k2 e1 e2=>by
  unfold lieT;rw[e1,e2,T6 λz=>n1 z.1]
 have T:∀{p:Prop} {x y:aq},x=y->p->(x=y↔p):=λe h=>⟨λ_=>h,λ_=>e⟩;have N:∀{p:Prop} {x y:aq},x≠y->¬p->(x=y↔p):=λe h=>⟨λz=>absurd z e,λz=>absurd z h⟩;rcases (by lia:b<c\/e<a\/(c<a/\b<e)\/(a<c/\e<b)\/(a<c/\c<b/\b<e)\/(c<a/\a<e/\e<b)) with h | h | h | h | h | h
 ·exact cT "apart" (val 0 0 (by rw[Be];repeat (first | rw[T7 (by lia)] | rw[T6 (by lia)])) (by rw[Be];repeat (first | rw[T7 (by lia)] | rw[T6 (by lia)]))) ⟨N (by decide) (by lia),T rfl (by lia),N (by decide) (by lia)⟩
 ·exact cT "apart" (val 0 0 (by rw[Be];repeat (first | rw[T7 (by lia)] | rw[T6 (by lia)])) (by rw[Be];repeat (first | rw[T7 (by lia)] | rw[T6 (by lia)]))) ⟨N (by decide) (by lia),T rfl (by lia),N (by decide) (by lia)⟩
 ·exact cT "within" (val 2 0 (by rw[Be];repeat (first | rw[T7 (by lia)] | rw[T6 (by lia)])) (by rw[Be];repeat (first | rw[T7 (by lia)] | rw[T6 (by lia)]))) ⟨T rfl (by lia),N (by decide) (by lia),N (by decide) (by lia)⟩
 ·exact cT "around" (val 0 2 (by rw[Be];repeat (first | rw[T7 (by lia)] | rw[T6 (by lia)])) (by rw[Be];repeat (first | rw[T7 (by lia)] | rw[T6 (by lia)]))) ⟨N (by decide) (by lia),N (by decide) (by lia),N (by decide) (by lia)⟩
 ·exact cT "cross" (val 1 1 (by rw[Be];repeat (first | rw[T7 (by lia)] | rw[T6 (by lia)])) (by rw[Be];repeat (first | rw[T7 (by lia)] | rw[T6 (by lia)]))) ⟨N (by decide) (by lia),N (by decide) (by lia),T rfl (by lia)⟩
 ·exact cT "cross" (val 1 1 (by rw[Be];repeat (first | rw[T7 (by lia)] | rw[T6 (by lia)])) (by rw[Be];repeat (first | rw[T7 (by lia)] | rw[T6 (by lia)]))) ⟨N (by decide) (by lia),N (by decide) (by lia),T rfl (by lia)⟩
def G5(row)(x):lieR row x x = "same" := by
 unfold lieR lieT;rw[T7 ⟨rfl,rfl⟩]
def Iw  (h:∀y∈row,row.count y=2) (hx:x∈row) (hy:y∈row) (n:x≠y):
  (lieR row x y = "within" ↔ (pl row y).1<(pl row x).1/\(pl row x).2<(pl row y).2)/\(lieR row x y = "apart" ↔ (pl row x).2<(pl row y).1\/(pl row y).2<(pl row x).1) /\
   (lieR row x y = "cross" ↔ ((pl row y).1<(pl row x).1/\(pl row x).1<(pl row y).2/\(pl row y).2<(pl row x).2)\/((pl row x).1<(pl row y).1/\(pl row y).1<(pl row x).2/\(pl row x).2<(pl row y).2)):=by
 obtain⟨n1,n2,n3,n4⟩:=El (h x hx) (h y hy) n;exact Xot (Bs (h x hx)) (Bs (h y hy)) n1 n2 n3 n4
section
variable {z:aq}{t:Za}
def C5:(t++[z]).Perm (z::t):=List.perm_append_singleton z t
def Ol(h:∀y∈z::t,(z::t).count y=2):∀y∈t++[z],(t++[z]).count y=2:=λy hy=>by rw[C5.count_eq];exact h y (C5.mem_iff.mp hy)
def Om(h:∀y∈z::t,(z::t).count y=2)(hy:y∈z::t)(n:y≠z):pl (t++[z]) y=((pl (z::t) y).1 - 1,(pl (z::t) y).2 - 1)/\0<(pl (z::t) y).1:=by
 obtain⟨a,b,lt,ha,hb,e⟩:=Oj (h y hy);cases a with
 | zero=>exact absurd (Pd ha).symm n
 | succ a=>
  cases b with
  | zero=>lia
  | succ b=>
   have ha:t[a]? = some y:=ha;have hb:t[b]? = some y:=hb;have la:=(O8.mp ha).1;have lb:=(O8.mp hb).1;have:=K2 (Ol h y (C5.mem_iff.mpr hy)) (a:=a) (b:=b) (by rw[Qh la];exact ha) (by rw[Qh lb];exact hb) (by lia);rw[this,e];refine⟨Tx ?_ ?_,?_⟩
   ·show (a:Int)=((a+1:Nat):Int) - 1;lia
   ·show (b:Int)=((b+1:Nat):Int) - 1;lia
   ·show (0:Int)<((a+1:Nat):Int);lia
def Xou(h:∀y∈z::t,(z::t).count y=2):(pl (z::t) z).1=0/\pl (t++[z]) z=((pl (z::t) z).2 - 1,(t.length:Int)):=by
 have hz:=h z O3;obtain⟨a,b,lt,ha,hb,e⟩:=Oj hz;have a0:a=0:=by
  refine Classical.byContradiction λn=>?_;have e0:=K2 hz (a:=0) (b:=a) rfl ha (by lia);rw[e] at e0;have:=congrArg Prod.fst e0;simp at this
  lia
 subst a0;cases b with
 | zero=>lia
 | succ b=>
  have hb:t[b]? = some z:=hb;have lb:=(O8.mp hb).1;have:=K2 (Ol h z (C5.mem_iff.mpr O3)) (a:=b) (b:=t.length) (by rw[Qh lb];exact hb) (by simp) lb;rw[this,e];refine⟨rfl,Tx ?_ rfl⟩;show (b:Int)=((b+1:Nat):Int) - 1
  lia
def Oo(h:∀y∈z::t,(z::t).count y=2)(hx:x∈z::t)(hy:y∈z::t)(n:x≠y):
  (x≠z->y≠z->(lieR (t++[z]) x y = "within" ↔ lieR (z::t) x y = "within")/\(lieR (t++[z]) x y = "apart" ↔ lieR (z::t) x y = "apart")) /\
  (y=z->(lieR (t++[z]) x y = "within" ↔ lieR (z::t) x y = "apart")/\(lieR (t++[z]) x y = "apart" ↔ lieR (z::t) x y = "within")) /\
  (x=z->¬lieR (t++[z]) x y = "within" /\ (lieR (t++[z]) x y = "apart" ↔ lieR (z::t) y x = "within"))/\(lieR (t++[z]) x y = "cross" ↔ lieR (z::t) x y = "cross"):=by
 have h':=Ol h;obtain⟨w,a,c⟩:=Iw h hx hy n;obtain⟨w',a',c'⟩:=Iw h' (C5.mem_iff.mpr hx) (C5.mem_iff.mpr hy) n;obtain⟨w2,_,_⟩:=Iw h hy hx n.symm;rw[w',a',c',w,a,c,w2];have lx:=Bs (h x hx);have ly:=Bs (h y hy);have nx:=Xdu (h x hx);have ny:=Xdu (h y hy);rw[Pj] at nx ny;obtain⟨n1,n2,n3,n4⟩:=El (h x hx) (h y hy) n;obtain⟨q1,q2⟩:=Xou h;by_cases ex:x=z
 ·subst ex;obtain⟨p1,p2⟩:=Om h hy n.symm;rw[p1,q2];dsimp only;refine⟨λz=>absurd rfl z,λz=>absurd z n.symm,λ_=>?_,?_⟩<;>lia
 ·obtain⟨p1,p2⟩:=Om h hx ex;by_cases ey:y=z
  ·subst ey;rw[p1,q2];dsimp only;refine⟨λ_ z=>absurd rfl z,λ_=>?_,λz=>absurd z ex,?_⟩<;>lia
  ·obtain⟨p3,p4⟩:=Om h hy ey;rw[p1,p3];dsimp only;refine⟨λ_ _=>?_,λz=>absurd z ey,λz=>absurd z ex,?_⟩<;>lia
def D7  : n∈A6 S [x]↔(n∈S/\n≠x)\/(n=x/\x∉S):=by
 rw[G3];simp only[Oz];exact⟨λh=>h.elim .inl λh=>.inr ⟨h.1,h.1 ▸ h.2⟩,λh=>h.elim .inl λh=>.inr ⟨h.1,h.1 ▸ h.2⟩⟩
def Xov(h:∀y∈z::t,(z::t).count y=2)(hS:An (z::t) S=true):An (t++[z]) (A6 S [z])=true:=by
 obtain⟨s1,s2,s3,s4⟩:=Fa.mp hS;have mr:∀{x},x∈A6 S [z]->x∈z::t:=λhx=>(D7.mp hx).elim (λq=>s2 _ q.1) λq=>q.1 ▸ O3;refine Fa.mpr ⟨F4 (Bn s1) (by simp),λx hx=>C5.mem_iff.mpr (mr hx),λx hx y hy w=>?_,λx hx y hy w=>?_⟩
 ·have fS:=C5.mem_iff.mp hy;have n:x≠y:=λe=>by rw[e,G5] at w;exact absurd w (by decide)
  obtain⟨o1,o2,o3,_⟩:=Oo h (mr hx) fS n;by_cases ex:x=z
  ·exact absurd w (o3 ex).1
  have xS:x∈S:=(D7.mp hx).elim (λq=>q.1) λq=>absurd q.1 ex;by_cases ey:y=z
  ·have ap:=(o2 ey).1.mp w;exact D7.mpr (.inr ⟨ey,λzS=>s4 x xS y (ey ▸ zS) ap⟩)
  ·exact D7.mpr (.inl ⟨s3 x xS y fS ((o1 ex ey).1.mp w),ey⟩)
 ·have n:x≠y:=λe=>by rw[e,G5] at w;exact absurd w (by decide)
  obtain⟨o1,o2,o3,_⟩:=Oo h (mr hx) (mr hy) n;by_cases ex:x=z
  ·have yS:y∈S:=(D7.mp hy).elim (λq=>q.1) λq=>absurd (ex.trans q.1.symm) n;have zn:z∉S:=(D7.mp hx).elim (λq=>absurd ex q.2) λq=>q.2;exact zn (ex ▸ s3 y yS x (mr hx) ((o3 ex).2.mp w))
  ·have xS:x∈S:=(D7.mp hx).elim (λq=>q.1) λq=>absurd q.1 ex;by_cases ey:y=z
   ·have zn:z∉S:=(D7.mp hy).elim (λq=>absurd ey q.2) λq=>q.2;exact zn (ey ▸ s3 x xS y (mr hy) ((o2 ey).2.mp w))
   ·have yS:y∈S:=(D7.mp hy).elim (λq=>q.1) λq=>absurd q.1 ey;exact s4 x xS y yS ((o1 ex ey).2.mp w)
def Xow(h:∀y∈z::t,(z::t).count y=2)(h3:Bk (z::t)):Bk (t++[z]):=by
 have c:∀{x y},x∈t++[z]->y∈t++[z]->Ay (t++[z]) x y->Ay (z::t) x y:=λ{x y} hx hy k=>by
  have k:lieR (t++[z]) x y = "cross" := k;have n:x≠y:=λe=>by rw[e,G5] at k;exact absurd k (by decide)
  exact(Oo h (C5.mem_iff.mp hx) (C5.mem_iff.mp hy) n).2.2.2.mp k
 intro x hx y hy w hw k1 k2 k3;exact h3 x (C5.mem_iff.mp hx) y (C5.mem_iff.mp hy) w (C5.mem_iff.mp hw) (c hx hy k1) (c hx hw k2) (c hy hw k3)
end
def Bc (b:Za) (k:Nat):Za:=b.drop k++b.take k
def En(b)(k):(Bc b k).Perm b:=by
 unfold Bc;exact Q0.trans (by rw[Pi])
def Xox  (h:k<=b.length):Bc (Bc b k) (b.length - k)=b:=by
 unfold Bc;have l:(b.drop k).length=b.length - k:=P2;rw[<-l,List.drop_left,List.take_left,Pi]
abbrev two (row:Za):Prop:=∀y∈row,row.count y=2
def two.perm(h:two a)(p:b.Perm a):two b:=λy hy=>by rw[p.count_eq];exact h y (p.mem_iff.mp hy)
def K3   : x∈A2 row g↔(row.take g).count x=1:=by
 unfold A2;rw[O7,Aj,decide_eq_true_eq];exact⟨λh=>h.2,λh=>⟨R4.mp (by lia),h⟩⟩
def Fc(row)(g):(A2 row g).Pairwise ltS:=(Cw _).filter _
def Xf6(row):A2 row 0=[]:=by
 cases e:A2 row 0 with
 | nil=>rfl
 | cons x r=>
  have:x∈A2 row 0:=by rw[e];exact O3
  rw[K3,List.take_zero] at this;simp at this
def Xoy(h:S.Pairwise ltS):A6 S []=S:=G2 (F4 (Bn h) (by simp)) h λx=>by rw[G3];simp
def K4(h:S.Pairwise ltS)(hw:W.Nodup):A6 (A6 S W) W=S:=by
 refine G2 (F4 (Bn (F4 (Bn h) hw)) hw) h λx=>?_;rw[G3,G3];by_cases a:x∈S<;>by_cases b:x∈W<;>simp[a,b]
theorem F6(h2:two row)(h3:Bk row)(hS:An row S=true):∀k,k<=row.length->An (Bc row k) (A6 S (A2 row k))=true/\Bk (Bc row k)
 | 0,_=>by
  have e:Bc row 0=row:=by unfold Bc;rw[Rr,List.take_zero,P3]
  rw[e,Xf6,Xoy (Cn hS).2];exact⟨hS,h3⟩
 | k+1,hk=>by
  obtain⟨ih,i3⟩:=F6 h2 h3 hS k (by lia);have gQ:k<row.length:=hk;have ed:row.drop k=row[k]::row.drop (k+1):=Q7 gQ;have et:row.take (k+1)=row.take k++[row[k]]:=Pk gQ;have e1:Bc row k=row[k]::(row.drop (k+1)++row.take k):=by unfold Bc;rw[ed];rfl
  have e2:Bc row (k+1)=(row.drop (k+1)++row.take k)++[row[k]]:=by unfold Bc;rw[et,Pp]
  have t1:two (Bc row k):=h2.perm (En row k);have cz:(row.take (k+1)).count row[k]<=2:=by
   rw[<-h2 row[k] (Ps gQ)];exact(Qe _ _).count_le _
  rw[e1] at t1 ih i3;rw[e2];refine⟨?_,Xow t1 i3⟩;have:=Xov t1 ih;have e3:A6 (A6 S (A2 row k)) [row[k]]=A6 S (A2 row (k+1)):=by
   have ns:=Bn (Cn hS).2;refine G2 (F4 (Bn (F4 ns (Bn (Fc ..)))) (by simp)) (F4 ns (Bn (Fc ..))) λx=>?_;simp only[D7,G3,K3];rw[et,Qz];rw[et,Qz] at cz;by_cases ex:x=row[k]
   ·subst ex;rw[show [row[k]].count row[k]=1 by simp] at cz ⊢;have c1:((row.take k).count row[k]+1=1)↔¬(row.take k).count row[k]=1:=by lia
    rw[c1];by_cases a:row[k]∈S<;>by_cases b:(row.take k).count row[k]=1<;>simp[a,b]
   ·rw[show [row[k]].count x=0 from Ra.mpr (by simpa using ex)];simp[ex]
  rw[<-e3];exact this
def Xf7  (h2:two row) (hk:k<=row.length):A2 (Bc row k) (row.length - k)=A2 row k:=by
 refine G2 (Fc ..) (Fc ..) λx=>?_;have l:(row.drop k).length=row.length - k:=P2;rw[K3,K3];unfold Bc;rw[<-l,List.take_left];have c:(row.take k).count x+(row.drop k).count x=row.count x:=by rw[<-Qz,Pi]
 by_cases m:x∈row
 ·have:=h2 x m
  lia
 ·have:=Ra.mpr m
  lia
def K5(b)(k):(Bc b k).length=b.length:=(En b k).length_eq
def Xoz  (h2:two row) (h3:Bk row)  (hk:k<=row.length):An (Bc row k) W=true ↔ ∃S,An row S=true/\W=A6 S (A2 row k):=by
 constructor
 ·intro h;have t1:two (Bc row k):=h2.perm (En row k);obtain⟨S0,DF⟩:∃S0,An row S0=true:=⟨[],Gs row⟩;have i3:=(F6 h2 h3 DF k hk).2;have:=(F6 t1 i3 h (row.length - k) (by rw[K5];lia)).1;rw[Xox hk,Xf7 h2 hk] at this;exact⟨_,this,(K4 (Cn h).2 (Bn (Fc ..))).symm⟩
 ·rintro ⟨S,hS,rfl⟩;exact(F6 h2 h3 hS k hk).1
def Xo0  (h2:two row) (h3:Bk row) (hk:k<=row.length):Bk (Bc row k):=(F6 h2 h3 (Gs row) k hk).2
def Xo1(h:S.Pairwise ltS)(h':U.Pairwise ltS)(hw:W.Nodup)(e:A6 S W=A6 U W):S=U:=by
 rw[<-K4 h hw,e,K4 h' hw]
def Xf8  (h2:two row) (hx:x∈row):pl row.reverse x=((row.length:Int) - 1 - (pl row x).2,(row.length:Int) - 1 - (pl row x).1):=by
 obtain⟨a,b,lt,ha,hb,e⟩:=Oj (h2 x hx);have la:=(O8.mp ha).1;have lb:=(O8.mp hb).1;have c:row.reverse.count x=2:=by rw[(Rc row).count_eq];exact h2 x hx
 have ra:row.reverse[row.length - 1 - a]? = some x:=by rw[List.getElem?_reverse (by lia),show row.length - 1 - (row.length - 1 - a)=a by lia];exact ha
 have rb:row.reverse[row.length - 1 - b]? = some x:=by rw[List.getElem?_reverse (by lia),show row.length - 1 - (row.length - 1 - b)=b by lia];exact hb
 rw[K2 c rb ra (by lia),e];refine Tx ?_ ?_<;>(show _=_)<;>(try dsimp only)<;>lia
def Op  (h2:two row) (hx:x∈row) (hy:y∈row) (n:x≠y):(lieR row.reverse x y = "within" ↔ lieR row x y = "within")/\(lieR row.reverse x y = "apart" ↔ lieR row x y = "apart")/\(lieR row.reverse x y = "cross" ↔ lieR row x y = "cross"):=by
 have h':two row.reverse:=h2.perm (Rc row);obtain⟨w,a,c⟩:=Iw h2 hx hy n;obtain⟨w',a',c'⟩:=Iw h' (Qx.mpr hx) (Qx.mpr hy) n;rw[w',a',c',w,a,c,Xf8 h2 hx,Xf8 h2 hy];dsimp only;omega
def Xf9(h2:two row)(hS:An row S=true):An row.reverse S=true:=by
 obtain⟨s1,s2,s3,s4⟩:=Fa.mp hS;refine Fa.mpr ⟨s1,λx hx=>Qx.mpr (s2 x hx),λx hx y hy w=>?_,λx hx y hy w=>?_⟩
 ·have fS:=Qx.mp hy;have n:x≠y:=λe=>by rw[e,G5] at w;exact absurd w (by decide)
  exact s3 x hx y fS ((Op h2 (s2 x hx) fS n).1.mp w)
 ·have n:x≠y:=λe=>by rw[e,G5] at w;exact absurd w (by decide)
  exact s4 x hx y hy ((Op h2 (s2 x hx) (s2 y hy) n).2.1.mp w)
def Xo2  (h2:two row):An row.reverse S=true↔An row S=true:=
 ⟨λh=>by have:=Xf9 (h2.perm (Rc row)) h;rwa [Sz] at this,Xf9 h2⟩
def Xo3(h2:two row)(h3:Bk row):Bk row.reverse:=by
 have c:∀{x y},x∈row->y∈row->Ay row.reverse x y->Ay row x y:=λ{x y} hx hy k=>by
  have k:lieR row.reverse x y = "cross" := k;have n:x≠y:=λe=>by rw[e,G5] at k;exact absurd k (by decide)
  exact(Op h2 hx hy n).2.2.mp k
 intro x hx y hy w hw k1 k2 k3;have hx:=Qx.mp hx;have hy:=Qx.mp hy;have hw:=Qx.mp hw;exact h3 x hx y hy w hw (c hx hy k1) (c hx hw k2) (c hy hw k3)
end SH
namespace L2
def Xga        (n:Nat) (hn:n<sizeLine) (vs:Nat->V) (ok:Nat->Bool) (Us:Nat->Za)
  (ik:∀i H2,i<n->Same H1 H2->J.go i H2/\∀x H3,J.yld i H2 x H3->H3=H2/\x=vs i)
  (bv:∀H2,Same H1 H2->J.stop n H2)
  (nA:∀i H2 Q,i<n->Same H1 H2->(∀H',Same H2 H'->Q (ok i) H')->tt ((Bu cap Z).set j (some (vs i))) H2 Q)
  (step:∀i H2 Q,i<n->ok i=true->Same H1 H2->(∀t H',H' t=some (.tup ((Us i).map V.str))->Same H2 H'->Q (.ref t) H')->te ((Bu cap Z).set j (some (vs i))) H2 Q)
  (hd:∀D ps H2,H1 D=none->Same H1 H2->H2 D=some (.lst (ps.map V.ref))->Tups H2 ps (((List.range n).filter ok).map Us)->F D H2):Ft cap (Bm j) tt te J Z H1 F:=by
 refine Ju n vs (λD i Z2 H2=>(∀v, Z2.set j v=(Bu cap Z).set j v)/\Same H1 H2/\∃ps:List ae,H2 D=some (.lst (ps.map V.ref))/\Tups H2 ps (((List.range i).filter ok).map Us)) ?_ ?_ ?_ ?_ ?_
 ·intro D hD;exact⟨λ_=>rfl,(Same.refl H1).step hD,[],Ab,Tups.nil _⟩
 ·rintro D i Z2 H2 hD hi ⟨_,s2,_⟩;exact ik i H2 hi s2
 ·rintro D Z2 H2 hD ⟨_,s2,_⟩;exact bv H2 s2
 ·rintro D i Z2 H2 hD hi ⟨e,s2,ps,hb,ht⟩;show tt (Z2.set j (some (vs i))) H2 _;rw[e];refine nA i H2 _ hi s2 λH3 s3=>?_;have eR:=s2.trans s3;have nB:=s3 _ _ hb;have rE:=ht.same s3;have gx:∀v,((Bu cap Z).set j (some (vs i))).set j v=(Bu cap Z).set j v:=λv=>by rw[Tg]
  refine Aw (λhk=>?_) (λhk=>?_)
  ·refine step i H3 _ hi hk eR λt H4 h4 s4=>?_;have qN:=s4 _ _ nB;have hl:(ps.map V.ref).length<=i:=by
    have:=ht.1;rw[Ow] at this;rw[Ow,this];exact Pu (P1 ..) (by rw[Qi];lia)
   have keep:∀b w,H4 b=some (.tup w)->upd H4 D (.lst (ps.map V.ref++[.ref t])) b=some (.tup w):=λb w e=>by
    rw[Ad (λz=>by rw[z,qN] at e;cases e)];exact e
   refine wput hi qN (by lia) ⟨gx,λb u e'=>?_,ps++[t],by rw[Ab,O9];rfl,?_⟩
   ·rw[Ad (Au e' hD)];exact s4 _ _ (eR b u e')
   ·rw[Qa,Pm,List.filter_cons_of_pos hk,S9,O9];exact Tups.app ⟨rE.1,λj hj=>keep _ _ (s4 _ _ (rE.2 j hj))⟩ (Tups.cons (keep _ _ h4) (Tups.nil _))
  ·refine wskip hi ⟨gx,eR,ps,nB,?_⟩;rw[Qa,Pm,List.filter_cons_of_neg (by rw[hk];decide),S9,P3];exact rE
 ·rintro D Z2 H2 hD ⟨_,s2,ps,hb,ht⟩;exact hd D ps H2 hD s2 hb ht
def Xo4{st}:PS X st (λ_ _ _=>False):=λ_ _ _ _ _ _ h=>h.elim
end L2
namespace SH
open L2
def spRank:Sp:=λvs H Q _=>∃(p:ae) (S:Za),vs=[.ref p]/\H p=some (.tup (S.map V.str))/\∀(t:ae) (H':Hp),H' t=some (.tup [.int S.length,.ref p])->Same H H'->Q (.ref t) H'
def spRetold (Pl Np:ae):Sp:=λvs H Q E=>∃(r p:ae) (row S:Za) (g:Int),vs=[.ref r,.ref p,.int g]/\H r=some (.lst (row.map V.str))/\Row2 row/\H p=some (.tup (S.map V.str))/\(∀y∈S,okN y)/\S.length<=24/\(dit row).length<=14 /\ -1000<=g/\g<=2000 /\
 (An row S=true->∀n:Nat,g=n->n<=row.length->∀q H',H q=none->H' q=some (.tup ((A6 S (A2 row n)).map V.str))->Same H H'->Q (.ref q) H')/\(An row S=false->∀H',Same H H'->E (.ref Pl) none H')/\(An row S=true->¬(0<=g/\g<=row.length)->∀H',Same H H'->E (.ref Np) none H')
def spTrn:Sp:=λvs H Q _=>∃(r:ae) (row:Za) (k:Nat),vs=[.ref r,.int k]/\H r=some (.lst (row.map V.str))/\k<=row.length/\row.length<=1000/\∀l H',H l=none->H' l=some (.lst ((Bc row k).map V.str))->Same H H'->Q (.ref l) H'
def Xgb:Sp:=λvs H Q _=>∃(r:ae) (row:Za),vs=[.ref r]/\H r=some (.lst (row.map V.str))/\∀l H',H l=none->H' l=some (.lst (row.reverse.map V.str))->Same H H'->Q (.ref l) H'
def spSaid10:Sp:=λvs H Q _=>∃(r p:ae) (row S:Za) (g:Int) (b:Bool),vs=[.ref r,.ref p,.int g]/\H r=some (.lst (row.map V.str))/\Row2 row/\H p=some (.tup (S.map V.str))/\(∀y∈S,okN y)/\S.length<=24/\(dit row).length<=14 /\ -1000<=g/\g<=2000 /\
 ((b=true/\An row S=true/\¬(0<=g/\g<=row.length))\/(b=false/\An row S=false))/\∀H',Q (.str (if b=true then "place" else "plot")) H'
abbrev NRt:Za:=["row", "plot", "by", "stone"]
end SH
namespace L2
open SH
def Xo5     (F:FnOk X.prog X.w X.K X.mg X.base CX0 k f fd ["_law_plot"] spRank) (hb:Binds X.K fd ["_law_plot"] []) (hr:Room (k+2) X.A)  {Ts} (hT:Tups H ps Ts):Turns X f H ps Ts:=by
 intro pins Z s1 H1 i hi sm I;have c7:Room k X.A.in1.in1:=(Room.in1 (k:=k+1) hr).in1;have rr:Vals [V.ref (ps.getD i 0)] [aa.ref (ps.getD i 0)]:=.cons (show Ah (.ref (ps.getD i 0)) (.ref (ps.getD i 0)) from rfl) .nil;refine dM (bh (F.run X.A.in1.in1 X.stack s1 H1 ⟨[.ref (ps.getD i 0)],[]⟩ [.ref (ps.getD i 0)] [.ref (ps.getD i 0)] (λv H2=>∃t,v = .ref t/\H2 t=some (.tup [.int (Ts.getD i []).length,.ref (ps.getD i 0)])/\Same H1 H2) E0 c7 I.env0.in1.in1 (hb s1 [.ref (ps.getD i 0)] I.kIn rfl) rr ⟨_,_,rfl,sm _ _ (hT.2 i hi),λt H2 a b=>⟨t,rfl,a,b⟩⟩) λr s' jK=>?_);cases r with
 | error e=>exact jK.elim
 | ok fl=>
  cases fl with
  | next=>exact False.elim jK
  | brk=>exact False.elim jK
  | cont=>exact False.elim jK
  | ret u=>
   obtain⟨v,H2,J,rv,t,rfl,a,b⟩:=I.after jK;exact⟨t,H2,rv,J,a,b⟩
end L2
namespace K10
open L2 SH
def top (i:Nat):aV:=PySem.Challenge.pw_shoretold_k10_whole_told_from_another_st.main.body.getD i (.Pass ⟨0,0,0,0⟩)
abbrev sAsk:aV:=top 6
abbrev sDitches:aV:=top 7
abbrev sEnds:aV:=top 8
abbrev sSpans:aV:=top 9
abbrev sLieOf:aV:=top 10
abbrev sCross:aV:=top 11
abbrev s_turned:aV:=top 12
abbrev s_mirrored:aV:=top 13
abbrev sTold:aV:=top 15
abbrev s_in_order:aV:=top 16
abbrev sAllows:aV:=top 17
abbrev sIsPlot:aV:=top 18
abbrev s_ask_plot:aV:=top 19
abbrev s_plots:aV:=top 20
abbrev s_at_gap:aV:=top 21
abbrev s_retold:aV:=top 22
abbrev sBegin:aV:=top 24
abbrev sPick:aV:=top 25
abbrev sPut:aV:=top 26
abbrev sWhere:aV:=top 27
abbrev sWord:aV:=top 28
abbrev sBarred:aV:=top 29
abbrev sRow:aV:=top 30
abbrev sNames:aV:=top 31
abbrev sIsland:aV:=top 32
abbrev s__law_bars:aV:=top 33
abbrev s__law_fits:aV:=top 34
abbrev s__law_plots:aV:=top 35
abbrev s__law_stranger:aV:=top 36
abbrev s__law_flip:aV:=top 37
abbrev s__law_odd_plot:aV:=top 38
abbrev s__law_good_plot:aV:=top 39
abbrev s__law_seen:aV:=top 40
abbrev s__law_apart:aV:=top 41
abbrev s__law_tuple:aV:=top 42
abbrev s__law_all_texts:aV:=top 43
abbrev s__law_said:aV:=top 44
abbrev s__law_rank:aV:=top 45
abbrev s_law:aV:=top 46
section
variable {P:av}{w:a8}{K:KQ}{mg:aq->Option aa}{base:ar}
def Xo6:FnScope ["row", "name"] ["row", "name"] (defScope sAsk):=by walk_at "s"
def Xo7  (F:Fun K "ask_ditch" "ask_ditch" sAsk f fd) (hC:mg "NoDitch" = some (.ref C)) (hc:LH K C bmV "ValueError.__new__" = true):
  FnOk P w K mg base (CX1 P w) 1 f fd ["row", "name"] (Xdp C):=by
 refine F.ok1 Xo6 (by walk_at "l") ?_
 ·walk_at "i"
  obtain⟨r,row,x,rfl,hR,⟨qB,oM⟩,kq,ke⟩:=h;refine⟨_,Ag (A8 (Aq Jn (pv 1) (pv 0) (by rfl))
   (Ag (Me (C:=C) (E:=E) hc rfl leaves1 (by rfl) hC (Aa (Mn (Fv (by decide +kernel) (Xj0 (pv 1) (Fv (by decide +kernel) Mm)))) Ac))) Bb),?_⟩
  refine⟨_,rfl,_,rfl,r,_,rfl,.inl (SqL.of hR),rfl,Cy row,_,rfl,?_⟩;rw[Dl];by_cases hx:x∈row
  ·refine Xii hx ?_;exact kq hx H (Same.refl H)
  ·rw[T9 hx];refine Cb ?_;refine⟨_,rfl,x,rfl,by lia,(λc h=>Rx (oM c h) (by decide)),λz=>?_⟩;exact⟨by show 1<=sizeLine;decide,ke hx H (Same.refl H)⟩
def Xo8:FnScope ["row"] ["row"] (defScope sDitches):=by walk_at "s"
def Xo9  (F:Fun K "ditches" "ditches" sDitches f fd) (T:Bl mg):FnOk P w K mg base CX0 1 f fd ["row"] spDitches:=by
 refine F.ok Xo8 (by walk_at "l") ?_
 ·walk_at "i"
  obtain⟨r,row,rfl,hR,hl,k⟩:=h;refine⟨_,Ag (Ap (Ax (Jx rfl) (by rfl) T.sorted (by rfl) (Aa (B1 (Hr rfl) (by rfl) T.set (by rfl) (Aa (pv 0) Ac)) Ac))),?_⟩;refine⟨_,rfl,r,row,rfl,.inl (SqL.of hR),by unfold aW;lia,λa na=>?_⟩;have l6:=Hq row;refine⟨a,ddup row,rfl,Ab,by lia,λl ls nl hp hs=>?_⟩;have s1:Same H (upd H a (Ew P w a (ddup row))):=(Same.refl H).step na;refine k l _ (s1.free nl) ?_ (s1.step nl);rw[Ab,Gg hp hs];rfl
def Xgc:FnScope NEn ["row", "name"] (defScope sEnds):=by walk_at "s"
def Xpa  (F:Fun K "ends" "ends" sEnds f fd) (T:Bl mg) (FA:Fn P w K mg base (CX1 P w) 1 "ask_ditch" ["row", "name"] (Xdp C)):
  FnOk P w K mg base (CX1 P w) 2 f fd ["row", "name"] (Xdq C):=by
 refine F.ok1 Xgc (by walk_at "l") ?_
 ·walk_at "i"
  obtain⟨r,row,x,rfl,hR,hx,hl,kq,ke⟩:=h;refine⟨_,Ae (He (Ai FA hr rfl pass1 (Aa (pv 0) (Aa (pv 1) Ac))))
   (Ae (Gi (i:=2) (N:=NEc) (cap:=[none,none,some 1]) (CompScope.of (defScope sEnds) NEn rfl rfl rfl (by decide +kernel)) rfl Xgc.nd rfl rfl
    (Xjy (by rfl) T.enum (Aa (pv 0) Ac))
    (λ_ _ _=>Xct K 2 rfl rfl (D9 (Az (i:=0) (show NEc.Nodup by decide +kernel) rfl (.inl rfl) (.inr rfl)) (D9 (Az (i:=1) (show NEc.Nodup by decide +kernel) rfl (.inl rfl) (.inr rfl)) Jc)))
    (λ_ _ _=>Dj (Aq Bp (pv 1) (pv 2) (Ar _))) (λ_ _ _=>pv 0))
   (Ag (Ap (Ca (Aa (A0 Bh (pv 2) Af (λ_ _=>rfl)) (Aa (A0 Bh (pv 2) Af (λ_ _=>rfl)) Ac)))))),?_⟩
  refine⟨_,rfl,_,rfl,r,row,x,rfl,hR,hx,λdB H1 s1=>?_,ke⟩;obtain⟨a,b,fu,kq⟩:=kq dB;refine⟨_,rfl,r,rfl,⟨_,SqL.of (s1 _ _ hR)⟩,?_⟩;refine Xj7 (K:=K) (p:=0) (q:=1) (by decide) (SqL.of (s1 _ _ hR)) (by rw[Ow,T5];lia) (λi=>decide (row.getD i aq.empty=x)) (λi=>.int i) ?_ ?_ ?_
  ·intro i v H2 Q' hv s2 k;obtain⟨y,rfl,hy⟩:∃y,v=V.str y/\row.getD i aq.empty=y:=by
    rw[Pf] at hv;cases q:row[i]? with
    | none=>rw[q] at hv;cases hv
    | some y=>rw[q] at hv;exact⟨y,(Pd hv).symm,by simp[List.getD,q]⟩
   refine⟨_,rfl,_,rfl,rfl,_,rfl,?_⟩;have:=k H2 (Same.refl _);rw[hy] at this;have e:decide (V.str y=V.str x)=decide (y=x):=by
    by_cases z:y=x
    ·rw[z];simp
    ·rw[T9 z,T9 (λq=>z (by injection q))]
   rw[e];exact this
  ·intro i v H2 Q' hv hk s2 k;exact⟨_,rfl,k H2 (Same.refl _)⟩
  ·intro D H2 nD s2 hD;have eg:H2 D=some (.lst [.int a,.int b]):=by
    rw[hD,Ow];have:=congrArg (List.map V.int) ((Nj row x).trans fu);rw[P4] at this;rw[show ((List.range row.length).filter λi=>decide (row.getD i aq.empty=x)).map (λi:Nat=>V.int (i:Int))=_ from this];rfl
   refine⟨_,rfl,_,_,_,_,rfl,rfl,SqL.of eg,rfl,_,rfl,_,_,_,_,rfl,rfl,SqL.of eg,rfl,by show 2<=sizeLine;decide,λp np=>?_⟩;have s3:=s1.trans s2;exact kq p _ (s3.free np) Ab (s3.step np)
def Xpb:FnScope ["row"] ["row"] (defScope sSpans):=by walk_at "s"
def Xpc  (F:Fun K "spans" "spans" sSpans f fd) (FD:Fn P w K mg base CX0 1 "ditches" ["row"] spDitches) (FE:Fn P w K mg base (CX1 P w) 2 "ends" ["row", "name"] (Xdq C)):
  FnOk P w K mg base CX0 3 f fd ["row"] spSpans:=by
 refine F.ok Xpb (by walk_at "l") ?_
 ·walk_at "i"
  obtain⟨r,row,rfl,hR,R2,k⟩:=h;have c7:Room 1 _:=hr.mono (by decide);refine⟨_,Ag (Ap (Xc3 (N:=NSp) (cap:=[none,some 0]) (CompScope.of (defScope sSpans) ["row"] rfl rfl rfl (by decide +kernel)) rfl
   (Cf (Ai FD c7 (by rfl) Am (Aa (pv 0) Ac))) (λ_ _ _=>Az (i:=0) (show NSp.Nodup by decide +kernel) rfl (.inl rfl) (.inr rfl)) (λ_ _ _=>C7)
   (λ_ _ _=>pv 0) (λ_ _ _=>Ai (by exact FE) (by exact hr) (by rfl) Hu (Aa (pv 1) (Aa (pv 0) Ac))))),?_⟩
  have hl:=R2.len;refine⟨_,rfl,r,row,rfl,hR,hl,λdi H1 JJ wb s1=>?_⟩;refine⟨di,rfl,⟨_,SqL.of wb⟩,λD nD=>?_⟩;have hn:∀i,i<(dit row).length->((dit row).map V.str).getD i .non = .str ((dit row).getD i aq.empty):=λi hi=>Bv V.str aq.empty _ hi;have wc:=s1 _ _ hR;have l6:=Ei row;refine⟨wN (dit row).length λi Z2 H2=>(∃v, Z2=[v,some (.ref r)])/\Same H1 H2/\∃kvs,H2 D=some (.dK kvs)/\Spn H2 kvs row ((dit row).take i),⟨(dit row).length,by simp,Px _,⟨none,rfl⟩,(Same.refl H1).step nD,[],Ab,⟨rfl,λx hx=>by simp at hx⟩⟩,?_⟩;rintro i m Z1 H2 ⟨rfl,hi,⟨v,rfl⟩,s2,kvs,hD,sp⟩;by_cases bo:i<(dit row).length
  ·have oh:i<((dit row).map V.str).length:=by rw[Ow];exact bo
   obtain⟨g1,g2⟩:=Ef (K:=K) (SqL.of (s2 _ _ wb)) oh;refine .inr ⟨g1,λx H3 y=>?_⟩;obtain⟨e1,e2⟩:=g2 x H3 y;subst e1 e2;rw[hn i bo];generalize hx:(dit row).getD i aq.empty=x;have tS:x∈dit row:=by rw[<-hx];exact C2 bo
   have jd:=Aj.mp tS;have jk:(dit row).take (i+1)=(dit row).take i++[x]:=by
    rw[Pk bo,<-hx];simp[List.getD,bo]
   have fT:x∉(dit row).take i:=by
    have nd:=Ht row;have h2:((dit row).take (i+1)).Nodup:=nd.sublist (Qe ..);rw[jk] at h2;exact λz=>(Qs.mp h2).2.2 x z x (by simp) rfl
   refine⟨_,rfl,_,rfl,_,rfl,r,row,x,rfl,s2 _ _ wc,R2.ok x jd,by lia,λ_=>⟨_,_,Da (R2.two x jd),λl H4 nl we s4=>?_⟩,λz=>absurd jd z⟩;have fe:=s4 _ _ hD;have kl:kvs.length<=60:=by
    have:=sp.len;rw[Pc] at this
    lia
   refine⟨kvs,Sum.inr x,rfl,fe,by rw[T5];lia,?_⟩;refine wskip bo ⟨⟨_,rfl⟩,λb u e=>?_,_,Ab,?_⟩
   ·rw[Ad (Au e nD)];exact s4 _ _ (s2 b u e)
   ·rw[jk];refine sp.snoc fT ?_ λb xs e=>?_
    ·rw[Ad (λz=>by rw[z,fe] at we;cases we)];exact we
    ·have e4:=s4 _ _ e;rw[Ad (λz=>by rw[z,fe] at e4;cases e4)];exact e4
  ·have ei:i=(dit row).length:=by lia
   subst ei;refine .inl ⟨by have:=Eg (K:=K) (SqL.of (s2 _ _ wb));rwa [Ow] at this,?_⟩;rw[Qo] at sp;exact k D kvs H2 (s1.free nD) hD sp (s1.trans s2)
def Oq:FnScope NLo ["here", "there"] (defScope sLieOf):=by walk_at "s"
def Xpd  (F:Fun K "lie_of" "lie_of" sLieOf f fd):FnOk P w K mg base CX0 2 f fd ["here", "there"] spLieOf:=by
 refine F.ok Oq (by walk_at "l") ?_
 ·walk_at "i"
  obtain⟨p,q,a,b,c,e,rfl,hp,hq,l4,k⟩:=h;refine⟨_,Ae (A8 (Aq (Xc6 (hu3 hr)) (pv 0) (pv 1) (Ar _)) (Ag (Ap A7)) Bb)
   (Ae (Ao (i:=2) Oq.nd rfl (.inl rfl) (Xas Ct Ct (A0 (Dx K (by rfl)) (pv 1) Af (λ_ _=>rfl)) (A0 (Dx K (by rfl)) (pv 0) Af (λ_ _=>rfl)) (A0 (Dx K (by rfl)) (pv 1) Af (λ_ _=>rfl))))
   (Ae (Ao (i:=3) Oq.nd rfl (.inl rfl) (Xas Ct Ct (A0 (Dx K (by rfl)) (pv 1) Af (λ_ _=>rfl)) (A0 (Dx K (by rfl)) (pv 0) Af (λ_ _=>rfl)) (A0 (Dx K (by rfl)) (pv 1) Af (λ_ _=>rfl))))
   (Ae (A8 (Aq Ji (pv 2) (pv 3) (Ar _)) (Ag (Ap A7)) Bb)
   (Ae (A8 (Fe (pv 2)) (Ag (Ap A7)) Bb)
   (Ag (Ap (Iz (Lo Ct Ct (A0 (Dx K (by rfl)) (pv 0) Af (λ_ _=>rfl)) (A0 (Dx K (by rfl)) (pv 1) Af (λ_ _=>rfl)) (A0 (Dx K (by rfl)) (pv 0) Af (λ_ _=>rfl))) A7 A7))))))),?_⟩
  have d2:∀{r:ae} {x y:Int},H r=some (.tup [.int x,.int y])->DAt H (.tuple [.int x,.int y]) (.ref r):=λ{r x y} h=>M4 h (Xkf [x,y]);refine⟨_,rfl,_,rfl,.tuple [.int a,.int b],.tuple [.int c,.int e],d2 hp,d2 hq,rfl,rfl,(by show min (max 0 (max 0 0)+1) (max 0 (max 0 0)+1)<=3;decide),_,rfl,?_⟩;have ee:ao.eqv (.tuple [.int a,.int b]) (.tuple [.int c,.int e])=decide (a=c/\b=e):=by
   rw[Qu,J7 _ _ rfl rfl];simp
  rw[ee];have kk:=k H (Same.refl H);refine Aw (λh1=>?_) (λh1=>?_)
  ·unfold lieT at kk;rw[T7 (Ua h1)] at kk;exact kk
  ·have h1:=Ub h1;dsimp only[Fi,Ja,Li,Bm];refine Nk (x:=c) (y:=a) (z:=e) (λQ' h=>⟨_,rfl,q,_,_,_,rfl,rfl,SqT.of hq,rfl,h⟩) (λQ' h=>⟨_,rfl,p,_,_,_,rfl,rfl,SqT.of hp,rfl,h⟩) (λQ' h=>⟨_,rfl,q,_,_,_,rfl,rfl,SqT.of hq,rfl,h⟩) ?_;refine Nk (x:=c) (y:=b) (z:=e) (λQ' h=>⟨_,rfl,q,_,_,_,rfl,rfl,SqT.of hq,rfl,h⟩) (λQ' h=>⟨_,rfl,p,_,_,_,rfl,rfl,SqT.of hp,rfl,h⟩) (λQ' h=>⟨_,rfl,q,_,_,_,rfl,rfl,SqT.of hq,rfl,h⟩) ?_;refine⟨_,rfl,_,rfl,rfl,_,rfl,?_⟩;rw[Ll];refine Aw (λh2=>?_) (λh2=>?_)
   ·rw[Xla h1 (by simpa using h2)] at kk;exact kk
   ·refine⟨_,rfl,_,rfl,?_⟩;refine Aw (λh3=>?_) (λh3=>?_)
    ·rw[Xlb h1 (by simpa using h2) h3] at kk;exact kk
    ·rw[Xlc l4 h1 (by simpa using h2) h3] at kk;dsimp only[Fi,Xae,tIf,Lm];refine Nk (x:=a) (y:=c) (z:=b) (λQ' h=>⟨_,rfl,p,_,_,_,rfl,rfl,SqT.of hp,rfl,h⟩) (λQ' h=>⟨_,rfl,q,_,_,_,rfl,rfl,SqT.of hq,rfl,h⟩) (λQ' h=>⟨_,rfl,p,_,_,_,rfl,rfl,SqT.of hp,rfl,h⟩) ⟨_,rfl,?_⟩;refine Aw (λh4=>?_) (λh4=>?_)
     ·rw[T7 h4] at kk;exact kk
     ·rw[T6 (by rw[h4];exact Pe)] at kk;exact kk
def Xgd:FnScope NCr ["row"] (defScope sCross):=by walk_at "s"
def Xpe  (F:Fun K "crossings" "crossings" sCross f fd) (FS:Fn P w K mg base CX0 3 "spans" ["row"] spSpans) (FO:Fn P w K mg base CX0 2 "lie_of" ["here", "there"] spLieOf):
  FnOk P w K mg base CX0 4 f fd ["row"] Xdv:=by
 refine F.ok Xgd (by walk_at "l") ?_
 ·walk_at "i"
  obtain⟨r,row,rfl,hR,R2,k⟩:=h;have hu:=Ed hr;have fB:Room 2 _:=hr.mono (by decide);refine⟨_,Ae (Ao (i:=1) Xgd.nd rfl (.inr rfl) (Ai FS hr (by rfl) Am (Aa (pv 0) Ac)))
   (Ag (Ap (Xc4 (N:=NCc) (cap:=[none,none,some 1]) (CompScope.of (defScope sCross) NCr rfl rfl rfl (by decide +kernel)) rfl
    (Gk (pv 1)) (λ_ _ _=>Az (i:=0) (show NCc.Nodup by decide +kernel) rfl (.inl rfl) (.inr rfl)) (λ_ _ _=>C7)
    (λ_ _ _=>Gk (pv 2)) (λ_ _ _=>Az (i:=1) (show NCc.Nodup by decide +kernel) rfl (.inl rfl) (.inr rfl))
    (λ_ _ _=>Dj (Fh (Aq Xar (pv 0) (pv 1) (Ar _)) (Ff (Aq Bp (Ai (by exact FO) (by exact fB) (by rfl) Am (Aa (Cu hu (pv 2) (pv 0) (λ_ _=>rfl)) (Aa (Cu hu (pv 2) (pv 1) (λ_ _=>rfl)) Ac))) A7 (Ar _)))).pt)
    (λ_ _ _=>Ca (Aa (pv 0) (Aa (pv 1) Ac)))))),?_⟩
  have hl:=R2.len;have l6:=Ei row;refine⟨_,rfl,r,row,rfl,hR,R2,λd kvs H1 nd hd sp s1=>?_⟩;refine⟨_,rfl,d,kvs,rfl,.inl ⟨hd,λo D nD=>?_⟩⟩;generalize jN:upd H1 d (.frz o (.dK kvs))=H2 at nD;have s2:Same H H2:=λb u e=>by rw[<-jN,Ad (Au e nd)];exact s1 b u e
  have cS:H2 d=some (.frz o (.dK kvs)):=by rw[<-jN];exact Ab
  have jp:Spn H2 kvs row (dit row):=⟨sp.keys,λx hx=>let ⟨l,h1,h2⟩:=sp.val x hx; ⟨l,h1,by rw[<-jN,Ad (λz=>by rw[z,hd] at h2;cases h2)];exact h2⟩⟩;have kl:=jp.len;have go:∀i H3,i<(dit row).length->Same H2 H3->(Itd d o kvs).go i H3/\∀x H4,(Itd d o kvs).yld i H3 x H4->H4=H3/\x = .str ((dit row).getD i aq.empty):=λi H3 hi s3=>by
   have:=Hm (kvs:=kvs) (s3 _ _ cS) (by lia:i<kvs.length);rw[jp.at i hi] at this;exact this
  have mj:∀H3,Same H2 H3->(Itd d o kvs).stop (dit row).length H3:=λH3 s3=>by
   have:=Hn (kvs:=kvs) (s3 _ _ cS)
   rwa [kl] at this
  let ns:=dit row
  let ok:Nat->Nat->Bool:=λi j=>decide (ltS (ns.getD i aq.empty) (ns.getD j aq.empty))&&decide (lieR row (ns.getD i aq.empty) (ns.getD j aq.empty) = "cross")
  let part:Nat->List ao:=λi=>((List.range ns.length).filter (ok i)).map λj=>prD (ns.getD i aq.empty,ns.getD j aq.empty)
  have cj:∀i,(part i).length<=60:=λi=>by
   show (List.map _ _).length<=60;rw[Ow];refine Pu (P1 ..) ?_;rw[Qi];show (dit row).length<=60
   lia
  have dC:∀i,((List.range i).flatMap part).length<=60 * i:=λi=>by
   induction i with
   | zero=>simp
   | succ i ih=>
    rw[Qa,Rz,O2];have:=cj i;simp only[Rw,Sh,P3]
    lia
  refine Xkh (H0:=H2) (xs0:=[]) (n:=ns.length) (λi=>.str (ns.getD i aq.empty)) (λi=>(List.range i).flatMap part) nD ((Same.refl H2).step nD) Ab Ez (fun Z1=>∃v0 v1, Z1=[v0,v1,some (.ref d)]) ⟨none,none,rfl⟩ go mj ?_ ?_
  ·rintro i Z1 xs H3 Q' hi ⟨v0,v1,rfl⟩ s3 hD cW kk;have yI:=C2 hi;refine⟨_,rfl,d,kvs,rfl,.inr ⟨o,s3 _ _ cS,?_⟩⟩;refine M8 (H0:=H2) (n:=ns.length) (λj=>.str (ns.getD j aq.empty)) (ok i) (λj=>prD (ns.getD i aq.empty,ns.getD j aq.empty)) ((List.range i).flatMap part) nD s3 hD cW ?_ go mj ?_ ?_ ?_
   ·have:=dC i;have h2:i<60:=by have:i<(dit row).length:=hi;lia
    have h3:ns.length<=60:=by show (dit row).length<=60;lia
    rw[T5]
    lia
   ·intro j H4 Q2 hj s4 k2;have pi:=C2 hj;refine⟨_,rfl,_,rfl,_,_,rfl,rfl,_,rfl,?_⟩;refine Aw (λq1=>?_) (λq1=>?_)
    ·obtain⟨l1,g1,t1⟩:=(jp.mono s4).get (.inr ⟨o,s4 _ _ cS⟩) yI;obtain⟨l2,g2,t2⟩:=(jp.mono s4).get (.inr ⟨o,s4 _ _ cS⟩) pi;refine⟨_,rfl,_,rfl,d,_,rfl,g1,_,rfl,_,rfl,d,_,rfl,g2,l1,l2,_,_,_,_,rfl,t1,t2,lie4 (R2.two _ (Aj.mp yI)) (R2.two _ (Aj.mp pi)),λH5 s5=>?_⟩;refine⟨rfl,_,rfl,?_⟩;rw[F0];have:=k2 H5 s5;have e1:ok i j=decide (lieR row (ns.getD i aq.empty) (ns.getD j aq.empty) = "cross"):=by
      show (decide _&&decide _)=_;have oj:decide (ltS (ns.getD i aq.empty) (ns.getD j aq.empty))=true:=q1;rw[oj,Qp]
     rw[e1] at this;exact this
    ·have:=k2 H4 (Same.refl _);have e1:ok i j=false:=by
      show (decide _&&decide _)=_;have oj:decide (ltS (ns.getD i aq.empty) (ns.getD j aq.empty))=false:=q1;rw[oj,Qj]
     rw[e1] at this;exact this
   ·intro j iq H4 Q2 hj hk s4 fe k2;refine⟨_,rfl,_,rfl,by show 2<=sizeLine;decide,λp np=>?_⟩;exact k2 _ _ ((Same.refl H4).step np) (Xc9 fe np (M3 [ns.getD i aq.empty,ns.getD j aq.empty]))
   ·intro Z' H4 iq e s4 fe l5;refine kk Z' H4 iq ?_ s4 fe ?_
    ·have l1 : Z'.length=3:=by
      have:=congrArg List.length (e none);simpa using this
     match Z',l1,e with
     | [w0,w1,w2],_,e=>
      have:=e none;simp at this;exact⟨w0,w1,by rw[this.2]⟩
    ·rw[Qa,Rz,Rw,Sh,P3];exact l5
  ·intro Z' H3 xs s3 hD cW;refine k D xs H3 (s2.free nD) hD ?_ (s2.trans s3);have e:(List.range ns.length).flatMap part=(crs row).map prD:=by
    have e1:crs row=(List.range ns.length).flatMap λi=>((List.range ns.length).filter (ok i)).map λj=>(ns.getD i aq.empty,ns.getD j aq.empty):=by
     have em:dit row=(List.range ns.length).map λi=>ns.getD i aq.empty:=by
      have:=Cz aq.empty (λ_=>true) (dit row);rw[Py.mpr (λ_ _=>rfl),Py.mpr (λ_ _=>rfl)] at this;exact this.symm
     show (dit row).flatMap _=_
     conv=>lhs;rw[em]
     rw[List.flatMap_map];congr 1;funext i;have:=Cz aq.empty (λy=>decide (ltS (ns.getD i aq.empty) y)&&decide (lieR row (ns.getD i aq.empty) y = "cross")) (dit row);rw[<-em,<-this,P4];rfl
    rw[e1,List.map_flatMap];congr 1;funext i;rw[P4];rfl
   rw[<-e];exact cW
def Xpf:FnScope ["row", "by"] ["row", "by"] (defScope s_turned):=by walk_at "s"
def Xpg  (F:Fun K "turned" "turned" s_turned f fd) (T:Bl mg):FnOk P w K mg base CX0 1 f fd ["row", "by"] spTrn:=by
 refine F.ok Xpf (by walk_at "l") ?_
 ·walk_at "i"
  obtain⟨r,row,n,rfl,hR,hn,hl,k⟩:=h;refine⟨_,Ae (A8 (G9 (Lo Jj Jj Af (pv 1) (Ax Br (by rfl) T.len aT (Aa (pv 0) Ac)))) (Ag Xo4) Bb)
   (Ag (Ap (Ak B3 (Bt Ci (pv 0) (Bq (pv 1)) Bx) (Bt Ci (pv 0) Bx (Bq (pv 1)))))),?_⟩
  have aO:((row.map V.str).length:Int)=row.length:=by rw[Ow]
  refine⟨_,rfl,_,_,rfl,rfl,_,rfl,?_⟩;refine Aw (λh0=>?_) (λh0=>absurd (Ub h0) (by lia));refine⟨_,rfl,r,_,rfl,.inl (SqL.of hR),_,_,rfl,rfl,_,rfl,?_⟩;rw[aO,T8 (show (n:Int)<=row.length by lia)];refine Bz ?_;refine⟨_,rfl,_,rfl,_,rfl,r,_,rfl,SqL.of hR,λp1 n1=>?_⟩;rw[Ex _ _ _ hn];refine⟨_,rfl,_,rfl,_,rfl,r,_,rfl,SqL.of (ku hR n1),λp2 n2=>?_⟩;rw[Dw _ _ _ hn];refine⟨p1,p2,_,_,rfl,rfl,ku Ab n2,Ab,by rw[T5];simp;lia,λp3 n3=>?_⟩;have s2:=((Same.refl H).go n1 n2).go n2 n3;exact k p3 _ (s2.free n3) (Ab.trans (by unfold Bc;simp)) (s2.step n3)
def Xph:FnScope ["row"] ["row"] (defScope s_mirrored):=by walk_at "s"
def Xpi  (F:Fun K "mirrored" "mirrored" s_mirrored f fd):FnOk P w K mg base CX0 1 f fd ["row"] Xgb:=by
 refine F.ok Xph (by walk_at "l") ?_
 ·walk_at "i"
  obtain⟨r,row,rfl,hR,k⟩:=h;refine⟨_,Ag (Ap (Mf (pv 0))),?_⟩;refine⟨_,rfl,r,_,rfl,SqL.of hR,λl nl=>?_⟩;exact k l _ nl (Ab.trans (by rw[List.map_reverse])) ((Same.refl H).step nl)
def Xpj:FnScope ["names"] ["names"] (defScope sTold):=by walk_at "s"
def Xpk  (F:Fun K "told" "told" sTold f fd) (T:Bl mg):FnOk P w K mg base CX0 1 f fd ["names"] (spTold K):=by
 refine F.ok Xpj (by walk_at "l") ?_
 ·walk_at "i"
  obtain⟨p,ss,rfl,hR,hl,k⟩:=h;refine⟨_,Ag (Ap (B1 Es (by rfl) T.tuple (by rfl) (Aa (Ax (Jx rfl) (by rfl) T.sorted (by rfl) (Aa (B1 (Hr rfl) (by rfl) T.set (by rfl) (Aa (pv 0) Ac)) Ac)) Ac))),?_⟩;refine⟨_,rfl,p,ss,rfl,hR,by unfold aW;lia,λa na=>?_⟩;have l6:=Hq ss;refine⟨a,ddup ss,rfl,Ab,by lia,λl ls nl hp hs=>?_⟩;have s1:Same H (upd H a (Ew P w a (ddup ss))):=(Same.refl H).step na;refine⟨l,_,rfl,.inl ⟨SqL.of Ab,λt nt=>?_⟩⟩;have s2:=s1.step (o:=.lst (ls.map V.str)) nl;refine k t _ (s2.free nt) ?_ (s2.step nt);rw[Ab,Gg hp hs];rfl
def Xpl:FnScope ["some"] ["some"] (defScope s_in_order):=by walk_at "s"
def Xpm  (F:FunT K "in_order" s_in_order f fd T) (B:Bl mg) (nP:BmOk mg base):FnOk P w K mg base CX0 4 f fd ["some"] (spInOrder T (lamPos s_in_order)):=by
 refine F.ok Xpl (λvs H Q E h=>?_) (λc0 hhd A outer s H vs Q E hr h=>?_)
 ·obtain⟨l,ps,Ts,rfl,_⟩:=h;rfl
 ·obtain⟨l,ps,Ts,rfl,hl,hT,nd,cV,tab,k⟩:=h;refine⟨_,Ag (Ap (Xfb (show (A.deeper (aM "in_order" (defScope s_in_order) s.heap.objs.size f (.ref c0))).units+1+1<bz by have:=hr.un;lia) (by rfl) B.sorted (by rfl) (Aa (pv 0) Ac) (Xav (Xk0 (T:=T) (c0:=c0) (q:=qIn) nP rfl rfl rfl hhd rfl) Xau))),?_⟩;refine⟨_,rfl,⟨tab,λf' c pm iX H' nf hf hc lF kp=>?_⟩⟩;have yJ:∀b o,H b=some o->(∀z,o ≠ .tbl z)->b≠T:=λb o e n z=>by
   rcases tab with q | ⟨_,q,_⟩<;>(rw[z,q] at e;cases e;exact n _ rfl)
  have m5:Tups H' ps Ts:=⟨hT.1,λi hi=>kp _ _ (hT.2 i hi) (yJ _ _ (hT.2 i hi) λz=>by simp)⟩;refine⟨l,f',ps,Ts,rfl,rfl,kp _ _ hl (yJ _ _ hl λz=>by simp),m5,nd,cV,?_,λD p H2 nD g so sm hD=>?_⟩
  ·refine Xni (k:=0) (x := "plot") hf hc ⟨rfl,rfl,rfl,by decide +kernel,rfl,by decide +kernel,by decide +kernel⟩ hr (λu=>rfl) λA1 wf s1 H1 i hi sm c7=>?_;refine⟨_,Ca (Aa (Ax Br (by rfl) B.len aT (Aa (pv 0) Ac)) (Aa (pv 0) Ac)),λQ1 kk=>?_⟩;have hp:=sm _ _ (m5.2 i hi);refine⟨_,rfl,ps.getD i 0,_,rfl,.inr (SqT.of hp),_,rfl,by show 2<=sizeLine;decide,λt nt=>?_⟩;refine kk t _ ?_ (Same.upd0 nt);rw[Ab,Ow]
  ·obtain⟨wg,fG⟩:=Xfw (Ts:=Ts) (by rw[<-hT.1];exact g) (by rw[<-hT.1];exact so);refine k D _ _ H2 ?_ hD ((Xfy m5 g).same sm) wg fG (SH.Bi.same lF sm) λb o e n=>sm _ _ (kp b o e n);cases e:H D with
   | none=>rfl
   | some o=>
    by_cases z:D=T
    ·rcases lF with q | ⟨_,q,_⟩<;>(rw[<-z,nD] at q;cases q)
    ·rw[kp D o e z] at nD;cases nD
def Xpn:FnScope ["how", "off"] ["how", "off"] (defScope sAllows):=by walk_at "s"
def Xpo  (F:Fun K "allows" "allows" sAllows f fd):FnOk P w K mg base CX0 1 f fd ["how", "off"] spAllows:=by
 refine F.ok Xpn (by walk_at "l") ?_
 ·walk_at "i"
  obtain⟨gW,kt,rfl,k⟩:=h;refine⟨_,Ae (A8 (Aq Bp (pv 0) A7 (Ar _)) (Ag (Ap (pv 1))) Bb)
   (Ag (Ap (Xg2 (Ea Ji (pv 0) A7 (Ar _)) (Lf (Xg3 (pv 1)))))),?_⟩
  refine⟨_,rfl,rfl,_,rfl,?_⟩;rw[F0];unfold B9 at k;refine Aw (λq=>?_) (λq=>?_)
  ·rw[T7 (Ua q)] at k;exact⟨_,rfl,k⟩
  ·rw[T6 (Ub q)] at k;refine⟨_,rfl,rfl,_,rfl,?_⟩;rw[F0];refine Aw (λq2=>?_) (λq2=>?_)
   ·rw[q2,Bool.true_or] at k;exact k
   ·rw[q2,Bool.false_or] at k;exact⟨_,rfl,kt,rfl,k⟩
def Xge:FnScope NIp ["row", "plot"] (defScope sIsPlot):=by walk_at "s"
def Xpp  (F:Fun K "is_plot" "is_plot" sIsPlot f fd) (T:Bl mg) (FS:Fn P w K mg base CX0 3 "spans" ["row"] spSpans) (FO:Fn P w K mg base CX0 2 "lie_of" ["here", "there"] spLieOf)
  (FT:Fn P w K mg base CX0 1 "told" ["names"] (spTold K)) (FA:Fn P w K mg base CX0 1 "allows" ["how", "off"] spAllows):FnOk P w K mg base CX0 4 f fd ["row", "plot"] Xdz:=by
 refine F.ok Xge (by walk_at "l") ?_
 ·walk_at "i"
  obtain⟨r,p,row,ss,rfl,hR,R2,hP,hok,lg,k⟩:=h;have hu:=Ed hr;have c7:Room 1 _:=hr.mono (by decide);have fB:Room 2 _:=hr.mono (by decide);refine⟨_,Ae (Ao (i:=2) Xge.nd rfl (.inr rfl) (Ai FS hr (by rfl) Am (Aa (pv 0) Ac)))
   (Ae (A8 (Ep (Aq (Hy (hu3 hr)) (pv 1) (Ai FT c7 (by rfl) Am (Aa (pv 1) Ac)) (Ar _))
     (Fg (Fe (Ax (Xkj rfl) (by rfl) T.any (by rfl) (Aa (Ek (N:=NI1) (cap:=[none,some 2]) (CompScope.of (defScope sIsPlot) NIp rfl rfl rfl (by decide +kernel)) rfl
      (F8 (pv 1)) (λ_ _ _=>Az (i:=0) (show NI1.Nodup by decide +kernel) rfl (.inl rfl) (.inr rfl)) (λ_ _ _=>C7) (λ_ _ _=>Xgz (Xh6 (by exact hu) (pv 0) (pv 1)) (by rfl))) Ac))))).pt
    (Ag (Ap Dt)) Bb)
   (Ag (Ap (Ax (Mi rfl) (by rfl) T.all (by rfl) (Aa (Xc4 (N:=NI2) (cap:=[none,none,some 1,some 2]) (CompScope.of (defScope sIsPlot) NIp rfl rfl rfl (by decide +kernel)) rfl
    (F8 (pv 1)) (λ_ _ _=>Az (i:=0) (show NI2.Nodup by decide +kernel) rfl (.inl rfl) (.inr rfl)) (λ_ _ _=>C7)
    (λ_ _ _=>Gk (pv 3)) (λ_ _ _=>Az (i:=1) (show NI2.Nodup by decide +kernel) rfl (.inl rfl) (.inr rfl)) (λ_ _ _=>C7)
    (λ_ _ _=>Ai (by exact FA) (by exact c7) (by rfl) Am (Aa (Ai (by exact FO) (by exact fB) (by rfl) Am (Aa (Cu (by exact hu) (pv 3) (pv 0) (λ_ _=>rfl)) (Aa (Cu (by exact hu) (pv 3) (pv 1) (λ_ _=>rfl)) Ac)))
     (Aa (Ea (Mw K (by rfl)) (pv 1) (pv 2) (by rfl)) Ac)))) Ac))))),?_⟩
  have hl:=R2.len;have l6:=Ei row;refine⟨_,rfl,r,row,rfl,hR,R2,λd kvs H1 nd hd sp s1=>?_⟩;have m6:=s1 _ _ hP;refine⟨_,rfl,_,rfl,p,ss,rfl,.inr (SqT.of m6),lg,λt H2 nt ht s2=>?_⟩;have gX:=s1.trans s2;have iL:=s2 _ _ m6;refine⟨_,_,Dm iL,Dm ht,C9 _ (E6 hok),C9 _ (E6 (Xd0 hok)),Xdy _ _,_,rfl,?_⟩;rw[Nr hok (Xd0 hok)];by_cases e1:ss=told ss
  ·rw[T8 e1];refine Bz ?_;refine⟨_,rfl,p,rfl,⟨_,SqT.of iL⟩,?_⟩;have cS:=s2 _ _ hd;have jp:=sp.mono s2;refine Mx (n:=ss.length) (by rw[T5];lia) (λi=>(ss.map V.str).getD i .non) (λi=>.bl (!decide (ss.getD i aq.empty∈row))) ?_ ?_ ?_ ?_
   ·intro i H3 hi s3;exact Gc (SqT.of (s3 _ _ iL)) (by rw[Ow];exact hi)
   ·intro H3 s3;have:=Ge (K:=K) (SqT.of (s3 _ _ iL))
    rwa [Ow] at this
   ·intro i H3 Q' hi s3 kk;rw[Bv V.str aq.empty ss hi];refine⟨_,rfl,_,rfl,d,_,rfl,.inl ⟨kvs,Sum.inr _,.inl (s3 _ _ cS),rfl,rfl⟩,?_⟩;rw[jp.has];exact kk H3 (Same.refl _)
   ·intro D H3 nD s3 hD;have eg:H3 D=some (.lst (((List.range ss.length).map λi => !decide (ss.getD i aq.empty∈row)).map V.bl)):=by rw[hD,P4];rfl
    refine⟨D,_,rfl,eg,_,rfl,?_⟩;rw[Xlg aq.empty (λx => !decide (x∈row)) ss];have eR:=gX.trans s3;have e2:(ss.any λx => !decide (x∈row)) = !(ss.all λx=>decide (x∈row)):=by rw[List.not_all_eq_any_not]
    rw[e2];cases e3:ss.all (λx=>decide (x∈row)) with
    | false=>
     refine Cb ?_;have:=k H3 eR;unfold An at this;rw[e3,Tk,Qj] at this;exact this
    | true=>
     refine Bz ?_;have dB:∀x∈ss,x∈row:=λx hx=>Ua (Po.mp e3 x hx);have gY:=s3 _ _ iL;have pj:=s3 _ _ cS;have wj:=jp.mono s3;refine⟨_,rfl,p,rfl,⟨_,SqT.of gY⟩,λD2 m7=>?_⟩;have kl:=wj.len;have rF:p≠d:=λz=>by rw[z,pj] at gY;cases gY
     have i5:D2≠d:=(Au pj m7).symm;have rG:hid d H3 D2=none:=by
      unfold hid;rw[T6 i5];exact m7
     have om:hid d H3 p=some (.tup (ss.map V.str)):=C0 gY rF
     let part:Nat->List Bool:=λi=>(dit row).map λy=>B9 (lieR row (ss.getD i aq.empty) y) (decide (y∈ss))
     refine Xki (H0:=hid d H3) (xs0:=[]) (n:=ss.length) (λi=>.str (ss.getD i aq.empty)) (λi=>((List.range i).flatMap part).map ao.bool) (λH4=>Rd H4 d (.dK kvs)) rG ((Fy d H3).trans ((Same.refl H3).step m7)) (.inl (ku pj m7)) Ab Ez
      (fun Z1=>∃v0 v1, Z1=[v0,v1,some (.ref p),some (.ref d)]) ⟨none,none,rfl⟩ ?_ ?_ ?_ ?_
     ·intro i H4 hi s4;have:=Gc (K:=K) (SqT.of (s4 _ _ om)) (show i<(ss.map V.str).length by rw[Ow];exact hi)
      rwa [Bv V.str aq.empty ss hi] at this
     ·intro H4 s4;have:=Ge (K:=K) (SqT.of (s4 _ _ om))
      rwa [Ow] at this
     ·rintro i Z1 xs H4 Q' hi ⟨v0,v1,rfl⟩ s4 g4 fe cW kk;have jd:ss.getD i aq.empty∈row:=dB _ (C2 hi);have main:∀(wk:TE) (o:aU) (H5:Hp),(∀(j:Nat) (H6:Hp) (Q2:VK) (l1 l2:ae),j<(dit row).length->DGet H6 d (.str (ss.getD i aq.empty)) (some (.ref l1))->H6 l1=some (.tup [.int (pl row (ss.getD i aq.empty)).1,.int (pl row (ss.getD i aq.empty)).2]) ->
        DGet H6 d (.str ((dit row).getD j aq.empty)) (some (.ref l2))->H6 l2=some (.tup [.int (pl row ((dit row).getD j aq.empty)).1,.int (pl row ((dit row).getD j aq.empty)).2])->H6 p=some (.tup (ss.map V.str))->(∀H',Same H6 H'->Q2 (.bl (B9 (lieR row (ss.getD i aq.empty) ((dit row).getD j aq.empty)) (decide ((dit row).getD j aq.empty∈ss)))) H') ->
        wk [some (.str (ss.getD i aq.empty)),some (.str ((dit row).getD j aq.empty)),some (.ref p),some (.ref d)] H6 Q2)->H5 d=some (.frz o (.dK kvs))->Same (hid d H3) H5->H5 D2=some (.lst xs)->DAll (hid D2 H5) (((List.range i).flatMap part).map ao.bool) xs ->
        tLp (Bm 1) Fs (Hw wk D2) (Itd d o kvs) ([some (.str (ss.getD i aq.empty)),v1,some (.ref p),some (.ref d)]:L2.St) H5 Q':=λwk o H5 DG DH s5 rH wn=>by
       have cj:∀j,(part j).length<=60:=λj=>by
        show (List.map _ _).length<=60;rw[Ow]
        lia
       have dC:∀j,(((List.range j).flatMap part).map ao.bool).length<=60 * j:=λj=>by
        rw[Ow]
        induction j with
        | zero=>simp
        | succ j ih=>
         rw[Qa,Rz,O2,Rw,Sh,P3];have:=cj j
         lia
       have jO:hid D2 H5 d=some (.frz o (.dK kvs)):=C0 DH i5.symm;have gO:Spn (hid D2 H5) kvs row (dit row):=⟨wj.keys,λx hx=>let ⟨l,h1,h2⟩:=wj.val x hx; ⟨l,h1,C0 (s5 _ _ (C0 h2 (λz=>by rw[z,pj] at h2;cases h2))) (λz=>by rw[z,m7] at h2;cases h2)⟩⟩;have rJ:hid D2 H5 p=some (.tup (ss.map V.str)):=C0 (s5 _ _ om) (λz=>by rw[z,m7] at gY;cases gY);refine M8 (H0:=hid D2 H5) (n:=(dit row).length) (λj=>.str ((dit row).getD j aq.empty)) (λ_=>true) (λj=>.bool (B9 (lieR row (ss.getD i aq.empty) ((dit row).getD j aq.empty)) (decide ((dit row).getD j aq.empty∈ss)))) (((List.range i).flatMap part).map ao.bool)
        (T7 rfl) (Fy D2 H5) rH wn (by have:=dC i;have h2:i<60:=(by lia);rw[T5];lia) ?_ ?_ ?_ ?_ ?_
       ·intro j H6 hj s6;have:=Hm (kvs:=kvs) (s6 _ _ jO) (by lia:j<kvs.length)
        rwa [gO.at j hj] at this
       ·intro H6 s6;have:=Hn (kvs:=kvs) (s6 _ _ jO)
        rwa [kl] at this
       ·intro j H6 Q2 hj s6 k2;exact k2 H6 (Same.refl _)
       ·intro j iq H6 Q2 hj _ s6 rK k2;have DI:=C2 hj;obtain⟨l1,g1,t1⟩:=(gO.mono s6).get (.inr ⟨o,s6 _ _ jO⟩) (Aj.mpr jd);obtain⟨l2,g2,t2⟩:=(gO.mono s6).get (.inr ⟨o,s6 _ _ jO⟩) DI;exact DG j H6 Q2 l1 l2 hj g1 t1 g2 t2 (s6 _ _ rJ) λH' s'=>k2 _ _ s' (by unfold DAt;rfl)
       ·intro Z' H6 iq e6 s6 rK je;refine kk Z' H6 iq ?_ (λb u e=>?_) (.inr ⟨o,s6 _ _ jO⟩) rK ?_
        ·have l1 : Z'.length=4:=by
          have:=congrArg List.length (e6 none);simpa using this
         match Z',l1,e6 with
         | [w0,w1,w2,w3],_,e6=>
          have:=e6 none;simp at this;exact⟨w0,w1,by rw[this.2.1,this.2.2]⟩
        ·refine s6 _ _ (C0 (s5 _ _ e) (λz=>?_));rw[z,rG] at e;cases e
        ·rw[Py.mpr (λ_ _=>rfl)] at je;have em:(List.range (dit row).length).map (λj=>ao.bool (B9 (lieR row (ss.getD i aq.empty) ((dit row).getD j aq.empty)) (decide ((dit row).getD j aq.empty∈ss))))=(part i).map ao.bool:=by
          show _=((dit row).map _).map _;have this:=Cz aq.empty (λ_=>true) (dit row);rw[Py.mpr (λ_ _=>rfl),Py.mpr (λ_ _=>rfl)] at this
          conv=>rhs;rw[<-this]
          rw[P4,P4];rfl
         rw[em] at je;rw[Qa,Rz,O9,Rw,Sh,P3];exact je
      rcases g4 with g4 | ⟨o,g4⟩
      ·refine⟨_,rfl,d,kvs,rfl,.inl ⟨g4,λo=>?_⟩⟩;refine main _ o _ (λj H6 Q2 l1 l2 hj g1 t1 g2 t2 jP k2=>⟨_,rfl,_,rfl,d,_,rfl,g1,_,rfl,_,rfl,d,_,rfl,g2,l1,l2,_,_,_,_,rfl,t1,t2,lie4 (R2.two _ jd) (R2.two _ (Aj.mp (C2 hj))),λH7 s7=>⟨_,rfl,_,rfl,p,_,rfl,.inr (SqT.of (s7 _ _ jP)),rfl,Cy ss,_,_,rfl,by rw[T6 (by decide),Dl];exact k2 H7 s7⟩⟩) Ab (λb u e=>?_) (by rw[Ad i5];exact fe) ?_
       ·rw[Ad (λz=>by rw[z] at e;unfold hid at e;rw[T7 rfl] at e;cases e)];exact s4 _ _ e
       ·rw[Nq cW];have gb:∀bs:List Bool,DAll (hid D2 (upd H4 d (.frz o (.dK kvs)))) (bs.map ao.bool) (bs.map V.bl):=λbs=>by
         induction bs with
         | nil=>exact Ez
         | cons b bs ih=>exact Hx (by unfold DAt;rfl) ih
        exact gb _
      ·exact⟨_,rfl,d,kvs,rfl,.inr ⟨o,g4,main _ o H4 (λj H6 Q2 l1 l2 hj g1 t1 g2 t2 jP k2=>⟨_,rfl,_,rfl,d,_,rfl,g1,_,rfl,_,rfl,d,_,rfl,g2,l1,l2,_,_,_,_,rfl,t1,t2,lie4 (R2.two _ jd) (R2.two _ (Aj.mp (C2 hj))),λH7 s7=>⟨_,rfl,_,rfl,p,_,rfl,.inr (SqT.of (s7 _ _ jP)),rfl,Cy ss,_,_,rfl,by rw[T6 (by decide),Dl];exact k2 H7 s7⟩⟩) g4 s4 fe cW⟩⟩
     ·intro Z' H4 xs s4 g4 fe cW;have hx:=Nq cW;subst hx;refine⟨D2,_,rfl,fe,?_⟩;have ef:((List.range ss.length).flatMap part).all id=ss.all λx=>(dit row).all λy=>B9 (lieR row x y) (decide (y∈ss)):=by
       have e5:(List.range ss.length).flatMap part=ss.flatMap λx=>(dit row).map λy=>B9 (lieR row x y) (decide (y∈ss)):=Xlh aq.empty (λx=>(dit row).map λy=>B9 (lieR row x y) (decide (y∈ss))) ss;rw[e5,Xd1];congr 1;funext x;rw[List.all_map];rfl
      rw[ef];have qR:Same H H4:=λb u e=>s4 _ _ (C0 (eR _ _ e) (λz=>by rw[z,nd] at e;cases e));have:=k H4 qR;unfold An at this;rw[T8 e1,e3,Qp,Qp] at this;exact this
  ·rw[T9 e1];refine Cb ?_;have:=k H2 gX;unfold An at this;rw[T9 e1,Qj,Qj] at this;exact this
def Xpq:FnScope ["row", "plot"] ["row", "plot"] (defScope s_ask_plot):=by walk_at "s"
def Xpr  (F:Fun K "ask_plot" "ask_plot" s_ask_plot f fd) (hC:mg "NoPlot" = some (.ref C)) (hc:LH K C bmV "ValueError.__new__" = true) (FX:Fn P w K mg base CX0 4 "is_plot" ["row", "plot"] Xdz):
  FnOk P w K mg base (CX1 P w) 5 f fd ["row", "plot"] (spAskPlot C):=by
 refine F.ok1 Xpq (by walk_at "l") ?_
 ·walk_at "i"
  obtain⟨r,p,row,ss,rfl,hR,R2,hP,hok,lg,kq,ke⟩:=h;refine⟨_,Ag (A8 (G9 (Fe (Ai FX hr (by rfl) Am (Aa (pv 0) (Aa (pv 1) Ac)))))
   (Ag (Me (C:=C) (E:=E) hc rfl leaves1 (by rfl) hC (Aa (Mn (Fv (by decide +kernel) (Xkt hr (pv 1) (Fv (by decide +kernel) Mm)))) Ac))) Bb),?_⟩
  refine⟨_,rfl,_,rfl,r,p,row,ss,rfl,hR,R2,hP,hok,by lia,λH1 s1=>⟨_,rfl,?_⟩⟩;cases e:An row ss with
  | true=>exact Bz (kq e H1 s1)
  | false=>
   refine Cb ⟨_,rfl,p,ss,rfl,s1 _ _ hP,lg,Xlu hok,λz=>?_⟩;exact⟨by show 1<=sizeLine;decide,ke e H1 s1⟩
def Ix:FnScope NPp ["row"] (defScope s_plots):=by walk_at "s"
def Xps  (F:Fun K "plots" "plots" s_plots f fd) (FS:Fn P w K mg base CX0 3 "spans" ["row"] spSpans) (FO:Fn P w K mg base CX0 2 "lie_of" ["here", "there"] spLieOf) (FT:Fn P w K mg base CX0 1 "told" ["names"] (spTold K)) (FC:Fn P w K mg base CX0 4 "crossings" ["row"] Xdv)
  (FI:Fn P w K mg base CX0 4 "in_order" ["some"] (spInOrder T (lamPos s_in_order))):FnOk P w K mg base CX0 5 f fd ["row"] (Xf3 T (lamPos s_in_order)):=by
 refine F.ok Ix (by walk_at "l") ?_
 ·walk_at "i"
  obtain⟨r,row,rfl,hR,R2,h3,tT,tab,k⟩:=h;have hu:=Ed hr;have c7:Room 1 _:=hr.mono (by decide);have fB:Room 2 _:=hr.mono (by decide);have rL:Room 3 _:=hr.mono (by decide);refine⟨_,Ae (Ao (i:=1) Ix.nd rfl (.inr rfl) (Ai FS rL (by rfl) Am (Aa (pv 0) Ac)))
   (Ae (Ao (i:=2) Ix.nd rfl (.inr rfl) (Xc3 (N:=NPo) (cap:=[none,some 1]) (CompScope.of (defScope s_plots) NPp rfl rfl rfl (by decide +kernel)) rfl
    (Gk (pv 1)) (λ_ _ _=>Az (i:=0) (show NPo.Nodup by decide +kernel) rfl (.inr rfl) (.inl rfl)) (λ_ _ _=>C7) (λ_ _ _=>pv 0)
    (λs0 H0 ex=>Ek (N:=NPi) (cap:=[none,some 0,some 1]) (CompScope.of _ NPo rfl rfl rfl (by kernel_rfl)) rfl
     (Gk (pv 1)) (λ_ _ _=>Az (i:=0) (show NPi.Nodup by decide +kernel) rfl (.inl rfl) (.inr rfl))
     (λ_ _ _=>Dj (Aq (Mw K (by rfl)) (Ai (by exact FO) (by exact fB) (by rfl) Am (Aa (Cu hu (pv 2) (pv 1) (λ_ _=>rfl)) (Aa (Cu hu (pv 2) (pv 0) (λ_ _=>rfl)) Ac))) (Ca (Aa A7 (Aa A7 Ac))) (by rfl)))
     (λ_ _ _=>pv 0))))
   (Ae (Xf2 (i:=3) (N:=NPs) (cap:=[none,some 2]) (CompScope.of (defScope s_plots) NPp rfl rfl rfl (by decide +kernel)) rfl Ix.nd rfl rfl
    (Gk (pv 2)) (λ_ _ _=>Az (i:=0) (show NPs.Nodup by decide +kernel) rfl (.inl rfl) (.inr rfl)) (λ_ _ _=>C7)
    (λ_ _ _=>Ai (by exact FT) (by exact c7) (by rfl) Am (Aa (Cu hu (pv 1) (pv 0) (λ_ _=>rfl)) Ac)))
   (Ae (Xf2 (i:=4) (N:=NPd) (cap:=[none,none,some 2]) (CompScope.of (defScope s_plots) NPp rfl rfl rfl (by decide +kernel)) rfl Ix.nd rfl rfl
    (Cf (Ai FC hr (by rfl) Am (Aa (pv 0) Ac))) (λ_ _ _=>Xct K 2 rfl rfl (D9 (Az (i:=0) (show NPd.Nodup by decide +kernel) rfl (.inl rfl) (.inr rfl)) (D9 (Az (i:=1) (show NPd.Nodup by decide +kernel) rfl (.inl rfl) (.inr rfl)) Jc))) (λ_ _ _=>C7)
    (λ_ _ _=>Ai (by exact FT) (by exact c7) (by rfl) Am (Aa (Ak B3 (Cu hu (pv 2) (pv 0) (λ_ _=>rfl)) (Cu hu (pv 2) (pv 1) (λ_ _=>rfl))) Ac)))
   (Ag (Ap (Ai FI hr (by rfl) Am (Aa (Ak B3 (Ak B3 (B7 (Aa (Ca Ac) Ac)) (pv 3)) (pv 4)) Ac))))))),?_⟩
  have hl:=R2.len;have l6:=Ei row;refine⟨_,rfl,r,row,rfl,hR,R2,λd kvs H1 nd hd sp s1=>?_⟩;refine⟨_,rfl,d,kvs,rfl,.inl ⟨hd,λo D nD=>?_⟩⟩;generalize jN:upd H1 d (.frz o (.dK kvs))=H2 at nD;have s2:Same H H2:=λb u e=>by rw[<-jN,Ad (Au e nd)];exact s1 b u e
  have cS:H2 d=some (.frz o (.dK kvs)):=by rw[<-jN];exact Ab
  have jp:Spn H2 kvs row (dit row):=⟨sp.keys,λx hx=>let ⟨l,h1,h2⟩:=sp.val x hx; ⟨l,h1,by rw[<-jN,Ad (λz=>by rw[z,hd] at h2;cases h2)];exact h2⟩⟩;have kl:=jp.len;have go:∀i H3,i<(dit row).length->Same H2 H3->(Itd d o kvs).go i H3/\∀x H4,(Itd d o kvs).yld i H3 x H4->H4=H3/\x = .str ((dit row).getD i aq.empty):=λi H3 hi s3=>by
   have:=Hm (kvs:=kvs) (s3 _ _ cS) (by lia:i<kvs.length);rw[jp.at i hi] at this;exact this
  have mj:∀H3,Same H2 H3->(Itd d o kvs).stop (dit row).length H3:=λH3 s3=>by
   have:=Hn (kvs:=kvs) (s3 _ _ cS)
   rwa [kl] at this
  refine⟨wN (dit row).length λi Z2 H3=>(∃v, Z2=[v,some (.ref d)])/\Same H2 H3/\∃jq,H3 D=some (.dK jq)/\Offs H3 jq row ((dit row).take i),⟨(dit row).length,by simp,Px _,⟨none,rfl⟩,(Same.refl H2).step nD,[],Ab,⟨rfl,λx hx=>by simp at hx⟩⟩,?_⟩;rintro i m Z1 H3 ⟨rfl,hi,⟨v,rfl⟩,s3,jq,hD,rM⟩;by_cases bo:i<(dit row).length
  ·obtain⟨g1,g2⟩:=go i H3 bo s3;refine .inr ⟨g1,λx H4 y=>?_⟩;obtain⟨e1,e2⟩:=g2 x H4 y;subst e1 e2;generalize hx:(dit row).getD i aq.empty=x;have tS:x∈dit row:=by rw[<-hx];exact C2 bo
   have jd:=Aj.mp tS;have jk:(dit row).take (i+1)=(dit row).take i++[x]:=by
    rw[Pk bo,<-hx];simp[List.getD,bo]
   have fT:x∉(dit row).take i:=by
    have nd:=Ht row;have h2:((dit row).take (i+1)).Nodup:=nd.sublist (Qe ..);rw[jk] at h2;exact λz=>(Qs.mp h2).2.2 x z x (by simp) rfl
   refine⟨_,rfl,_,rfl,d,kvs,rfl,.inr ⟨o,s3 _ _ cS,?_⟩⟩;refine Ey (n:=(dit row).length) (by rw[T5];lia) (λj=>.str ((dit row).getD j aq.empty)) (λj=>upB row x ((dit row).getD j aq.empty)) (λj=>.str ((dit row).getD j aq.empty)) ?_ ?_ ?_ ?_ ?_
   ·exact λj H5 hj s5=>go j H5 hj (s3.trans s5)
   ·exact λH5 s5=>mj H5 (s3.trans s5)
   ·intro j H5 Q' hj s5 kk;have tU:=s3.trans s5;have pi:=C2 hj;obtain⟨l1,wo,t1⟩:=(jp.mono tU).get (.inr ⟨o,tU _ _ cS⟩) tS;obtain⟨l2,wq,t2⟩:=(jp.mono tU).get (.inr ⟨o,tU _ _ cS⟩) pi;refine⟨_,rfl,_,rfl,d,_,rfl,wo,_,rfl,_,rfl,d,_,rfl,wq,l1,l2,_,_,_,_,rfl,t1,t2,lie4 (R2.two x jd) (R2.two _ (Aj.mp pi)),λH6 s6=>?_⟩;refine⟨by show 2<=sizeLine;decide,λt nt=>?_⟩;refine⟨t,[aq.ofString "same",aq.ofString "within"].map V.str,rfl,.inr (SqT.of Ab),rfl,Cy _,_,rfl,?_⟩;rw[T6 (by decide),Dl];have e:=Xoo (row:=row) (x:=x) (y:=(dit row).getD j aq.empty) (R2.two x jd) (R2.two _ (Aj.mp pi));unfold lieR at e;rw[e];exact kk _ (s6.step nt)
   ·intro j H5 Q' hj hk s5 kk;exact⟨_,rfl,kk H5 (Same.refl _)⟩
   ·intro l H5 nl s5 m8;have on:H5 l=some (.lst (((dit row).filter (upB row x)).map V.str)):=by
     rw[m8,<-Cz aq.empty (upB row x) (dit row),P4];rfl
    have rH:=s5 _ _ hD;have yK:jq.length<=60:=by
     have:=rM.len;rw[Pc] at this
     lia
    refine⟨jq,Sum.inr x,rfl,rH,by rw[T5];lia,?_⟩;refine wskip bo ⟨⟨_,rfl⟩,λb u e=>?_,_,Ab,?_⟩
    ·rw[Ad (Au e nD)];exact s5 _ _ (s3 b u e)
    ·rw[jk];refine rM.snoc fT ?_ λb xs e=>?_
     ·rw[Ad (λz=>by rw[z,rH] at on;cases on)];exact on
     ·have e4:=s5 _ _ e;rw[Ad (λz=>by rw[z,rH] at e4;cases e4)];exact e4
  ·have ei:i=(dit row).length:=by lia
   subst ei;refine .inl ⟨mj H3 s3,?_⟩;rw[Qo] at rM;have DJ:=s2.trans s3;refine⟨_,rfl,D,jq,rfl,.inl ⟨hD,λo2 L nL=>?_⟩⟩;generalize wt:upd H3 D (.frz o2 (.dK jq))=H4 at nL;have DK:H D=none:=s2.free nD;have s4:Same H H4:=λb u e=>by rw[<-wt,Ad (Au e DK)];exact DJ b u e
   have fe:H4 D=some (.frz o2 (.dK jq)):=by rw[<-wt];exact Ab
   have tV:Offs H4 jq row (dit row):=⟨rM.keys,λx hx=>let ⟨l,h1,h2⟩:=rM.val x hx; ⟨l,h1,by rw[<-wt,Ad (λz=>by rw[z,hD] at h2;cases h2)];exact h2⟩⟩;have yK:=tV.len;have fl:∀x,((dit row).filter (upB row x)).length<=14:=λx=>Pu (P1 ..) (by lia);refine M8 (H0:=H4) (xs0:=[]) (n:=(dit row).length) (λj=>.str ((dit row).getD j aq.empty)) (λ_=>true) (λj=>tupD ((dit row).filter (upB row ((dit row).getD j aq.empty)))) [] nL ((Same.refl H4).step nL) Ab Ez (by rw[T5,Q8];lia) ?_ ?_ ?_ ?_ ?_
   ·intro j H5 hj s5;have:=Hm (kvs:=jq) (s5 _ _ fe) (by lia:j<jq.length);rw[tV.at j hj] at this;exact this
   ·intro H5 s5;have:=Hn (kvs:=jq) (s5 _ _ fe)
    rwa [yK] at this
   ·exact λj H5 Q' hj s5 kk=>kk H5 (Same.refl _)
   ·intro j xs H5 Q' hj _ s5 wu kk;obtain⟨l,gg,m8⟩:=(tV.mono s5).get (.inr ⟨o2,s5 _ _ fe⟩) (C2 hj);refine⟨_,rfl,_,rfl,D,_,rfl,gg,l,_,rfl,.inl (SqL.of m8),by have:=fl ((dit row).getD j aq.empty);lia,λt H6 nt ht s6=>?_⟩;rw[Kc ((Cw row).filter _)] at ht;refine kk _ H6 s6 (Dm ?_);have DL:=s6 _ _ wu;unfold hid;rw[T6 (λz=>by rw[z,DL] at ht;cases ht)];exact ht
   ·intro Z' H5 xs e s5 wu cW;have e1:([]:List ao)++((List.range (dit row).length).filter λ_=>true).map (λj=>tupD ((dit row).filter (upB row ((dit row).getD j aq.empty))))=((dit row).map λa=>(dit row).filter (upB row a)).map tupD:=by
     have:=Cz aq.empty (λ_=>true) (dit row);rw[Py.mpr (λ_ _=>rfl),Py.mpr (λ_ _=>rfl)] at this;have q:=congrArg (List.map λa=>tupD ((dit row).filter (upB row a))) this;rw[P4] at q;rw[Ru,Py.mpr (λ_ _=>rfl),P4];exact q
    rw[e1] at cW;obtain⟨m9,rfl,pk⟩:=Oa cW;have pk:Tups H5 m9 _:=pk.same (Fy L H5);have yL:=s4.trans s5;refine⟨_,rfl,r,row,rfl,yL _ _ hR,R2,λcl wv H6 JK iH je s6=>?_⟩;refine⟨cl,rfl,⟨_,SqL.of iH⟩,λM nM=>?_⟩;have tW:wv.length=(crs row).length:=by
     have:=Gj je;simpa using this
    have yM:=(tV.mono s5).mono s6;have rK:=s6 _ _ (s5 _ _ fe);have JL:=Xec R2.two h3 (by lia);refine⟨wN (crs row).length λi Z2 H7=>(∃u v, Z2=[u,v,some (.ref D)])/\Same H6 H7/\∃qs:List ae,H7 M=some (.lst (qs.map V.ref))/\Tups H7 qs (((crs row).take i).map λq=>(dit row).filter λy=>upB row q.1 y||upB row q.2 y),⟨(crs row).length,by simp,Px _,⟨none,none,rfl⟩,(Same.refl H6).step nM,[],Ab,Tups.nil _⟩,?_⟩;rintro i m Z1 H7 ⟨rfl,hi,⟨u,v,rfl⟩,s7,qs,hM,pq⟩;by_cases bo:i<(crs row).length
    ·obtain⟨g1,g2⟩:=Ef (K:=K) (SqL.of (s7 _ _ iH)) (by lia:i<wv.length);refine .inr ⟨g1,λx H8 y=>?_⟩;obtain⟨e1,e2⟩:=g2 x H8 y;subst e1 e2;obtain⟨v1,hv,oo⟩:=M0 (i:=i) (d:=prD ((crs row)[i])) je (by rw[Pf,Ox bo];rfl);have hq:=Ps bo;generalize DM:(crs row)[i]=q at oo hq;obtain⟨kF,tX,_,_⟩:=Iv hq;have ev:wv.getD i .non=v1:=by simp[List.getD,hv]
     rw[ev];unfold prD DAt at oo;obtain⟨pp,ys,rfl,DN,DO⟩:=oo;obtain rfl:=Ig (ss:=[q.1,q.2]) DO;have ww:=Fy cl H6 _ _ DN;have jk:(crs row).take (i+1)=(crs row).take i++[q]:=by
      rw[Pk bo,DM]
     obtain⟨l1,wo,yh⟩:=(yM.mono s7).get (.inr ⟨o2,s7 _ _ rK⟩) (Aj.mpr kF);obtain⟨l2,wq,iF⟩:=(yM.mono s7).get (.inr ⟨o2,s7 _ _ rK⟩) (Aj.mpr tX);have f1:=fl q.1;have f2:=fl q.2;refine⟨pp,_,rfl,SqT.of (s7 _ _ ww),rfl,_,_,rfl,_,_,rfl,rfl,?_⟩;refine⟨_,rfl,_,rfl,D,_,rfl,wo,_,rfl,_,rfl,D,_,rfl,wq,l1,l2,_,_,rfl,rfl,yh,iF,by rw[Ow,Ow,T5];lia,λc nc=>?_⟩;refine⟨c,(dit row).filter (upB row q.1)++(dit row).filter (upB row q.2),rfl,.inl (by rw[O9];exact SqL.of Ab),by rw[O2];lia,λt H9 nt ht s9=>?_⟩;have wx:Same H8 H9:=((Same.refl H8).step nc).trans s9;have yN:=wx _ _ hM;have et:told ((dit row).filter (upB row q.1)++(dit row).filter (upB row q.2))=(dit row).filter λy=>upB row q.1 y||upB row q.2 y:=by
      refine G2 (Nm _) ((Cw row).filter _) λz=>?_;rw[Xdw,O5,O7,O7,O7,Sb,<-and_or_left]
     rw[et] at ht;have JM:qs.length<=49:=by
      have:=pq.1;rw[Ow,Pc] at this
      lia
     refine⟨_,yN,by rw[Ow,T5];lia,?_⟩;have mB:∀b w,H9 b=some (.tup w)->upd H9 M (.lst (qs.map V.ref++[.ref t])) b=some (.tup w):=λb w e=>by
      rw[Ad (λz=>by rw[z,yN] at e;cases e)];exact e
     refine wskip bo ⟨⟨_,_,rfl⟩,λb w e=>?_,qs++[t],by rw[Ab,O9];rfl,?_⟩
     ·rw[Ad (Au e nM)];exact wx _ _ (s7 b w e)
     ·rw[jk,O9];refine Tups.app ⟨pq.1,λj hj=>mB _ _ (wx _ _ (pq.2 j hj))⟩ (Tups.cons (mB _ _ ht) (Tups.nil _))
    ·have ei:i=(crs row).length:=by lia
     subst ei;refine .inl ⟨by have:=Eg (K:=K) (SqL.of (s7 _ _ iH));rwa [tW] at this,?_⟩;rw[Qo] at pq;have wz:=s6.trans s7;have DP:=wz _ _ wu;have DQ:=pk.same wz;have DR:=yL.trans wz;refine⟨Px _,λe0 DS=>⟨by show 1<=sizeLine;decide,λz nz=>?_⟩⟩;generalize yO:upd H7 e0 (.tup [])=Ha at nz;have sa:Same H7 Ha:=by rw[<-yO];exact(Same.refl H7).step DS
     have DT:Ha e0=some (.tup (([]:Za).map V.str)):=by rw[<-yO];exact Ab
     generalize yP:upd Ha z (.lst [.ref e0])=Hb;have sb:Same Ha Hb:=by rw[<-yP];exact(Same.refl Ha).step nz
     have hz:Hb z=some (.lst [.ref e0]):=by rw[<-yP];exact Ab
     have l1:m9.length=(dit row).length:=by have:=pk.1;simpa using this
     have l2:qs.length=(crs row).length:=by have:=pq.1;simpa using this
     have yQ:=sa.trans sb;refine⟨_,rfl,z,L,_,_,rfl,rfl,hz,yQ _ _ DP,by rw[Ow,P9,T5];lia,λc1 n1=>?_⟩;generalize yR:upd Hb c1 (.lst ([.ref e0]++m9.map V.ref))=Hc;have sc:Same Hb Hc:=by rw[<-yR];exact(Same.refl Hb).step n1
     have DU:Hc c1=some (.lst ([.ref e0]++m9.map V.ref)):=by rw[<-yR];exact Ab
     have yT:=yQ.trans sc;refine⟨_,rfl,c1,M,_,_,rfl,rfl,DU,yT _ _ hM,by rw[O2,Ow,Ow,P9,T5];lia,λc2 n2=>?_⟩;generalize yU:upd Hc c2 (.lst (([.ref e0]++m9.map V.ref)++qs.map V.ref))=Hd;have sd:Same Hc Hd:=by rw[<-yU];exact(Same.refl Hc).step n2
     have fX:Hd c2=some (.lst ((e0::(m9++qs)).map V.ref)):=by
      rw[<-yU,Ab,Pw,O9];rfl
     have w4:=yT.trans sd;have w5:=DR.trans w4;have kg:Tups Hd (e0::(m9++qs)) ([]::cands row):=Tups.cons ((sb.trans (sc.trans sd)) _ _ DT) (Tups.app (DQ.same w4) (pq.same w4));refine⟨c2,e0::(m9++qs),[]::cands row,rfl,fX,kg,Xon R2.two,by rw[Pj,O2];lia,SH.Bi.same tab w5,λD' nV fw H' DV eg m5 pm so lF bt=>?_⟩;refine k D' nV fw H' (w5.free DV) eg m5 (λS=>(pm.mem_iff).trans (Xol R2.two h3 S)) so ?_ lF λb w e n=>bt _ _ (w5 _ _ e) n;rw[m5.1,pm.length_eq,<-kg.1,Pj,O2]
     lia
def Xgf:FnScope NAg ["row", "gap"] (defScope s_at_gap):=by walk_at "s"
def Xpt  (F:Fun K "at_gap" "at_gap" s_at_gap f fd) (T:Bl mg) (hC:mg "NoPlace" = some (.ref C)) (hc:LH K C bmV "ValueError.__new__" = true) (FD:Fn P w K mg base CX0 1 "ditches" ["row"] spDitches):
  FnOk P w K mg base (CX1 P w) 2 f fd ["row", "gap"] (spAtGap C):=by
 refine F.ok1 Xgf (by walk_at "l") ?_
 ·walk_at "i"
  obtain⟨r,row,g,rfl,hR,hl,JN,yy,kq,ke⟩:=h;refine⟨_,Ae (A8 (G9 (Lo Jj Jj Af (pv 1) (Ax Br (by rfl) T.len aT (Aa (pv 0) Ac))))
   (Ag (Me (C:=C) (E:=E) hc rfl leaves1 (by rfl) hC (Aa (Mn (Fv (by decide +kernel) (Xb0 (pv 1) (Fv (by decide +kernel) (Xb0 (Ax Br (by rfl) T.len aT (Aa (pv 0) Ac)) (Fv (by decide +kernel) Mm)))))) Ac))) Bb)
   (Ae (Ao (i:=2) Xgf.nd rfl (.inr rfl) (Bt Ci (pv 0) Bx (Bq (pv 1))))
   (Ag (Ap (B1 Es (by rfl) T.tuple (by rfl) (Aa (Ek (N:=NAg1) (cap:=[none,some 2]) (CompScope.of (defScope s_at_gap) NAg rfl rfl rfl (by decide +kernel)) rfl
    (Cf (Ai FD hr (by rfl) Am (Aa (pv 0) Ac))) (λ_ _ _=>Az (i:=0) (show NAg1.Nodup by decide +kernel) rfl (.inl rfl) (.inr rfl))
    (λ_ _ _=>Dj (Aq Bp (Kg K (by rfl) PySem.F.plainAttrs_list PySem.F.slot_list_count PySem.F.type_list_count M9 (pv 1) (Aa (pv 0) Ac)) Af (Ar _))) (λ_ _ _=>pv 0)) Ac))))),?_⟩
  have aO:((row.map V.str).length:Int)=row.length:=by rw[Ow]
  have tY:¬(0<=g/\g<=row.length)->Xb1 (Jt (Ml (Co 1) (Jt (Ml (tCB (λxs H Q=>∃p ys,xs=[.ref p]/\(SqL K H p ys\/SqT K H p ys)/\Q (.int ys.length) H) (Eb (Co 0) Fm)) (Jt Xbz))))) [some (.ref r),some (.int g),none] H λx H1=>[x].length<=sizeLine/\E (.ref C) none H1:=λhb=>by
   refine⟨_,rfl,_,rfl,by lia,by lia,_,rfl,r,_,rfl,.inl (SqL.of hR),_,rfl,by rw[aO];lia,by rw[aO];lia,λz=>?_⟩;exact⟨by show 1<=sizeLine;decide,ke hb H (Same.refl H)⟩
  refine⟨_,rfl,_,_,rfl,rfl,_,rfl,?_⟩;refine Aw (λh0=>?_) (λh0=>?_)
  ·have h0:0<=g:=Ua h0;refine⟨_,rfl,r,_,rfl,.inl (SqL.of hR),_,_,rfl,rfl,_,rfl,?_⟩;rw[aO];by_cases h1:g<=row.length
   ·rw[T8 h1];refine Bz ?_;obtain⟨n,rfl⟩:=Pz h0;have hn:n<=row.length:=by lia
    refine⟨_,rfl,_,rfl,_,rfl,r,_,rfl,SqL.of hR,λah w6=>?_⟩;rw[Dw _ _ _ hn];have s1:Same H (upd H ah (.lst ((row.take n).map V.str))):=(Same.refl H).step w6;have pr:upd H ah (.lst ((row.take n).map V.str)) ah=some (.lst ((row.take n).map V.str)):=Ab;generalize upd H ah (.lst ((row.take n).map V.str))=H1 at s1 pr;refine⟨_,rfl,r,row,rfl,s1 _ _ hR,hl,λl H2 nl iF s2=>?_⟩;have jQ:=s2 _ _ pr;have w9:=Ei row;refine⟨l,rfl,⟨_,SqL.of iF⟩,?_⟩;refine Ey (n:=(dit row).length) (by rw[T5];lia) (λi=>((dit row).map V.str).getD i .non) (λi=>decide ((row.take n).count ((dit row).getD i aq.empty)=1)) (λi=>.str ((dit row).getD i aq.empty)) ?_ ?_ ?_ ?_ ?_
    ·intro i H3 hi s3;exact Ef (SqL.of (s3 _ _ iF)) (by rw[Ow];exact hi)
    ·intro H3 s3;have:=Eg (K:=K) (SqL.of (s3 _ _ iF))
     rwa [Ow] at this
    ·intro i H3 Q' hi s3 kk;rw[Bv V.str aq.empty _ hi];refine⟨_,rfl,.inl ⟨rfl,_,SqL.of (s3 _ _ jQ)⟩,_,rfl,ah,_,_,rfl,rfl,s3 _ _ jQ,rfl,Cy _,rfl,_,rfl,?_⟩;rw[Xdr,Xdb];have e:decide (((row.take n).count ((dit row).getD i aq.empty):Int)=1)=decide ((row.take n).count ((dit row).getD i aq.empty)=1):=by
      generalize (row.take n).count ((dit row).getD i aq.empty)=c;by_cases hc:c=1
      ·subst hc;rfl
      ·rw[T9 hc,T9 (by lia)]
     rw[e];exact kk H3 (Same.refl _)
    ·intro i H3 Q' hi hk s3 kk;rw[Bv V.str aq.empty _ hi];exact⟨_,rfl,kk H3 (Same.refl _)⟩
    ·intro D H3 nD s3 hD;have eg:H3 D=some (.lst ((A2 row n).map V.str)):=by
      rw[Xd2,hD,<-Cz aq.empty (λx=>decide ((row.take n).count x=1)) (dit row),P4];rfl
     refine⟨D,_,rfl,.inl ⟨SqL.of eg,λt nt=>?_⟩⟩;have eR:=s1.trans (s2.trans s3);exact kq n rfl hn t _ (eR.free nt) Ab (eR.step nt)
   ·rw[T9 h1];exact Cb (tY (by lia))
  ·have h0:¬ 0<=g:=Ub h0;exact⟨_,rfl,Cb (tY (by lia))⟩
def Xgg:FnScope NRt ["row", "plot", "by"] (defScope s_retold):=by walk_at "s"
def Xpu  (F:Fun K "retold" "retold" s_retold f fd) (T:Bl mg) (FA:Fn P w K mg base (CX1 P w) 5 "ask_plot" ["row", "plot"] (spAskPlot Pl)) (FG:Fn P w K mg base (CX1 P w) 2 "at_gap" ["row", "gap"] (spAtGap Np)):FnOk P w K mg base (CX1 P w) 6 f fd ["row", "plot", "by"] (spRetold Pl Np):=by
 refine F.ok1 Xgg (by walk_at "l") ?_
 ·walk_at "i"
  obtain⟨r,p,row,S,g,rfl,hR,R2,hP,oS,lS,yV,g0,g1,k1,k2,k3⟩:=h;have DW:row.length<=60:=R2.len;have fB:Room 2 _:=hr.mono (by decide);refine⟨_,Ae (He (Ai FA hr (by rfl) pass1 (Aa (pv 0) (Aa (pv 1) Ac))))
   (Ae (Ao (i:=3) Xgg.nd rfl (.inl rfl) (Ai FG fB (by rfl) pass1 (Aa (pv 0) (Aa (pv 2) Ac))))
   (Ag (Ap (B1 Es (by rfl) T.tuple (by rfl) (Aa (Ax (Jx rfl) (by rfl) T.sorted (by rfl) (Aa (Ak Xof (B1 (Hr rfl) (by rfl) T.set (by rfl) (Aa (pv 1) Ac)) (B1 (Hr rfl) (by rfl) T.set (by rfl) (Aa (pv 3) Ac))) Ac)) Ac))))),?_⟩
  refine⟨_,rfl,_,rfl,r,p,row,S,rfl,hR,R2,hP,oS,lS,λip H1 s1=>?_,λe H1 s1=>k2 e H1 s1⟩;refine⟨_,rfl,_,rfl,r,row,g,rfl,s1 _ _ hR,DW,g0,g1,λn en hn q H2 nq hq s2=>?_,λz H2 s2=>k3 ip z H2 (s1.trans s2)⟩;have gX:=s1.trans s2;have nS:=Bn (Cn ip).2;have nb:=Bn (Fc row n);have lS:=Gr ip;have lb:=Xd3 row n;have iL:=gX _ _ hP;dsimp only[Bm];refine⟨_,rfl,p,S,rfl,.inr (SqT.of iL),by unfold aW;lia,λa1 n1=>?_⟩;refine⟨_,rfl,q,A2 row n,rfl,.inr (SqT.of (ku hq n1)),by unfold aW;lia,λa2 n2=>?_⟩;have pa:=Kb nS;have pb:=Kb nb;refine⟨a1,a2,_,_,rfl,rfl,ku Ab n2,Ab,Ho S,Ho (A2 row n),by rw[pa.length_eq];lia,by rw[pb.length_eq];lia,λc zs nc vZ lz mz=>?_⟩;refine⟨c,zs,rfl,Ab,by lia,λl ls nl pl so=>?_⟩;refine⟨l,_,rfl,.inl ⟨SqL.of Ab,λt nt=>?_⟩⟩;have sT:=(((((Same.refl H2).step n1).step n2).step nc).step nl).step (o:=.tup (ls.map V.str)) nt;refine k1 ip n en hn t _ ((gX.trans ((((Same.refl H2).go n1 n2).go n2 nc).go nc nl |>.step nl)).free nt) ?_ (gX.trans sT);rw[Ab,Gg pl so,xor_srt nS nb vZ λy=>by rw[mz,pa.mem_iff,pb.mem_iff]]
def Xpv:FnScope ["_law_script"] ["_law_script"] (defScope sBegin):=by walk_at "s"
def Xpw  (F:Fun K "_law_begin" "_law_begin" sBegin f fd) (T:Bl mg):FnOk P w K mg base CX0 1 f fd ["_law_script"] (Xdh K):=by
 refine F.ok Xpv (by walk_at "l") ?_
 ·walk_at "i"
  obtain⟨a,ns,rfl,hS,hl,k⟩:=h;refine⟨_,Ag (Ap (B7 (Aa (B1 Jo rfl T.list fh (Aa (Bt Ci (pv 0) Bx (Bq Af)) Ac)) (Aa Af (Aa Af (Aa Af (Aa Af Ac))))))),?_⟩;refine⟨_,rfl,_,rfl,a,_,rfl,hS,λp hp=>?_⟩;have DX:B8 (ns.map V.int) none (some 63)=ns.map V.int:=by
   unfold B8;rw[HT.sIx_none,Rr,show (some (63:Int))=some ((63:Nat):Int) from rfl,HT.sIx_nat];exact P5 (by rw[Ow];lia)
  rw[DX];refine⟨p,_,rfl,.inl (SqL.of Ab),λq hq=>?_⟩;refine⟨by show 5<=sizeLine;decide,λdr mC=>?_⟩;have yW:p≠q:=Au (o:=.lst (ns.map V.int)) Ab hq;have oq:q≠dr:=Au (o:=.lst (ns.map V.int)) Ab mC;have yX:H q=none:=by rw[Ad yW.symm] at hq;exact hq
  have DY:p≠dr:=Au (H:=upd (upd H p (.lst (ns.map V.int))) q (.lst (ns.map V.int))) (o:=.lst (ns.map V.int)) (by rw[Ad yW,Ab]) mC;have yY:H dr=none:=by rw[Ad oq.symm,Ad DY.symm] at mC;exact mC
  refine k dr q _ yY yX ⟨⟨ns,0,0,1,0,Ab,by rw[Ad oq,Ab],Px _,hl,by decide,by decide⟩⟩ ((((Same.refl H).upd hp).upd yX).upd yY)
def Os:FnScope NP ["_law_draw", "_law_many"] (defScope sPick):=by walk_at "s"
def Xpx  (F:Fun K "_law_pick" "_law_pick" sPick f fd) (T:Bl mg):FnOk P w K mg base CX0 1 f fd ["_law_draw", "_law_many"] Xdi:=by
 refine F.ok Os (by walk_at "l") ?_
 ·walk_at "i"
  obtain⟨dr,sc,n,rfl,rN,yC,⟨ns,p,c,m,k,hd,hs,hp,hl,yZ,nR⟩,kk⟩:=h;have rO:dr≠sc:=by
   intro e;subst e;rw[hd] at hs;cases ns with
   | nil=>cases hs
   | cons a r=>cases hs
  refine Xj4 (fun Z' H'=>∃x y p c m, Z'=[some (.ref dr),some (.int n),x,y]/\H' dr=some (.lst [.ref sc,.int (p:Nat),.int c,.int m,.int k])/\p<=ns.length/\0<=m/\m<1000000007/\∀b o,H b=some o->b≠dr->H' b=some o) ?_ ?_
  ·-- DZ rest
   refine⟨_,Ae (A8 (Aq Xaq (A0 Bh (pv 0) Af (λ_ _=>rfl)) (pv 1) (Ar _))
     (Ae (Ao (i:=3) Os.nd rfl (.inl rfl) (Ak F9 (A0 Bh (pv 0) Af (λ_ _=>rfl)) (pv 1)))
     (Ae (Er (Ak Xak (A0 Bh (pv 0) Af (λ_ _=>rfl)) (pv 1)) (Fj (pv 0) Af Fo))
     (Ag (Ap (pv 3))))) Bb)
    (Ae (Er (Ak B6 (A0 Bh (pv 0) Af (λ_ _=>rfl)) Af) (Fj (pv 0) Af Fo))
    (Ae (Er (Ak F9 (Ak B6 (Ak B6 (Ak Xal (A0 Bh (pv 0) Af (λ_ _=>rfl)) Af) (Ak Xaj Af (A0 Bh (pv 0) Af (λ_ _=>rfl)))) Af) Af) (Fj (pv 0) Af Fo))
    (Ag (Ap (Ak F9 (Ak Xak (A0 Bh (pv 0) Af (λ_ _=>rfl)) Af) (pv 1)))))),?_⟩
   rintro Z' H' ⟨x,y,p,c,m,rfl,gK,jm,rP,rQ,kp⟩;refine⟨_,rfl,dr,_,_,_,rfl,rfl,SqL.of gK,rfl,_,rfl,_,_,rfl,rfl,_,rfl,?_⟩;refine Aw (λhc=>?_) (λhc=>?_)
   ·-- JO
    refine⟨_,rfl,dr,_,_,_,rfl,rfl,SqL.of gK,rfl,_,rfl,_,_,rfl,rfl,rN,?_⟩;refine⟨_,rfl,dr,_,_,_,rfl,rfl,SqL.of gK,rfl,_,rfl,_,_,rfl,rfl,⟨rN,by lia⟩,?_⟩;refine⟨_,rfl,dr,_,_,2,rfl,rfl,gK,rfl,?_⟩;refine⟨_,rfl,?_⟩;refine kk _ _ (So _ (by lia)) (R6 _ rN) ⟨⟨ns,p,c / n,m,k,Ab,?_,jm,hl,rP,rQ⟩⟩ λb o e hb=>by rw[Ad hb];exact kp b o e hb
    rw[Ad rO.symm];exact kp _ _ hs rO.symm
   ·refine⟨_,rfl,dr,_,_,_,rfl,rfl,SqL.of gK,rfl,_,_,rfl,rfl,?_⟩;refine⟨_,rfl,dr,_,_,4,rfl,rfl,gK,rfl,?_⟩;refine⟨_,rfl,dr,_,_,_,rfl,rfl,SqL.of Ab,rfl,_,_,rfl,rfl,cpow3 rP rQ,?_⟩;refine⟨_,rfl,dr,_,_,_,rfl,rfl,SqL.of Ab,rfl,_,_,rfl,rfl,.inl ⟨by decide,by decide⟩,_,_,rfl,rfl,_,_,rfl,rfl,_,_,rfl,rfl,(by show (0:Int)<1000000007;decide),?_⟩;refine⟨_,rfl,dr,_,_,3,rfl,rfl,Ab,rfl,?_⟩;refine⟨_,rfl,dr,_,_,_,rfl,rfl,SqL.of Ab,rfl,_,_,rfl,rfl,⟨by decide,by decide⟩,_,rfl,_,_,rfl,rfl,rN,?_⟩;refine kk _ _ (So _ (by lia)) (R6 _ rN) ⟨⟨ns,p,c,_,k+1,Ab,?_,jm,hl,So _ (by decide),R6 _ (by decide)⟩⟩ λb o e hb=>by rw[Ad hb,Ad hb];exact kp b o e hb
    rw[Ad rO.symm,Ad rO.symm];exact kp _ _ hs rO.symm
  ·intro nx fT;refine⟨_,A8 (Fh (Aq Ct (A0 Bh (pv 0) Af (λ_ _=>rfl)) (pv 1) (Ar _)) (Ff (Aq Ct (A0 Bh (pv 0) Af (λ_ _=>rfl)) (Ax Br (by rfl) T.len aT (Aa (A0 Bh (pv 0) Af (λ_ _=>rfl)) Ac)) (Ar _)))).pt
     (Ae (Ao (i:=2) Os.nd rfl (.inl rfl) (A0 Bh (A0 Bh (pv 0) Af (λ_ _=>rfl)) (A0 Bh (pv 0) Af (λ_ _=>rfl)) (λ_ _=>rfl)))
     (Ae (Er (Ak B6 (A0 Bh (pv 0) Af (λ_ _=>rfl)) Af) (Fj (pv 0) Af Fo))
     (Ae (Er Af (Fj (pv 0) Af Fo))
     (Ag (A8 (Aq Xaq (pv 2) (Ak Xal Af Af) (Ar _))
      (Ag (Er (pv 2) (Fj (pv 0) Af Fo)))
      (Ag (Er (Ak F9 (Ak B6 (A0 Bh (pv 0) Af (λ_ _=>rfl)) (pv 2)) Af) (Fj (pv 0) Af Fo)))))))) Bb,?_⟩
   refine⟨_,rfl,dr,_,_,_,rfl,rfl,SqL.of hd,rfl,_,rfl,_,_,rfl,rfl,_,rfl,?_⟩;have skip:nx [some (.ref dr),some (.int n),none,none] H:=fT _ _ ⟨none,none,p,c,m,rfl,hd,hp,yZ,nR,λb o e _=>e⟩;refine Aw (λ_=>?_) (λ_=>Bz skip);refine⟨_,rfl,dr,_,_,_,rfl,rfl,SqL.of hd,rfl,_,rfl,dr,_,_,_,rfl,rfl,SqL.of hd,rfl,sc,_,rfl,.inl (SqL.of hs),_,_,rfl,rfl,_,rfl,?_⟩;refine Aw (λbo=>?_) (λ_=>skip);have oh:(p:Int)<((ns.map V.int).length:Nat):=Ua bo;rw[Ow] at oh;have cj:p<ns.length:=by lia
   have kG:(ns.map V.int)[p]? = some (.int (ns[p]'cj)):=by rw[Pf,Ox cj];rfl
   refine⟨_,rfl,dr,_,_,_,rfl,rfl,SqL.of hd,rfl,_,rfl,dr,_,_,_,rfl,rfl,SqL.of hd,rfl,sc,_,_,_,rfl,rfl,SqL.of hs,Du kG,?_⟩;refine⟨_,rfl,dr,_,_,_,rfl,rfl,SqL.of hd,rfl,_,_,rfl,rfl,?_⟩;refine⟨_,rfl,dr,_,_,1,rfl,rfl,hd,rfl,?_⟩;refine⟨_,rfl,dr,_,_,2,rfl,rfl,Ab,rfl,?_⟩;refine⟨_,rfl,_,_,rfl,rfl,⟨by decide,by decide,by decide⟩,_,_,rfl,rfl,_,rfl,?_⟩;refine Aw (λ_=>?_) (λ_=>?_)
   ·refine⟨_,rfl,_,rfl,dr,_,_,2,rfl,rfl,Ab,rfl,?_⟩;refine fT _ _ ⟨_,none,p+1,_,m,rfl,Ab,cj,yZ,nR,λb o e hb=>by rw[Ad hb,Ad hb,Ad hb];exact e⟩
   ·refine⟨_,rfl,dr,_,_,_,rfl,rfl,SqL.of Ab,rfl,_,rfl,_,_,rfl,rfl,_,_,rfl,rfl,(by show (0:Int)<1000000007;decide),?_⟩;refine⟨_,rfl,dr,_,_,3,rfl,rfl,Ab,rfl,?_⟩;refine fT _ _ ⟨_,none,p+1,_,_,rfl,Ab,cj,So _ (by decide),R6 _ (by decide),λb o e hb=>by rw[Ad hb,Ad hb,Ad hb];exact e⟩
def Xgh:FnScope NPut ["_law_row_here", "_law_name", "_law_at", "_law_to"] (defScope sPut):=by walk_at "s"
def Xpy  (F:Fun K "_law_put" "_law_put" sPut f fd):FnOk P w K mg base CX0 1 f fd ["_law_row_here", "_law_name", "_law_at", "_law_to"] Xdk:=by
 refine F.ok Xgh (by walk_at "l") ?_
 ·walk_at "i"
  obtain⟨r,row,x,a,b,rfl,hR,hl,fu,hb,k⟩:=h;refine⟨_,Ae (Ao (i:=4) Xgh.nd rfl (.inl rfl) (Ak B3 (Ak B3 (Bt Ci (pv 0) Bx (Bq (pv 2))) (B7 (Aa (pv 1) Ac))) (Bt Ci (pv 0) (Bq (pv 2)) (Bq (pv 3)))))
   (Ag (Ap (Ak B3 (Ak B3 (pv 4) (B7 (Aa (pv 1) Ac))) (Bt Ci (pv 0) (Bq (pv 3)) Bx)))),?_⟩
  have fi:∀n,n<=100000->n<=sizeLine:=λn h=>by rw[T5];lia
  refine⟨_,rfl,_,rfl,_,rfl,r,_,rfl,SqL.of hR,λp1 n1=>?_⟩;rw[Dw _ _ _ (by lia)];refine⟨_,rfl,by show 1<=sizeLine;decide,λp2 n2=>?_⟩;refine⟨p1,p2,_,_,rfl,rfl,ku Ab n2,Ab,fi _ (by simp;lia),λp3 n3=>?_⟩;refine⟨_,rfl,_,rfl,_,rfl,_,rfl,_,rfl,r,_,rfl,SqL.of (ku (ku (ku hR n1) n2) n3),λp4 n4=>?_⟩;rw[Xj5 _ _ _ _ fu hb];refine⟨p3,p4,_,_,rfl,rfl,ku Ab n4,Ab,fi _ (by simp;lia),λp5 n5=>?_⟩;refine⟨_,rfl,_,rfl,by show 1<=sizeLine;decide,λp6 n6=>?_⟩;refine⟨p5,p6,_,_,rfl,rfl,ku Ab n6,Ab,fi _ (by simp;lia),λp7 n7=>?_⟩;refine⟨_,rfl,_,rfl,_,rfl,r,_,rfl,SqL.of (ku (ku (ku (ku (ku (ku (ku hR n1) n2) n3) n4) n5) n6) n7),λp8 n8=>?_⟩;rw[Ex _ _ _ hb];refine⟨p7,p8,_,_,rfl,rfl,ku Ab n8,Ab,fi _ (by simp;lia),λp9 n9=>?_⟩;have s8:=((((((((Same.refl H).go n1 n2).go n2 n3).go n3 n4).go n4 n5).go n5 n6).go n6 n7).go n7 n8).go n8 n9;refine k p9 _ (s8.free n9) (Ab.trans ?_) (s8.step n9);unfold E3;simp
def Ot:FnScope NWh ["_law_row_here"] (defScope sWhere):=by walk_at "s"
def Xpz  (F:Fun K "_law_where" "_law_where" sWhere f fd) (T:Bl mg):FnOk P w K mg base CX0 1 f fd ["_law_row_here"] Nf:=by
 refine F.ok Ot (by walk_at "l") ?_
 ·walk_at "i"
  obtain⟨r,row,rfl,hR,hl,k⟩:=h;have hu:=Ed hr;refine⟨_,Ae (Ao (i:=1) Ot.nd rfl (.inl rfl) Xh9)
   (Ae (Dg bB.never rfl (Je rfl T.range (Aa (Ax Br (by rfl) T.len aT (Aa (pv 0) Ac)) Ac)) (Az (i:=2) Ot.nd rfl (.inl rfl))
    (Ag (Xh7 hu (pv 1) (A0 Bh (pv 0) (pv 2) (λ_ _=>rfl))
     (Ak B3 (Xie hu (pv 1) (A0 Bh (pv 0) (pv 2) (λ_ _=>rfl)) (B7 Ac) ⟨rfl,rfl,rfl,rfl⟩) (B7 (Aa (pv 2) Ac))) rfl)))
   (Ag (Ap (pv 1)))),?_⟩
  intro d nd;have s0:Same H (upd H d (.dK [])):=(Same.refl H).step nd;refine⟨_,rfl,r,_,rfl,.inl (SqL.of (s0 _ _ hR)),((row.map V.str).length:Int),rfl,by lia,by rw[Ow];lia,?_⟩;have hn:((row.map V.str).length:Int).toNat=row.length:=by rw[Ow];simp
  rw[hn];refine Jg (lo:=0) (n:=row.length) (λi Z H2=>∃kvs v, Z=[some (.ref r),some (.ref d),v]/\Same H H2/\H2 d=some (.dK kvs)/\Wh H2 kvs (row.take i)) ?_ ?_ ?_
  ·exact⟨[],none,rfl,s0,Ab,⟨λk hk=>by simp at hk,λx hx=>by simp at hx,λ_ _=>rfl,by simp,by simp⟩⟩
  ·rintro i Z H2 hi ⟨kvs,v,rfl,s2,hd,wh⟩;have kG:(row.map V.str)[i]? = some (.str (row[i]'hi)):=by rw[Pf,Ox hi];rfl
   have lG:atI (row.map V.str) (0+(i:Int))=some (.str (row[i]'hi)):=by rw[Int.zero_add];exact Du kG
   have tk:row.take (i+1)=row.take i++[row[i]'hi]:=by rw[Pk hi]
   have kl:=wh.len;rw[Pc] at kl;have ll:(plc (row.take i) (row[i]'hi)).length<=1000:=by
    rw[Nc];have:=List.count_le_length (a:=row[i]'hi) (l:=row.take i);rw[Pc] at this
    lia
   have fi:∀n,n<=100000->n<=sizeLine:=λn h=>by rw[T5];lia
   refine⟨_,rfl,d,rfl,.inl ⟨kvs,.inl hd⟩,_,rfl,_,rfl,r,_,_,_,rfl,rfl,SqL.of (s2 _ _ hR),lG,by show 0<=sizeLine;decide,λp1 n1=>?_⟩;refine⟨_,DGet.k (k:=Sum.inr (row[i]'hi)) (ku hd n1),?_⟩;obtain⟨q,xs,e1,hq,kr⟩:∃q xs,(Av kvs (Sum.inr (row[i]'hi):Key)).getD (V.ref p1)=V.ref q/\upd H2 p1 (.lst []) q=some (.lst (xs.map V.int))/\plc (row.take i) (row[i]'hi)=xs:=by
    by_cases hx:row[i]'hi∈row.take i
    ·obtain⟨l,e1,e2⟩:=wh.val _ hx;exact⟨l,_,by rw[e1];rfl,ku e2 n1,rfl⟩
    ·refine⟨p1,[],by rw[wh.none _ hx];rfl,Ab,?_⟩;have:(plc (row.take i) (row[i]'hi)).length=0:=by rw[Nc];exact Ra.mpr hx
     exact P8.mp this
   have JP:xs.length<=1000:=by rw[<-kr];exact ll
   rw[e1];refine⟨_,rfl,by show 1<=sizeLine;decide,λp2 n2=>?_⟩;refine⟨q,p2,_,_,rfl,rfl,ku hq n2,Ab,fi _ (by simp;lia),λp3 n3=>?_⟩;refine⟨_,rfl,_,rfl,_,rfl,r,_,_,_,rfl,rfl,SqL.of (ku (ku (ku (s2 _ _ hR) n1) n2) n3),lG,?_⟩;have cS:=ku (u:=.lst [V.int (0+(i:Int))]) (ku (u:=.lst []) hd n1) n2;have pj:=ku (u:=.lst (xs.map V.int++[V.int (0+(i:Int))])) cS n3;refine⟨d,_,rfl,DPut.k (k:=Sum.inr (row[i]'hi)) pj (by rw[T5];lia),_,_,rfl,?_,Ab,?_⟩
   ·have s3:=((s2.go n1 n2).go n2 n3).step (o:=.lst (xs.map V.int++[V.int (0+(i:Int))])) n3;exact s3.upd nd
   ·rw[tk];refine wh.snoc _ p3 ?_ λb ys e=>?_
    ·have ne:p3≠d:=(Au cS n3).symm;rw[Ad ne,Ab,Nd,T7 rfl,kr,O9,Pc,Rg (Si hi)];simp
    ·have ne:b≠d:=λz=>by rw[z,hd] at e;cases e
     rw[Ad ne];exact ku (ku (ku e n1) n2) n3
  ·rintro Z H2 ⟨kvs,v,rfl,s2,hd,wh⟩;rw[Qo] at wh;exact⟨_,rfl,k d kvs H2 nd hd wh s2⟩
def K6:FnScope NWo ["_law_where_here", "_law_one", "_law_other"] (defScope sWord):=by walk_at "s"
def Xp0  (F:Fun K "_law_word" "_law_word" sWord f fd) (T:Bl mg):FnOk P w K mg base CX0 1 f fd ["_law_where_here", "_law_one", "_law_other"] spWord:=by
 refine F.ok K6 (by walk_at "l") ?_
 ·walk_at "i"
  obtain⟨d,l1,l2,kvs,x,y,a,b,c,e,rfl,hd,v1,v2,h1,h2,k⟩:=h;have hu:=Ed hr;refine⟨_,Ae (Er (Cu hu (pv 0) (pv 1) (λ_ _=>rfl)) (Xiw rfl (D9 (Az (i:=3) K6.nd rfl (.inr rfl)) (D9 (Az (i:=4) K6.nd rfl (.inr rfl)) Jc))))
   (Ae (Gi (i:=5) (N:=["_law_at", "_law_high", "_law_low"]) (cap:=[none,some 4,some 3]) (CompScope.of (defScope sWord) NWo rfl rfl rfl (by decide +kernel)) rfl K6.nd rfl rfl
     (Cf (Cu hu (pv 0) (pv 2) (λ_ _=>rfl))) (λ_ _ _=>Az (i:=0) (show (["_law_at", "_law_high", "_law_low"]:Za).Nodup by decide +kernel) rfl (.inl rfl) (.inr rfl))
     (λ_ _ _=>Dj (Fh (Aq Ct (pv 2) (pv 0) (Ar _)) (Ff (Aq Ct (pv 0) (pv 1) (Ar _)))).pt) (λ_ _ _=>pv 0))
   (Ae (A8 (Ep (Aq Bp (pv 1) (pv 2) (Ar _)) (Fg (Aq Xap (Ax Br (by rfl) T.len aT (Aa (pv 5) Ac)) Af (Ar _)))).pt
    (Ag (Ap (A0 Jl (Ca (Aa A7 (Aa A7 (Aa A7 Ac)))) (Ax Br (by rfl) T.len aT (Aa (pv 5) Ac)) (λ_ _=>rfl)))) Bb)
   (Ag (Ap (Iz (Fh (Aq Ct (A0 Bh (Cu hu (pv 0) (pv 2) (λ_ _=>rfl)) Af (λ_ _=>rfl)) (pv 3) (Ar _)) (Ff (Aq Ct (pv 4) (A0 Bh (Cu hu (pv 0) (pv 2) (λ_ _=>rfl)) Af (λ_ _=>rfl)) (Ar _)))).pt A7 A7))))),?_⟩
  refine⟨_,rfl,_,rfl,d,_,rfl,DGet.rd hd v1,l1,_,rfl,SqL.of h1,rfl,?_⟩;refine⟨_,_,rfl,_,_,rfl,rfl,?_⟩;refine⟨_,rfl,_,rfl,d,_,rfl,DGet.rd hd v2,l2,rfl,⟨_,SqL.of h2⟩,?_⟩;refine Ju (n:=2) (λi=>([V.int c,V.int e]:List V).getD i .non) (λD i Z2 H2=>∃v, Z2=[v,some (.int b),some (.int a)]/\Same H H2/\H2 D=some (.lst ((inn a b (([c,e]:List Int).take i)).map V.int))) ?_ ?_ ?_ ?_ ?_
  ·intro D hD;exact⟨none,rfl,(Same.refl H).step hD,Ab⟩
  ·rintro D i Z2 H2 hD hi ⟨v,rfl,s2,hl⟩;exact Ef (SqL.of (s2 _ _ h2)) hi
  ·rintro D Z2 H2 hD ⟨v,rfl,s2,hl⟩;exact Eg (SqL.of (s2 _ _ h2))
  ·rintro D i Z2 H2 hD hi ⟨v,rfl,s2,hl⟩;obtain⟨t,pk,nJ⟩:∃t,([V.int c,V.int e]:List V).getD i .non = .int t/\([c,e]:List Int).take (i+1)=([c,e]:List Int).take i++[t]:=by
    match i,hi with
    | 0,_=>exact⟨c,rfl,rfl⟩
    | 1,_=>exact⟨e,rfl,rfl⟩
   rw[pk];have fQ:(inn a b (([c,e]:List Int).take i)).length<=2:=Pu (Ng ..) (by rw[Pc];simp;lia);refine⟨_,rfl,_,rfl,_,_,rfl,rfl,_,rfl,?_⟩;refine Aw (λq1=>?_) (λq1=>Bz (wskip hi ⟨_,rfl,s2,?_⟩))
   ·refine⟨_,rfl,_,rfl,_,_,rfl,rfl,_,rfl,?_⟩;refine Aw (λq2=>?_) (λq2=>wskip hi ⟨_,rfl,s2,?_⟩)
    ·refine⟨_,rfl,wput hi hl (by rw[Ow,T5];lia) ⟨_,rfl,?_,?_⟩⟩
     ·intro b' o e';rw[Ad (Au e' hD)];exact s2 b' o e'
     ·rw[Ab,nJ];unfold inn;rw[Pm,O9,P6,T7 (by rw[q1,q2];rfl)];rfl
    ·rw[hl,nJ];unfold inn;rw[Pm,P6,T6 (by rw[q1,q2];decide)];simp
   ·rw[hl,nJ];unfold inn;rw[Pm,P6,T6 (by rw[q1];simp)];simp
  ·rintro D Z2 H2 hD ⟨v,rfl,s2,hl⟩;have nC:H2 D=some (.lst ((inn a b [c,e]).map V.int)):=hl;have fQ:(inn a b [c,e]).length<=2:=Ng ..;have mD:∀p,H2 p=none->atI ([V.str "same",V.str "cross",V.str "around"]:List V) (((inn a b [c,e]).map V.int).length:Int)=some (.str (words3.getD (inn a b [c,e]).length "apart")):=λp _=>by
    rw[Ow];generalize (inn a b [c,e]).length=n at fQ
    match n,fQ with
    | 0,_=>rfl
    | 1,_=>rfl
    | 2,_=>rfl
   have rR:(decide (x=y)||decide (0<(inn a b [c,e]).length))=true->∀p,H2 p=none->∀H',Same H H'->Q (.str (words3.getD (inn a b [c,e]).length "apart")) H':=λhc p _ H' s'=>by
    have:=k H' s';unfold Dy at this;rw[T7 hc] at this;exact this
   refine⟨_,rfl,_,rfl,rfl,_,rfl,?_⟩;refine Aw (λq1=>?_) (λq1=>?_)
   ·refine Cb ⟨by show 3<=sizeLine;decide,λp hp=>?_⟩;refine⟨_,rfl,D,_,rfl,.inl (SqL.of (ku nC hp)),p,_,_,_,rfl,rfl,SqT.of Ab,mD p hp,?_⟩;refine rR ?_ p hp _ (s2.step hp);have oj:decide (x=y)=true:=by
     have:=Ua q1;injection this with this
     exact T8 this
    rw[oj];rfl
   ·refine⟨_,rfl,D,_,rfl,.inl (SqL.of nC),_,_,rfl,rfl,_,rfl,?_⟩;have oj:decide (x=y)=false:=by
     have:=Ub q1;exact T9 λz=>this (by rw[z])
    refine Aw (λq2=>?_) (λq2=>?_)
    ·have wA:0<(inn a b [c,e]).length:=by
      have:=Ua q2;rw[Ow] at this
      lia
     refine⟨by show 3<=sizeLine;decide,λp hp=>?_⟩;refine⟨_,rfl,D,_,rfl,.inl (SqL.of (ku nC hp)),p,_,_,_,rfl,rfl,SqT.of Ab,mD p hp,?_⟩;exact rR (by rw[T8 wA,Tw]) p hp _ (s2.step hp)
    ·have wA:¬ 0<(inn a b [c,e]).length:=by
      have:=Ub q2;rw[Ow] at this
      lia
     have fF:∀z:aq,(if c<a/\b<e then ("within" : aq) else "apart")=z->Q (.str z) H2:=λz hz=>by
      have:=k H2 s2;unfold Dy at this;rw[T6 (by rw[oj,T9 wA];decide),hz] at this;exact this
     refine⟨_,rfl,_,rfl,d,_,rfl,DGet.rd (Rd.same hd s2) v2,l2,_,_,_,rfl,rfl,SqL.of (s2 _ _ h2),rfl,_,rfl,_,_,rfl,rfl,_,rfl,?_⟩;refine Aw (λq3=>?_) (λq3=>?_)
     ·refine⟨_,rfl,_,rfl,_,rfl,d,_,rfl,DGet.rd (Rd.same hd s2) v2,l2,_,_,_,rfl,rfl,SqL.of (s2 _ _ h2),rfl,_,_,rfl,rfl,_,rfl,?_⟩;refine Aw (λq4=>?_) (λq4=>?_)
      ·exact fF _ (T7 ⟨Ua q3,Ua q4⟩)
      ·exact fF _ (T6 λz=>Ub q4 z.2)
     ·exact Bz (fF _ (T6 λz=>Ub q3 z.1))
def Iy:FnScope NBa ["_law_row_here", "_law_name"] (defScope sBarred):=by walk_at "s"
def Xp1  (F:Fun K "_law_barred" "_law_barred" sBarred f fd) (T:Bl mg) (FW:Fn P w K mg base CX0 1 "_law_where" ["_law_row_here"] Nf)
  (FO:Fn P w K mg base CX0 1 "_law_word" ["_law_where_here", "_law_one", "_law_other"] spWord):FnOk P w K mg base CX0 2 f fd ["_law_row_here", "_law_name"] spBarredN:=by
 refine F.ok Iy (by walk_at "l") ?_
 ·walk_at "i"
  obtain⟨r,row,x,rfl,hR,hl,h2,hx,k⟩:=h;have hu:=Ed hr;refine⟨_,Ae (Ao (i:=2) Iy.nd rfl (.inr rfl) (Ai FW hr rfl Am (Aa (pv 0) Ac)))
   (Ae (Gi (i:=3) (N:=NBc) (cap:=[none,some 1,some 2]) (CompScope.of (defScope sBarred) NBa rfl rfl rfl (by decide +kernel)) rfl Iy.nd rfl rfl
     (Xi2 (pv 2)) (λ_ _ _=>Az (i:=0) (show NBc.Nodup by decide +kernel) rfl (.inl rfl) (.inr rfl))
     (λ_ _ _=>Dj (Aq Bp (Ai FO hr rfl Am (Aa (pv 2) (Aa (pv 1) (Aa (pv 0) Ac)))) A7 (Ar _))) (λ_ _ _=>pv 0))
   (Ae (Dg bB.never rfl (Je rfl T.range (Aa (Ax Br (by rfl) T.len aT (Aa (pv 3) Ac)) Ac)) (Az (i:=4) Iy.nd rfl (.inl rfl))
    (Ag (Dg bB.never rfl (Cf (Bt Ci (pv 3) (Bq (Ak B6 (pv 4) Af)) Bx)) (Az (i:=5) Iy.nd rfl (.inl rfl))
     (Ag (A8 (Aq Bp (Ai FO hr rfl Am (Aa (pv 2) (Aa (A0 Bh (pv 3) (pv 4) (λ_ _=>rfl)) (Aa (pv 5) Ac)))) A7 (Ar _)) (Ag (Ap Dt)) Bb)))))
   (Ag (Ap Dt)))),?_⟩
  refine⟨_,rfl,r,row,rfl,hR,hl,λd kvs H1 nd hd wh s1=>?_⟩;refine⟨_,rfl,d,kvs,rfl,hd,λo=>?_⟩;generalize jN:upd H1 d (.frz o (.dK kvs))=H2;have s2:Same H H2:=λb u e=>by rw[<-jN,Ad (Au e nd)];exact s1 b u e
  have cS:H2 d=some (.frz o (.dK kvs)):=by rw[<-jN];exact Ab
  have tZ:Wh H2 kvs row:=⟨wh.keys,λy hy=>let ⟨l,e1,e2⟩:=wh.val y hy; ⟨l,e1,by rw[<-jN,Ad (λz=>by rw[z,hd] at e2;cases e2)];exact e2⟩,wh.none,wh.nd,wh.len⟩;have kn:=wh.len;refine Ju (n:=kvs.length) (λi=>(kvs.map λp=>kV p.1).getD i .non) (λD i Z2 H3=>∃(v:Option V) (ms:Za), Z2=[v,some (.str x),some (.ref d)]/\Same H2 H3/\H3 D=some (.lst (ms.map V.str))/\(∀m∈ms,m∈row)/\ms.length<=i/\∀(j:Nat) (y:aq),j<i->(kvs.map λp=>kV p.1).getD j .non = .str y->Ay row x y->y∈ms) ?_ ?_ ?_ ?_ ?_
  ·intro D hD;exact⟨none,[],rfl,(Same.refl H2).step hD,Ab,by simp,Oy _,λj y h=>absurd h (Qq _)⟩
  ·rintro D i Z2 H3 hD hi ⟨v,ms,rfl,s3,hm,dB,rS,c6⟩;exact Hm (s3 _ _ cS) hi
  ·rintro D Z2 H3 hD ⟨v,ms,rfl,s3,hm,dB,rS,c6⟩;exact Hn (s3 _ _ cS)
  ·rintro D i Z2 H3 hD hi ⟨v,ms,rfl,s3,hm,dB,rS,c6⟩;obtain⟨y,ko,jG⟩:∃y,(kvs.map λp=>kV p.1).getD i .non = .str y/\y∈row:=by
    obtain⟨y,e1,e2⟩:=wh.keys (kvs[i]'hi).1 (Pq.mpr ⟨kvs[i]'hi,Ps hi,rfl⟩);refine⟨y,?_,e2⟩;simp only[List.getD,Pf,Ox hi,Rf,Option.getD_some];rw[e1];rfl
   rw[ko];obtain⟨l1,e1,g1⟩:=tZ.pl hx (h2 x hx);obtain⟨l2,e2,g2⟩:=tZ.pl jG (h2 y jG);refine⟨_,rfl,_,rfl,_,rfl,d,l1,l2,kvs,x,y,_,_,_,_,rfl,.inr ⟨o,s3 _ _ cS⟩,e1,e2,s3 _ _ g1,s3 _ _ g2,λH4 s4=>?_⟩;have za:=s3.trans s4;refine⟨rfl,_,rfl,?_⟩;rw[<-Gp (h2 x hx) (h2 y jG)];refine Aw (λhc=>?_) (λhc=>wskip hi ⟨_,ms,rfl,za,s4 _ _ hm,dB,by lia,λj z hj hz kz=>?_⟩);rotate_left
   ·by_cases ej:j=i
    ·subst ej;rw[ko] at hz;injection hz with hz
     subst hz;exact absurd (by rw[show lieR row x y = "cross" from kz]) (Xd9 hc)
    ·exact c6 j z (by lia) hz kz
   refine⟨_,rfl,wput hi (s4 _ _ hm) (by rw[Ow,T5];lia) ⟨_,ms++[y],rfl,?_,by rw[Ab,O9];rfl,?_,by rw[O2,P9];lia,λj z hj hz kz=>?_⟩⟩
   ·intro b u e;rw[Ad (Au e hD)];exact za b u e
   ·intro m hm;rcases O5.mp hm with z | z
    ·exact dB m z
    ·rw[Oz.mp z];exact jG
   ·by_cases ej:j=i
    ·subst ej;rw[ko] at hz;injection hz with hz
     subst hz;simp
    ·exact Qc _ (c6 j z (by lia) hz kz)
  ·rintro D Z2 H3 hD ⟨v,ms,rfl,s3,hm,dB,rS,c6⟩;refine⟨_,rfl,D,_,rfl,.inl (SqL.of hm),((ms.map V.str).length:Int),rfl,by lia,by rw[Ow];lia,?_⟩;have hn:((ms.map V.str).length:Int).toNat=ms.length:=by rw[Ow];simp
   rw[hn];refine Jg (lo:=0) (n:=ms.length) (λi Z H4=>∃v1 v2, Z=[some (.ref r),some (.str x),some (.ref d),some (.ref D),v1,v2]/\Same H3 H4/\∀(p q:Nat) (y z:aq),p<i->p<q->ms[p]? = some y->ms[q]? = some z->¬Ay row y z) ?_ ?_ ?_
   ·exact⟨none,none,rfl,Same.refl _,λp q y z h=>absurd h (Qq _)⟩
   ·rintro i Z H4 hi ⟨v1,v2,rfl,s4,ho⟩;refine⟨_,rfl,_,rfl,_,_,rfl,rfl,_,rfl,D,_,rfl,SqL.of (s4 _ _ hm),λp np=>?_⟩;have e0:(0:Int)+(i:Int)+1=((i+1:Nat):Int):=by lia
    rw[e0,Ex _ _ _ (by lia)];have s5:Same H3 (upd H4 p (.lst ((ms.drop (i+1)).map V.str))):=s4.step np;refine⟨p,rfl,⟨_,SqL.of Ab⟩,?_⟩;refine Fl (K:=K) (a:=p) (xs:=(ms.drop (i+1)).map V.str) (λj Z H5=>∃v2, Z=[some (.ref r),some (.str x),some (.ref d),some (.ref D),some (.int (0+(i:Int))),v2]/\Same (upd H4 p (.lst ((ms.drop (i+1)).map V.str))) H5/\∀(q:Nat) (z:aq),q<j->ms[i+1+q]? = some z->¬Ay row (ms[i]'hi) z) ?_ ?_ ?_ ?_
    ·exact⟨_,rfl,Same.refl _,λq z h=>absurd h (Qq _)⟩
    ·rintro j Z H5 _ ⟨v2,rfl,s6,gq⟩;exact SqL.of (s6 _ _ Ab)
    ·rintro j y Z H5 hj ⟨v2,rfl,s6,gq⟩;obtain⟨z,rfl,hz,EA⟩:∃z,y=V.str z/\z∈ms/\ms[i+1+j]? = some z:=by
      rw[Pf] at hj;cases q:(ms.drop (i+1))[j]? with
      | none=>rw[q] at hj;cases hj
      | some z=>
       rw[q] at hj;exact⟨z,(Pd hj).symm,Qd (Rt q),by rw[<-q,Sm]⟩
     have px:=s5.trans s6;have kG:(ms.map V.str)[i]? = some (.str (ms[i]'hi)):=by rw[Pf,Ox hi];rfl
     have lG:atI (ms.map V.str) (0+(i:Int))=some (.str (ms[i]'hi)):=by rw[Int.zero_add];exact Du kG
     obtain⟨l1,e1,g1⟩:=tZ.pl (dB _ (Ps hi)) (h2 _ (dB _ (Ps hi)));obtain⟨l2,e2,g2⟩:=tZ.pl (dB _ hz) (h2 _ (dB _ hz));have wB:=s3.trans px;refine⟨_,rfl,_,rfl,_,rfl,D,_,_,_,rfl,rfl,SqL.of (px _ _ hm),lG,_,rfl,d,l1,l2,kvs,_,z,_,_,_,_,rfl,.inr ⟨o,wB _ _ cS⟩,e1,e2,wB _ _ g1,wB _ _ g2,λH6 s7=>?_⟩;refine⟨rfl,_,rfl,?_⟩;rw[<-Gp (h2 _ (dB _ (Ps hi))) (h2 _ (dB _ hz))];refine Aw (λ_=>?_) (λhc=>?_)
     ·exact k true H6 (λe=>by cases e) ((s2.trans s3).trans (px.trans s7))
     ·refine⟨_,rfl,s6.trans s7,λq u hq hu=>?_⟩;by_cases eq:q=j
      ·subst eq;rw[EA] at hu;have hu:=Pd hu;subst hu;exact λkz=>absurd (by rw[show lieR row (ms[i]'hi) z = "cross" from kz]) (Xd9 hc)
      ·exact gq q u (by lia) hu
    ·rintro Z H5 ⟨v2,rfl,s6,gq⟩;refine⟨_,_,rfl,s5.trans s6,λp q y z hp vc hy hz=>?_⟩;by_cases ep:p=i
     ·subst ep;rw[Ox hi] at hy;rw[<-Pd hy];refine gq (q - (p+1)) z ?_ (by rw[show p+1+(q - (p+1))=q by lia];exact hz);have:=(O8.mp hz).1;rw[Ow,P2]
      lia
     ·exact ho p q y z (by lia) vc hy hz
   ·rintro Z H4 ⟨v1,v2,rfl,s4,ho⟩;refine k false H4 (λ_ y hy z hz k1 k2 k3=>?_) ((s2.trans s3).trans s4);have mem:∀u∈row,Ay row x u->u∈ms:=λu hu ku=>by
     obtain⟨l,e,_⟩:=wh.val u hu;obtain⟨j,hj,ej⟩:=P7.mp (Hi e);rw[Ow] at hj;refine c6 j u hj ?_ ku;rw[Rb] at ej;simp only[List.getD,Pf,Ox hj,Rf,Option.getD_some];rw[ej];rfl
    obtain⟨p,hp,ep⟩:=P7.mp (mem y hy k1);obtain⟨q,hq,eq⟩:=P7.mp (mem z hz k2);have ka:ms[p]? = some y:=by rw[Ox hp,ep]
    have ua:ms[q]? = some z:=by rw[Ox hq,eq]
    rcases Nat.lt_trichotomy p q with h | h | h
    ·exact ho p q y z hp h ka ua k3
    ·subst h;rw[ka] at ua;have e:=Pd ua;subst e;exact E7 (h2 y hy) k3
    ·exact ho q p z y hq h ua ka (Dz (h2 y hy) (h2 z hz) k3)
def Eo:FnScope NRo ["_law_draw", "_law_names_here"] (defScope sRow):=by walk_at "s"
def Xp2  (F:Fun K "_law_row" "_law_row" sRow f fd) (T:Bl mg) (FP:FnPick P w K mg base) (wC:Fn P w K mg base CX0 1 "_law_put" ["_law_row_here", "_law_name", "_law_at", "_law_to"] Xdk)
  (FB:Fn P w K mg base CX0 2 "_law_barred" ["_law_row_here", "_law_name"] spBarredN):FnOk P w K mg base CX0 3 f fd ["_law_draw", "_law_names_here"] spRowN:=by
 refine F.ok Eo (by walk_at "l") ?_
 ·walk_at "i"
  obtain⟨dr,sc,nl,ns,rfl,dk,hN,wD,ub,zb,k⟩:=h;have c7:Room 1 _:=hr.mono (by decide);have fi:∀m,m<=100000->m<=sizeLine:=λm h=>by rw[T5];lia
  refine⟨_,Ae (A8 (Aq Bp (Ai FP c7 rfl Am (Aa (pv 0) (Aa Af Ac))) Af (Ar _))
    (Ae (Ao (i:=2) Eo.nd rfl (.inl rfl) (Ai FP c7 rfl Am (Aa (pv 0) (Aa (Ak B6 (Ax Br (by rfl) T.len aT (Aa (pv 1) Ac)) Af) Ac))))
    (Ag (Ap (Ak B3 (Ak B3 (pv 1) (Mf (Bt Ci (pv 1) Bx (Bq (pv 2))))) (Mf (Bt Ci (pv 1) (Bq (pv 2)) Bx)))))) Bb)
   (Ae (Ao (i:=3) Eo.nd rfl (.inl rfl) (B7 Ac))
   (Ae (Dg bB.never rfl (Cf (pv 1)) (Az (i:=4) Eo.nd rfl (.inl rfl))
    (Ae (Ao (i:=5) Eo.nd rfl (.inl rfl) (Ai FP c7 rfl Am (Aa (pv 0) (Aa (Ak B6 (Ax Br (by rfl) T.len aT (Aa (pv 3) Ac)) Af) Ac))))
    (Ae (Ao (i:=6) Eo.nd rfl (.inl rfl) (Ak B6 (pv 5) (Ai FP c7 rfl Am (Aa (pv 0) (Aa (Ak Xai (Ak B6 (Ax Br (by rfl) T.len aT (Aa (pv 3) Ac)) Af) (pv 5)) Ac)))))
    (Ae (Ao (i:=7) Eo.nd rfl (.inl rfl) (Ai wC c7 rfl Am (Aa (pv 3) (Aa (pv 4) (Aa (pv 5) (Aa (pv 6) Ac))))))
    (Ae (A8 (Fe (Ai FB hr rfl Am (Aa (pv 7) (Aa (pv 4) Ac))))
     (Ag (Ao (i:=7) Eo.nd rfl (.inl rfl) (Ak B3 (Ak B3 (Bt Ci (pv 3) Bx (Bq (pv 5))) (B7 (Aa (pv 4) (Aa (pv 4) Ac)))) (Bt Ci (pv 3) (Bq (pv 5)) Bx)))) Bb)
    (Ag (Ao (i:=3) Eo.nd rfl (.inl rfl) (pv 7))))))))
   (Ag (Ap (pv 3))))),?_⟩
  refine⟨_,rfl,dr,sc,4,rfl,by decide,by decide,dk,λr1 H1 _ _ d1 b1=>?_⟩;refine⟨rfl,_,rfl,?_⟩;have b1:But dr H H1:=b1;have wE:=b1 _ _ hN wD;refine Aw (λ_=>?_) (λ_=>?_)
  ·-- DZ EB
   refine⟨_,rfl,_,rfl,nl,_,rfl,.inl (SqL.of wE),_,_,rfl,rfl,dr,sc,_,rfl,by lia,by rw[Ow];lia,d1,λc H2 c0 c1 d2 b2=>?_⟩;obtain⟨c,rfl⟩:=Pz c0;rw[Ow] at c1;have hc:c<=ns.length:=by lia
   have jr:=But.trans b1 b2;have wF:=b2 _ _ wE wD;obtain⟨xs,mC⟩:=d2.at;refine⟨_,rfl,_,rfl,_,rfl,_,rfl,nl,_,rfl,SqL.of wF,λp1 n1=>?_⟩;rw[Dw _ _ _ hc];refine⟨p1,_,rfl,SqL.of Ab,λp2 n2=>?_⟩;refine⟨nl,p2,_,_,rfl,rfl,ku (ku wF n1) n2,Ab,fi _ (by simp;lia),λp3 n3=>?_⟩;refine⟨_,rfl,_,rfl,_,rfl,nl,_,rfl,SqL.of (ku (ku (ku wF n1) n2) n3),λp4 n4=>?_⟩;rw[Ex _ _ _ hc];refine⟨p4,_,rfl,SqL.of Ab,λp5 n5=>?_⟩;refine⟨p3,p5,_,_,rfl,rfl,ku (ku Ab n4) n5,Ab,fi _ (by simp;lia),λp6 n6=>?_⟩;have s5:=(((((Same.refl H2).go n1 n2).go n2 n3).go n3 n4).go n4 n5).go n5 n6;have f6:=s5.free n6;have mq:(ns++(ns.take c).reverse++(ns.drop c).reverse).Perm (ns++ns):=by
    rw[Pp];refine Qk ns ?_;refine((Rc _).append (Rc _)).trans ?_;rw[Pi]
   refine k p6 (ns++(ns.take c).reverse++(ns.drop c).reverse) _ (jr.free mC f6) (Ab.trans (by simp)) mq (noThree_grid ub c λz hz=>Gm ub mq z ?_) (d2.same (s5.step n6)) (jr.same (s5.step n6));exact mq.mem_iff.mpr (Qc _ hz)
  ·-- JQ one by one
   refine⟨by show 0<=sizeLine;decide,λp np=>?_⟩;obtain⟨EC,rT⟩:=d1.at;have s0:Same H1 (upd H1 p (.lst [])):=(Same.refl H1).step np;refine⟨_,rfl,nl,rfl,⟨_,SqL.of (s0 _ _ wE)⟩,?_⟩;refine Fl (K:=K) (a:=nl) (xs:=ns.map V.str) (λi Z H2=>∃(v2 v4 v5 v6 v7:Option V) (q:ae) (row:Za), Z=[some (.ref dr),some (.ref nl),v2,some (.ref q),v4,v5,v6,v7]/\H2 q=some (.lst (row.map V.str))/\H q=none/\q≠dr/\row.Perm (ns.take i++ns.take i)/\Bk row/\DrawOk H2 dr sc/\But dr H H2) ?_ ?_ ?_ ?_
   ·exact⟨_,_,_,_,_,p,[],rfl,Ab,b1.free rT np,(Au rT np).symm,by simp,Xlx,d1.same s0,b1.same s0⟩
   ·rintro i Z H2 _ ⟨v2,v4,v5,v6,v7,q,row,rfl,hq,nq,oq,hp,eF,d2,b2⟩;exact SqL.of (b2 _ _ hN wD)
   ·rintro i y Z H2 hi ⟨v2,v4,v5,v6,v7,q,row,rfl,hq,nq,oq,hp,eF,d2,b2⟩;have fQ:i<ns.length:=by
     have:=(O8.mp hi).1
     rwa [Ow] at this
    obtain⟨x,rfl,hx⟩:∃x,y=V.str x/\ns[i]? = some x:=by
     rw[Pf] at hi;cases z:ns[i]? with
     | none=>rw[z] at hi;cases hi
     | some x=>rw[z] at hi;exact⟨x,(Pd hi).symm,rfl⟩
    have tk:ns.take (i+1)=ns.take i++[x]:=by
     rw[Pk fQ];rw[Ox fQ] at hx;rw[Pd hx]
    have jJ:row.length<=28:=by
     have:=hp.length_eq;rw[O2,Pc] at this
     lia
    have wG:(ns.take i++[x]).Nodup:=by rw[<-tk];exact ub.sublist (Qe ..)
    refine⟨_,rfl,_,rfl,q,_,rfl,.inl (SqL.of hq),_,_,rfl,rfl,dr,sc,_,rfl,by lia,by rw[Ow];lia,d2,λa H3 a0 a1 d3 b3=>?_⟩;obtain⟨a,rfl⟩:=Pz a0;rw[Ow] at a1;have pB:=b3 _ _ hq oq;refine⟨_,rfl,_,rfl,_,rfl,q,_,rfl,.inl (SqL.of pB),_,_,rfl,rfl,_,rfl,_,_,rfl,rfl,dr,sc,_,rfl,by rw[Ow];lia,by rw[Ow];lia,d3,λc H4 c0 c1 d4 b4=>?_⟩;obtain⟨c,rfl⟩:=Pz c0;rw[Ow] at c1;refine⟨_,_,rfl,rfl,?_⟩;have ED:(a:Int)+(c:Int)=((a+c:Nat):Int):=by lia
    dsimp only;rw[ED];have kE:a+c<=row.length:=by lia
    have mE:=b4 _ _ pB oq;have zc:=But.trans b2 (But.trans b3 b4);obtain⟨EE,lH⟩:=d4.at;refine⟨_,rfl,_,rfl,_,rfl,_,rfl,q,row,x,a,a+c,rfl,mE,by lia,by lia,kE,λl H5 zd m8 s5=>?_⟩;have d5:=d4.same s5;have EF:=zc.same s5;have rV:=zc.free lH zd;have jf:l≠dr:=(Au lH zd).symm;have g9:(E3 row x a (a+c)).Perm ((ns.take i++[x])++(ns.take i++[x])):=Xdo hp (Xdj row x a (a+c) (by lia));have qE:(E3 row x a (a+c)).length<=1000:=by
     have:=g9.length_eq;rw[O2,O2,Pc,P9] at this
     lia
    refine⟨_,rfl,_,rfl,l,_,x,rfl,m8,qE,Gm wG g9,g9.mem_iff.mpr (by simp),λbb H6 wH s6=>?_⟩;have d6:=d5.same s6;have wI:=EF.same s6;refine⟨bb,rfl,?_⟩;have rW:∀y∈row,row.count y=2:=Gm (ub.sublist (Qe ..)) hp;refine Aw (λ_=>?_) (λEG=>?_)
    ·have ze:=s6 _ _ (s5 _ _ mE);refine⟨_,rfl,_,rfl,_,rfl,q,_,rfl,SqL.of ze,λp1 n1=>?_⟩;rw[Dw _ _ _ (by lia)];refine⟨_,rfl,_,rfl,by show 2<=sizeLine;decide,λp2 n2=>?_⟩;refine⟨p1,p2,_,_,rfl,rfl,ku Ab n2,Ab,fi _ (by simp;lia),λp3 n3=>?_⟩;refine⟨_,rfl,_,rfl,_,rfl,q,_,rfl,SqL.of (ku (ku (ku ze n1) n2) n3),λp4 n4=>?_⟩;rw[Ex _ _ _ (by lia)];refine⟨p3,p4,_,_,rfl,rfl,ku Ab n4,Ab,fi _ (by simp;lia),λp5 n5=>?_⟩;have wJ:=((((Same.refl H6).go n1 n2).go n2 n3).go n3 n4).go n4 n5;have f5:=wJ.free n5;obtain⟨JR,rX⟩:=d6.at;have pN:(row.take a++[x,x]++row.drop a).Perm (x::x::row):=by
      have e:row.take a++[x,x]++row.drop a=row.take a++x::x::row.drop a:=by simp
      rw[e];refine R1.trans (List.Perm.cons x (R1.trans (List.Perm.cons x ?_)));rw[Pi]
     have pM:=Xdo hp pN;have ot:=Gm wG pM;refine⟨_,rfl,_,_,_,_,_,p5,row.take a++[x,x]++row.drop a,rfl,Ab.trans (by simp),wI.free rX f5,(Au rX f5).symm,by rw[tk];exact pM,?_,d6.same (wJ.step n5),wI.same (wJ.step n5)⟩;refine Xd7 (x:=x) eF rW ot (λy hy=>?_) (λp hp=>Xl0 hp) (λy hy z hz ky=>absurd ky (Xlz (ot x (by simp)) (ot y hy)));have:=pN.mem_iff.mp hy;simp only[Ph] at this;rcases this with h | h | h
     ·exact .inl h
     ·exact .inl h
     ·exact .inr h
    ·refine⟨_,rfl,_,_,_,_,_,l,_,rfl,s6 _ _ m8,rV,jf,by rw[tk];exact g9,?_,d6,wI⟩;refine Xd7 (x:=x) eF rW (Gm wG g9) (λy hy=>?_) (λp hp=>Xly (by lia) hp) (wH EG);have:=(Xdj row x a (a+c) (by lia)).mem_iff.mp hy;simp only[Ph] at this;rcases this with h | h | h
     ·exact .inl h
     ·exact .inl h
     ·exact .inr h
   ·rintro Z H2 ⟨v2,v4,v5,v6,v7,q,row,rfl,hq,nq,oq,hp,eF,d2,b2⟩;rw[Ow,Qo] at hp;exact⟨_,rfl,k q row H2 nq hq hp eF d2 b2⟩
def Fd:FnScope NNa ["_law_draw", "_law_many"] (defScope sNames):=by walk_at "s"
def Xp3  (F:Fun K "_law_names" "_law_names" sNames f fd) (T:Bl mg) (FP:FnPick P w K mg base):FnOk P w K mg base CX0 2 f fd ["_law_draw", "_law_many"] Xdn:=by
 refine F.ok Fd (by walk_at "l") ?_
 ·walk_at "i"
  obtain⟨dr,sc,n,rfl,hn,dk,k⟩:=h;refine⟨_,Ae (Ao (i:=2) Fd.nd rfl (.inl rfl) A7)
   (Ae (Ao (i:=3) Fd.nd rfl (.inl rfl) (Ai FP hr rfl Am (Aa (pv 0) (Aa Af Ac))))
   (Ae (Ao (i:=4) Fd.nd rfl (.inl rfl) (Ea Bp (Ai FP hr rfl Am (Aa (pv 0) (Aa Af Ac))) Af (Ar _)))
   (Ae (Ao (i:=5) Fd.nd rfl (.inl rfl) (B7 Ac))
   (Ae (Dg bB.never rfl (Je rfl T.range (Aa (pv 1) Ac)) (Az (i:=6) Fd.nd rfl (.inl rfl))
    (Ae (Ao (i:=7) Fd.nd rfl (.inl rfl) (A0 Xhq (pv 2) (Ak F9 (Ak B6 (pv 3) (pv 6)) Af) (λ_ _=>rfl)))
    (Ae (Ao (i:=8) Fd.nd rfl (.inl rfl) (Ak Xiz A7 (Ak F9 (Ak B6 (pv 3) (Ak Xaj (pv 6) (pv 6))) Af)))
    (Ag (He (L3 PySem.F.plainAttrs_list PySem.F.slot_list_append PySem.F.type_list_append L5 (pv 5)
     (Aa (Iz (Fe (pv 4)) (Ak Jk (Ak Jk (pv 8) (pv 7)) A7) (Ak Jk (pv 7) (pv 8))) Ac)))))))
   (Ag (Ap (pv 5))))))),?_⟩
  refine⟨_,rfl,dr,sc,26,rfl,by decide,by decide,dk,λr1 H1 zf JS d1 b1=>?_⟩;refine⟨_,rfl,dr,sc,2,rfl,by decide,by decide,d1,λr2 H2 zg JT d2 b2=>?_⟩;refine⟨rfl,?_⟩;refine⟨by show 0<=sizeLine;decide,λl nl=>?_⟩;obtain⟨st,rfl⟩:=Pz zf;have bv:st<26:=by lia
  generalize bo:decide (V.int r2=V.int 1)=aX;have jr:But dr H H2:=But.trans b1 b2;obtain⟨xs,mC⟩:=d2.at;have rV:H l=none:=jr.free mC nl;obtain⟨jf,uc⟩:=d2.ne nl;refine⟨_,rfl,(n:Int),rfl,by lia,by lia,?_⟩;rw[Sd];refine Jg (lo:=0) (n:=n) (λi Z H3=>∃v1 v2 v3, Z=[some (.ref dr),some (.int n),some (.str Fz),some (.int st),some (.bl aX),some (.ref l),v1,v2,v3]/\H3 l=some (.lst ((Bd st aX i).map V.str))/\DrawOk H3 dr sc/\But dr H H3) ?_ ?_ ?_
  ·exact⟨none,none,none,rfl,Ab,d2.upd jf uc,jr.upd rV⟩
  ·rintro i Z H3 hi ⟨v1,v2,v3,rfl,mF,d3,b3⟩;have EH:((st:Int)+(0+(i:Int))) % 26=(((st+i) % 26:Nat):Int):=by lia
   have EI:(st+i) % 26<26:=Tp _ (by decide);have EJ:((0:Int)+(i:Int)) * (0+(i:Int))=((i * i:Nat):Int):=by rw[Int.zero_add];exact(Int.natCast_mul i i).symm
   have h7:(st+i * i) % 7<7:=Tp _ (by decide);have e7:((st:Int)+((i * i:Nat):Int)) % 7=(((st+i * i) % 7:Nat):Int):=by
    generalize i * i=j
    lia
   refine⟨_,rfl,_,rfl,_,rfl,_,_,rfl,rfl,_,_,rfl,rfl,(by show (0:Int)<26;decide),_,_,_,rfl,rfl,(by show 26<=sizeLine;decide),by rw[EH];exact Xk3 EI,?_⟩;refine⟨_,rfl,_,rfl,_,rfl,_,_,rfl,rfl,.inl ⟨by lia,by lia⟩,_,_,rfl,rfl,_,_,rfl,rfl,(by show (0:Int)<7;decide),?_⟩;have wK:((st:Int)+((0:Int)+(i:Int)) * (0+(i:Int))) % 7=(((st+i * i) % 7:Nat):Int):=by rw[EJ,e7]
   refine⟨_,_,rfl,rfl,by rw[wK];lia,by rw[wK];lia,by show 1<=1000;decide,?_⟩;rw[wK,Sd];have jJ:(repS "m" ((st+i * i) % 7)).length<=6:=by
    rw[Mh];have:(aq.ofString "m").length=1:=rfl;rw[this]
    lia
   have lg:(signOf ((st+i) % 26)).length=1:=rfl;have zb:(Bd st aX i).length=i:=by unfold Bd;simp
   have rY:Bd st aX (i+1)=Bd st aX i++[Ie st aX i]:=by unfold Bd;rw[Qa,O9];rfl
   have fi:∀m,m<=100000->m<=sizeLine:=λm h=>by rw[T5];lia
   have fin:∀z:aq,Ie st aX i=z->L4 (.ref l) [.str z] H3 λ_ H4=>∃v1 v2 v3,[some (V.ref dr),some (.int n),some (.str Fz),some (.int st),some (.bl aX),some (.ref l),some (.int (0+(i:Int))),some (.str (signOf ((st+i) % 26))),some (.str (repS "m" ((st+i * i) % 7)))]=[some (.ref dr),some (.int n),some (.str Fz),some (.int st),some (.bl aX),some (.ref l),v1,v2,v3]/\H4 l=some (.lst ((Bd st aX (i+1)).map V.str))/\DrawOk H4 dr sc/\But dr H H4:=λz hz=>by
    refine⟨l,_,_,rfl,rfl,mF,by rw[Ow,zb,T5];lia,_,_,_,rfl,?_,d3.upd jf uc,b3.upd rV⟩;rw[Ab,rY,O9,<-hz];rfl
   refine⟨_,rfl,.inl ⟨rfl,_,SqL.of mF⟩,_,rfl,aX,rfl,?_⟩;refine Aw (λhL=>?_) (λhL=>?_)
   ·refine⟨_,rfl,_,rfl,_,_,rfl,rfl,fi _ (by show (repS "m" ((st+i * i) % 7)).length+1<=100000;lia),_,_,rfl,rfl,fi _ ?_,fin _ (by unfold Ie;rw[T7 hL];rfl)⟩;rw[Ee];show (repS "m" ((st+i * i) % 7)).length+1+1<=100000
    lia
   ·exact⟨_,rfl,_,rfl,_,_,rfl,rfl,fi _ (by show 1+(repS "m" ((st+i * i) % 7)).length<=100000;lia),fin _ (by unfold Ie;rw[T6 (by rw[hL];decide)];rfl)⟩
  ·rintro Z H3 ⟨v1,v2,v3,rfl,mF,d3,b3⟩;exact⟨_,rfl,k l st aX H3 rV bv mF uc d3 b3⟩
def Ou:FnScope NIs ["_law_draw", "_law_most"] (defScope sIsland):=by walk_at "s"
def Xp4  (F:Fun K "_law_island" "_law_island" sIsland f fd) (T:Bl mg) (FP:FnPick P w K mg base) (FN:Fn P w K mg base CX0 2 "_law_names" ["_law_draw", "_law_many"] Xdn)
  (FR:Fn P w K mg base CX0 3 "_law_row" ["_law_draw", "_law_names_here"] spRowN):FnOk P w K mg base CX0 4 f fd ["_law_draw", "_law_most"] spIslandN:=by
 refine F.ok Ou (by walk_at "l") ?_
 ·walk_at "i"
  obtain⟨dr,sc,m,rfl,hm,dk,k⟩:=h;have c7:Room 1 _:=hr.mono (by decide);have fB:Room 2 _:=hr.mono (by decide);refine⟨_,Ae (Ao (i:=2) Ou.nd rfl (.inl rfl) (Ak B6 Af (Ai FP c7 rfl Am (Aa (pv 0) (Aa Af Ac)))))
   (Ae (Ao (i:=3) Ou.nd rfl (.inl rfl) (A0 Jl (Ca (Aa (Ai FP c7 rfl Am (Aa (pv 0) (Aa Af Ac))) (Aa (pv 2) (Aa (Ai FP c7 rfl Am (Aa (pv 0) (Aa (Ak B6 (pv 1) Af) Ac))) Ac))))
    (Ai FP c7 rfl Am (Aa (pv 0) (Aa Af Ac))) (λ_ _=>rfl)))
   (Ag (Ap (Ai FR hr rfl Am (Aa (pv 0) (Aa (Ai FN fB rfl Am (Aa (pv 0) (Aa (Ax (Xhb rfl) (by rfl) T.min boot_min (Aa (pv 3) (Aa (pv 1) Ac))) Ac))) Ac)))))),?_⟩
  refine⟨_,rfl,dr,sc,5,rfl,by decide,by decide,dk,λr1 H1 zf _ d1 b1=>⟨_,_,rfl,rfl,?_⟩⟩;refine⟨_,rfl,dr,sc,5,rfl,by decide,by decide,d1,λr2 H2 zg _ d2 b2=>?_⟩;refine⟨_,rfl,_,rfl,_,rfl,_,_,rfl,rfl,dr,sc,_,rfl,by lia,by lia,d2,λr3 H3 EK _ d3 b3=>?_⟩;have b1:But dr H H1:=b1;have rZ:But dr H H3:=But.trans b1 (But.trans b2 b3);refine⟨by show 3<=sizeLine;decide,λp np=>?_⟩;obtain⟨se,sf⟩:=d3.ne np;obtain⟨JU,wL⟩:=d3.at;have EL:=rZ.free wL np;refine⟨_,rfl,dr,sc,3,rfl,by decide,by decide,d3.upd se sf,λr4 H4 EM JV d4 b4=>?_⟩;have b4:But dr (L2.upd H3 p (.tup [.int r2,.int (2+r1),.int r3])) H4:=b4;have ou:=b4 p _ Ab se;have pD:But dr H H4:=But.trans (rZ.upd EL) b4;obtain⟨mm,wM,EN⟩:∃mm:Int,0<=mm/\atI ([.int r2,.int (2+r1),.int r3]:List V) r4=some (.int mm):=by
   obtain⟨i,rfl⟩:=Pz EM;have hi:i<3:=by lia
   match i,hi with
   | 0,_=>exact⟨r2,zg,rfl⟩
   | 1,_=>exact⟨2+r1,by lia,rfl⟩
   | 2,_=>exact⟨r3,EK,rfl⟩
  refine⟨p,_,_,_,rfl,rfl,SqT.of ou,EN,?_⟩;obtain⟨n,hn,EO⟩:∃n:Nat,(if (m:Int)<mm then (m:Int) else mm)=(n:Int)/\n<=m:=by
   obtain⟨j,rfl⟩:=Pz wM;by_cases hj:(m:Int)<(j:Int)
   ·exact⟨m,T7 hj,Oy _⟩
   ·exact⟨j,T6 hj,by lia⟩
  refine⟨_,rfl,_,rfl,_,rfl,_,rfl,_,_,rfl,?_⟩;rw[hn];refine⟨dr,sc,n,rfl,by lia,d4,λl st aX H5 nl bv m8 uc d5 b5=>?_⟩;obtain⟨EE,lH⟩:=d4.at;have jf:l≠dr:=(Au lH nl).symm;have zh:=But.trans pD b5;refine⟨dr,sc,l,_,rfl,d5,m8,jf,Nh bv (by lia),by unfold Bd;simp;lia,λl2 row H6 pF EQ hp eF d6 b6=>?_⟩;obtain⟨JW,wO⟩:=d5.at;exact k l2 row n st aX H6 (zh.free wO pF) EO bv EQ hp eF d6 (But.trans zh b6)
def G6:FnScope NBr ["_law_row_here"] (defScope s__law_bars):=by walk_at "s"
def Xp5  (F:Fun K "_law_bars" "_law_bars" s__law_bars f fd) (T:Bl mg) (FW:Fn P w K mg base CX0 1 "_law_where" ["_law_row_here"] Nf)
  (FO:Fn P w K mg base CX0 1 "_law_word" ["_law_where_here", "_law_one", "_law_other"] spWord):FnOk P w K mg base CX0 2 f fd ["_law_row_here"] spBars:=by
 refine F.ok G6 (by walk_at "l") ?_
 ·walk_at "i"
  obtain⟨r,row,rfl,hR,R2,k⟩:=h;refine⟨_,Ae (Ao (i:=1) G6.nd rfl (.inl rfl) (Ai FW hr (by rfl) Am (Aa (pv 0) Ac)))
   (Ae (Ao (i:=2) G6.nd rfl (.inl rfl) (B7 Ac))
   (Ae (Dg bB.never rfl (Cf (Ax (Xch rfl) (by rfl) T.sorted (by rfl) (Aa (pv 1) Ac))) (Az (i:=3) G6.nd rfl (.inl rfl))
    (Ag (Dg bB.never rfl (Cf (Ax (Xch rfl) (by rfl) T.sorted (by rfl) (Aa (pv 1) Ac))) (Az (i:=4) G6.nd rfl (.inl rfl))
     (Ae (Ao (i:=5) G6.nd rfl (.inl rfl) (Ai FO hr (by rfl) Am (Aa (pv 1) (Aa (pv 3) (Aa (pv 4) Ac)))))
     (Ag (A8 (Ep (Aq Bp (pv 5) A7 (Ar _)) (Fg (Fh (Aq Bp (pv 5) A7 (Ar _)) (Ff (Aq Xar (pv 3) (pv 4) (Ar _)))).pt)).pt
      (Ag (He (L3 PySem.F.plainAttrs_list PySem.F.slot_list_append PySem.F.type_list_append L5 (pv 2) (Aa (Ca (Aa (pv 3) (Aa (pv 4) (Aa (pv 5) Ac)))) Ac)))) Bb))))))
   (Ag (Ap (pv 2))))),?_⟩
  have jJ:=R2.len;have l6:=Ei row;refine⟨_,rfl,r,row,rfl,hR,by lia,λd kvs H1 nd hd wh s1=>?_⟩;obtain⟨ss,gx,zi,zj⟩:=wh.names;have lg:ss.length<=60:=by
   have h1:=congrArg List.length gx;rw[Ow,Ow] at h1;have:=wh.len
   lia
  refine⟨by show 0<=sizeLine;decide,λu nu=>?_⟩;refine⟨_,rfl,d,kvs,ss,rfl,.inl (ku hd nu),gx,by lia,λsn ls wP wQ ER=>?_⟩;rw[Xcn wQ ER zi zj];have ES:∀{xs:List V},upd (upd H1 u (.lst [])) sn (.lst xs) u=some (.lst []):=λ{xs}=>ku Ab wP;have s2:Same H1 (upd (upd H1 u (.lst [])) sn (.lst ((dit row).map V.str))):=((Same.refl H1).step nu).step wP;have ox:upd (upd H1 u (.lst [])) sn (.lst ((dit row).map V.str)) sn=some (.lst ((dit row).map V.str)):=Ab;have ET:sn≠u:=(Au (H:=upd H1 u (.lst [])) Ab wP).symm;have pf:upd (upd H1 u (.lst [])) sn (.lst ((dit row).map V.str)) u=some (.lst []):=ES;generalize upd (upd H1 u (.lst [])) sn (.lst ((dit row).map V.str))=H2 at s2 ox pf;have EU:∀(i j:Nat),i<=60->∀x,((Db row i++C4 row x ((dit row).take j)).map trD).length<=5000:=λi j hi x=>by
   rw[Ow,O2];have h1:=Xlr row i;have h2:=Xd4 row x ((dit row).take j);rw[Pc] at h2;have h3:i * (dit row).length<=60 * 60:=Nat.mul_le_mul hi (by lia)
   lia
  have eJ:∀b o,H1 b=some o->hid u H2 b=some o:=λb o e=>C0 (s2 _ _ e) (Au e nu);refine⟨sn,rfl,⟨_,SqL.of ox⟩,?_⟩;refine Fl (K:=K) (a:=sn) (xs:=(dit row).map V.str) (λi Z H9=>∃v3 v4 v5, Z=[some (.ref r),some (.ref d),some (.ref u),v3,v4,v5]/\Same (hid u H2) H9/\∃xs,H9 u=some (.lst xs)/\DAll (hid u H9) ((Db row i).map trD) xs) ?_ ?_ ?_ ?_
  ·exact⟨none,none,none,rfl,Fy u H2,[],pf,Ez⟩
  ·rintro i Z H9 _ ⟨v3,v4,v5,rfl,s9,_⟩;exact SqL.of (s9 _ _ (C0 ox ET))
  ·rintro i y Z H9 hi ⟨v3,v4,v5,rfl,s9,xs,ud,cW⟩;have fQ:i<(dit row).length:=by
    have:=(O8.mp hi).1
    rwa [Ow] at this
   obtain⟨x,rfl,hx⟩:∃x,y=V.str x/\(dit row).getD i aq.empty=x:=by
    rw[Pf,Ox fQ] at hi;exact⟨_,(Pd hi).symm,by simp[List.getD,fQ]⟩
   have jd:x∈row:=Aj.mp (by rw[<-hx];exact C2 fQ);refine⟨_,rfl,d,kvs,ss,rfl,.inl (s9 _ _ (eJ _ _ hd)),gx,by lia,λoy JY sh mT vi=>?_⟩;rw[Xcn mT vi zi zj];have jA:Same H9 (upd H9 oy (.lst ((dit row).map V.str))):=(Same.refl H9).step sh;have jR:upd H9 oy (.lst ((dit row).map V.str)) oy=some (.lst ((dit row).map V.str)):=Ab;have wR:oy≠u:=(Au ud sh).symm;generalize upd H9 oy (.lst ((dit row).map V.str))=ue at jA jR;have si:=DAll.same (Hz (D:=u) jA) _ _ cW;have wS:=jA _ _ ud;have zk:=s9.trans jA;refine⟨oy,rfl,⟨_,SqL.of jR⟩,?_⟩;refine Fl (K:=K) (a:=oy) (xs:=(dit row).map V.str) (λj Z oz=>∃v4 v5, Z=[some (.ref r),some (.ref d),some (.ref u),some (.str x),v4,v5]/\Same (hid u ue) oz/\∃xs,oz u=some (.lst xs)/\DAll (hid u oz) ((Db row i++C4 row x ((dit row).take j)).map trD) xs) ?_ ?_ ?_ ?_
   ·exact⟨v4,v5,rfl,Fy u ue,xs,wS,by simpa [C4] using si⟩
   ·rintro j Z oz _ ⟨v4,v5,rfl,pG,_⟩;exact SqL.of (pG _ _ (C0 jR wR))
   ·rintro j z Z oz hj ⟨v4,v5,rfl,pG,xs,o4,iM⟩;have o5:j<(dit row).length:=by
     have:=(O8.mp hj).1
     rwa [Ow] at this
    obtain⟨y,rfl,hy⟩:∃x,z=V.str x/\(dit row).getD j aq.empty=x:=by
     rw[Pf,Ox o5] at hj;exact⟨_,(Pd hj).symm,by simp[List.getD,o5]⟩
    have nQ:y∈row:=Aj.mp (by rw[<-hy];exact C2 o5);have c1:=R2.two x jd;have c2:=R2.two y nQ;have bb:∀b o,H1 b=some o->oz b=some o:=λb o e=>pG _ _ (C0 (zk _ _ (eJ b o e)) (Au e nu));obtain⟨l1,e1,g1⟩:=wh.two' jd c1;obtain⟨l2,e2,g2⟩:=wh.two' nQ c2;refine⟨_,rfl,_,rfl,_,rfl,d,l1,l2,kvs,x,y,_,_,_,_,rfl,.inl (bb _ _ hd),e1,e2,bb _ _ g1,bb _ _ g2,λsj gX=>?_⟩;rw[<-Gp c1 c2];have lI:=gX _ _ o4;have jS:=DAll.same (Hz (D:=u) gX) _ _ iM;have jr:=pG.trans gX;have gT:=Xlq row x o5;rw[hy] at gT;have stay:Cq row x y=false->∃v4 v5,[some (V.ref r),some (.ref d),some (.ref u),some (.str x),some (.str y),some (.str (lieR row x y))]=[some (.ref r),some (.ref d),some (.ref u),some (.str x),v4,v5]/\Same (hid u ue) sj/\∃xs,sj u=some (.lst xs)/\DAll (hid u sj) ((Db row i++C4 row x ((dit row).take (j+1))).map trD) xs:=λhk=>by
     refine⟨_,_,rfl,jr,xs,lI,?_⟩;rw[gT,hk,T6 Pe,P3];exact jS
    have app:Cq row x y=true->Xad (tBM K "list" L4 (Co 2) (Eb (Lr (Eb (Co 3) (Eb (Co 4) (Eb (Co 5) Fm)))) Fm)) {nx:=fun Z H=>∃v4 v5, Z=[some (.ref r),some (.ref d),some (.ref u),some (.str x),v4,v5]/\Same (hid u ue) H/\∃xs,H u=some (.lst xs)/\DAll (hid u H) ((Db row i++C4 row x ((dit row).take (j+1))).map trD) xs,rt:=Q} [some (V.ref r),some (.ref d),some (.ref u),some (.str x),some (.str y),some (.str (lieR row x y))] sj:=λhk=>by
     refine⟨_,rfl,.inl ⟨rfl,_,SqL.of lI⟩,_,rfl,_,rfl,_,rfl,by show 3<=sizeLine;decide,λp np=>?_⟩;have tW:xs.length<=5000:=by
      rw[Gj jS];exact EU i j (by lia) x
     refine⟨u,_,_,rfl,rfl,ku lI np,by rw[T5];lia,?_⟩;refine⟨_,_,rfl,?_,xs++[.ref p],Ab,?_⟩
     ·intro b o e;have nb:b≠u:=λz=>by rw[z] at e;unfold hid at e;rw[T7 rfl] at e;cases e
      rw[Ad nb,Ad (Au (jr _ _ e) np)];exact jr _ _ e
     ·rw[Xc8,gT,hk,T7 rfl,<-Pp,O9];refine J5 (DAll.same (Hz (D:=u) ((Same.refl sj).step np)) _ _ jS) ?_;exact Xc9 lI np (M3 [x,y,lieR row x y])
    refine⟨_,rfl,rfl,_,rfl,?_⟩;rw[F0];refine Aw (λq1=>?_) (λq1=>?_)
    ·exact Cb (app (by unfold Cq;rw[q1];rfl))
    ·refine⟨_,rfl,rfl,_,rfl,?_⟩;rw[F0];refine Aw (λq2=>?_) (λq2=>?_)
     ·refine⟨_,rfl,_,rfl,_,_,rfl,rfl,_,rfl,?_⟩;refine Aw (λq3=>?_) (λq3=>?_)
      ·refine app ?_;unfold Cq;have wT:decide (ltS x y)=true:=q3;rw[q2,wT,Sl,Tw]
      ·refine stay ?_;unfold Cq;have wT:decide (ltS x y)=false:=q3;rw[q1,wT,Tk,Tt]
     ·refine Bz (stay ?_);unfold Cq;rw[q1,q2,Qj,Tt]
   ·rintro Z oz ⟨v4,v5,rfl,pG,xs,o4,iM⟩;rw[Ow,Qo] at iM;refine⟨_,_,_,rfl,λb o e=>?_,xs,o4,?_⟩
    ·have nb:b≠u:=λz=>by rw[z] at e;unfold hid at e;rw[T7 rfl] at e;cases e
     exact pG _ _ (C0 (zk _ _ e) nb)
    ·rw[Xlp row fQ,hx];exact iM
  ·rintro Z H9 ⟨v3,v4,v5,rfl,s9,xs,ud,cW⟩;rw[Ow,Xlo] at cW;refine⟨_,rfl,k u xs H9 (s1.free nu) ud (DAll.same (Fy u H9) _ _ cW) (λb o e=>s9 _ _ (eJ _ _ (s1 _ _ e)))⟩
def K7:FnScope NFi ["_law_bars_here", "_law_plot"] (defScope s__law_fits):=by walk_at "s"
def Xp6  (F:Fun K "_law_fits" "_law_fits" s__law_fits f fd):FnOk P w K mg base CX0 1 f fd ["_law_bars_here", "_law_plot"] Nv:=by
 refine F.ok K7 (by walk_at "l") ?_
 ·walk_at "i"
  obtain⟨b,p,xs,bs,ss,rfl,hB,cW,hP,k⟩:=h;refine⟨_,Ae (Dg bB.never rfl (Cf (pv 0)) (Xag (n:=3) rfl (D9 (Az (i:=2) K7.nd rfl (.inl rfl)) (D9 (Az (i:=3) K7.nd rfl (.inl rfl)) (D9 (Az (i:=4) K7.nd rfl (.inl rfl)) Jc))))
    (Ag (A8 (Fh (Aq Lz (pv 2) (pv 1) (by rfl)) (Ff (Aq Ji (Ea Lz (pv 3) (pv 1) (by rfl)) (Ea Bp (pv 4) A7 (Ar _)) (Ar _)))).pt (Ag (Ap Dt)) Bb)))
   (Ag (Ap Dt)),?_⟩
  refine⟨_,rfl,b,rfl,⟨_,SqL.of hB⟩,?_⟩;have tW:xs.length=bs.length:=by rw[Gj cW,Ow]
  refine Fl (K:=K) (a:=b) (xs:=xs) (λi Z H2=>∃v2 v3 v4, Z=[some (.ref b),some (.ref p),v2,v3,v4]/\Same H H2/\C3 (bs.take i) ss=true) ?_ ?_ ?_ ?_
  ·exact⟨none,none,none,rfl,Same.refl H,rfl⟩
  ·rintro i Z H2 _ ⟨v2,v3,v4,rfl,s2,_⟩;exact SqL.of (s2 _ _ hB)
  ·rintro i y Z H2 hi ⟨v2,v3,v4,rfl,s2,hf⟩;have fQ:i<xs.length:=(O8.mp hi).1;have zl:i<bs.length:=by lia
   obtain⟨v,hv,dv⟩:=M0 cW (show (bs.map trD)[i]? = some (trD bs[i]) by rw[Pf,Ox zl];rfl);rw[hi] at hv;cases hv;obtain⟨q,rfl,hq⟩:=Xln dv;have jk:bs.take (i+1)=bs.take i++[bs[i]]:=Pk zl;generalize bs[i]=t at *;have lE:C3 (bs.take (i+1)) ss = !(decide (t.1∈ss) && !decide (decide (t.2.1∈ss)=decide (t.2.2 = "within"))):=by
    rw[jk];unfold C3 at hf ⊢;rw[List.all_append,hf,Qp];simp
   have tY:(decide (t.1∈ss) && !decide (decide (t.2.1∈ss)=decide (t.2.2 = "within")))=true->C3 bs ss=false:=λhb=>by
    rw[Rv];intro z;have hz:C3 (bs.take (i+1)) ss=true:=by
     unfold C3 at z ⊢;rw[Po] at z ⊢;exact λx hx=>z x (P0 hx)
    rw[lE,hb] at hz;cases hz
   refine⟨q,_,rfl,SqT.of (s2 _ _ hq),rfl,_,_,rfl,_,_,rfl,_,_,rfl,rfl,?_⟩;refine⟨_,rfl,_,rfl,p,_,rfl,.inr (SqT.of (s2 _ _ hP)),rfl,Cy ss,_,rfl,?_⟩;rw[T6 (by decide),Dl];refine Aw (λq1=>?_) (λq1=>?_)
   ·refine⟨_,rfl,_,rfl,p,_,rfl,.inr (SqT.of (s2 _ _ hP)),rfl,Cy ss,_,rfl,rfl,rfl,_,rfl,?_⟩;rw[T6 (by decide),Dl,F0];have eb:(!decide (V.bl (decide (t.2.1∈ss))=V.bl (decide (t.2.2 = "within")))) = !decide (decide (t.2.1∈ss)=decide (t.2.2 = "within")):=by
     congr 1;rw[Qu,decide_eq_true_eq,decide_eq_true_eq];exact⟨λz=>by injection z,λz=>by rw[z]⟩
    rw[eb];refine Aw (λq2=>?_) (λq2=>?_)
    ·have:=k H2 s2;rw[tY (by rw[q1,q2];rfl)] at this;exact this
    ·exact⟨_,_,_,rfl,s2,by rw[lE,q1,q2];rfl⟩
   ·exact Bz ⟨_,_,_,rfl,s2,by rw[lE,q1];rfl⟩
  ·rintro Z H2 ⟨v2,v3,v4,rfl,s2,hf⟩;rw[tW,Qo] at hf;have:=k H2 s2;rw[hf] at this;exact this
def C6:FnScope NPl ["_law_row_here"] (defScope s__law_plots):=by walk_at "s"
def Xp7  (F:Fun K "_law_plots" "_law_plots" s__law_plots f fd) (T:Bl mg) (uf:Fn P w K mg base CX0 1 "_law_fits" ["_law_bars_here", "_law_plot"] Nv)
  (ug:Fn P w K mg base CX0 2 "_law_bars" ["_law_row_here"] spBars):FnOk P w K mg base CX0 3 f fd ["_law_row_here"] spPlotsO:=by
 refine F.ok C6 (by walk_at "l") ?_
 ·walk_at "i"
  obtain⟨r,row,rfl,hR,R2,h3,tT,k⟩:=h;have EV:_+4<bz:=Te (Nat.add_le_add_left (by decide:4<=64) _) hr.units;have c7:Room 1 _:=hr.mono (by decide);have fB:Room 2 _:=hr.mono (by decide);refine⟨_,Ae (Ao (i:=1) C6.nd rfl (.inl rfl) (Ai ug fB (by rfl) Am (Aa (pv 0) Ac)))
   (Ae (Ao (i:=2) C6.nd rfl (.inl rfl) (Nt (i:=0) rfl (by rfl) T.sorted (by rfl) T.set (pv 0)))
   (Ae (Ao (i:=3) C6.nd rfl (.inl rfl) (B7 (Aa (Ca Ac) Ac)))
   (Ae (Ao (i:=4) C6.nd rfl (.inl rfl) (B7 (Aa (Ca Ac) Ac)))
   (Ae (Dg bB.never rfl (Je rfl T.range (Aa (Ax Br (by rfl) T.len aT (Aa (pv 2) Ac)) Ac)) (Az (i:=5) C6.nd rfl (.inl rfl))
    (Ae (Ao (i:=6) C6.nd rfl (.inl rfl) (B7 Ac))
    (Ae (Dg bB.never rfl (Cf (pv 4)) (Az (i:=7) C6.nd rfl (.inl rfl))
     (Ag (Dg bB.never rfl (Cf (pv 2)) (Az (i:=8) C6.nd rfl (.inl rfl))
      (Ae (Ao (i:=9) C6.nd rfl (.inl rfl) (B1 Es (by rfl) T.tuple (by rfl) (Aa (Ax Xl7 (by rfl) T.sorted (by rfl) (Aa (Ak Ia (pv 7) (Ca (Aa (pv 8) Ac))) Ac)) Ac)))
      (Ag (A8 (Fh (Aq Jn (pv 8) (pv 7) (by rfl)) (Ff (Aq (Xl8 EV) (pv 9) (pv 6) (by rfl)))).pt
       (Ag (Ao (i:=6) C6.nd rfl (.inl rfl) (Ak B3 (pv 6) (Ak Xbc (B7 (Aa (pv 9) Ac)) (B1 Xat (by rfl) T.int (by rfl) (Aa (Ai uf c7 (by rfl) Am (Aa (pv 1) (Aa (pv 9) Ac))) Ac))))))
       Bb))))))
    (Ae (Ao (i:=4) C6.nd rfl (.inl rfl) (Ax Xmh (by rfl) T.sorted (by rfl) (Aa (pv 6) Ac)))
    (Ag (Ao (i:=3) C6.nd rfl (.inl rfl) (Ak B3 (pv 3) (pv 4))))))))
   (Ag (Ap (pv 3))))))),?_⟩
  have jJ:=R2.len;have l6:=Ei row;refine⟨_,rfl,r,row,rfl,hR,R2,λb xs0 H1 nb hb c6 s1=>?_⟩;refine⟨_,rfl,r,row,rfl,.inl (SqL.of (s1 _ _ hR)),R2.len,λnl H2 nn uh s2=>?_⟩;have uZ:=s2 _ _ hb;have sk:=DAll.same s2 _ _ c6;have gX:=s1.trans s2;refine⟨by show 0<=sizeLine;decide,λe1 se=>?_⟩;refine⟨by show 1<=sizeLine;decide,λui o6=>?_⟩;refine⟨by show 0<=sizeLine;decide,λe2 sf=>?_⟩;refine⟨by show 1<=sizeLine;decide,λwU lJ=>?_⟩;generalize pH:upd (upd (upd (upd H2 e1 (.tup [])) ui (.lst [.ref e1])) e2 (.tup [])) wU (.lst [.ref e2])=H3;have f1:Same H2 H3:=by
   rw[<-pH];exact((((Same.refl H2).step se).step o6).step sf).step lJ
  have rE:H3 ui=some (.lst ([e1].map V.ref)):=by
   rw[<-pH];exact ku (ku Ab sf) lJ
  have EW:H3 wU=some (.lst ([e2].map V.ref)):=by
   rw[<-pH];exact Ab
  have m6:Tups H3 [e1] [[]]:=Tups.cons (by rw[<-pH];exact ku (ku (ku Ab o6) sf) lJ) (Tups.nil _);have iL:Tups H3 [e2] [[]]:=Tups.cons (by rw[<-pH];exact ku Ab lJ) (Tups.nil _);have zm:H ui=none:=gX.free (((Same.refl H2).step se).free o6);clear pH;have uj:=f1 _ _ uh;refine⟨_,rfl,nl,_,rfl,.inl (SqL.of uj),(((dit row).map V.str).length:Int),rfl,by lia,by rw[Ow];lia,?_⟩;have EX:(((dit row).map V.str).length:Int).toNat=(dit row).length:=by rw[Ow];simp
  rw[EX];refine Jg (lo:=0) (n:=(dit row).length) (λi Z H4=>∃(v5 v6 v7 v8 v9:Option V) (tl ly:ae) (ps qs:List ae) (Vs Us:List (Za)), Z=[some (.ref r),some (.ref b),some (.ref nl),some (.ref tl),some (.ref ly),v5,v6,v7,v8,v9]/\Same H3 H4/\H tl=none/\H4 tl=some (.lst (ps.map V.ref))/\H4 ly=some (.lst (qs.map V.ref))/\ps.length<=1+63 * i/\Tups H4 ps Vs/\Upto row i Vs/\Tups H4 qs Us/\SH.Lay row i Us) ?_ ?_ ?_
  ·exact⟨_,_,_,_,_,ui,wU,[e1],[e2],[[]],[[]],rfl,Same.refl _,zm,rE,EW,by simp,m6,Xoq row,iL,Xor row⟩
  ·rintro i Z H4 hi ⟨v5,v6,v7,v8,v9,tl,ly,ps,qs,Vs,Us,rfl,s4,zo,ln,wV,cj,wW,wX,zp,wY⟩;refine⟨by show 0<=sizeLine;decide,λf0 EY=>?_⟩;have g1:Same H4 (upd H4 f0 (.lst [])):=(Same.refl H4).step EY;have tQ:Fresh row (upd H4 f0 (.lst [])) f0 [] []:=⟨Ab,rfl,.nil,λ_ h=>by cases h⟩;generalize upd H4 f0 (.lst [])=H5 at g1 tQ;have sq:=s4.trans g1;have zq:=sq _ _ uj;have FH:=sq _ _ (f1 _ _ uZ);have FJ:=DAll.same sq _ _ (DAll.same f1 _ _ sk);have wZ:=zp.same g1;refine⟨_,rfl,ly,rfl,⟨_,SqL.of (g1 _ _ wV)⟩,?_⟩;refine Fl (K:=K) (a:=ly) (xs:=qs.map V.ref) (λj Z H6=>∃(v7 v8 v9:Option V) (f:ae) (xs:List V) (Ts:List (Za)), Z=[some (.ref r),some (.ref b),some (.ref nl),some (.ref tl),some (.ref ly),some (.int (0+(i:Int))),some (.ref f),v7,v8,v9]/\Same H5 H6/\Fresh row H6 f xs Ts/\(∀T∈Ts,T.length=i+1)/\Cov row Us j Ts) ?_ ?_ ?_ ?_
   ·exact⟨_,_,_,f0,[],[],rfl,Same.refl _,tQ,(λ_ h=>by cases h),λj hj=>absurd hj (Qq _)⟩
   ·rintro j Z H6 _ ⟨v7,v8,v9,f,xs,Ts,rfl,s6,hf,gR,jg⟩;exact SqL.of (s6 _ _ (g1 _ _ wV))
   ·rintro j y Z H6 hj ⟨v7,v8,v9,f,xs,Ts,rfl,s6,hf,gR,jg⟩;obtain⟨q,rfl,o5,FL⟩:∃q,y=V.ref q/\j<qs.length/\qs.getD j 0=q:=by
     rw[Pf] at hj;cases z:qs[j]? with
     | none=>rw[z] at hj;cases hj
     | some q=>rw[z] at hj;exact⟨q,(Pd hj).symm,(O8.mp z).1,by simp[List.getD,z]⟩
    have uk:=wZ.2 j o5;rw[FL] at uk;have zr:j<Us.length:=by rw[<-wZ.1];exact o5
    have FM:Us.getD j []∈Us:=by
     have:Us.getD j []=Us[j]:=by simp[List.getD,zr]
     rw[this];exact Ps zr
    obtain⟨ul,fQ⟩:=(wY.mem _).mp FM;generalize gx:Us.getD j []=ss at uk ul fQ;have FQ:=Gr ul;obtain⟨FV,FY⟩:=Cn ul;refine⟨_,rfl,nl,rfl,⟨_,SqL.of (s6 _ _ zq)⟩,?_⟩;refine Fl (K:=K) (a:=nl) (xs:=(dit row).map V.str) (λm Z H7=>∃(v8 v9:Option V) (f:ae) (xs:List V) (Ts:List (Za)), Z=[some (.ref r),some (.ref b),some (.ref nl),some (.ref tl),some (.ref ly),some (.int (0+(i:Int))),some (.ref f),some (.ref q),v8,v9]/\Same H5 H7/\Fresh row H7 f xs Ts/\(∀T∈Ts,T.length=i+1)/\Cov row Us j Ts/\∀m',m'<m->(dit row).getD m' aq.empty∉ss->An row (srt (ss++[(dit row).getD m' aq.empty]))=true->srt (ss++[(dit row).getD m' aq.empty])∈Ts) ?_ ?_ ?_ ?_
    ·exact⟨_,_,f,xs,Ts,rfl,s6,hf,gR,jg,λm' sr=>absurd sr (Qq _)⟩
    ·rintro m Z H7 _ ⟨v8,v9,f,xs,Ts,rfl,s7,hf,gR,jg,um⟩;exact SqL.of (s7 _ _ zq)
    ·rintro m y Z H7 hm ⟨v8,v9,f,xs,Ts,rfl,s7,hf,gR,jg,um⟩;obtain⟨x,rfl,hx,FZ⟩:∃x,y=V.str x/\x∈row/\(dit row).getD m aq.empty=x:=by
      rw[Pf] at hm;cases z:(dit row)[m]? with
      | none=>rw[z] at hm;cases hm
      | some x=>rw[z] at hm;exact⟨x,(Pd hm).symm,Aj.mp (Rt z),by simp[List.getD,z]⟩
     have step:∀fw:List (Za),(∀T∈Ts,T∈fw)->(x∉ss->An row (srt (ss++[x]))=true->srt (ss++[x])∈fw)->∀m',m'<m+1->(dit row).getD m' aq.empty∉ss->An row (srt (ss++[(dit row).getD m' aq.empty]))=true->srt (ss++[(dit row).getD m' aq.empty])∈fw:=λfw sub new m' sr a1 a2=>by
      by_cases e:m'=m
      ·subst e;rw[FZ] at a1 a2 ⊢;exact new a1 a2
      ·exact sub _ (um m' (by lia) a1 a2)
     refine⟨_,rfl,_,rfl,by show 1<=sizeLine;decide,λt1 zt=>?_⟩;have s8:Same H5 (upd H7 t1 (.tup [.str x])):=s7.step zt;have Go:Same H7 (upd H7 t1 (.tup [.str x])):=(Same.refl H7).step zt;refine⟨q,t1,_,_,rfl,rfl,s8 _ _ uk,Ab,by rw[Ow,T5];show ss.length+1<=_;lia,λp1 H9 s9 wQ=>?_⟩;have xa:H9 p1=some (.tup ((ss++[x]).map V.str)):=by rw[wQ,O9];rfl
     refine⟨p1,_,rfl,xa,by rw[O2];show ss.length+1<64;lia,λl2 pF=>?_⟩;refine⟨l2,_,rfl,.inl ⟨SqL.of Ab,λov G'=>?_⟩⟩;have k7:Same H7 (upd (upd H9 l2 (.lst ((srt (ss++[x])).map V.str))) ov (.tup ((srt (ss++[x])).map V.str))):=((Go.trans s9).step pF).step G';have uo:upd (upd H9 l2 (.lst ((srt (ss++[x])).map V.str))) ov (.tup ((srt (ss++[x])).map V.str)) ov=some (.tup ((srt (ss++[x])).map V.str)):=Ab;generalize upd (upd H9 l2 (.lst ((srt (ss++[x])).map V.str))) ov (.tup ((srt (ss++[x])).map V.str))=HA at k7 uo;have o7:=s7.trans k7;have lK:=hf.same k7;have uq:∀y∈srt (ss++[x]),okN y:=λy hy=>by
      rcases O5.mp (Gh.mp hy) with z | z
      ·exact R2.ok y (FV y z)
      ·rw[Oz.mp z];exact R2.ok x hx
     have o8:∀T∈Ts,∀y∈T,okN y:=λT hT y hy=>R2.ok y ((Cn (hf.ok T hT).2).1 y hy);have GA:ao.depth (tupD (srt (ss++[x])))<=3:=by
      have:=Xdy (srt (ss++[x])) (srt (ss++[x]))
      rwa [Nat.min_self] at this
     have JZ:xs.length=Ts.length:=by rw[Gj lK.all,Ow]
     have bo:=Ny R2.two h3 tT hf.nd hf.ok;dsimp only[Bm];refine⟨_,rfl,_,rfl,q,_,rfl,.inr (SqT.of (o7 _ _ uk)),rfl,Cy ss,_,rfl,?_⟩;rw[T7 rfl,Dl];refine Aw (λhc=>?_) (λhc=>Bz ⟨_,_,f,xs,Ts,rfl,o7,lK,gR,jg,step Ts (λ_ h=>h) λz=>absurd (by simpa using hc) z⟩);have kr:x∉ss:=by simpa using hc
     refine⟨_,rfl,_,rfl,tupD (srt (ss++[x])),Ts.map tupD,Dm uo,Xc5 lK.at' lK.all,C9 _ (E6 uq),J6 _ (plainAll_map tupD Ts λT hT=>E6 (o8 T hT)),GA,_,rfl,?_⟩;refine Aw (λhd=>?_) (λhd=>⟨_,_,f,xs,Ts,rfl,o7,lK,gR,jg,step Ts (λ_ h=>h) λ_ _=>?_⟩);rotate_left
     ·have hd:((Ts.map tupD).any λe=>ao.eqv e (tupD (srt (ss++[x]))))=true:=by simpa using hd
      rw[Rm] at hd;obtain⟨e,he,hq⟩:=hd;obtain⟨T,hT,rfl⟩:=Pq.mp he;have hq:ao.eqv (.tuple (T.map ao.str)) (.tuple ((srt (ss++[x])).map ao.str))=true:=hq;rw[Nr (o8 T hT) uq] at hq;rw[<-Ua hq];exact hT
     have jz:srt (ss++[x])∉Ts:=λhm=>by
      have:((Ts.map tupD).any λe=>ao.eqv e (tupD (srt (ss++[x]))))=true:=by
       rw[Rm];refine⟨_,Pq.mpr ⟨_,hm,rfl⟩,?_⟩;show ao.eqv (.tuple _) (.tuple _)=true;rw[Nr uq uq];exact T8 rfl
      rw[this] at hd;exact absurd hd (by decide)
     refine⟨_,rfl,_,rfl,by show 1<=sizeLine;decide,λc nc=>?_⟩;have kA:Same HA (upd HA c (.lst [.ref ov])):=(Same.refl HA).step nc;refine⟨_,rfl,_,rfl,b,ov,xs0,bars row,srt (ss++[x]),rfl,kA _ _ (o7 _ _ FH),DAll.same kA _ _ (DAll.same o7 _ _ FJ),kA _ _ uo,λHB sB=>?_⟩;have zu:=sB _ _ (show upd HA c (.lst [.ref ov]) c=_ from Ab);refine .inr ⟨_,rfl,?_⟩;cases kU:C3 (bars row) (srt (ss++[x])) with
     | false=>
      refine⟨c,_,_,rfl,rfl,zu,by simp,by simp,by simp,λc2 xb=>?_⟩;have e0:(if True then (List.replicate ((if (false:Bool)=true then (1:Int) else 0)).toNat [V.ref ov]).flatten else ([]:List V))=[]:=by simp
      have kB:Same HA (upd HB c2 (.lst [])):=(kA.trans sB).step xb;refine⟨f,c2,xs,[],rfl,rfl,kB _ _ lK.at',Ab,by rw[T5];simp;lia,λg ng=>?_⟩;have kC:Same HA (upd (upd HB c2 (.lst [])) g (.lst (xs++[]))):=kB.step ng;refine⟨_,_,g,xs++[],Ts,rfl,o7.trans kC,⟨Ab,?_,hf.nd,hf.ok⟩,gR,jg,step Ts (λ_ h=>h) λ_ z=>absurd ((Xnn R2.two z).symm.trans kU) (by decide)⟩;exact(congrArg (DAll _ _) (P3 xs)).mpr (DAll.same kC _ _ lK.all)
     | true=>
      refine⟨c,_,_,rfl,rfl,zu,by simp,by simp,by show 1 * 1<=sizeLine;decide,λc2 xb=>?_⟩;have kB:Same HA (upd HB c2 (.lst [V.ref ov])):=(kA.trans sB).step xb;refine⟨f,c2,xs,[V.ref ov],rfl,rfl,kB _ _ lK.at',Ab,by rw[T5];simp;lia,λg ng=>?_⟩;have kC:Same HA (upd (upd HB c2 (.lst [V.ref ov])) g (.lst (xs++[V.ref ov]))):=kB.step ng;refine⟨_,_,g,xs++[V.ref ov],Ts++[srt (ss++[x])],rfl,o7.trans kC,⟨Ab,?_,?_,?_⟩,?_,λi' eS z hz a1 a2=>Qc _ (jg i' eS z hz a1 a2),step _ (λ_ h=>Qc _ h) λ_ _=>by simp⟩
      ·rw[O9];exact J5 (DAll.same kC _ _ lK.all) (Dm (kC _ _ uo))
      ·rw[Qs];exact⟨hf.nd,by simp,λa ha b hb e=>jz (by rw[Oz.mp hb] at e;exact e ▸ ha)⟩
      ·intro T hT;rcases O5.mp hT with z | z
       ·exact hf.ok T z
       ·rw[Oz.mp z];exact⟨Xma,Xl9 R2.two ul hx kr kU⟩
      ·intro T hT;rcases O5.mp hT with z | z
       ·exact gR T z
       ·rw[Oz.mp z,(Ck _).length_eq,O2,fQ];rfl
    ·rintro Z H7 ⟨v8,v9,f,xs,Ts,rfl,s7,hf,gR,jg,um⟩;refine⟨_,_,_,f,xs,Ts,rfl,s7,hf,gR,λi' eS z hz a1 a2=>?_⟩;by_cases e:i'=j
     ·subst e;rw[gx] at a1 a2 ⊢;obtain⟨m',sr,e'⟩:=P7.mp (Aj.mpr hz);have e2:(dit row).getD m' aq.empty=z:=by rw[<-e'];simp[List.getD,sr]
      have:=um m' (by rw[Ow];exact sr);rw[e2] at this;exact this a1 a2
     ·exact jg i' (by lia) z hz a1 a2
   ·rintro Z H6 ⟨v7,v8,v9,f,xs,Ts,rfl,s6,hf,gR,jg⟩;have bo:=Ny R2.two h3 tT hf.nd hf.ok;obtain⟨fs,rfl,lE⟩:=Oa hf.all;have GB:=lE.1;refine⟨_,rfl,f,fs,Ts,rfl,hf.at',lE,λz=>(hf.ok _ z).1 rfl,hf.nd,by lia,λpI gZ fw xc su mq GC=>?_⟩;have g6:Same H6 (upd H6 pI (.lst (gZ.map V.ref))):=(Same.refl H6).step xc;have o9:=(g1.trans s6).trans g6;rw[Ow,wZ.1] at jg;have zv:=Xop R2.two wY jg (λT hT=>⟨(hf.ok T hT).2,gR T hT⟩) mq GC;have xf:=su.same g6;have oC:upd H6 pI (.lst (gZ.map V.ref)) pI=some (.lst (gZ.map V.ref)):=Ab;generalize upd H6 pI (.lst (gZ.map V.ref))=H8 at g6 o9 xf oC;have GD:=su.1;have GE:=mq.length_eq;refine⟨_,rfl,_,rfl,tl,pI,_,_,rfl,rfl,o9 _ _ ln,oC,by rw[Ow,Ow,T5];lia,λur sw=>?_⟩;have g8:Same H8 (upd H8 ur (.lst (ps.map V.ref++gZ.map V.ref))):=(Same.refl H8).step sw;have e8:upd H8 ur (.lst (ps.map V.ref++gZ.map V.ref)) ur=some (.lst ((ps++gZ).map V.ref)):=by rw[Ab,O9]
    refine⟨_,_,_,_,_,ur,pI,ps++gZ,gZ,Vs++fw,fw,rfl,(s4.trans o9).trans g8,?_,e8,g8 _ _ oC,by rw[O2];lia,(wW.same (o9.trans g8)).app (xf.same g8),wX.next zv,xf.same g8,zv⟩;exact gX.free (f1.free (s4.free (o9.free sw)))
  ·rintro Z H4 ⟨v5,v6,v7,v8,v9,tl,ly,ps,qs,Vs,Us,rfl,s4,zo,ln,wV,cj,wW,wX,zp,wY⟩;exact⟨_,rfl,k tl ps Vs H4 zo ln wW wX.all ((gX.trans f1).trans s4)⟩
def Xp8:FnScope ["_law_row_here"] ["_law_row_here"] (defScope s__law_stranger):=by walk_at "s"
def Xp9  (F:Fun K "_law_stranger" "_law_stranger" s__law_stranger f fd):FnOk P w K mg base CX0 1 f fd ["_law_row_here"] Nl:=by
 refine F.ok Xp8 (by walk_at "l") ?_
 ·walk_at "i"
  obtain⟨r,row,rfl,hR,hl,k⟩:=h;have hu:=Ed hr;refine⟨_,Ag (Ap (Iz (Aq (Xbw (Tr hu)) (pv 0) (B7 Ac) (Ar _))
   (Ak Jk (Bt Xj1 (A0 Bh (pv 0) Af (λ_ _=>rfl)) Bx (Bq Af)) A7) A7)),?_⟩
  refine⟨_,rfl,by show 0<=sizeLine;decide,λp np=>?_⟩;have s1:Same H (upd H p (.lst [])):=(Same.refl H).step np;refine⟨r,p,_,_,rfl,rfl,SqL.of (s1 _ _ hR),SqL.of Ab,J9 row,by simp,_,rfl,?_⟩;have e:Cd (row.map V.str) []=decide (row=[]):=Mg row [];rw[e];cases row with
  | nil=>exact k _ s1
  | cons y r'=>
   refine Cb ?_;refine⟨_,rfl,r,_,_,_,rfl,rfl,SqL.of (s1 _ _ hR),(show atI ((y::r').map V.str) ((0:Nat):Int)=some (.str y) from Du rfl),_,rfl,y,rfl,rfl,⟨_,rfl⟩,by have:=hl y O3;lia,?_⟩;refine⟨_,_,rfl,rfl,?_,k _ s1⟩;have h1:=Txt.slice_le y none (some 7);have h2:=hl y O3;have h3:(aq.ofString "q").length=1:=rfl;rw[T5,h3]
   lia
def Xqa:FnScope NFl ["_law_plot", "_law_name"] (defScope s__law_flip):=by walk_at "s"
def Xqb  (F:Fun K "_law_flip" "_law_flip" s__law_flip f fd) (T:Bl mg):FnOk P w K mg base CX0 1 f fd ["_law_plot", "_law_name"] spFlip:=by
 refine F.ok Xqa (by walk_at "l") ?_
 ·walk_at "i"
  obtain⟨p,ss,x,rfl,hP,hl,k⟩:=h;refine⟨_,Ag (Ap (B1 Es (by rfl) T.tuple (by rfl) (Aa (Ax Xdc (by rfl) T.sorted (by rfl) (Aa (Ak B3
   (Ek (N:=NFl1) (cap:=[none,some 1]) (CompScope.of (defScope s__law_flip) NFl rfl rfl rfl (by decide +kernel)) rfl
    (F8 (pv 0)) (λ_ _ _=>Az (i:=0) (show NFl1.Nodup by decide +kernel) rfl (.inl rfl) (.inr rfl)) (λ_ _ _=>Dj (Aq Ji (pv 0) (pv 1) (Ar _))) (λ_ _ _=>pv 0))
   (Ak Xbc (B7 (Aa (pv 1) Ac)) (B1 Xat (by rfl) T.int (by rfl) (Aa (Ea Jn (pv 1) (pv 0) (by rfl)) Ac)))) Ac)) Ac))),?_⟩
  refine⟨_,rfl,p,rfl,⟨_,SqT.of hP⟩,?_⟩;refine Ey (n:=ss.length) (by rw[T5];lia) (λi=>(ss.map V.str).getD i .non) (λi=>decide (ss.getD i aq.empty≠x)) (λi=>.str (ss.getD i aq.empty)) ?_ ?_ ?_ ?_ ?_
  ·intro i H2 hi s2;exact Gc (SqT.of (s2 _ _ hP)) (by rw[Ow];exact hi)
  ·intro H2 s2;have:=Ge (K:=K) (SqT.of (s2 _ _ hP))
   rwa [Ow] at this
  ·intro i H2 Q' hi s2 kk;rw[Bv V.str aq.empty _ hi];refine⟨_,rfl,_,rfl,rfl,_,rfl,?_⟩;rw[F0];have:=kk H2 (Same.refl _);have e:(!decide (ss.getD i aq.empty=x))=decide (ss.getD i aq.empty≠x):=by
    by_cases z:ss.getD i aq.empty=x
    ·simp[z]
    ·simp[z]
   rw[e];exact this
  ·intro i H2 Q' hi hk s2 kk;rw[Bv V.str aq.empty _ hi];exact⟨_,rfl,kk H2 (Same.refl _)⟩
  ·intro D H2 nD s2 hD;have eg:H2 D=some (.lst ((ss.filter λy=>decide (y≠x)).map V.str)):=by
    rw[hD,<-Cz aq.empty (λy=>decide (y≠x)) ss,P4];rfl
   have gR:=P1 (λy=>decide (y≠x)) ss;refine⟨_,rfl,by show 1<=sizeLine;decide,λb nb=>?_⟩;refine⟨_,rfl,_,rfl,p,_,rfl,.inr (SqT.of (ku (s2 _ _ hP) nb)),rfl,Cy ss,.inr ⟨_,rfl,?_⟩⟩;rw[Dl];show Xbb _ _ _ _;have sx:(if (!decide (x∈ss))=true then (1:Int) else 0).toNat=(if x∈ss then 0 else 1):=by
    by_cases hx:x∈ss
    ·simp[hx]
    ·simp[hx]
   have xg:(List.replicate (if x∈ss then 0 else 1) [V.str x]).flatten=(if x∈ss then ([]:Za) else [x]).map V.str:=by
    by_cases hx:x∈ss
    ·simp[hx]
    ·simp[hx]
   refine⟨b,_,_,rfl,rfl,Ab,?_,?_,?_,λc nc=>?_⟩
   ·by_cases hx:x∈ss<;>simp[hx]
   ·by_cases hx:x∈ss<;>simp[hx]
   ·rw[T7 rfl,sx,T5];by_cases hx:x∈ss<;>simp[hx]
   ·rw[T7 rfl,sx,xg];have GF:(if x∈ss then ([]:Za) else [x]).length<=1:=by by_cases hx:x∈ss<;>simp[hx]
    have s3:=(s2.step (o:=.lst [V.str x]) nb);refine⟨D,c,_,_,rfl,rfl,ku (ku eg nb) nc,Ab,by rw[Ow,Ow,T5];lia,λe ne=>?_⟩;have s4:=s3.step (o:=.lst ((if x∈ss then ([]:Za) else [x]).map V.str)) nc;rw[<-O9];refine⟨e,_,rfl,Ab,by rw[O2];lia,λt nt=>?_⟩;have s5:=s4.step (o:=.lst ((ss.filter (λy=>decide (y≠x))++(if x∈ss then [] else [x])).map V.str)) ne;refine⟨t,_,rfl,.inl ⟨SqL.of Ab,λq nq=>?_⟩⟩;have s6:=s5.step (o:=.lst ((srt (ss.filter (λy=>decide (y≠x))++(if x∈ss then [] else [x]))).map V.str)) nt;exact k q _ (s6.free nq) Ab (s6.step nq)
def K8:FnScope NOd ["_law_draw", "_law_row_here", "_law_plot"] (defScope s__law_odd_plot):=by walk_at "s"
def Xqc  (F:Fun K "_law_odd_plot" "_law_odd_plot" s__law_odd_plot f fd) (T:Bl mg) (FP:FnPick P w K mg base) (FS:Fn P w K mg base CX0 1 "_law_stranger" ["_law_row_here"] Nl)
  (FF:Fn P w K mg base CX0 1 "_law_flip" ["_law_plot", "_law_name"] spFlip):FnOk P w K mg base CX0 2 f fd ["_law_draw", "_law_row_here", "_law_plot"] spOdd:=by
 refine F.ok K8 (by walk_at "l") ?_
 ·walk_at "i"
  obtain⟨dr,sc,r,p,row,ss,rfl,dk,hR,i5,hI,hP,hok,lg,k⟩:=h;have hu:=Tr (Ed hr);have fi:∀m,m<=100000->m<=sizeLine:=λm h=>by rw[T5];lia
  refine⟨_,Ae (Ao (i:=3) K8.nd rfl (.inl rfl) (Ai FP hr (by rfl) Am (Aa (pv 0) (Aa Af Ac))))
   (Ae (Ao (i:=4) K8.nd rfl (.inl rfl) (Ai FP hr (by rfl) Am (Aa (pv 0) (Aa (Ak B6 (Ax Br (by rfl) T.len aT (Aa (pv 2) Ac)) Af) Ac))))
   (Ae (A8 (Ep (Aq Bp (pv 3) Af (Ar _)) (Fg (Aq (Xiu hu) (pv 1) (B7 Ac) (Ar _)))).pt
    (Ag (Ap (Ak Ia (Ak Ia (Bt Ib (pv 2) Bx (Bq (pv 4))) (Ca (Aa (Ai FS hr (by rfl) Am (Aa (pv 1) Ac)) Ac))) (Bt Ib (pv 2) (Bq (pv 4)) Bx)))) Bb)
   (Ae (Ao (i:=5) K8.nd rfl (.inl rfl) (A0 Bh (pv 1) (Ai FP hr (by rfl) Am (Aa (pv 0) (Aa (Ax Br (by rfl) T.len aT (Aa (pv 1) Ac)) Ac))) (λ_ _=>rfl)))
   (Ae (A8 (Aq Bp (pv 3) Af (Ar _)) (Ag (Ap (Ak Ia (Ak Ia (Bt Ib (pv 2) Bx (Bq (pv 4))) (Ca (Aa (pv 5) Ac))) (Bt Ib (pv 2) (Bq (pv 4)) Bx)))) Bb)
   (Ae (A8 (Aq Bp (pv 3) Af (Ar _)) (Ag (Ap (Xkq (pv 2)))) Bb)
   (Ae (A8 (Aq Bp (pv 3) Af (Ar _)) (Ag (Ap (B1 Es (by rfl) T.tuple (by rfl) (Aa (Ak B3 (B1 Jo (by rfl) T.list fh (Aa (pv 2) Ac)) (B1 Jo (by rfl) T.list fh (Aa (Bt Ib (pv 2) Bx (Bq Af)) Ac))) Ac)))) Bb)
   (Ag (Ap (Ai FF hr (by rfl) Am (Aa (pv 2) (Aa (pv 5) Ac))))))))))),?_⟩
  refine⟨_,rfl,dr,sc,5,rfl,by decide,by decide,dk,λwy H1 w0 w1 d1 b1=>?_⟩;have rF:∀{H0:Hp} {q:ae} {xs:List V},DrawOk H0 dr sc->H0 q=some (.tup xs)->q≠dr:=λ{H0 q xs} d e z=>by
   obtain⟨ys,h⟩:=d.at;rw[z,h] at e;cases e
  have b1:But dr H H1:=b1;have m6:=b1 _ _ hP (rF dk hP);have wc:=b1 _ _ hR i5;refine⟨_,rfl,_,rfl,p,_,rfl,.inr (SqT.of m6),_,_,rfl,rfl,dr,sc,_,rfl,by lia,by rw[Ow];lia,d1,λjt H2 a0 a1 d2 b2=>?_⟩;obtain⟨jt,rfl⟩:=Pz a0;rw[Ow] at a1;have kG:jt<=ss.length:=by lia
  have b2:But dr H1 H2:=b2;have jr:=b1.trans b2;have iL:=b2 _ _ m6 (rF d1 m6);have xh:=b2 _ _ wc i5;have put:∀(x:aq) (H3:Hp),okN x->DrawOk H3 dr sc->But dr H H3->H3 p=some (.tup (ss.map V.str))->∀(q:ae) (H4:Hp),Same H3 H4->H4 q=some (.tup ((ss.take jt++[x]++ss.drop jt).map V.str))->Q (.ref q) H4:=λx H3 hx d3 b3 _ q H4 s4 hq=>by
   refine k q _ H4 hq (λy hy=>?_) ?_ (d3.same s4) (b3.same s4)
   ·rcases O5.mp hy with hy | hy
    ·rcases O5.mp hy with hy | hy
     ·exact hok y (P0 hy)
     ·rw[Oz.mp hy];exact hx
    ·exact hok y (Qd hy)
   ·rw[O2,O2,Pc,P2,P9]
    lia
  have lL:∀H3,DrawOk H3 dr sc->But dr H H3->H3 p=some (.tup (ss.map V.str))->H3 r=some (.lst (row.map V.str)) ->
    ∀(q:ae) (H4:Hp),Same H3 H4->H4 q=some (.tup ((ss.take jt++[Gn row]++ss.drop jt).map V.str))->Q (.ref q) H4:=λH3 d3 b3 gY _=>put _ H3 hI.stranger.1 d3 b3 gY
  have mG:∀H3,DrawOk H3 dr sc->But dr H H3->H3 p=some (.tup (ss.map V.str))->H3 r=some (.lst (row.map V.str)) ->
    tSl Nb (Co 2) Lv (Lw (Co 4)) [some (.ref dr),some (.ref r),some (.ref p),some (.int wy),some (.int jt),none] H3 λx H4=>Lr (Eb (Ls Nl [] E0 (Eb (Co 1) Fm)) Fm) [some (.ref dr),some (.ref r),some (.ref p),some (.int wy),some (.int jt),none] H4 λy H5=>Na x y H5 λz H6=>
     tSl Nb (Co 2) (Lw (Co 4)) Lv [some (.ref dr),some (.ref r),some (.ref p),some (.int wy),some (.int jt),none] H6 λu H7=>Na z u H7 Q:=λH3 d3 b3 gY pJ=>by
   refine⟨_,rfl,_,rfl,_,rfl,p,_,rfl,gY,λq1 H4 s4 kF=>?_⟩;rw[Dw _ _ _ kG] at kF;refine⟨_,rfl,r,row,rfl,s4 _ _ pJ,λy hy=>(hI.ok y hy).1,λH5 s5=>⟨by show 1<=sizeLine;decide,λq2 n2=>?_⟩⟩;have sq:=(s4.trans s5).step (o:=.tup [.str (Gn row)]) n2;refine⟨q1,q2,_,[.str (Gn row)],rfl,rfl,ku (s5 _ _ kF) n2,Ab,fi _ (by simp;lia),λq3 H6 s6 pB=>?_⟩;have px:=sq.trans s6;refine⟨_,rfl,_,rfl,_,rfl,p,_,rfl,px _ _ gY,λq4 H7 s7 mE=>?_⟩;rw[Ex _ _ _ kG] at mE;refine⟨q3,q4,_,_,rfl,rfl,s7 _ _ pB,mE,fi _ (by simp;lia),λq5 H8 s8 xi=>?_⟩;refine lL H3 d3 b3 gY pJ q5 H8 (px.trans (s7.trans s8)) (xi.trans ?_);rw[O9,O9];rfl
  refine⟨_,rfl,rfl,_,rfl,?_⟩;refine Aw (λ_=>?_) (λ_=>?_)
  ·exact Cb (mG H2 d2 jr iL xh)
  ·refine⟨_,rfl,by show 0<=sizeLine;decide,λe ne=>?_⟩;have s3:Same H2 (upd H2 e (.lst [])):=(Same.refl H2).step ne;refine⟨r,e,_,_,rfl,rfl,SqL.of (s3 _ _ xh),SqL.of Ab,J9 row,by simp,_,rfl,?_⟩;generalize upd H2 e (.lst [])=H3 at s3;have d3:=d2.same s3;have rZ:=jr.same s3;have gY:=s3 _ _ iL;have pJ:=s3 _ _ xh;have ee:Cd (row.map V.str) []=decide (row=[]):=Mg row [];rw[ee];refine Aw (λ_=>mG H3 d3 rZ gY pJ) (λeZ=>?_);have eZ:=Ub eZ;have jJ:=hI.len;have lh:0<row.length:=List.length_pos_iff.mpr eZ;refine⟨_,rfl,_,rfl,_,rfl,r,_,rfl,.inl (SqL.of pJ),dr,sc,_,rfl,by rw[Ow];lia,by rw[Ow];lia,d3,λi H4 i0 i1 d4 b4=>?_⟩;obtain⟨i,rfl⟩:=Pz i0;rw[Ow] at i1;have hi:i<row.length:=by lia
   have b4:But dr H3 H4:=b4;have pD:=rZ.trans b4;have oD:=b4 _ _ gY (rF d3 gY);have GG:=b4 _ _ pJ i5;refine⟨r,_,_,_,rfl,rfl,SqL.of GG,Xk4 V.str aq.empty row hi,?_⟩;have hx:row.getD i aq.empty∈row:=C2 hi;generalize row.getD i aq.empty=x at hx;have zw:=hI.ok x hx;refine⟨_,rfl,rfl,_,rfl,?_⟩;refine Aw (λ_=>?_) (λ_=>?_)
   ·refine⟨_,rfl,_,rfl,_,rfl,p,_,rfl,oD,λq1 H5 s5 kF=>?_⟩;rw[Dw _ _ _ kG] at kF;refine⟨_,rfl,by show 1<=sizeLine;decide,λq2 n2=>?_⟩;have o9:=s5.step (o:=.tup [.str x]) n2;refine⟨q1,q2,_,[.str x],rfl,rfl,ku kF n2,Ab,fi _ (by simp;lia),λq3 H6 s6 pB=>?_⟩;have zx:=o9.trans s6;refine⟨_,rfl,_,rfl,_,rfl,p,_,rfl,zx _ _ oD,λq4 H7 s7 mE=>?_⟩;rw[Ex _ _ _ kG] at mE;refine⟨q3,q4,_,_,rfl,rfl,s7 _ _ pB,mE,fi _ (by simp;lia),λq5 H8 s8 xi=>?_⟩;refine put x H4 zw d4 pD oD q5 H8 (zx.trans (s7.trans s8)) (xi.trans ?_);rw[O9,O9];rfl
   ·refine⟨_,rfl,rfl,_,rfl,?_⟩;refine Aw (λ_=>?_) (λ_=>?_)
    ·refine⟨_,rfl,p,_,rfl,oD,λq nq=>?_⟩;have s5:Same H4 (upd H4 q (.tup (ss.map V.str).reverse)):=(Same.refl H4).step nq;refine k q ss.reverse _ (Ab.trans (by rw[List.map_reverse])) (λy hy=>hok y (Qx.mp hy)) (by rw[Ry];lia) (d4.same s5) (pD.same s5)
    ·refine⟨_,rfl,rfl,_,rfl,?_⟩;refine Aw (λ_=>?_) (λ_=>?_)
     ·refine⟨_,rfl,p,_,rfl,.inr (SqT.of oD),λl1 n1=>?_⟩;have s5:Same H4 (upd H4 l1 (.lst (ss.map V.str))):=(Same.refl H4).step n1;refine⟨_,rfl,_,rfl,p,_,rfl,s5 _ _ oD,λq1 H6 s6 kF=>?_⟩;have e1:(some (1:Int))=some ((1:Nat):Int):=rfl;rw[e1,Xls] at kF;refine⟨q1,_,rfl,.inr (SqT.of kF),λl2 n2=>?_⟩;have s7:=(s5.trans s6).step (o:=.lst ((ss.take 1).map V.str)) n2;refine⟨l1,l2,_,_,rfl,rfl,ku (s6 _ _ Ab) n2,Ab,fi _ (by simp;lia),λl3 n3=>?_⟩;have s8:=s7.step (o:=.lst (ss.map V.str++(ss.take 1).map V.str)) n3;refine⟨l3,_,rfl,.inl ⟨SqL.of Ab,λq nq=>?_⟩⟩;have s9:=s8.step (o:=.tup (ss.map V.str++(ss.take 1).map V.str)) nq;refine k q (ss++ss.take 1) _ (Ab.trans (by rw[O9])) (λy hy=>?_) (by rw[O2,Pc];lia) (d4.same s9) (pD.same s9);rcases O5.mp hy with hy | hy
      ·exact hok y hy
      ·exact hok y (P0 hy)
     ·refine⟨_,rfl,_,rfl,p,ss,x,rfl,oD,by lia,λq H5 nq hq s5=>?_⟩;refine k q _ H5 hq (λy hy=>?_) (Xlm ss x) (d4.same s5) (pD.same s5);rcases Xll hy with h | h
      ·exact hok y h
      ·rw[h];exact zw
def Xqd:FnScope NGo ["_law_row_here", "_law_plot"] (defScope s__law_good_plot):=by walk_at "s"
def Xqe  (F:Fun K "_law_good_plot" "_law_good_plot" s__law_good_plot f fd) (T:Bl mg) (FF:Fn P w K mg base CX0 1 "_law_fits" ["_law_bars_here", "_law_plot"] Nv)
    (FB:Fn P w K mg base CX0 2 "_law_bars" ["_law_row_here"] spBars):FnOk P w K mg base CX0 3 f fd ["_law_row_here", "_law_plot"] spGood:=by
  refine F.ok Xqd (by walk_at "l") ?_
  . walk_at "i"
    obtain⟨r,p,row,ss,rfl,hR,R2,hP,hok,lg,k⟩:=h;have hu:=Tr (Ed hr);have c7:Room 1 _:=hr.mono (by decide);refine⟨_,Ae (A8 (Aq (Xbw hu) (B1 Jo (by rfl) T.list fh (Aa (pv 1) Ac)) (Ek (N:=NGo1) (cap:=[none,some 1]) (CompScope.of (defScope s__law_good_plot) NGo rfl rfl rfl (by decide +kernel)) rfl
          (Cf (Nt (i:=0) rfl (by rfl) T.sorted (by rfl) T.set (pv 0))) (λ_ _ _=>Az (i:=0) (show NGo1.Nodup by decide +kernel) rfl (.inl rfl) (.inr rfl))
          (λ_ _ _=>Dj (Aq (Mw K (by rfl)) (pv 0) (pv 1) (by rfl))) (λ_ _ _=>pv 0)) (Ar _)) (Ag (Ap Dt)) Bb)
      (Ag (Ap (Ai FF c7 (by rfl) Am (Aa (Ai FB hr (by rfl) Am (Aa (pv 0) Ac)) (Aa (pv 1) Ac))))),?_⟩
    have jJ:=R2.len;have l6:=Ei row;refine⟨_,rfl,p,_,rfl,.inr (SqT.of hP),λl1 n1=>?_⟩;have s1:Same H (upd H l1 (.lst (ss.map V.str))):=(Same.refl H).step n1;have h1:upd H l1 (.lst (ss.map V.str)) l1=some (.lst (ss.map V.str)):=Ab;generalize upd H l1 (.lst (ss.map V.str))=H1 at s1 h1;refine⟨_,rfl,r,row,rfl,.inl (SqL.of (s1 _ _ hR)),jJ,λl H2 nl iF s2=>?_⟩;have iL:=s2 _ _ (s1 _ _ hP);refine⟨l,rfl,⟨_,SqL.of iF⟩,?_⟩;refine Ey (n:=(dit row).length) (by rw[T5];lia) (λi=>((dit row).map V.str).getD i .non) (λi=>decide ((dit row).getD i aq.empty∈ss)) (λi=>.str ((dit row).getD i aq.empty)) ?_ ?_ ?_ ?_ ?_
    . intro i H3 hi s3;exact Ef (SqL.of (s3 _ _ iF)) (by rw[Ow];exact hi)
    . intro H3 s3;have:=Eg (K:=K) (SqL.of (s3 _ _ iF))
      rwa [Ow] at this
    . intro i H3 Q' hi s3 kk;rw[Bv V.str aq.empty _ hi];refine⟨_,rfl,_,rfl,p,_,rfl,.inr (SqT.of (s3 _ _ iL)),rfl,Cy ss,_,rfl,?_⟩;rw[T6 (by decide),Dl];exact kk H3 (Same.refl _)
    . intro i H3 Q' hi hk s3 kk;rw[Bv V.str aq.empty _ hi];exact⟨_,rfl,kk H3 (Same.refl _)⟩
    . intro D H3 nD s3 hD;have eg:H3 D=some (.lst (((dit row).filter λy=>decide (y∈ss)).map V.str)):=by
        rw[hD,<-Cz aq.empty (λy=>decide (y∈ss)) (dit row),P4];rfl
      have eR:=s1.trans (s2.trans s3);refine⟨l1,D,_,_,rfl,rfl,SqL.of (s3 _ _ (s2 _ _ h1)),SqL.of eg,J9 _,J9 _,_,rfl,?_⟩;rw[Mg];by_cases e:ss=(dit row).filter λy=>decide (y∈ss)
      . rw[T8 e];refine Bz ?_;refine⟨_,rfl,r,row,rfl,eR _ _ hR,R2,λb xs H4 nb hb cW s4=>?_⟩;refine⟨_,rfl,b,p,xs,bars row,ss,rfl,hb,cW,s4 _ _ (eR _ _ hP),λH5 s5=>?_⟩;have:=k H5 (eR.trans (s4.trans s5));unfold E5 at this;rw[T8 e,Qp] at this;exact this
      . rw[T9 e];refine Cb ?_;have:=k H3 eR;unfold E5 at this;rw[T9 e,Qj] at this;exact this
def Xgi:FnScope NSe ["_law_row_here", "_law_gap"] (defScope s__law_seen):=by walk_at "s"
def Xqf  (F:Fun K "_law_seen" "_law_seen" s__law_seen f fd) (T:Bl mg):FnOk P w K mg base CX0 1 f fd ["_law_row_here", "_law_gap"] spSeen:=by
 refine F.ok Xgi (by walk_at "l") ?_
 ·walk_at "i"
  obtain⟨r,row,g,rfl,hR,hl,hg,k⟩:=h;refine⟨_,Ae (Ao (i:=2) Xgi.nd rfl (.inr rfl) (Bt Ci (pv 0) Bx (Bq (pv 1))))
   (Ag (Ap (B1 Es (by rfl) T.tuple (by rfl) (Aa (Ek (N:=NSe1) (cap:=[none,some 2]) (CompScope.of (defScope s__law_seen) NSe rfl rfl rfl (by decide +kernel)) rfl
    (Cf (Nt (i:=2) rfl (by rfl) T.sorted (by rfl) T.set (pv 2))) (λ_ _ _=>Az (i:=0) (show NSe1.Nodup by decide +kernel) rfl (.inl rfl) (.inr rfl))
    (λ_ _ _=>Dj (Aq Bp (Kg K (by rfl) PySem.F.plainAttrs_list PySem.F.slot_list_count PySem.F.type_list_count M9 (pv 1) (Aa (pv 0) Ac)) Af (Ar _))) (λ_ _ _=>pv 0)) Ac)))),?_⟩
  refine⟨_,rfl,_,rfl,_,rfl,r,_,rfl,SqL.of hR,λah w6=>?_⟩;rw[Dw _ _ _ hg];have s1:Same H (upd H ah (.lst ((row.take g).map V.str))):=(Same.refl H).step w6;have pr:upd H ah (.lst ((row.take g).map V.str)) ah=some (.lst ((row.take g).map V.str)):=Ab;generalize upd H ah (.lst ((row.take g).map V.str))=H1 at s1 pr;have rg:(row.take g).length<=60:=by rw[Pc];lia
  refine⟨_,rfl,ah,row.take g,rfl,.inl (SqL.of pr),rg,λl H2 nl iF s2=>?_⟩;have jQ:=s2 _ _ pr;have w9:=Ei (row.take g);refine⟨l,rfl,⟨_,SqL.of iF⟩,?_⟩;refine Ey (n:=(dit (row.take g)).length) (by rw[T5];lia) (λi=>((dit (row.take g)).map V.str).getD i .non) (λi=>decide ((row.take g).count ((dit (row.take g)).getD i aq.empty)=1)) (λi=>.str ((dit (row.take g)).getD i aq.empty)) ?_ ?_ ?_ ?_ ?_
  ·intro i H3 hi s3;exact Ef (SqL.of (s3 _ _ iF)) (by rw[Ow];exact hi)
  ·intro H3 s3;have:=Eg (K:=K) (SqL.of (s3 _ _ iF))
   rwa [Ow] at this
  ·intro i H3 Q' hi s3 kk;rw[Bv V.str aq.empty _ hi];refine⟨_,rfl,.inl ⟨rfl,_,SqL.of (s3 _ _ jQ)⟩,_,rfl,ah,_,_,rfl,rfl,s3 _ _ jQ,rfl,Cy _,rfl,_,rfl,?_⟩;rw[Xdr,Xdb];have e:decide (((row.take g).count ((dit (row.take g)).getD i aq.empty):Int)=1)=decide ((row.take g).count ((dit (row.take g)).getD i aq.empty)=1):=by
    generalize (row.take g).count ((dit (row.take g)).getD i aq.empty)=c;by_cases hc:c=1
    ·subst hc;rfl
    ·rw[T9 hc,T9 (by lia)]
   rw[e];exact kk H3 (Same.refl _)
  ·intro i H3 Q' hi hk s3 kk;rw[Bv V.str aq.empty _ hi];exact⟨_,rfl,kk H3 (Same.refl _)⟩
  ·intro D H3 nD s3 hD;have eg:H3 D=some (.lst ((A2 row g).map V.str)):=by
    unfold A2;rw[hD,<-Cz aq.empty (λx=>decide ((row.take g).count x=1)) (dit (row.take g)),P4];rfl
   refine⟨D,_,rfl,.inl ⟨SqL.of eg,λt nt=>?_⟩⟩;have eR:=s1.trans (s2.trans s3);exact k t _ (eR.free nt) Ab (eR.step nt)
abbrev NAq:Za:=["_law_one", "_law_other", "_law_mine"]
abbrev NAq1:Za:=["_law_name", "_law_other"]
abbrev NAq2:Za:=["_law_name", "_law_one"]
def Xgj:FnScope NAq ["_law_one", "_law_other"] (defScope s__law_apart):=by walk_at "s"
def Xqg  (F:Fun K "_law_apart" "_law_apart" s__law_apart f fd) (T:Bl mg):FnOk P w K mg base CX0 1 f fd ["_law_one", "_law_other"] spApart:=by
  refine F.ok Xgj (by walk_at "l") ?_
  . walk_at "i"
    obtain⟨p,q,a,b,rfl,hP,hQ,la,lb,k⟩:=h;refine⟨_,Ae (Gi (i:=2) (N:=NAq1) (cap:=[none,some 1]) (CompScope.of (defScope s__law_apart) NAq rfl rfl rfl (by decide +kernel)) rfl Xgj.nd rfl rfl
          (F8 (pv 0)) (λ_ _ _=>Az (i:=0) (show NAq1.Nodup by decide +kernel) rfl (.inl rfl) (.inr rfl))
          (λ_ _ _=>Dj (Aq (Xcp K (by rfl)) (pv 0) (pv 1) (by rfl))) (λ_ _ _=>pv 0))
      (Ag (Ap (Ax Xdc (by rfl) T.sorted (by rfl) (Aa (Ak B3 (pv 2)
        (Ek (N:=NAq2) (cap:=[none,some 0]) (CompScope.of (defScope s__law_apart) NAq rfl rfl rfl (by decide +kernel)) rfl
          (F8 (pv 1)) (λ_ _ _=>Az (i:=0) (show NAq2.Nodup by decide +kernel) rfl (.inl rfl) (.inr rfl))
          (λ_ _ _=>Dj (Aq (Xcp K (by rfl)) (pv 0) (pv 1) (by rfl))) (λ_ _ _=>pv 0))) Ac)))),?_⟩
    refine⟨_,rfl,p,rfl,⟨_,SqT.of hP⟩,?_⟩;refine Ey (n:=a.length) (by rw[T5];lia) (λi=>(a.map V.str).getD i .non) (λi => !decide (a.getD i aq.empty∈b)) (λi=>.str (a.getD i aq.empty)) ?_ ?_ ?_ ?_ ?_
    . intro i H3 hi s3;exact Gc (SqT.of (s3 _ _ hP)) (by rw[Ow];exact hi)
    . intro H3 s3;have:=Ge (K:=K) (SqT.of (s3 _ _ hP))
      rwa [Ow] at this
    . intro i H3 Q' hi s3 kk;rw[Bv V.str aq.empty _ hi];refine⟨_,rfl,_,rfl,q,_,rfl,.inr (SqT.of (s3 _ _ hQ)),rfl,Cy b,_,rfl,?_⟩;rw[T7 rfl,Dl];exact kk H3 (Same.refl _)
    . intro i H3 Q' hi hk s3 kk;rw[Bv V.str aq.empty _ hi];exact⟨_,rfl,kk H3 (Same.refl _)⟩
    . intro D H3 nD s3 hD;have eg:H3 D=some (.lst ((a.filter λx => !decide (x∈b)).map V.str)):=by
        rw[hD,<-Cz aq.empty (λx => !decide (x∈b)) a,P4];rfl
      have K':(a.filter λx => !decide (x∈b)).length<=24:=Pu (P1 ..) la;refine⟨_,rfl,_,rfl,q,rfl,⟨_,SqT.of (s3 _ _ hQ)⟩,?_⟩;refine Ey (n:=b.length) (by rw[T5];lia) (λi=>(b.map V.str).getD i .non) (λi => !decide (b.getD i aq.empty∈a)) (λi=>.str (b.getD i aq.empty)) ?_ ?_ ?_ ?_ ?_
      . intro i H4 hi s4;exact Gc (SqT.of (s4 _ _ (s3 _ _ hQ))) (by rw[Ow];exact hi)
      . intro H4 s4;have:=Ge (K:=K) (SqT.of (s4 _ _ (s3 _ _ hQ)))
        rwa [Ow] at this
      . intro i H4 Q' hi s4 kk;rw[Bv V.str aq.empty _ hi];refine⟨_,rfl,_,rfl,p,_,rfl,.inr (SqT.of (s4 _ _ (s3 _ _ hP))),rfl,Cy a,_,rfl,?_⟩;rw[T7 rfl,Dl];exact kk H4 (Same.refl _)
      . intro i H4 Q' hi hk s4 kk;rw[Bv V.str aq.empty _ hi];exact⟨_,rfl,kk H4 (Same.refl _)⟩
      . intro D2 H4 m7 s4 xj;have xk:H4 D2=some (.lst ((b.filter λx => !decide (x∈a)).map V.str)):=by
          rw[xj,<-Cz aq.empty (λx => !decide (x∈a)) b,P4];rfl
        have KA:(b.filter λx => !decide (x∈a)).length<=24:=Pu (P1 ..) lb;refine⟨D,D2,_,_,rfl,rfl,s4 _ _ eg,xk,by rw[Ow,Ow,T5];lia,λl nl=>?_⟩;refine⟨l,_,rfl,by rw[Ab,<-O9],by rw[O2];lia,λl2 pF=>?_⟩;refine k l2 _ ?_ Ab ?_
        . exact((s3.trans s4).step nl).free pF
        . exact((s3.trans s4).step nl).step pF
def Xqh:FnScope ["_law_found"] ["_law_found"] (defScope s__law_tuple):=by walk_at "s"
def Xqi  (F:Fun K "_law_tuple" "_law_tuple" s__law_tuple f fd) (T:Bl mg):FnOk P w K mg base CX0 1 f fd ["_law_found"] spTuple:=by
 refine F.ok Xqh (by walk_at "l") ?_
 ·walk_at "i"
  obtain⟨v,ss,rfl,hv,hl,k⟩:=h;obtain⟨a,xs,rfl,hR,hs⟩:=M5 hv;rw[Ig hs] at hR;refine⟨_,Ag (Ap (Xac (Ax Mo (by rfl) T.isi cw (Aa (pv 0) (Aa (Ld (v:=.ty "tuple") (by rfl) T.tuple (by rfl) rfl) Ac)))
   (Lf (Ax (Mi rfl) (by rfl) T.all (by rfl) (Aa (Ek (N:=["_law_one"]) (cap:=[none]) (CompScope.of (defScope s__law_tuple) ["_law_found"] rfl rfl rfl (by decide +kernel)) rfl
    (F8 (pv 0)) (λ_ _ _=>Az (i:=0) (show (["_law_one"]:Za).Nodup by decide +kernel) rfl (.inl rfl) (.inr rfl)) (λ_ _ _=>C7)
    (λ_ _ _=>Ax (Xj6 K rfl) (by rfl) T.isi cw (Aa (pv 0) (Aa (Ld (v:=.ty "str") (by rfl) T.str boot_str rfl) Ac)))) Ac))))),?_⟩
  refine⟨_,rfl,_,_,_,_,true,rfl,.tup hR,rfl,Ni K "tuple",true,rfl,Cb ?_⟩;refine⟨_,rfl,a,rfl,⟨_,SqT.of hR⟩,?_⟩;refine Mx (n:=ss.length) (by rw[T5];lia) (λi=>(ss.map V.str).getD i .non) (λ_=>.bl true) ?_ ?_ ?_ ?_
  ·intro i H2 hi s2;exact Gc (SqT.of (s2 _ _ hR)) (by rw[Ow];exact hi)
  ·intro H2 s2;have:=Ge (K:=K) (SqT.of (s2 _ _ hR))
   rwa [Ow] at this
  ·intro i H2 Q' hi s2 kk;rw[Bv V.str aq.empty ss hi];exact⟨_,rfl,_,_,_,_,true,rfl,.str _,rfl,Ni K "str",kk H2 (Same.refl _)⟩
  ·intro D H2 nD s2 hD;refine⟨D,List.replicate ss.length true,rfl,?_,?_⟩
   ·rw[hD,List.map_const',Qi,List.map_replicate]
   ·have e:(List.replicate ss.length true).all id=true:=by
     rw[Po];intro b hb;rw[(List.mem_replicate.mp hb).2];rfl
    rw[e];exact k H2 s2
def Xqj:FnScope ["_law_found"] ["_law_found"] (defScope s__law_all_texts):=by walk_at "s"
def Xqk  (F:Fun K "_law_all_texts" "_law_all_texts" s__law_all_texts f fd) (T:Bl mg) (FT:Fn P w K mg base CX0 1 "_law_tuple" ["_law_found"] spTuple):FnOk P w K mg base CX0 2 f fd ["_law_found"] spAllT:=by
 refine F.ok Xqj (by walk_at "l") ?_
 ·walk_at "i"
  obtain⟨l,ps,Ts,rfl,hl,hT,hS,hp,k⟩:=h;have c7:Room 1 _:=hr.mono (by decide);refine⟨_,Ag (Ap (Xac (Ax Mo (by rfl) T.isi cw (Aa (pv 0) (Aa (Ld (v:=.ty "list") (by rfl) T.list fh rfl) Ac)))
   (Lf (Ax (Mi rfl) (by rfl) T.all (by rfl) (Aa (Ek (N:=["_law_one"]) (cap:=[none]) (CompScope.of (defScope s__law_all_texts) ["_law_found"] rfl rfl rfl (by decide +kernel)) rfl
    (Cf (pv 0)) (λ_ _ _=>Az (i:=0) (show (["_law_one"]:Za).Nodup by decide +kernel) rfl (.inl rfl) (.inr rfl)) (λ_ _ _=>C7)
    (λ_ _ _=>Ai (by exact FT) (by exact c7) (by rfl) Am (Aa (pv 0) Ac))) Ac))))),?_⟩
  refine⟨_,rfl,_,_,_,_,true,rfl,.lst hl,rfl,Ni K "list",true,rfl,Cb ?_⟩;refine⟨_,rfl,l,rfl,⟨_,SqL.of hl⟩,?_⟩;refine Mx (n:=ps.length) (by rw[T5];lia) (λi=>.ref (ps.getD i 0)) (λi=>.bl true) ?_ ?_ ?_ ?_
  ·intro j H2 hj s2;have:=Ef (K:=K) (SqL.of (s2 _ _ hl)) (show j<(ps.map V.ref).length by rw[Ow];exact hj)
   rwa [Bv V.ref 0 ps hj] at this
  ·intro H2 s2;have:=Eg (K:=K) (SqL.of (s2 _ _ hl))
   rwa [Ow] at this
  ·intro j H2 Q' hj s2 kk;have gf:j<Ts.length:=by rw[<-hT.1];exact hj
   have hm:Ts.getD j []∈Ts:=by
    have:Ts.getD j []=Ts[j]:=by simp[List.getD,gf]
    rw[this];exact Ps gf
   exact⟨_,rfl,_,Ts.getD j [],rfl,Dm (s2 _ _ (hT.2 j hj)),hS _ hm,λH3 s3=>kk H3 s3⟩
  ·intro D H2 nD s2 hD;have eg:H2 D=some (.lst (((List.range ps.length).map λ_=>true).map V.bl)):=by rw[hD,P4];rfl
   refine⟨D,_,rfl,eg,?_⟩;have e:((List.range ps.length).map λ_=>true).all id=true:=by simp
   rw[e];exact k H2 s2
abbrev NSd6:Za:=["_law_row_here", "_law_plot", "_law_by", "_law_said_here", "e", "_law_kinds"]
def G7:FnScope NSd6 ["_law_row_here", "_law_plot", "_law_by"] (defScope s__law_said):=by walk_at "s"
def Xgk(K)(C):KZ K (.ref C) (.ref C)=some true:=by
 unfold KZ;rw[T7 (beq_self_eq_true _)]
def Xql  (F:Fun K "_law_said" "_law_said" s__law_said f fd) (B:Bl mg) (hS:mg "ShoreError" = some (.ref S)) (hC:mg "NoPlace" = some (.ref C)) (hD:mg "NoPlot" = some (.ref D))
  (xl:mg "retold" = some (.ref fa)) (xm:KU K (.ref fa)=true) (xn:Binds K zy ["row", "plot", "by"] []) (FA:FnOk P w K mg base (CX1 P w) 6 fa zy ["row", "plot", "by"] (spRetold D C))
  (xC:ExcF K C) (xD:ExcF K D) (e1:LK K (.ref C) (.ref S)=some true) (e2:LK K (.ref D) (.ref S)=some true)
  (n1:KZ K (.ref C) (.ref D)=some false) (n2:KZ K (.ref D) (.ref C)=some false):
  FnOk P w K mg base CX0 7 f fd ["_law_row_here", "_law_plot", "_law_by"] spSaid10:=by
 refine F.ok G7 (by walk_at "l") ?_
 ·walk_at "i"
  obtain⟨r,p,row,S0,g,b0,rfl,hR,R2,hP,oS,lS,yV,g0,g1,hb,k⟩:=h;refine⟨_,Ae (Ao (i:=3) G7.nd rfl (.inl rfl) A7)
   (Ae (Xit (i:=4) (Cc:=S) rfl rfl rfl G7.nd rfl rfl (by rfl) hS
     (λpn R=>Ag (He (Xis FA hr (by rfl) xl xm xn .nil (Aa (pv 0) (Aa (pv 1) (Aa (pv 2) Ac))))))
     (λpn ex=>Ae (Ao (i:=5) G7.nd rfl (.inl rfl) (B7 (Aa (Ax (Xcq K rfl) (by rfl) B.isi cw (Aa (pv 4) (Aa (Lc (v:=.ref C) (by rfl) hC rfl) Ac)))
       (Aa (Ax (Xcq K rfl) (by rfl) B.isi cw (Aa (pv 4) (Aa (Lc (v:=.ref D) (by rfl) hD rfl) Ac))) Ac))))
      (Ae (Ao (i:=3) G7.nd rfl (.inl rfl) A7)
      (Ag (A8 (Aq Bp (Kg K (by rfl) PySem.F.plainAttrs_list PySem.F.slot_list_count PySem.F.type_list_count M9 (pv 5) (Aa Dt Ac)) Af (Ar _))
       (Ag (Ao (i:=3) G7.nd rfl (.inl rfl) (A0 (Dx K (by rfl)) (Ca (Aa A7 (Aa A7 Ac))) (Kg K (by rfl) PySem.F.plainAttrs_list PySem.F.slot_list_index PySem.F.type_list_index Xkv (pv 5) (Aa Dt Ac)) (λ_ _=>rfl)))) Bb)))))
   (Ag (Ap (pv 3)))),?_⟩
  refine⟨λC1 Z1 H1=>C1=(if b0=true then C else D) /\ Z1=[some (.ref r),some (.ref p),some (.int g),some (.str "told"),none,none],?_,?_⟩
  ·refine⟨_,rfl,_,rfl,_,rfl,r,p,row,S0,g,rfl,hR,R2,hP,oS,lS,yV,g0,g1,λip n en hn=>?_,λip H' _=>?_,λip z H' _=>?_⟩
   ·rcases hb with ⟨_,_,z⟩ | ⟨_,z⟩
    ·exact absurd ⟨by lia,by lia⟩ z
    ·rw[ip] at z;cases z
   ·refine⟨D,rfl,?_,rfl⟩;rcases hb with ⟨_,z,_⟩ | ⟨z,_⟩
    ·rw[ip] at z;cases z
    ·rw[z];rfl
   ·refine⟨C,rfl,?_,rfl⟩;rcases hb with ⟨h,_,_⟩ | ⟨_,h⟩
    ·rw[h];rfl
    ·rw[ip] at h;cases h
  ·rintro C1 Z1 H1 ⟨rfl,rfl⟩;have fin:∀{H2:Hp},Same H1 H2->Q (.str (if b0=true then "place" else "plot")) H2:=λs=>k _;clear k hb;cases b0 with
   | true=>
    refine⟨e1,λex hex=>?_⟩;refine⟨_,rfl,ex,C,_,_,true,rfl,Ab,xC,rfl,Xgk K C,?_⟩;refine⟨_,rfl,ex,C,_,_,false,rfl,Ab,xC,rfl,n1,by show 2<=sizeLine;decide,λl nl=>?_⟩;have xo:upd (upd H1 ex (Fu ex C)) l (.lst [.bl true,.bl false]) ex=some (Fu ex C):=ku Ab nl;refine⟨_,rfl,.inl ⟨rfl,_,SqL.of Ab⟩,l,_,_,rfl,rfl,Ab,rfl,rfl,rfl,_,rfl,?_⟩;refine Cb ?_;refine⟨by show 2<=sizeLine;decide,λt nt=>?_⟩;refine⟨_,rfl,.inl ⟨rfl,_,SqL.of (ku Ab nt)⟩,l,_,_,0,rfl,rfl,ku Ab nt,rfl,rfl,by show 2<=1000;decide,⟨_,rfl,rfl⟩,λm z hm _=>absurd hm (Qq m),?_⟩;refine⟨t,_,_,_,rfl,rfl,SqT.of Ab,rfl,?_⟩;exact⟨_,rfl,fin ((((Same.refl H1).step hex).step nl).step nt)⟩
   | false=>
    refine⟨e2,λex hex=>?_⟩;refine⟨_,rfl,ex,D,_,_,false,rfl,Ab,xD,rfl,n2,?_⟩;refine⟨_,rfl,ex,D,_,_,true,rfl,Ab,xD,rfl,Xgk K D,by show 2<=sizeLine;decide,λl nl=>?_⟩;have xo:upd (upd H1 ex (Fu ex D)) l (.lst [.bl false,.bl true]) ex=some (Fu ex D):=ku Ab nl;refine⟨_,rfl,.inl ⟨rfl,_,SqL.of Ab⟩,l,_,_,rfl,rfl,Ab,rfl,rfl,rfl,_,rfl,?_⟩;refine Cb ?_;refine⟨by show 2<=sizeLine;decide,λt nt=>?_⟩;refine⟨_,rfl,.inl ⟨rfl,_,SqL.of (ku Ab nt)⟩,l,_,_,1,rfl,rfl,ku Ab nt,rfl,rfl,by show 2<=1000;decide,⟨_,rfl,rfl⟩,λm z hm hz=>?_,?_⟩
    ·have:m=0:=by lia
     subst this;cases (Pd hz);rfl
    ·refine⟨t,_,_,_,rfl,rfl,SqT.of Ab,rfl,?_⟩;exact⟨_,rfl,fin ((((Same.refl H1).step hex).step nl).step nt)⟩
def Xqm:FnScope ["_law_plot"] ["_law_plot"] (defScope s__law_rank):=by walk_at "s"
def Xqn  (F:Fun K "_law_rank" "_law_rank" s__law_rank f fd) (B:Bl mg):FnOk P w K mg base CX0 1 f fd ["_law_plot"] spRank:=by
 refine F.ok Xqm (by walk_at "l") ?_
 ·walk_at "i"
  obtain⟨p,S,rfl,hp,k⟩:=h;refine⟨_,Ag (Ap (Ca (Aa (Ax Br (by rfl) B.len aT (Aa (pv 0) Ac)) (Aa (pv 0) Ac)))),?_⟩;refine⟨_,rfl,p,_,rfl,.inr (SqT.of hp),_,rfl,by show 2<=sizeLine;decide,λt nt=>?_⟩;exact k t _ (by rw[Ab,Ow]) ((Same.refl H).step nt)
end
end K10
set_option maxHeartbeats 8000000
namespace K10
open L2 SH
def K9 (K:KQ) (T:ae):Sp:=λvs H Q _=>∃(a:ae) (ns:List Int),vs=[.ref a]/\SqL K H a (ns.map V.int)/\ns.length<=63/\H T=some (.tbl #[])/\∀H',Q (.bl true) H'
structure Ev (T:ae) (pos:cN) (dr sc r l:ae) (row:Za) (ps:List ae) (Ts:List (Za)) (H:Hp):Prop where
 hr:H r=some (.lst (row.map V.str))
 hl:H l=some (.lst (ps.map V.ref))
 ht:Tups H ps Ts
 tab:Bi T pos qIn H
 d:DrawOk H dr sc
section
variable {T:ae}{pos:cN}{dr sc r l:ae}{row:Za}{ps:List ae}{Ts:List (Za)}{H H':Hp}
def Ev.same(e:Ev T pos dr sc r l row ps Ts H)(s:Same H H'):Ev T pos dr sc r l row ps Ts H':=⟨s _ _ e.hr,s _ _ e.hl,e.ht.same s,SH.Bi.same e.tab s,e.d.same s⟩
def Ev.but(e:Ev T pos dr sc r l row ps Ts H)(n1:r≠dr)(n2:l≠dr)(d:DrawOk H' dr sc)(b:But dr H H'):Ev T pos dr sc r l row ps Ts H':=by
 obtain⟨xs,h⟩:=e.d.at;exact⟨b _ _ e.hr n1,b _ _ e.hl n2,⟨e.ht.1,λi hi=>b _ _ (e.ht.2 i hi) (e.d.ntup _ _ (e.ht.2 i hi))⟩,SH.Bi.but e.tab h b,d⟩
end
def Xqo(K)(h:X.K=K):Bw X (.type "tuple") (λxs H Q=>∃p ys,xs=[.ref p]/\((SqL K H p ys/\∀l,H l=none->Q (.ref l) (upd H l (.tup ys)))\/(SqT K H p ys/\Q (.ref p) H))):=by
 subst h;exact Es
def Ov    (h:Tups H ps Ts) (hi:i<ps.length):Ts.getD i []∈Ts:=by
 have eS:i<Ts.length:=by rw[<-h.1];exact hi
 have:Ts.getD i []=Ts[i]:=by simp[List.getD,eS]
 rw[this];exact Ps eS
def Xqp     (p1 p2) (h1:∀Q':Bool->Hp->Prop,(∀H',Same H H'->Q' p1 H')->t Z H Q') (h2:∀(H1:Hp) (Q':Bool->Hp->Prop),Same H H1->(∀H',Same H1 H'->Q' p2 H')->u Z H1 Q')
  (ha:(p1||p2)=true->∀H',Same H H'->a D Z H') (hb:(p1||p2)=false->∀H',Same H H'->b D Z H'):Jb (tOr t u) a b D Z H:=by
 refine h1 _ λH' s'=>?_;cases p1 with
 | true=>
  rw[T7 rfl];show if true=true then _ else _
  rw[T7 rfl];exact ha rfl H' s'
 | false=>
  rw[T6 (by decide)];refine h2 H' _ s' λH2 s2=>?_;show if p2=true then _ else _
  cases p2 with
  | true=>rw[T7 rfl];exact ha rfl H2 (s'.trans s2)
  | false=>rw[T6 (by decide)];exact hb rfl H2 (s'.trans s2)
def Xqq(h:∀y∈S,okN y)(g:∀y∈W,okN y):∀y∈A6 S W,okN y:=λy hy=>(G3.mp hy).elim (λz=>h y z.1) λz=>g y z.1
def Xgl{Ts:List (Za)}(h:n=Ts.length)(f:Za->Za):((List.range n).filter λ_=>true).map (λi=>f (Ts.getD i []))=Ts.map f:=by
 rw[Py.mpr (λ_ _=>rfl),h];refine Ro (by simp) λi h1 h2=>?_;simp at h1;simp[List.getD,h1]
def Xqr  (h2:two row) (h3:Bk row) (hk:k<=row.length) {Ts A B:List (Za)} (hT:∀S,S∈Ts↔An row S=true) (pA:A.Perm (Ts.map λS=>A6 S (A2 row k))) (oA:A.Pairwise λa b=>F5 a b=true)
  (hB:∀S,S∈B↔An (Bc row k) S=true) (oB:B.Pairwise λa b=>F5 a b=true):B=A:=
 Kz Oe (λ_ _ _=>Xf4) (oB.imp λh=>Oi h) (oA.imp λh=>Oi h) λS=>by
  rw[hB,Xoz h2 h3 hk,pA.mem_iff,Pq];exact⟨λ⟨U,a,b⟩=>⟨U,(hT U).mpr a,b.symm⟩,λ⟨U,a,b⟩=>⟨U,(hT U).mp a,b.symm⟩⟩
def Xqs  {Ts:List (Za)} (nd:Ts.Nodup) (hT:∀S,S∈Ts↔An row S=true):(Ts.map λS=>A6 S (A2 row k)).Nodup:=by
 rw[List.Nodup,Se];refine List.Pairwise.imp_of_mem ?_ nd;intro a b ha hb n e;exact n (Xo1 (Cn ((hT a).mp ha)).2 (Cn ((hT b).mp hb)).2 (Bn (Fc ..)) e)
def Xqt{gs:List ae}(h:i<gs.length):(gs.map V.ref)[i]? = some (.ref (gs.getD i 0)):=by
 rw[Pf,Ox h];simp[List.getD,h]
section
variable {P:av}{w:a8}{K:KQ}{mg:aq->Option aa}{base:ar}
abbrev NL10:Za:=["_law_script", "_law_draw", "_law_row_here", "_law_some", "_law_plot", "_law_by", "_law_stone", "_law_after", "_law_due", "_law_found"]
abbrev NL10a:Za:=["_law_one", "_law_stone"]
abbrev NL10b:Za:=["_law_one", "_law_row_here", "_law_by"]
def Df:FnScope NL10 ["_law_script"] (defScope s_law):=by walk_at "s"
def Xqu  (F:Fun K "law" "law" s_law f fd) (B:Bl mg) (FB:Fn P w K mg base CX0 1 "_law_begin" ["_law_script"] (Xdh K)) (FP:FnPick P w K mg base)
  (FI:Fn P w K mg base CX0 4 "_law_island" ["_law_draw", "_law_most"] spIslandN) (xp:Fn P w K mg base CX0 3 "_law_plots" ["_law_row_here"] spPlotsO) (ut:Fn P w K mg base CX0 5 "plots" ["row"] (Xf3 T (lamPos s_in_order)))
  (FO:Fn P w K mg base CX0 2 "_law_odd_plot" ["_law_draw", "_law_row_here", "_law_plot"] spOdd) (FG:Fn P w K mg base CX0 3 "_law_good_plot" ["_law_row_here", "_law_plot"] spGood) (uv:Fn P w K mg base CX0 7 "_law_said" ["_law_row_here", "_law_plot", "_law_by"] spSaid10)
  (xq:Fn P w K mg base CX0 1 "_law_seen" ["_law_row_here", "_law_gap"] spSeen) (xr:Fn P w K mg base CX0 1 "_law_apart" ["_law_one", "_law_other"] spApart) (FR:Fn P w K mg base (CX1 P w) 6 "retold" ["row", "plot", "by"] (spRetold Pl Np)) (GH:Fn P w K mg base (CX1 P w) 2 "at_gap" ["row", "gap"] (spAtGap Np))
  (xt:Fn P w K mg base CX0 2 "_law_all_texts" ["_law_found"] spAllT) (xu:Fn P w K mg base CX0 1 "turned" ["row", "by"] spTrn) (xv:Fn P w K mg base CX0 1 "mirrored" ["row"] Xgb)
  (qt:mg "_law_rank" = some (.ref fk)) (z4:KU K (.ref fk)=true) (xw:Binds K z5 ["_law_plot"] []) (FK:FnOk P w K mg base CX0 1 fk z5 ["_law_plot"] spRank):
  FnOk P w K mg base CX0 8 f fd ["_law_script"] (K9 K T):=by
 refine F.ok Df (by walk_at "l") ?_
 ·walk_at "i"
  obtain⟨a,ns,rfl,hS,aO,z6,k⟩:=h;have c7:Room 1 _:=hr.mono (by decide);have fB:Room 2 _:=hr.mono (by decide);have rL:Room 3 _:=hr.mono (by decide);have GI:Room 4 _:=hr.mono (by decide);have z7:Room 5 _:=hr.mono (by decide);have xx:Room 6 _:=hr.mono (by decide);have z8:Room 7 _:=hr.mono (by decide);refine⟨_,Ae (Ao (i:=1) Df.nd rfl (.inl rfl) (Ai FB c7 (by rfl) Am (Aa (pv 0) Ac)))
   (Ae (Ao (i:=2) Df.nd rfl (.inr rfl) (Ai FI GI (by rfl) Am (Aa (pv 1) (Aa Af Ac))))
   (Ae (Ao (i:=3) Df.nd rfl (.inl rfl) (Ai xp rL (by rfl) Am (Aa (pv 2) Ac)))
   (Ae (Ao (i:=4) Df.nd rfl (.inl rfl) (A0 Bh (pv 3) (Ai FP c7 (by rfl) Am (Aa (pv 1) (Aa (Ax Br (by rfl) B.len aT (Aa (pv 3) Ac)) Ac))) (λ_ _=>rfl)))
   (Ae (Ao (i:=5) Df.nd rfl (.inr rfl) (Ai FP c7 (by rfl) Am (Aa (pv 1) (Aa (Ak B6 (Ax Br (by rfl) B.len aT (Aa (pv 2) Ac)) Af) Ac))))
   (Ae (A8 (Aq Bp (Ai FP c7 (by rfl) Am (Aa (pv 1) (Aa Af Ac))) Af (Ar _)) (Ag (Ao (i:=5) Df.nd rfl (.inr rfl) (A0 Jl (Ca (Aa (Lj Lk Af) (Aa (Ak B6 (Ax Br (by rfl) B.len aT (Aa (pv 2) Ac)) Af) (Aa (Ak B6 (Ax Br (by rfl) B.len aT (Aa (pv 2) Ac)) Af) Ac)))) (Ai FP c7 (by rfl) Am (Aa (pv 1) (Aa Af Ac))) (λ_ _=>rfl)))) Bb)
   (Ae (A8 (Aq Bp (Ai FP c7 (by rfl) Am (Aa (pv 1) (Aa Af Ac))) Af (Ar _)) (Ag (Ao (i:=4) Df.nd rfl (.inl rfl) (Ai FO fB (by rfl) Am (Aa (pv 1) (Aa (pv 2) (Aa (pv 4) Ac)))))) Bb)
   (Ae (A8 (G9 (Fe (Ai FG rL (by rfl) Am (Aa (pv 2) (Aa (pv 4) Ac))))) (Ag (Ap (Ea Bp (Ai uv z8 (by rfl) Am (Aa (pv 2) (Aa (pv 4) (Aa (pv 5) Ac)))) A7 (Ar _)))) Bb)
   (Ae (A8 (Ep (Aq Ct (pv 5) Af (Ar _)) (Fg (Aq Xap (pv 5) (Ax Br (by rfl) B.len aT (Aa (pv 2) Ac)) (Ar _)))).pt (Ag (Ap (Ea Bp (Ai uv z8 (by rfl) Am (Aa (pv 2) (Aa (pv 4) (Aa (pv 5) Ac)))) A7 (Ar _)))) Bb)
   (Ae (Ao (i:=6) Df.nd rfl (.inr rfl) (Ai xq c7 (by rfl) Am (Aa (pv 2) (Aa (pv 5) Ac))))
   (Ae (Ao (i:=7) Df.nd rfl (.inl rfl) (Ak B3 (Bt Ci (pv 2) (Bq (pv 5)) Bx) (Bt Ci (pv 2) Bx (Bq (pv 5)))))
   (Ae (Gi (i:=8) (N:=NL10a) (cap:=[none,some 6]) (CompScope.of (defScope s_law) NL10 rfl rfl rfl (by decide +kernel)) rfl Df.nd rfl rfl (Cf (pv 3)) (λ_ _ _=>Az (i:=0) (show NL10a.Nodup by decide +kernel) rfl (.inl rfl) (.inr rfl)) (λ_ _ _=>C7) (λ_ _ _=>B1 (Xqo K (by rfl)) (by rfl) (by exact B.tuple) (by rfl) (Aa (Ai (by exact xr) (by exact c7) (by rfl) Am (Aa (pv 0) (Aa (pv 1) Ac))) Ac)))
   (Ae (Gi (i:=9) (N:=NL10b) (cap:=[none,some 2,some 5]) (CompScope.of (defScope s_law) NL10 rfl rfl rfl (by decide +kernel)) rfl Df.nd rfl rfl (Cf (pv 3)) (λ_ _ _=>Az (i:=0) (show NL10b.Nodup by decide +kernel) rfl (.inl rfl) (.inr rfl)) (λ_ _ _=>C7) (λ_ _ _=>(Ai (by exact FR) (by exact xx) (by rfl) Hu (Aa (pv 1) (Aa (pv 0) (Aa (pv 2) Ac))))))
   (Ae (A8 (Ep (G9 (Fe (Ai xt fB (by rfl) Am (Aa (pv 9) Ac)))) (Ep (Aq (Hy (hu3 hr)) (pv 9) (pv 8) (Ar _)) (Fg (Aq (Hy (hu3 hr)) (Ai GH fB (by rfl) Hu (Aa (pv 7) (Aa Af Ac))) (Ca Ac) (Ar _))))).pt (Ag (Ap Dt)) Bb)
   (Ae (A8 (Ep (Aq (Hy (hu3 hr)) (Ai ut z7 (by rfl) Am (Aa (Ai xu c7 (by rfl) Am (Aa (pv 2) (Aa (pv 5) Ac))) Ac)) (Xfb (show (A.deeper (aM "law" (defScope s_law) s.heap.objs.size f cdv)).units+1+1<bz by have:=hr.un;lia) (by rfl) B.sorted (by rfl) (Aa (pv 8) Ac) (Xav (Lc (v:=.ref fk) (by rfl) qt rfl) Xau)) (Ar _)) (Fg (Aq (Hy (hu3 hr)) (Ai ut z7 (by rfl) Am (Aa (Ai xv c7 (by rfl) Am (Aa (pv 2) Ac)) Ac)) (pv 3) (Ar _)))).pt (Ag (Ap Dt)) Bb)
   (Ag (Ap (Ea (Xc6 (hu3 hr)) (Ai FR xx (by rfl) Hu (Aa (pv 7) (Aa (Ai FR xx (by rfl) Hu (Aa (pv 2) (Aa (pv 4) (Aa (pv 5) Ac)))) (Aa (Ak Xai (Ax Br (by rfl) B.len aT (Aa (pv 2) Ac)) (pv 5)) Ac)))) (pv 4) (Ar _)))))))))))))))))),?_⟩
  have nT:∀{H':Hp} {b:ae} {o:HO},Bi T (lamPos s_in_order) qIn H'->H' b=some o->(∀z,o ≠ .tbl z)->b≠T:=λtb e n z=>by
   rcases tb with q | ⟨_,q,_⟩<;>(rw[z,q] at e;cases e;exact n _ rfl)
  refine⟨_,rfl,a,ns,rfl,hS,aO,λdr sc H1 y0 KB d1 s1=>?_⟩;have lM:Bi T (lamPos s_in_order) qIn H1:=.inl (s1 _ _ z6);refine⟨_,rfl,dr,sc,14,rfl,by decide,d1,λr row n st aX H2 nr hn bv hR hp eF d2 b2=>?_⟩;have sI:Bi T (lamPos s_in_order) qIn H2:=by
   obtain⟨EC,h1⟩:=d1.at;exact SH.Bi.but lM h1 b2
  have hI:Isl row:=⟨n,st,aX,by lia,bv,hp⟩;have R2:=hI.row2;have tT:=hI.dlen;have jJ:=R2.len;have i5:r≠dr:=(d1.ne nr).1;refine⟨_,rfl,r,row,rfl,hR,R2,eF,by lia,λl ps Ts H3 nl mF sJ gP s3=>?_⟩;have lN:=gP.mem;have z9:ps.length<=64:=by rw[sJ.1];exact gP.len R2.two eF (by lia)
  have jf:l≠dr:=(d2.ne nl).1;have KC:0<ps.length:=by rw[sJ.1];exact List.length_pos_of_mem ((lN []).mpr (Gs row))
  have oQ:=sJ.1;have e3:Ev T (lamPos s_in_order) dr sc r l row ps Ts H3:=⟨s3 _ _ hR,mF,sJ,SH.Bi.same sI s3,d2.same s3⟩;have sL:∀t,An row t=true->(∀y∈t,okN y)/\t.length<=14:=λt ht=>⟨λy hy=>R2.ok y ((Cn ht).1 y hy),Pu (Gr ht) (by lia)⟩;clear mF sJ s3 sI hR b2 d2 lM d1 s1 z6 hS;dsimp only[Bm];refine⟨_,rfl,_,rfl,_,rfl,l,_,rfl,.inl (SqL.of e3.hl),dr,sc,_,rfl,by rw[Ow];lia,by rw[Ow];lia,e3.d,λi H4 i0 i1 d4 b4=>?_⟩;have b4:But dr H3 H4:=b4;rw[Ow] at i1;obtain⟨i,rfl⟩:=Pz i0;have hi:i<ps.length:=by lia
  have e4:=e3.but i5 jf d4 b4;refine⟨l,_,_,_,rfl,rfl,SqL.of e4.hl,Du (Xqt hi),?_⟩;have ou:=e4.ht.2 i hi;have zA:=(lN _).mp (Ov e4.ht hi);generalize Ts.getD i []=S0 at ou zA;generalize ps.getD i 0=p0 at ou;clear e3;dsimp only[Bm];refine⟨_,rfl,_,rfl,r,_,rfl,.inl (SqL.of e4.hr),_,_,rfl,rfl,dr,sc,_,rfl,by rw[Ow];lia,by rw[Ow];lia,e4.d,λg0 H5 KD GJ d5 b5=>?_⟩;have b5:But dr H4 H5:=b5;have e5:=e4.but i5 jf d5 b5;have xy:=b5 _ _ ou (e4.d.ntup _ _ ou);rw[Ow] at GJ;clear e4 b5 d5 ou;dsimp only[Bm];refine Xfe (t:=Jb _ _ _) (fun Z' H'=>∃g:Int, Z'=[some (.ref a),some (.ref dr),some (.ref r),some (.ref l),some (.ref p0),some (.int g),none,none,none,none] /\ -1000<=g/\g<=2000/\Ev T (lamPos s_in_order) dr sc r l row ps Ts H'/\H' p0=some (.tup (S0.map V.str))) ?_ ?_;rotate_left
  ·intro nx fT;refine⟨_,rfl,dr,sc,8,rfl,by decide,by decide,e5.d,λq4 H6 GK GL d6 b6=>⟨rfl,_,rfl,?_⟩⟩;have b6:But dr H5 H6:=b6;have e6:=e5.but i5 jf d6 b6;have jP:=b6 _ _ xy (e5.d.ntup _ _ xy);refine Aw (λ_=>?_) (λ_=>fT _ _ ⟨_,rfl,by lia,by lia,e6,jP⟩);refine⟨_,rfl,_,rfl,r,_,rfl,.inl (SqL.of e6.hr),_,_,rfl,rfl,_,rfl,r,_,rfl,.inl (SqL.of e6.hr),_,_,rfl,rfl,by show 3<=sizeLine;decide,λt nt=>?_⟩;have s7:=(Same.refl H6).step (o:=.tup [.int (-1),.int (((row.map V.str).length:Nat)+1:Int),.int (((row.map V.str).length:Nat)+2:Int)]) nt;have e7:=e6.same s7;refine⟨_,rfl,dr,sc,3,rfl,by decide,by decide,e7.d,λj H8 j0 j1 d8 b8=>?_⟩;have b8:But dr _ H8:=b8;have e8:=e7.but i5 jf d8 b8;have mH:=b8 _ _ (s7 _ _ jP) (e7.d.ntup _ _ (s7 _ _ jP));have xz:=b8 t _ Ab (e7.d.ntup t _ Ab);obtain⟨j,rfl⟩:=Pz j0;have mF:((row.map V.str).length:Int)=row.length:=by rw[Ow]
   match j,j1 with
   | 0,_=>exact⟨t,_,_,_,rfl,rfl,SqT.of xz,Du (j:=0) rfl,fT _ _ ⟨_,rfl,by lia,by lia,e8,mH⟩⟩
   | 1,_=>exact⟨t,_,_,_,rfl,rfl,SqT.of xz,Du (j:=1) rfl,fT _ _ ⟨_,rfl,by lia,by lia,e8,mH⟩⟩
   | 2,_=>exact⟨t,_,_,_,rfl,rfl,SqT.of xz,Du (j:=2) rfl,fT _ _ ⟨_,rfl,by lia,by lia,e8,mH⟩⟩
   | j+3,h=>lia
  rintro Z' H6 ⟨g,rfl,gl,gu,e6,jP⟩;clear e5 xy;refine Xfe (t:=Jb _ _ _) (fun Z' H'=>∃(p:ae) (S:Za), Z'=[some (.ref a),some (.ref dr),some (.ref r),some (.ref l),some (.ref p),some (.int g),none,none,none,none]/\Ev T (lamPos s_in_order) dr sc r l row ps Ts H'/\H' p=some (.tup (S.map V.str))/\(∀y∈S,okN y)/\S.length<=24) ?_ ?_;rotate_left
  ·intro nx fT;refine⟨_,rfl,dr,sc,8,rfl,by decide,by decide,e6.d,λq4 H7 GK GL d7 b7=>⟨rfl,_,rfl,?_⟩⟩;have b7:But dr H6 H7:=b7;have e7:=e6.but i5 jf d7 b7;have pL:=b7 _ _ jP (e6.d.ntup _ _ jP);obtain⟨o1,o2⟩:=sL S0 zA;refine Aw (λ_=>?_) (λ_=>fT _ _ ⟨p0,S0,rfl,e7,pL,o1,by lia⟩);refine⟨_,rfl,_,rfl,_,rfl,dr,sc,r,p0,row,S0,rfl,e7.d,e7.hr,i5,hI,pL,o1,by lia,λq S H8 hq oS lS d8 b8=>?_⟩;exact fT _ _ ⟨q,S,rfl,e7.but i5 jf d8 b8,hq,oS,by lia⟩
  rintro Z' H7 ⟨p,S,rfl,e7,pL,oS,lS⟩;clear e6 jP;refine⟨_,rfl,_,rfl,r,p,row,S,rfl,e7.hr,R2,pL,oS,by lia,λH8 s8=>⟨_,rfl,?_⟩⟩;have e8:=e7.same s8;have mH:=s8 _ _ pL;rw[Ke R2.two];cases pO:An row S with
  | false=>
   refine Cb ?_;refine⟨_,rfl,_,rfl,_,rfl,r,p,row,S,g,false,rfl,e8.hr,R2,mH,oS,lS,by lia,gl,gu,.inr ⟨rfl,pO⟩,λH9=>⟨rfl,?_⟩⟩;exact k _
  | true=>
   refine Bz ?_;dsimp only[Fi];clear e7 pL;have pQ:((row.map V.str).length:Int)=row.length:=by rw[Ow]
   refine Xqp (decide (g<0)) (decide ((row.length:Int)<g)) (λQ' hQ=>⟨_,rfl,_,_,rfl,rfl,_,rfl,hQ H8 (Same.refl _)⟩) (λH9 Q' s9 hQ=>⟨_,rfl,_,rfl,r,_,rfl,.inl (SqL.of (s9 _ _ e8.hr)),_,_,rfl,rfl,_,rfl,by rw[pQ];exact hQ H9 (Same.refl _)⟩) (λhb H9 s9=>?_) (λhb H9 s9=>?_)
   ·have e9:=e8.same s9;have out:¬(0<=g/\g<=row.length):=λz=>by
     rw[T9 (by lia),T9 (by lia)] at hb;exact absurd hb (by decide)
    refine⟨_,rfl,_,rfl,_,rfl,r,p,row,S,g,true,rfl,e9.hr,R2,s9 _ _ mH,oS,lS,by lia,gl,gu,.inl ⟨rfl,pO,out⟩,λHA=>⟨rfl,?_⟩⟩;exact k _
   rw[Sy] at hb;have GM:=Ub hb.1;have GN:=Ub hb.2;obtain⟨cM,rfl⟩:=Pz (show 0<=g by lia);have lO:cM<=row.length:=by lia
   have e9:=e8.same s9;have GO:=s9 _ _ mH;clear e8 mH hb GM GN;dsimp only[Fi];refine⟨_,rfl,_,rfl,r,row,cM,rfl,e9.hr,by lia,lO,λGP HA KE bv sA=>?_⟩;have eA:=e9.same sA;have GQ:=sA _ _ GO;dsimp only[Bm];refine⟨_,rfl,_,rfl,_,rfl,r,_,rfl,SqL.of eA.hr,λp1 n1=>?_⟩;rw[Ex _ _ _ lO];refine⟨_,rfl,_,rfl,_,rfl,r,_,rfl,SqL.of (ku eA.hr n1),λp2 n2=>?_⟩;rw[Dw _ _ _ lO];refine⟨p1,p2,_,_,rfl,rfl,ku Ab n2,Ab,by rw[T5];simp;lia,λaf n3=>?_⟩;have sB:=(((Same.refl HA).go n1 n2).go n2 n3).step (o:=.lst ((row.drop cM).map V.str++(row.take cM).map V.str)) n3;have zB:upd (upd (upd HA p1 (.lst ((row.drop cM).map V.str))) p2 (.lst ((row.take cM).map V.str))) af (.lst ((row.drop cM).map V.str++(row.take cM).map V.str)) af=some (.lst ((Bc row cM).map V.str)):=by rw[Ab];unfold Bc;simp
   dsimp only[Bm];generalize upd (upd (upd HA p1 (.lst ((row.drop cM).map V.str))) p2 (.lst ((row.take cM).map V.str))) af (.lst ((row.drop cM).map V.str++(row.take cM).map V.str))=HB at sB zB;have eB:=eA.same sB;have GR:=sB _ _ GQ;have x4:=sB _ _ bv;have zC:(A2 row cM).length<=14:=Pu (Xd3 row cM) (by lia);have GS:∀y∈A2 row cM,okN y:=Xlt R2.ok cM;have zD:∀U,An row U=true->∀y∈A6 U (A2 row cM),okN y:=λU hU=>Xqq (sL U hU).1 GS;refine⟨_,rfl,l,rfl,⟨_,SqL.of eB.hl⟩,?_⟩;refine Xga (n:=ps.length) (by rw[T5];lia) (λi=>.ref (ps.getD i 0)) (λ_=>true) (λi=>A6 (Ts.getD i []) (A2 row cM)) ?_ ?_ (λi H2 Q _ _ k=>k H2 (Same.refl _)) ?_ ?_
   ·intro i H2 hi s2;have:=Ef (K:=K) (SqL.of (s2 _ _ eB.hl)) (show i<(ps.map V.ref).length by rw[Ow];exact hi)
    rwa [Bv V.ref 0 ps hi] at this
   ·intro H2 s2;have:=Eg (K:=K) (SqL.of (s2 _ _ eB.hl))
    rwa [Ow] at this
   ·intro i H2 Q' hi _ s2 kk;have uw:=(lN _).mp (Ov eB.ht hi);have li:=(sL _ uw).2;refine⟨_,rfl,_,rfl,ps.getD i 0,GP,Ts.getD i [],A2 row cM,rfl,s2 _ _ (eB.ht.2 i hi),s2 _ _ x4,by lia,by lia,λx H3 nx hx s3=>?_⟩;refine⟨x,_,rfl,.inl ⟨SqL.of hx,λt nt=>?_⟩⟩;exact kk t _ Ab (s3.step nt)
   intro du zF HC KG sC GT x5;rw[Xgl oQ λS=>A6 S (A2 row cM)] at x5;have eC:=eB.same sC;have GU:=sC _ _ GR;have x6:=sC _ _ zB;have dl:zF.length=ps.length:=by rw[x5.1,Ow];exact oQ.symm
   dsimp only[Bm];refine⟨_,rfl,l,rfl,⟨_,SqL.of eC.hl⟩,?_⟩;refine Xga (n:=ps.length) (by rw[T5];lia) (λi=>.ref (ps.getD i 0)) (λ_=>true) (λi=>A6 (Ts.getD i []) (A2 row cM)) ?_ ?_ (λi H2 Q _ _ k=>k H2 (Same.refl _)) ?_ ?_
   ·intro i H2 hi s2;have:=Ef (K:=K) (SqL.of (s2 _ _ eC.hl)) (show i<(ps.map V.ref).length by rw[Ow];exact hi)
    rwa [Bv V.ref 0 ps hi] at this
   ·intro H2 s2;have:=Eg (K:=K) (SqL.of (s2 _ _ eC.hl))
    rwa [Ow] at this
   ·intro i H2 Q' hi _ s2 kk;have uw:=(lN _).mp (Ov eC.ht hi);obtain⟨oi,li⟩:=sL _ uw;refine⟨_,rfl,_,rfl,_,rfl,r,ps.getD i 0,row,Ts.getD i [],_,rfl,s2 _ _ eC.hr,R2,s2 _ _ (eC.ht.2 i hi),oi,by lia,by lia,gl,gu,λ_ n en hn q H3 nq hq s3=>?_,λz=>(by rw[uw] at z;cases z),λ_ z=>absurd ⟨by lia,by lia⟩ z⟩;have:n=cM:=by lia
    subst this;exact kk q H3 hq s3
   intro fo zG HD KH sD ph ux;rw[Xgl oQ λS=>A6 S (A2 row cM)] at ux;have eD:=eC.same sD;have GV:=sD _ _ GU;have sO:=sD _ _ x6;have sP:=sD _ _ GT;have sQ:=x5.same sD;have fl:zG.length=ps.length:=by rw[ux.1,Ow];exact oQ.symm
   have uy:∀U∈Ts.map (λS=>A6 S (A2 row cM)),∀y∈U,okN y:=λU hU=>by
    obtain⟨V0,hV,rfl⟩:=Pq.mp hU;exact zD V0 ((lN V0).mp hV)
   have x8:Row2 (Bc row cM):=⟨two.perm R2.two (En row cM),λy hy=>R2.ok y ((En row cM).mem_iff.mp hy),by rw[K5];exact jJ⟩;have GW:Row2 row.reverse:=⟨two.perm R2.two (Rc row),λy hy=>R2.ok y (Qx.mp hy),by rw[Ry];exact jJ⟩;have sR:∀fD:Za,fD.Perm row->(dit fD).length<=14:=λfD p=>by
    have e:dit fD=dit row:=G2 (Cw _) (Cw _) λx=>by rw[Aj,Aj,p.mem_iff]
    rw[e];lia
   dsimp only[Bm];refine⟨_,rfl,fo,zG,_,rfl,ph,ux,λU hU=>?_,by lia,λHE sE=>⟨_,rfl,Bz ?_⟩⟩
   ·obtain⟨V0,hV,rfl⟩:=Pq.mp hU;have:=Gr (F6 R2.two eF ((lN V0).mp hV) cM lO).1;have:=sR _ (En row cM)
    lia
   have eE:=eD.same sE;refine⟨_,rfl,_,rfl,_,_,G4 (sE _ _ ph) (ux.same sE),G4 (sE _ _ sP) (sQ.same sE),C9 _ (Fb uy),C9 _ (Fb uy),Oh _ _,_,rfl,?_⟩;rw[Og uy uy,T8 rfl];refine Bz ?_;refine⟨_,rfl,af,Bc row cM,0,rfl,sE _ _ sO,by rw[K5];exact jJ,by decide,by decide,λn en hn q HF nq hq sF=>?_,λz=>absurd ⟨by decide,by lia⟩ z⟩;have n0:n=0:=by lia
   subst n0;rw[Xf6] at hq;refine⟨by show 0<=sizeLine;decide,λem zH=>?_⟩;have sG:=sF.step (o:=.tup []) zH;have sU:upd HF em (.tup []) em=some (.tup (([]:Za).map V.str)):=Ab;have zI:=(Same.refl HF).step (o:=.tup []) zH _ _ hq;generalize upd HF em (.tup [])=HG at sG sU zI;refine⟨_,_,Dm zI,Dm sU,rfl,rfl,by show min (0+1) _<=3;lia,_,rfl,?_⟩;refine Bz ?_;have eG:=eE.same sG;have uz:=sE.trans sG;have GX:=uz _ _ GV;have x9:=uz _ _ sO;have x':=uz _ _ sP;have xA:=sQ.same uz;dsimp only[Fi];refine⟨_,rfl,_,rfl,r,row,cM,rfl,eG.hr,lO,by lia,λtl HH zm rg sH=>?_⟩;have eH:=eG.same sH;refine⟨tl,Bc row cM,rfl,rg,x8,Xo0 R2.two eF lO,sR _ (En row cM),eH.tab,λD1 q1 T1 HI KI GY xB mI GZ KJ lM b1=>?_⟩;have b1:But T HH HI:=b1;have kI:∀{b:ae} {o:HO},HG b=some o->(∀z,o ≠ .tbl z)->HI b=some o:=λe n=>b1 _ _ (sH _ _ e) (nT eH.tab (sH _ _ e) n);have tu:∀{H' zJ:Hp},(∀{b:ae} {o:HO},H' b=some o->(∀z,o ≠ .tbl z)->zJ b=some o)->∀{ps:List ae} {Ts:List (Za)},Tups H' ps Ts->Tups zJ ps Ts:=λkk _ _ h=>⟨h.1,λi hi=>kk (h.2 i hi) λz=>by simp⟩;have jT:=tu kI xA;refine⟨_,rfl,du,fk,zF,_,rfl,rfl,kI x' λz=>by simp,jT,Xqs gP.nd lN,by lia,Xo5 FK xw rL jT,λD2 pp HJ m7 gd so sm xj=>?_⟩;obtain⟨wg,fG⟩:=Xfw (Ts:=Ts.map λS=>A6 S (A2 row cM)) (by rw[<-jT.1];exact gd) (by rw[<-jT.1];exact so);have zK:=(Xfy jT gd).same sm;have HP:=Xqr R2.two eF lO lN wg fG mI GZ;rw[<-HP] at zK;have lP:∀U∈T1,∀y∈U,okN y:=λU hU y hy=>x8.ok y ((Cn ((mI U).mp hU)).1 y hy);refine⟨_,_,G4 (sm _ _ GY) (xB.same sm),G4 xj zK,C9 _ (Fb lP),C9 _ (Fb lP),Oh _ _,_,rfl,?_⟩;rw[Og lP lP,T8 rfl];refine Bz ?_;have kJ:∀{b:ae} {o:HO},HG b=some o->(∀z,o ≠ .tbl z)->HJ b=some o:=λe n=>sm _ _ (kI e n);have sV:=SH.Bi.same lM sm;refine⟨_,rfl,r,row,rfl,kJ eG.hr λz=>by simp,λml HK KL rS sK=>?_⟩;refine⟨ml,row.reverse,rfl,rS,GW,Xo3 R2.two eF,sR _ (Rc row),SH.Bi.same sV sK,λD3 q3 T3 HL KM HQ xE sW HR KN HS b3=>?_⟩;have b3:But T HK HL:=b3;have kL:∀{b:ae} {o:HO},HG b=some o->(∀z,o ≠ .tbl z)->HL b=some o:=λe n=>b3 _ _ (sK _ _ (kJ e n)) (nT (SH.Bi.same sV sK) (sK _ _ (kJ e n)) n);have HU:T3=Ts:=IsPL.uniq (row:=row) ⟨HR.imp λh=>Oi h,λU=>(sW U).trans (Xo2 R2.two)⟩ gP;subst HU;have o8:∀U∈T3,∀y∈U,okN y:=λU hU=>(sL U ((lN U).mp hU)).1;refine⟨_,rfl,_,_,G4 HQ xE,G4 (kL eG.hl λz=>by simp) (tu kL eG.ht),C9 _ (Fb o8),C9 _ (Fb o8),Oh _ _,_,rfl,?_⟩;rw[Og o8 o8,T8 rfl];refine Bz ?_;have zL:=kL GX λz=>by simp
   have zM:=kL eG.hr λz=>by simp
   have xF:=kL x9 λz=>by simp
   dsimp only[Fi];refine⟨_,rfl,_,rfl,_,rfl,_,rfl,r,p,row,S,_,rfl,zM,R2,zL,oS,lS,by lia,gl,gu,λ_ n en hn q HM nq hq sM=>?_,λz=>(by rw[pO] at z;cases z),λ_ z=>absurd ⟨by lia,by lia⟩ z⟩;have HV:n=cM:=by lia
   subst HV;have zN:=(F6 R2.two eF pO n lO).1;have lx:(A6 S (A2 row n)).length<=24:=by
    have:=Gr zN;have:=sR _ (En row n)
    lia
   refine⟨_,rfl,r,_,rfl,.inl (SqL.of (sM _ _ zM)),_,rfl,_,_,rfl,rfl,af,q,Bc row n,A6 S (A2 row n),_,rfl,sM _ _ xF,x8,hq,zD S pO,lx,sR _ (En row n),by rw[pQ];lia,by rw[pQ];lia,λ_ n2 HW uh q2 HN KO tX sN=>?_,λz=>(by rw[zN] at z;cases z),λ_ z=>absurd ⟨by rw[pQ];lia,by rw[K5,pQ];lia⟩ z⟩;rw[pQ] at HW;have uj:n2=row.length - n:=by lia
   subst uj;rw[Xf7 R2.two lO,K4 (Cn pO).2 (Bn (Fc ..))] at tX;have u3:Ce (tupD S)=true:=E6 oS;refine⟨_,rfl,tupD S,tupD S,Dm tX,Dm ((sM.trans sN) _ _ zL),C9 _ u3,C9 _ u3,by show min (ao.depthAll (S.map ao.str)+1) _<=3;rw[Kf];lia,?_⟩;rw[(J7 _ _ u3 u3).mpr rfl];exact k _
end
end K10
set_option maxHeartbeats 4000000
namespace PySem.OldK
def of_tab{T:ae}(ht:isCodeTable h₀ T)(hT:h₀.get? T=some (LB #[]))(m5:∃ps,h.get? T=some (LB ps))(k:∀b o,b≠T->h₀.get? b=some o->h.get? b=some o):AA h₀ h:=by
 obtain⟨ps,gT⟩:=m5;refine⟨λb o e=>?_,λb o e=>?_⟩
 ·by_cases z:b=T
  ·subst z;rw[hT] at e;cases e;exact .inr (.inl ⟨ht,rfl, #[],ps,rfl,by simpa using gT⟩)
  ·exact .inl (k b o z e)
 ·by_cases z:b=T
  ·exact⟨_,z ▸ gT⟩
  ·exact⟨o,k b o z e⟩
end PySem.OldK
namespace L2
def Xqv   {K:KQ}           (hT:s₁.heap.get? T=some (LB #[])) (hTK:K.lookup T=none) (hhd:LA K c0 T=true) (nP:BmOk mg s₁.heap)
  (KX:K.In s₁.heap) (oJ:s₁.heap.Ns au mg) (hb:s₁.heap.Ns cQ mb) (wH:∀x:aq,x ≠ "__name__" -> mb x=bG x) (xG:s₁.heap.NoLimit) (hg:s₁.gens = #[])
  (ha:s₁.heap.get? a=some {cls:=.type "list",data:=.seq vs.toArray}) (hi:iQ vs ns) (hl:ns.length<=sizeLine) (hr:Room k eM)
  (F:∀base:ar,K.In base->base.Ns au mg->BmOk mg base->FnOk P w K mg base CX k fa fd [x] sp) (sX:∀(s:ak) (u:aa),eh s fd ⟨[u],[]⟩ [(x,u)])
  (gO:∀H:Hp,H T=some (.tbl #[])->SqL K H a (ns.map V.int)->sp [.ref a] H (λv _=>v = .bl true) λ_ _ _=>False)
  (xH:∀H e s',CX [] H s₁ (λ_ _ _=>False) e s'->False):
  br (ai P w) eM (.call (.ref fa) ⟨[.ref a],[]⟩) (λr s'=>r = .ok (.ret (.bool true))/\AA s₁.heap s'.heap/\s'.os=s₁.os/\cF s'.gens) s₁:=by
 have rv:=Xbn hi;have xI:=hi.length;have sY:∀H:Hp,H T=some (.tbl #[])->(∀b,b≠T->H b=none \/ ∃o xs,H b=some (.frz o (.lst xs)))->SqL K H a (ns.map V.int)->HOk P w H s₁.heap->(∀b,H b≠none->b=a\/b=T)->(H a≠none->K.lookup a=none) ->
   br (ai P w) eM (.call (.ref fa) ⟨[.ref a],[]⟩) (λr s'=>r = .ok (.ret (.bool true))/\AA s₁.heap s'.heap/\s'.os=s₁.os/\cF s'.gens) s₁:=by
  intro H zO hO hS hok hA hK;have fH:∀{b:ae} {o:aU},s₁.heap.get? b=some o->H b=none->(Ds s₁.heap H).get? b=some o:=λe n=>Xgv e n;have qa:∀{b:ae} {o:aU} {es:Array mP} {ep:Nat},s₁.heap.get? b=some o->o.data = .dict es ep->H b=none:=λ{b o es ep} e d=>by
   cases q:H b with
   | none=>rfl
   | some u=>
    rcases hA b (by rw[q];simp) with e' | e'
    ·subst e';rw[ha] at e;cases e;have d':uB.seq vs.toArray _=uB.dict es ep:=d;cases d'
    ·subst e';rw[hT] at e;cases e;cases d
  have u4:∀{b:ae} {m:aq->Option aa},s₁.heap.Ns b m->(Ds s₁.heap H).Ns b m:=λ{b m} ⟨o,es,ep,e,d,r⟩=>⟨o,es,ep,fH e (qa e d),d,r⟩;have zP:K.In (Ds s₁.heap H):=λb o e=>fH (KX b o e) (by
   cases q:H b with
   | none=>rfl
   | some u=>
    rcases hA b (by rw[q];simp) with e' | e'
    ·subst e';rw[hK (by rw[q];simp)] at e;cases e
    ·subst e';rw[hTK] at e;cases e)
  have xJ:BmOk mg (Ds s₁.heap H):=by
   obtain⟨bm,ob,b1,b2,b3,b4,b5,b6⟩:=nP;refine⟨bm,ob,b1,b2,fH b3 ?_,b4,b5,b6⟩;cases q:H bm with
   | none=>rfl
   | some u=>
    rcases hA bm (by rw[q];simp) with e' | e'
    ·subst e';rw[ha] at b3;cases b3;exact absurd (show aa.type "list" = aa.type "module" from b4) (by decide)
    ·subst e';rw[hT] at b3;cases b3;cases b4
  have hM:Mod K mg (Ds s₁.heap H):=⟨zP,u4 oJ,⟨mb,u4 hb,wH⟩,let ⟨mc,h1,h2⟩:=xG; ⟨mc,u4 h1,h2⟩⟩;have e0:Env0 P w K mg (Ds s₁.heap H) eM [] s₁ H:=⟨rfl,hM,λb o e=>Xgw e,Nat.le_of_eq (Xgu _ _),trivial,λb hb=>absurd (show b∈([]:List ae) from hb) (by simp),hok,.of_eq hg⟩;refine bh ((F _ zP (u4 oJ) xJ).run eM [] s₁ H ⟨[.ref a],[]⟩ [.ref a] [.ref a] _ _ hr e0 (sX s₁ (.ref a)) (.cons rfl .nil) (gO H zO hS)) λr s' h=>?_;cases r with
  | error e=>exact(xH H e s' h).elim
  | ok fl=>
   cases fl with
   | next=>exact False.elim h
   | brk=>exact False.elim h
   | cont=>exact False.elim h
   | ret u=>
    obtain⟨v,H',os,bare,un,sZ,r',q⟩:=h;have q':v = .bl true:=q;subst q';obtain rfl:u=aa.bool true:=r';refine⟨rfl,AA.of_tab (T:=T) (by have C:=LO KX hhd;exact(C.tab hT).isCodeTable) hT ?_ λb o nb e=>?_,os,bare⟩
    ·obtain⟨bS,hm⟩:=un.tbls T #[] zO;exact⟨#[]++bS,sZ T _ hm⟩
    cases q:H b with
    | none=>exact un.keep b o e q (by intro z;exact absurd (show b∈([]:List ae) from z) (by simp)) (by simp)
    | some u=>
     rcases hO b nb with z | ⟨ob,xs,z⟩
     ·rw[q] at z;cases z
     ·have z2:=un.frzs b ob _ z;obtain⟨e1,_⟩:=hok b _ z;obtain⟨e2,_⟩:=sZ b _ z2;rw[e] at e1;cases e1;exact e2
 cases hk:K.lookup a with
 | some o=>
  have e:=KX a o hk;rw[ha] at e;cases e;have xK:a≠T:=λz=>by rw[z,hTK] at hk;cases hk
  refine sY (λb=>if b=T then some (.tbl #[]) else none) (T7 rfl) (λb n=>.inl (T6 n)) (.inr ⟨_,vs.toArray,_,hk,rfl,rfl,rfl,by rw[O0,xI];exact hl,by simpa using rv⟩) (λb u z=>?_) (λb z=>.inr (Classical.byContradiction λn=>z (T6 n))) λz=>absurd (T6 xK) z;by_cases hb:b=T
  ·have z':=(T7 hb).symm.trans z;cases z';rw[hb];exact hT
  ·have z':=(T6 hb).symm.trans z;cases z'
 | none=>
  have xK:T≠a:=λz=>by rw[z,ha] at hT;cases hT
  refine sY (λb=>if b=T then some (.tbl #[]) else if b=a then some (.frz {cls:=.type "list",data:=.seq vs.toArray} (.lst (ns.map V.int))) else none) (T7 rfl) (λb n=>?_) (.inl (.inr ⟨{cls:=.type "list",data:=.seq vs.toArray},(T6 xK.symm).trans (T7 rfl)⟩)) (λb u z=>?_) (λb z=>?_) λ_=>hk
  ·by_cases hb:b=a
   ·exact .inr ⟨_,_,(T6 n).trans (T7 hb)⟩
   ·exact .inl ((T6 n).trans (T6 hb))
  ·by_cases hb:b=T
   ·have z':=(T7 hb).symm.trans z;cases z';rw[hb];exact hT
   ·have z1:=(T6 hb).symm.trans z;by_cases hb:b=a
    ·have z':=(T7 hb).symm.trans z1;cases z';subst hb;exact⟨ha,by rw[Ow];exact hl,vs,_,rv,ha⟩
    ·have z':=(T6 hb).symm.trans z1;cases z'
  ·by_cases hb:b=T
   ·exact .inr hb
   ·by_cases hc:b=a
    ·exact .inl hc
    ·exact absurd ((T6 hb).trans (T6 hc)) z
def Xqw{l:M'}{n k:Nat}      {K:HX->KQ}{CX:a8->CXT}{sp:a8->Sp}{x:aq}(hn:l.most=some n)(uh:n<=sizeLine)(qh:d.params.defaults=[])(hr:Room k eM)
  (hY:∀(w:a8) (h:ar),YP w h->(K w.params).In h) (xL:∀(w:a8) (h:ar),YP w h->h.get? T=some (LB #[])) (hTK:∀P,(K P).lookup T=none) (hhd:∀P,LA (K P) c0 T=true)
  (F:∀(w:a8) (mg:aq->Option aa) (fa:ae) (h:ar),(K w.params).In h->h.Ns au mg->mg d.name=some (.ref fa) ->
   ∃fd:bK,(∀(s:ak) (u:aa),eh s fd ⟨[u],[]⟩ [(x,u)]) /\
    ∀base:ar,(K w.params).In base->base.Ns au mg->BmOk mg base->FnOk l.prog w (K w.params) mg base (CX w) k fa fd [x] (sp w))
  (gO:∀(w:a8) (H:Hp) (a:ae) (ns:List Int),ns.length<=n->H T=some (.tbl #[])->SqL (K w.params) H a (ns.map V.int)->sp w [.ref a] H (λv _=>v = .bl true) λ_ _ _=>False)
  (xH:∀(w:a8) (H:Hp) (s:ak) (e:aa) (s':ak),CX w [] H s (λ_ _ _=>False) e s'->False):
  MC q loose XP YP l.row.toRowW d [] (λf vs=>PySem.call f vs):=by
 refine Att.attach_call hn qh λw s₀ s₁ mg mb fa o pm cd cZ a vs ns G Y ho hd gN hmg mV j4 aO hg=>?_;have KX:=hY w _ Y;obtain⟨fd,hb,hF⟩:=F w mg fa _ KX G.T.g hmg;exact Xqv (xL w _ Y) (hTK _) (hhd _) G.T.bmain KX G.T.g G.T.b G.T.builtins G.T.nolimit hg mV j4 (Pu aO uh) hr hF hb (λH hO hS=>gO w H a ns aO hO hS) λH e s'=>xH w H s₁ e s'
def Fn.ofT   {K:KQ}       {st:aV}   (X:K.In h) (G:h.Ns au mg) (D:DefT K x st T)
  (hb:∀(kV cZ pm:aa) (an:Option ae) (cdv ct:aa) (us:List aa),us.length=ps.length->el (LD x x (Ec st) (Cv st) (defScope st) .none kV cZ pm an cdv ct) ⟨us,[]⟩=pure (ps.zip us))
  (ok:∀f fd,FunT K x st f fd T->FnOk P w K mg base CX k f fd ps sp):Fn P w K mg base CX k x ps sp:=by
 obtain⟨f,fd,a,hk,F,F'⟩:=D.ex;exact⟨⟨f,fd,LC X G a,hk,F'.binds hb,ok f fd F⟩⟩
end L2
namespace HD
open PySem PySem.W PySem.Calls PyProof.Rows
abbrev O:=Option SharedT
noncomputable abbrev B (a b:O) (c:Bool):O := @Bool.rec (λ_=>O) a b c
noncomputable def go (F:SharedT->dR->Option (SharedT×dR)) (ok:dR->Bool) (n:Nat):SharedT->dR->O := @Nat.rec (λ_=>SharedT->dR->O) (λ_ _=>none) (λ_ ih s t=>B (B none (@Option.rec (SharedT×dR) (λ_=>O) none (λx=>@Prod.rec SharedT dR (λ_=>O) ih x) (F s t)) (ok t)) (some s) (through t)) n
def Xqx{tb p w m a z}:∀n s t,go (stepT (denote tb) p w) (stepOk m a) n s t=some z->topRun tb p w m a n s.abs t=some z.abs:=by
 intro n
 induction n with
 | zero=>intro s t h;cases h
 | succ n ih=>
  intro s t h;unfold topRun;have h':B (B none (@Option.rec (SharedT×dR) (λ_=>O) none (λx=>@Prod.rec SharedT dR (λ_=>O) (go (stepT (denote tb) p w) (stepOk m a) n) x) (stepT (denote tb) p w s t)) (stepOk m a t)) (some s) (through t)=some z:=h;cases ht:through t with
  | true=>rw[ht] at h';cases h';rfl
  | false=>
   cases hk:stepOk m a t with
   | false=>rw[ht,hk] at h';cases h'
   | true=>
    cases hs:stepT (denote tb) p w s t with
    | none=>rw[ht,hk,hs] at h';cases h'
    | some x=>
     rw[ht,hk,hs] at h';rw[stepT_spec hs];exact ih _ _ h'
noncomputable def tree (P:HX):BT:=((boot_heap P).objs.toList.foldl (λ(x:BT×Nat) o=>(x.1.ins x.2 o,x.2+1)) (.nil,0)).1
def Xqy(P):absHeap (tree P) 11 {}=boot_heap P:=by kernel_rfl
def Xqz(P):((boot_heap P).isNs au,(boot_heap P).objs.size,(boot_heap P).nsMap au "__annotations__")=(true,11,some (.ref 6)):=by kernel_rfl
abbrev ck (p:av) (g h:ar) (z:ak):=staticsOk (pR p.main.body) g h&&namesBound p h&&gensDone z&&laidKept g h
def left{p q loose Xt α}{Yf:ak->α}{Ya N g}(e:opening p=plainProg p.main.scope.names)(hN:Nat.ble 600 N=true)(f:∀s,fenceModules? p s=some s)
 (h:∀w:a8,(λos=>(go (Fast.tw10156331382660048174 (Fast.tw11892475500146522536 Fast.tw14364793385576792824) p w) (Fast.tw6613529449190102663 11 (some (.ref 6))) N ⟨tree w.params,11,{},#[],boot_drawn,boot_toks,os⟩ (topStub p)).map λz=>(ck p (boot_heap w.params) z.abs.heap z.abs,Fast.tw4187177175401517315 q loose (pR p.main.body) Xt g z.abs,Yf z.abs))=λ_=>some (true,openGood q loose,Ya w)):LeftO p q loose Xt Yf Ya N g:=λw=>by
 rw[<-Fast.te10156331382660048174,<-Fast.te11892475500146522536,<-Fast.te14364793385576792824,<-Fast.te6613529449190102663,<-Fast.te4187177175401517315] at h;obtain⟨⟨hp,gs,d,k,os⟩,e1,e2⟩:=Sr.mp (boot_open e hN f w);obtain⟨rfl,rfl,rfl,rfl⟩:hp=boot_heap w.params/\gs=#[]/\d=boot_drawn/\k=boot_toks:=by simpa using e2
 obtain⟨z1,z2,z3⟩:_/\_/\_:=by simpa only[Prod.mk.injEq] using Xqz w.params
 obtain⟨z,hz,l⟩:=Sr.mp (congrFun (h w) os);obtain⟨l1,l2,l3⟩:_/\_/\_:=by simpa only[Prod.mk.injEq] using l
 have r:=Xqx _ _ _ hz;rw[show (SharedT.mk (tree w.params) 11 {} #[] boot_drawn boot_toks os).abs=⟨boot_heap w.params,#[],boot_drawn,boot_toks,os⟩ by show ak.mk (absHeap (tree w.params) 11 {}) _ _ _ _=_;rw[Xqy]] at r;unfold openEnds;rw[e1];show (topFrom KP p w N _).map _=_;rw[show topFrom KP p w N ⟨boot_heap w.params,#[],boot_drawn,boot_toks,os⟩=some z.abs by
  unfold topFrom;dsimp only;rw[z1,z2,z3,r];show (match ck p (boot_heap w.params) z.abs.heap z.abs with | true=>_ | false=>_)=_;rw[l1]]
 exact congrArg some (Tx l2 l3)
def isDef:aV->Bool
 | .Assign _ (.Constant (.str _) _ _) _=>false
 | _=>true
end HD
namespace L2
open PySem
def len1{us:List aa}(h:us.length=1):∃a,us=[a]:=List.length_eq_one_iff.mp h
def len2{us:List aa}(h:us.length=2):∃a b,us=[a,b]:=by
 cases us with
 | nil=>cases h
 | cons a r=>
  obtain⟨b,rfl⟩:=len1 (Nat.succ.inj h);exact⟨a,b,rfl⟩
def len3{us:List aa}(h:us.length=3):∃a b c,us=[a,b,c]:=by
 cases us with
 | nil=>cases h
 | cons a r=>
  obtain⟨b,c,rfl⟩:=len2 (Nat.succ.inj h);exact⟨a,b,c,rfl⟩
def len4{us:List aa}(h:us.length=4):∃a b c d,us=[a,b,c,d]:=by
 cases us with
 | nil=>cases h
 | cons a r=>
  obtain⟨b,c,d,rfl⟩:=len3 (Nat.succ.inj h);exact⟨a,b,c,d,rfl⟩
end L2
local macro_rules | `(tactic| walk_at "1") => `(tactic| (intro _ _ _ _ _ _ us hl;obtain⟨a,e⟩:=L2.len1 hl;subst e;rfl))
local macro_rules | `(tactic| walk_at "2") => `(tactic| (intro _ _ _ _ _ _ us hl;obtain⟨a,b,e⟩:=L2.len2 hl;subst e;rfl))
local macro_rules | `(tactic| walk_at "3") => `(tactic| (intro _ _ _ _ _ _ us hl;obtain⟨a,b,c,e⟩:=L2.len3 hl;subst e;rfl))
local macro_rules | `(tactic| walk_at "4") => `(tactic| (intro _ _ _ _ _ _ us hl;obtain⟨a,b,c,d,e⟩:=L2.len4 hl;subst e;rfl))
namespace K10
open L2 SH
def Xq0{P:av}{w:a8}{K:KQ}{h:ar}{mg:aq->Option aa}{fa jh bT ci bC T_:ae}(X:K.In h)(G:h.Ns au mg)(HY:mg "law" = some (.ref fa))
  (gA:DefAt K "ask_ditch" sAsk)
  (ji:DefAt K "ditches" sDitches)
  (oE:DefAt K "ends" sEnds)
  (lQ:DefAt K "spans" sSpans)
  (jU:DefAt K "lie_of" sLieOf)
  (gB:DefAt K "crossings" sCross)
  (jV:DefAt K "turned" s_turned)
  (i6:DefAt K "mirrored" s_mirrored)
  (oF:DefAt K "told" sTold)
  (d_in_order:DefT K "in_order" s_in_order T_)
  (jW:DefAt K "allows" sAllows)
  (jj:DefAt K "is_plot" sIsPlot)
  (i7:DefAt K "ask_plot" s_ask_plot)
  (lR:DefAt K "plots" s_plots)
  (jX:DefAt K "at_gap" s_at_gap)
  (jY:DefAt K "retold" s_retold)
  (fI:DefAt K "_law_begin" sBegin)
  (gC:DefAt K "_law_pick" sPick)
  (i8:DefAt K "_law_put" sPut)
  (fJ:DefAt K "_law_where" sWhere)
  (gD:DefAt K "_law_word" sWord)
  (fj:DefAt K "_law_barred" sBarred)
  (i9:DefAt K "_law_row" sRow)
  (fK:DefAt K "_law_names" sNames)
  (fm:DefAt K "_law_island" sIsland)
  (gE:DefAt K "_law_bars" s__law_bars)
  (gF:DefAt K "_law_fits" s__law_fits)
  (fM:DefAt K "_law_plots" s__law_plots)
  (dS:DefAt K "_law_stranger" s__law_stranger)
  (gG:DefAt K "_law_flip" s__law_flip)
  (dU:DefAt K "_law_odd_plot" s__law_odd_plot)
  (dE:DefAt K "_law_good_plot" s__law_good_plot)
  (gH:DefAt K "_law_seen" s__law_seen)
  (fO:DefAt K "_law_apart" s__law_apart)
  (fP:DefAt K "_law_tuple" s__law_tuple)
  (dF:DefAt K "_law_all_texts" s__law_all_texts)
  (gI:DefAt K "_law_said" s__law_said)
  (gJ:DefAt K "_law_rank" s__law_rank)
  (tf:DefAt K "law" s_law)
  (x_NoDitch:ExcAt K "NoDitch" jh)
  (x_NoPlace:ExcAt K "NoPlace" bT)
  (x_NoPlot:ExcAt K "NoPlot" ci)
  (x_ShoreError:ClsAt K "ShoreError" bC)
  (q_NoPlace_ShoreError:KY K (.ref bT) (.ref bC)=some true) (n_NoPlace_ShoreError:bT≠bC)
  (q_NoPlot_ShoreError:KY K (.ref ci) (.ref bC)=some true) (n_NoPlot_ShoreError:ci≠bC)
  (q_NoPlace_NoPlot:KY K (.ref bT) (.ref ci)=some false) (n_NoPlace_NoPlot:bT≠ci)
  (q_NoPlot_NoPlace:KY K (.ref ci) (.ref bT)=some false) (n_NoPlot_NoPlace:ci≠bT)
  (sS:KY K (.ref bC) (.type "BaseException")=some true)
  (z_len:KS K au "len" = some none)
  (z_range:KS K au "range" = some none)
  (z_list:KS K au "list" = some none)
  (z_min:KS K au "min" = some none)
  (z_isinstance:KS K au "isinstance" = some none)
  (z_all:KS K au "all" = some none)
  (z_str:KS K au "str" = some none)
  (z_ValueError:KS K au "ValueError" = some none)
  (z_sorted:KS K au "sorted" = some none)
  (z_set:KS K au "set" = some none)
  (z_enumerate:KS K au "enumerate" = some none)
  (z_int:KS K au "int" = some none)
  (z_bool:KS K au "bool" = some none)
  (z_tuple:KS K au "tuple" = some none)
  (z_any:KS K au "any" = some none)
  (z_dict:KS K au "dict" = some none)
  (z_sum:KS K au "sum" = some none)
  (z_max:KS K au "max" = some none)
  : ∃fd:bK,(∀(s:ak) (v:aa),eh s fd ⟨[v],[]⟩ [("_law_script",v)])/\∀base:ar,K.In base->base.Ns au mg->BmOk mg base->FnOk P w K mg base CX0 8 fa fd ["_law_script"] (K9 K T_):=by
 have T:Bl mg:=⟨KR X G z_len,KR X G z_range,KR X G z_list,KR X G z_min,KR X G z_isinstance,KR X G z_all,KR X G z_str,KR X G z_ValueError,KR X G z_sorted,KR X G z_set,KR X G z_enumerate,KR X G z_int,KR X G z_bool,KR X G z_tuple,KR X G z_any,KR X G z_dict,KR X G z_sum,KR X G z_max⟩;obtain⟨f,fd,a,hk,F⟩:=tf.ex;have e:=HY.symm.trans (LC X G a);cases e;refine⟨fd,?_,λbase hB hG nP=>?_⟩
 ·obtain⟨oc,od,kV,cZ,pm,an,cdv,ct,iE,rfl,lk,gN⟩:=F.ex;exact λs v=>.of_eq rfl
 ·have FB:Fn P w K mg base _ _ _ _ _:=Fn.of X G fI (by walk_at "1") λf fd F=>Xpw F T;have FP:FnPick P w K mg base:=Fn.of X G gC (by walk_at "2") λf fd F=>Xpx F T;have FU:Fn P w K mg base _ _ _ _ _:=Fn.of X G i8 (by walk_at "4") λf fd F=>Xpy F;have FW:Fn P w K mg base _ _ _ _ _:=Fn.of X G fJ (by walk_at "1") λf fd F=>Xpz F T;have FO:Fn P w K mg base _ _ _ _ _:=Fn.of X G gD (by walk_at "3") λf fd F=>Xp0 F T;have FA:Fn P w K mg base _ _ _ _ _:=Fn.of X G fj (by walk_at "2") λf fd F=>Xp1 F T FW FO;have FR:Fn P w K mg base _ _ _ _ _:=Fn.of X G i9 (by walk_at "2") λf fd F=>Xp2 F T FP FU FA;have FN:Fn P w K mg base _ _ _ _ _:=Fn.of X G fK (by walk_at "2") λf fd F=>Xp3 F T FP;have FI:Fn P w K mg base _ _ _ _ _:=Fn.of X G fm (by walk_at "2") λf fd F=>Xp4 F T FP FN FR;have FK:Fn P w K mg base _ _ _ _ _:=Fn.of X G gA (by walk_at "2") λf fd F=>Xo7 F (LC X G x_NoDitch.a) x_NoDitch.e;have FD:Fn P w K mg base _ _ _ _ _:=Fn.of X G ji (by walk_at "1") λf fd F=>Xo9 F T;have FE:Fn P w K mg base _ _ _ _ _:=Fn.of X G oE (by walk_at "2") λf fd F=>Xpa F T FK;have xM:Fn P w K mg base _ _ _ _ _:=Fn.of X G lQ (by walk_at "1") λf fd F=>Xpc F FD FE;have xN:Fn P w K mg base _ _ _ _ _:=Fn.of X G jU (by walk_at "2") λf fd F=>Xpd F;have HZ:Fn P w K mg base _ _ _ _ _:=Fn.of X G gB (by walk_at "1") λf fd F=>Xpe F xM xN;have zQ:Fn P w K mg base _ _ _ _ _:=Fn.of X G oF (by walk_at "1") λf fd F=>Xpk F T;have Is:Fn P w K mg base _ _ _ _ _:=Fn.of X G jW (by walk_at "2") λf fd F=>Xpo F;have IA:Fn P w K mg base _ _ _ _ _:=Fn.of X G jj (by walk_at "2") λf fd F=>Xpp F T xM xN zQ Is;have IB:Fn P w K mg base _ _ _ _ _:=Fn.ofT X G d_in_order (by walk_at "1") λf fd F=>Xpm F T nP;have ut:Fn P w K mg base _ _ _ _ _:=Fn.of X G lR (by walk_at "1") λf fd F=>Xps F xM xN zQ HZ IB;have FS:Fn P w K mg base _ _ _ _ _:=Fn.of X G dS (by walk_at "1") λf fd F=>Xp9 F;have FT:Fn P w K mg base _ _ _ _ _:=Fn.of X G fP (by walk_at "1") λf fd F=>Xqi F T;have xq:Fn P w K mg base _ _ _ _ _:=Fn.of X G gH (by walk_at "2") λf fd F=>Xqf F T;have IC:Fn P w K mg base _ _ _ _ _:=Fn.of X G gG (by walk_at "2") λf fd F=>Xqb F T;have ID:Fn P w K mg base _ _ _ _ _:=Fn.of X G dU (by walk_at "3") λf fd F=>Xqc F T FP FS IC;have uf:Fn P w K mg base _ _ _ _ _:=Fn.of X G gF (by walk_at "2") λf fd F=>Xp6 F;have ug:Fn P w K mg base _ _ _ _ _:=Fn.of X G gE (by walk_at "1") λf fd F=>Xp5 F T FW FO;have IE:Fn P w K mg base _ _ _ _ _:=Fn.of X G dE (by walk_at "2") λf fd F=>Xqe F T uf ug;have xp:Fn P w K mg base _ _ _ _ _:=Fn.of X G fM (by walk_at "1") λf fd F=>Xp7 F T uf ug;have xt:Fn P w K mg base _ _ _ _ _:=Fn.of X G dF (by walk_at "1") λf fd F=>Xqk F T FT;have xr:Fn P w K mg base _ _ _ _ _:=Fn.of X G i7 (by walk_at "2") λf fd F=>Xpr F (LC X G x_NoPlot.a) x_NoPlot.e IA;have zR:Fn P w K mg base _ _ _ _ _:=Fn.of X G jX (by walk_at "2") λf fd F=>Xpt F T (LC X G x_NoPlace.a) x_NoPlace.e FD;have zT:Fn P w K mg base _ _ _ _ _:=Fn.of X G jY (by walk_at "3") λf fd F=>Xpu F T xr zR;have IF:Fn P w K mg base _ _ _ _ _:=Fn.of X G fO (by walk_at "2") λf fd F=>Xqg F T;have xu:Fn P w K mg base _ _ _ _ _:=Fn.of X G jV (by walk_at "2") λf fd F=>Xpg F T;have xv:Fn P w K mg base _ _ _ _ _:=Fn.of X G i6 (by walk_at "1") λf fd F=>Xpi F;have IG:Fn P w K mg base _ _ _ _ _:=Fn.of X G gJ (by walk_at "1") λf fd F=>Xqn F T;have uv:Fn P w K mg base CX0 7 "_law_said" ["_law_row_here", "_law_plot", "_law_by"] spSaid10:=Fn.of X G gI (by walk_at "3") λf fd F=>by
   obtain⟨fa,zy,xl,xm,xn,IH⟩:=zT.ex;exact Xql F T (LC X G x_ShoreError.a) (LC X G x_NoPlace.a) (LC X G x_NoPlot.a) xl xm xn IH x_NoPlace.f x_NoPlot.f (Xdf x_NoPlace.sb sS x_ShoreError.ic x_ShoreError.ty q_NoPlace_ShoreError) (Xdf x_NoPlot.sb sS x_ShoreError.ic x_ShoreError.ty q_NoPlot_ShoreError) (Xcs n_NoPlace_NoPlot x_NoPlot.ic x_NoPlot.ty q_NoPlace_NoPlot) (Xcs n_NoPlot_NoPlace x_NoPlace.ic x_NoPlace.ty q_NoPlot_NoPlace)
  obtain⟨fk,z5,qt,z4,xw,II⟩:=IG.ex;exact Xqu F T FB FP FI xp ut ID IE uv xq IF zT zR xt xu xv qt z4 xw II
def walk{l:M'}{q:av}{loose:Za}{XP:(aq->Option aa)->ar->Prop}{YP:a8->ar->Prop}{d:DefRec}{K:HX->KQ}{T c0:ae}(hn:l.most=some 63)(qh:d.params.defaults=[])
  (hY:∀(w:a8) (h:ar),YP w h->(K w.params).In h) (xL:∀(w:a8) (h:ar),YP w h->h.get? T=some (LB #[])) (hTK:∀P,(K P).lookup T=none) (hhd:∀P,LA (K P) c0 T=true)
  (F:∀(w:a8) (mg:aq->Option aa) (fa:ae) (h:ar),(K w.params).In h->h.Ns au mg->mg d.name=some (.ref fa) ->
   ∃fd:bK,(∀(s:ak) (u:aa),eh s fd ⟨[u],[]⟩ [("_law_script",u)])/\∀base:ar,(K w.params).In base->base.Ns au mg->BmOk mg base->FnOk l.prog w (K w.params) mg base CX0 8 fa fd ["_law_script"] (K9 (K w.params) T)):
  MC q loose XP YP l.row.toRowW d [] (λf vs=>PySem.call f vs):=
 L2.Xqw (n:=63) (k:=8) (x := "_law_script") (CX:=λ_=>CX0) (sp:=λw=>K9 (K w.params) T) hn (by decide) qh ⟨rfl,by decide,by decide,rfl⟩ hY xL hTK hhd F (λ_ _ a ns hl hT hS=>⟨a,ns,rfl,hS,hl,hT,λ_=>rfl⟩) λ_ _ _ _ _ z=>z
end K10
open PySem PySem.W PyProof.Rows
local macro_rules | `(tactic| walk_at "D") => `(tactic| (refine' L2.DefAt.of ?a ?l ?c ?k;(case a=>k_is);(case l=>k_is);(case c=>k_is);(case k=>k_is)))
local macro_rules | `(tactic| walk_at "X") => `(tactic| (refine' ⟨?a,?e,?ga,?gn,?cl,?sb,?so,?sv,?ss,?ic,?ty⟩;(case a=>k_is);(case e=>k_exc);(case ga=>k_is);(case gn=>k_is);(case cl=>k_is);(case sb=>k_is);(case so=>k_is);(case sv=>k_is);(case ss=>k_is);(case ic=>k_is);(case ty=>k_is)))
def HD.q:Program:={PySem.Challenge.pw_shoretold_k10_whole_told_from_another_st with main:={PySem.Challenge.pw_shoretold_k10_whole_told_from_another_st.main with body:=PySem.Challenge.pw_shoretold_k10_whole_told_from_another_st.main.body.filter HD.isDef}}
theorem HD.said:PySem.Challenge.rw_shoretold_k10_whole_told_from_another_st.wellSaid=true:=by
 rw[Fast.te9446332074065402090]
 kernel_rfl
local macro_rules | `(tactic| o_head $H) => `(tactic| refine PySem.W.holds_open (q:=HD.q) (loose:=[]) (Xt:=λs=>xlAt HD.q [] s&&recOk [] s) (XP:=XL HD.q []) (N:=1000000) ?hl (Hook.of $H) (Hook.keeps $H) (λs e=>xl_of s (Bool.and_eq_true_iff.mp e).1) XL.keeps (by rfl) (by rfl) (by rfl) (λs e=>recFacts_of (Bool.and_eq_true_iff.mp e).2) (by rfl) (by assumption) (by decide +kernel) ⟨rfl,rfl,rfl,rfl,rfl,by decide +kernel⟩ ?hw ?hc)
set_option maxRecDepth 100000 in
set_option maxHeartbeats 0 in
theorem PySem.Challenge.cw_shoretold_k10_whole_told_from_another_st_holds : PySem.Challenge.rw_shoretold_k10_whole_told_from_another_st.Holds := by
 w_on
 refine holds_law HD.said λsaid=>?_
 k_head
 case hw=>w_witness2
 case hl=>exact HD.left (by kernel_rfl) (by kernel_rfl) (λs=>by kernel_rfl) (λw=>by kernel_rfl)
 k_fill
 refine K10.walk (l:=PySem.Challenge.rw_shoretold_k10_whole_told_from_another_st) (T:=122) (c0:=126) rfl rfl (λw h Y=>PySem.W.km_in_of Y) (λw h Y=>PySem.W.km_tabs_of Y _ (Oz.mpr rfl)) ?hTK ?hhd ?F
 case hTK=>intro P;kernel_rfl
 case hhd=>intro P;kernel_rfl
 case F=>
  intro w mg fa h KX G hmg;refine' K10.Xq0 KX G hmg ?_ ?_ ?_ ?_ ?_ ?_ ?_ ?_ ?_ ?d_in_order ?_ ?_ ?_ ?_ ?_ ?_ ?_ ?_ ?_ ?_ ?_ ?_ ?_ ?_ ?_ ?_ ?_ ?_ ?_ ?_ ?_ ?_ ?_ ?_ ?_ ?_ ?_ ?_ ?_ ?x_NoDitch ?x_NoPlace ?x_NoPlot ?x_ShoreError ?q_NoPlace_ShoreError ?n_NoPlace_ShoreError ?q_NoPlot_ShoreError ?n_NoPlot_ShoreError ?q_NoPlace_NoPlot ?n_NoPlace_NoPlot ?q_NoPlot_NoPlace ?n_NoPlot_NoPlace ?sS ?z_len ?z_range ?z_list ?z_min ?z_isinstance ?z_all ?z_str ?z_ValueError ?z_sorted ?z_set ?z_enumerate ?z_int ?z_bool ?z_tuple ?z_any ?z_dict ?z_sum ?z_max
  any_goals walk_at "D"
  (case d_in_order=>(refine' L2.DefT.of ?a ?l ?c ?k ?t;(case a=>k_is);(case l=>k_is);(case c=>k_is);(case k=>k_is);(case t=>kernel_rfl)))
  (case x_NoDitch=>walk_at "X")
  (case x_NoPlace=>walk_at "X")
  (case x_NoPlot=>walk_at "X")
  (case x_ShoreError=>(refine' ⟨?a,?ic,?ty⟩;(case a=>k_is);(case ic=>k_is);(case ty=>k_is)))
  (case q_NoPlace_ShoreError=>k_is);(case n_NoPlace_ShoreError=>decide)
  (case q_NoPlot_ShoreError=>k_is);(case n_NoPlot_ShoreError=>decide)
  (case q_NoPlace_NoPlot=>k_is);(case n_NoPlace_NoPlot=>decide)
  (case q_NoPlot_NoPlace=>k_is);(case n_NoPlot_NoPlace=>decide)
  (case sS=>k_is)
  (case z_len=>k_is);(case z_range=>k_is);(case z_list=>k_is);(case z_min=>k_is);(case z_isinstance=>k_is);(case z_all=>k_is);(case z_str=>k_is);(case z_ValueError=>k_is);(case z_sorted=>k_is);(case z_set=>k_is);(case z_enumerate=>k_is);(case z_int=>k_is);(case z_bool=>k_is);(case z_tuple=>k_is);(case z_any=>k_is);(case z_dict=>k_is);(case z_sum=>k_is);(case z_max=>k_is)
#print axioms PySem.Challenge.cw_shoretold_k10_whole_told_from_another_st_holds
