import PyProof.Rows.All
import Wide.All
import OpenK.AllK
import Wide.FinOn
import PySem.Challenge.RW_shoretold_k17_whole_a_shortest_walk
set_option bootstrap.genMatcherCode false
noncomputable section
set_option Elab.async false
set_option linter.all false
set_option maxRecDepth 100000
abbrev Tj := @if_neg
abbrev Tk := @if_pos
abbrev Tl := @decide_eq_true
abbrev Tn := @decide_eq_false
abbrev Tp := @of_decide_eq_true
abbrev Tq := @of_decide_eq_false
local macro_rules | `(tactic| walk_at "s") => `(tactic| exact ⟨rfl,rfl,rfl,by decide +kernel,rfl,by decide +kernel,by decide +kernel⟩)
local macro_rules | `(tactic| walk_at "l") => `(tactic| (intro vs H Q E h;(repeat (obtain ⟨_,h⟩ := h));subst_vars;rfl))
local macro_rules | `(tactic| walk_at "i") => do let v:=#["cdv","A","outer","s","H","vs","Q","E","hr","h"].map fun x=>Lean.mkIdent (.mkSimple x);`(tactic| intro $[$v]*)
open PySem in
abbrev Za:=List Str
open PySem in
abbrev Zb:=Value→Shared→Prop
open List renaming length_map→Od,getElem?_eq_getElem→Oe,length_append→Oh,size_toArray→Oi,mem_singleton→Oj,mem_cons_of_mem→Ol,mem_filter→Om,mem_cons_self→Op,mem_append→Oq,map_append→Ot,mem_cons→Ou,getElem?_map→Ov,getElem?_eq_some_iff→Oz,length_take→O0,filter_append→O1,length_cons→O2,take_succ_eq_append_getElem→O3,map_cons→O5,getD_eq_getElem?_getD→O6,append_assoc→O7,all_eq_true→O8,mem_append_right→O9,mem_map→Pa,take_append_drop→Pb,pairwise_append→Pc,filter_eq_self→Pd,map_map→Pg,getElem_mem→Ph,filter_cons→Pi,take_of_length_le→Pk,length_filter_le→Pl,append_nil→Pm,length_singleton→Pn,getElem?_append_right→Po,mem_of_mem_take→Pp,range_succ→Pq,length_eq_zero_iff→Pr,mem_range→Ps,getElem?_append_left→Pt,length_drop→Pw,lookup_cons→Px,map_congr_left→Py,mem_iff_getElem→P0,mem_of_mem_drop→P1,take_sublist→P2,take_length→P4,nodup_cons→P5,pairwise_iff_getElem→P9,mem_append_left→Qa,filterMap_cons→Qb,nodup_append→Qe,length_range→Qf,sum_cons→Qg,drop_eq_nil_of_le→Qi,drop_eq_getElem_cons→Ql,mem_singleton_self→Qm,mem_of_getElem?→Qn,getElem_map→Qo,replicate_succ→Qp,drop_sublist→Qq,length_nil→Qr,perm_append_comm→Qt,countP_cons→Qv,pairwise_map→Qw,dropWhile_cons→Q4,takeWhile_cons→Q5,filter_eq_nil_iff→Q6,length_eraseIdx_of_lt→Q7,ext_getElem→Q8,pairwise_cons→Q9,getElem?_toArray→Rb,drop_zero→Rc,nil_append→Rf,find?_cons→Rg,count_append→Rh,flatMap_cons→Ri,flatMap_append→Rj,any_eq_true→Rk,perm_middle→Rl,count_eq_zero→Rm,foldl_cons→Rq,getElem?_eq_none→Rr,filter_nil→Rt,count_cons_self→Rx,flatMap_nil→Ry,length_reverse→Rz,map_nil→R0,forIn_cons→R4,findIdx?_eq_some_iff_getElem→R5,getElem?_drop→R9,flatten_cons→Sb,getElem_take→Sc,forIn_nil→Sd,drop_take→Se,map_snd_zip→Sh,perm_cons_erase→Si,any_cons→Sj,of_mem_zip→Sk,length_zip→So,mem_filterMap→Sq,filterMap_map→Sr,count_pos_iff→Sv,map_inj_right→Sw,getElem?_take→Sx,reverse_cons→S0,filter_congr→S8,getElem_drop→S9,set_set→Tb
open Nat renaming le_refl→Og,ne_of_lt→Oo,lt_of_lt_of_le→O4,zero_le→Pf,le_trans→Pj,lt_succ_of_lt→Pu,lt_irrefl→Pz,zero_add→Qc,le_succ→Qh,not_lt_zero→Qk,lt_trans→Qs,min_eq_left→Qz,le_of_lt→Rp,lt_of_succ_lt→Rw,lt_of_le_of_lt→R1,ne_of_gt→Sf,sub_self→Sg,sub_zero→Su,mul_le_mul→Sy,mod_lt→S7,min_self→Td
open Array renaming length_toList→Os,forIn_toList→Ra,getElem?_toList→Rs
open Bool renaming false_ne_true→Ow,and_eq_true→Oy,false_eq_true→Pe,false_and→P6,true_and→P8,eq_iff_iff→Qj,or_eq_true→Q3,eq_false_iff→Rv,not_true→R6,and_self→R7,or_eq_true_iff→Sl,and_false→Sz,not_eq_true'→S6,or_false→Ta,or_true→Tc
open Option.some renaming inj→Ox
open Int renaming eq_ofNat_of_zero_le→P3,emod_lt_of_pos→Ro,toNat_natCast→Ru,emod_nonneg→R8
open List.Perm renaming append_left→P7,refl→Qd,of_eq→Sn
open Option renaming isSome_iff_exists→Qu,map_some→Qy,map_eq_some_iff→Sa,isSome_some→Ss,isSome_map→S5
open Sum.inr renaming inj→Qx
open Array.Perm renaming refl→Sm
open PySem renaming wpAny_bind→Te,wpAny_pure→Tf,sizeLine_eq→Ti
open PyProof.Rows renaming wpS_bind→Tg,wpS_pure→Th
open PySem.Heap renaming lt_size→Tr,get?_push_of_some→Tt
open PySem.Heap.SameBut renaming update→Tu
open PySem PySem.Spec PyProof.Rows
open PySem renaming Value→aa,Addr→ae,Shared→af,model→ag,SetTable→ah,wpAny→ai,Builtin→aj,Str→ak,Heap→am,Program→ao,mainGlobals→ap,PyData→ar,FuncData→au,Around→av,World→aw,wpAny_holding→az,starEach→aA,wpAny_setState_of→aB,wpAny_newObj_type→aD,Expr→aE,compareOp→aF,foldedSetIterable→aG,NameKind→aH,wpAny_mono→aI,Obj→aK,wpAny_truthy_bool→aL,Stmt→aM,wpAny_call_entry→aP,wpAny_askSetting→aQ,wpAny_rule→aR,PassesOwn→aT,scanBound→aU,rawInt→aW,fits_of_scanBound→aX,wpAny_standAt→bd,binaryOp→bh,codeAny_mono→bi,keywordEach→bj,wpAny_typeOf→bo,wpAny_storeSet_of→bp,cLine→bu,codeAny→bw,backTo→bx,wpAny_callSpecial?_slot→bz,sysModules→b9,bootBuiltins→bA,assignEach→bB,wpAny_Call_Name_kw→bC,Scope→bE,wpAny_passesOwn→bF,boot_len→bG,wpAny_setField→bH,Pos→bI,cellsFrom→bJ,wpAny_newList→bM,codeAny_builtin→bN,tupleKind_room_in1→bO,pushCells→bQ,putSet_of→bR,pickOrder→bS,getItem→bU,backToKw→bV,wpAny_setEpoch_of→bW,setsByText→ce,behindInMarks→cf,sliceBounds→cj,setField→cn,wpAny_execs_nil→cu,letOwnedTupleGo→cw,wpAny_ite_split→cy,wpAny_setEntries_of→cz,evalEach→c7,isSubtype_type→c8,compTurn→c9,wpAny_pyIter_list→cD,wpAny_field→cF,plainId_quiet→cH,wpAny_attempt→cI,tupleKind→cJ,bindArgs→cL,Arguments→cM,wpAny_isInstance→cN,builtinsNs→cP,standAt→cQ,Keyword→cR,setAddHashed→cT,pushCells_keeps→cY,Env→dt,IsPart→dw,relayAll→d0,wpAny_newTuple→d9,swapsWith→dE,clausesOf→dG,evalPart_none→dP,ExceptHandler→dQ,pyNext→dR,wpAny_call→dS,Thread→dY,BindsTo→eC,wpAny_sequenceKey→eF,slot_list_getitem→eG,valueAt→eJ,callerA→eK,wpAny_pyIter_slot→eM,wpAny_pyIter_dict→eO,ElemsOf→eP,reprText→eT,DictEntry→fj,noFill_tuple_add→fk,setDiscardHashed→fu,wpAny_of_eq→fD,Sem→fJ,codeAny_of_tree→fM,pyIter→gf,wpAny_newFunctionEnv_cells→gk,atKey→gp,closureFor→gq,newFunctionEnv→gr,strKind_is→gx,storeSet→gy,wpAny_runValue→gz,entryFor_alias→g7,raiseNew→g9,checkCount→gB,setState→gC,wpAny_FormattedValue_repr→gZ,seq_tuple_add→ig,evalPart_some→ij,wpAny_getItem_list_slice→im,attributeBase→io,strLen_append→iu,wpAny_comprehension_free→iz,setWalkUnseen→i7,bindL→iK,bindC→iL,drawOrder→iP,tupleText→iR,concat_meets→iX,sub_set_self→jb,setNext→jc,wpAny_isTrue_Compare1→jy,builtinLookup_eq_fast→j7,wpAny_loadName_local→jL,wpAny_Slice→jO,seqIndex_of→jQ,wpAny_alloc→jU,entryFor→jZ,wpAny_loadName_cell→lg,wpAny_Name→l9,wpAny_load→lA,wpAny_pyIter_tuple→lB,typeLookup→lE,typeIs_str→lF,typeIs_int→lH,call_meets→lI,newExc→lU,isInstance→lV,setRoomFor→mi,wpAny_assign_Name→mS,Walks→mU,setWalk→mY,wpAny_pyIter_enum→ny,numAt→nC,wpAny_eqBool_int→nZ,storeName→oh,wpAny_execs_cons→oi,inplaceOp→om,wpAny_setScan_of→oz,wpAny_specialOf→qg,typeLookup_type→qj,wpAny_updateSeq→qm,importedModules→qQ,wpAny_Compare1→qT,recursionLimit→qV,Result→qW,cellOf→rq,compEnvC→r0,GenState→rC,Drawn→rD,argsOk→rJ,slotArgs→rK,wpAny_seqItems→rL,firstArgMember→rM,preSum→sj,intItems→sK,intBits_le_64→ug,call_list_seq→ui,setItem→uY,Data→vb,call_meetsIn→vj,OsState→vn,setNextDrawn→vp,IsRangeIter→y1,Moved→yA,Model→yV,OldK→AY,layNew→BC,defaultsOf→DA,Params→IF,lastMarks→J',seqIndex?→JA,slicePick→JB,byScan_of→JF,isSubtype→JG,updateSeq→JH,noteFrame→JI,compStart→JJ,ClassData→JL,setsQuiet→JO,codeAmong→JU,treeTable→LC
open PyProof.Rows renaming seqObj→aq,Keyed→ax,StrsAre→aC,wpS_forRange→aJ,envOfC→aO,SortSt→aS,pendingOf→aY,wpS_mono→bc,arrOf→be,failedOf→bg,size_push'→bq,listUpdate_at→br,wpS_get→bK,wpS_modify→bP,SortKind→bX,reverseSlice'→ci,AllBare→c6,seqEpoch_at→cG,wpS_lift→cO,IntsAre→cS,listItems_at→cV,IsTup→cW,entry_list_sort→cZ,get?_update_seq→dc,slicePart_none→dy,slot_list_sort→dA,gallopOf→dC,entry_tuple_getitem→dH,wpS→dJ,args_tuple_getitem→dU,Subscript_→dW,plain_sorted→eR,entry_sorted→eS,boot_list→fw,kind_sorted→fF,wpS_reverse→fG,sortedS→fW,joinParts_cons→gt,tupleItemsOf_→ii,subscriptTail→ik,sortRuns'→iT,subscriptTail_builtinR→iY,collect_list→jh,setArr→jl,call_function_entry_kw→jp,tail_any→jP,bubble_perm→kr,ksk_rest→kF,oneType'→kG,getElem?_mirror_all→lu,wpAny_call_entry_kw→l5,keyLt'→mh,setPending→m7,strOf→mX,ltAt'→nE,ksk_end→nJ,sortedAll→oD,formatField_str→qp,getElem?_bubble→qt,boot_isinstance→qP,args_list_sort→rO,mergeAt'→sE,slicePart_int→uh,sortedAll_old→uu,args_sorted1→vA,sortedAll_at→vP,strsAre_map→y8,mirror_perm→yU,callWith_kw→zh,isTrue_and→AR,sortedHeap→BP,isTrue_or→IZ
open PySem.W renaming Frag→LD,mg_none_of→LF,exmOne→LG,findIn→LH,kitOne→LI,nsIn→LJ,kla_fn→LK,keepIn→LL,kia_one→LM,cellsFrom_some→LN,codeHdIn→LO,tabObj→LP,subIn→LQ,fnOf→LS,kla_makeFunctionHit→LU,codeIn→LV,codeHd_of_K→LW,kla_makeFunction→LX,excIn→LY,mg_of→LZ,isClsIn→M',methodObj→MA,typeIn→MB,kla_callFunE→MC,kla_codeExpr→MD,hideAll_get→ME,instObj→MF,hideAll→MG,of_hideAll→MH,callWith_K→MK,clsIn→ML,envX→MM,lookIn→MN,specialIn→MO,kitx_list→MP,kitx_dict→MQ,plainGet→MR,kla_eval→MS,kla_obj→MT,OpenLaw→MU,kitCls→MV,CodeHd→MW,Looks→MX,WalkO→MY,isFn→MZ
namespace L2
abbrev Key:=Sum Int ak
def D9:Key->aa->Bool
 | .inl k,v=>aa.isInt k v
 | .inr x,v=>aa.isStrOf x v
def keyH (w:aw):Key->Int
 | .inl k=>hashInt k
 | .inr x=>hashStr w x
theorem Du:∀{k:Key} {v:aa},D9 k v=true->(∃i t,k=Sum.inl i/\v=aa.int i t)\/(∃x t,k=Sum.inr x/\v=aa.str x t)
 | .inl i,v,h=>by
  obtain⟨t,e⟩:=aa.isInt_shape (k:=i) (v:=v) h;exact .inl ⟨i,t,rfl,e⟩
 | .inr x,v,h=>by
  obtain⟨t,e⟩:=aa.isStrOf_shape (x:=x) (v:=v) h;exact .inr ⟨x,t,rfl,e⟩
def Xgz(i)(t):D9 (.inl i) (.int i t)=true:=by simp[D9,aa.isInt]
def Xg0(x)(t):D9 (.inr x) (.str x t)=true:=by simp[D9,aa.isStrOf]
def Xg1(a b):decide ((Sum.inl a:Key)=Sum.inl b)=(a==b):=by
 by_cases e:a=b
 ·subst e;simp
 ·have h:¬(Sum.inl a:Key)=Sum.inl b:=λq=>e (Sum.inl.inj q);rw[Tn h];exact(beq_eq_false_iff_ne.mpr e).symm
def Xg2(a b):decide ((Sum.inr a:Key)=Sum.inr b)=decide (a=b):=by
 by_cases e:a=b
 ·subst e;simp
 ·have h:¬(Sum.inr a:Key)=Sum.inr b:=λq=>e (Qx q);rw[Tn h,Tn e]
def Xg3(a)(b):decide ((Sum.inl a:Key)=Sum.inr b)=false:=Tn (λq=>nomatch q)
def Xg4(a)(b):decide ((Sum.inr a:Key)=Sum.inl b)=false:=Tn (λq=>nomatch q)
def Be (prog:ao) (w:aw):PySem.KeyKind prog w Key where
 is:=D9
 hash:=keyH w
 inj:=λv a b ha hb=>by
  rcases Du ha with ⟨i,t,rfl,rfl⟩ | ⟨x,t,rfl,rfl⟩
  ·rcases Du hb with ⟨j,u,rfl,e⟩ | ⟨y,u,rfl,e⟩
   ·injection e with e1 _;rw[e1]
   ·exact nomatch e
  ·rcases Du hb with ⟨j,u,rfl,e⟩ | ⟨y,u,rfl,e⟩
   ·exact nomatch e
   ·injection e with e1 _;rw[e1]
 byValue:=λk v h=>by
  rcases Du h with ⟨i,t,rfl,rfl⟩ | ⟨x,t,rfl,rfl⟩<;>rfl
 pyHash:=λhv h=>by
  rcases Du hv with ⟨i,t,rfl,rfl⟩ | ⟨x,t,rfl,rfl⟩
  ·exact wpAny_pyHash_int h
  ·exact wpAny_pyHash_str h
 eqBool:=λhu hv h=>by
  rcases Du hu with ⟨i,t,rfl,rfl⟩ | ⟨x,t,rfl,rfl⟩
  ·rcases Du hv with ⟨j,u,rfl,rfl⟩ | ⟨y,u,rfl,rfl⟩
   ·rw[Xg1] at h;exact nZ h
   ·rw[Xg3] at h;exact SeqAt.EqAt.int_str i t y u _ _ _ _ h
  ·rcases Du hv with ⟨j,u,rfl,rfl⟩ | ⟨y,u,rfl,rfl⟩
   ·rw[Xg4] at h;exact SeqAt.EqAt.str_int x t j u _ _ _ _ h
   ·rw[Xg2] at h;exact wpAny_eqBool_str h
 «strs»:=λk x t v h=>by
  rcases Du h with ⟨i,u,rfl,e⟩ | ⟨y,u,rfl,e⟩
  ·exact nomatch e
  ·injection e with e1 _
   subst e1;cases v<;>rfl
def Xg5(prog)(w)(i)(t):(Be prog w).is (.inl i) (.int i t)=true:=Xgz i t
def Xg6(prog)(w)(x)(t):(Be prog w).is (.inr x) (.str x t)=true:=Xg0 x t
inductive V where
 | non | bl (b:Bool) | int (i:Int) | str (x:ak) | byt (b:Array UInt8) | flt (b:UInt64) | ref (a:ae) | ty (n:String)
 deriving DecidableEq
def Aj:V->aa->Prop
 | .non,u=>u=aa.none
 | .bl b,u=>u=aa.bool b
 | .int i,u=>∃t,u=aa.int i t
 | .str x,u=>∃t,u=aa.str x t
 | .byt b,u=>∃t,u=aa.bytes b t
 | .flt b,u=>∃t,u=aa.float b t
 | .ref a,u=>u=aa.ref a
 | .ty n,u=>u=aa.type n
abbrev Vals:List V->List aa->Prop:=Paired Aj
def Vals.length{xs}(r:Vals xs us):xs.length=us.length:=Paired.length r
theorem Vals.get:∀{xs:List V} {us:List aa} {i:Nat} {x:V},Vals xs us->xs[i]? = some x->∃u,us[i]? = some u/\Aj x u
 | _,_,_,_,.nil,e=>by simp at e
 | _,_,0,_,.cons r _,e=>by simp at e;subst e;exact⟨_,rfl,r⟩
 | _,_,i+1,x,.cons _ t,e=>by
  obtain⟨u,h1,h2⟩:=Vals.get (i:=i) (x:=x) t (by simpa using e);exact⟨u,by simpa using h1,h2⟩
theorem Vals.set  (r:Aj x u):∀{xs:List V} {us:List aa} (i:Nat),Vals xs us->Vals (xs.set i x) (us.set i u)
 | _,_,_,.nil=>.nil
 | _,_,0,.cons _ t=>.cons r t
 | _,_,i+1,.cons q t=>.cons q (Vals.set r i t)
theorem Vals.append:∀{xs ys:List V} {us ws:List aa},Vals xs us->Vals ys ws->Vals (xs++ys) (us++ws)
 | _,_,_,_,.nil,s=>s
 | _,_,_,_,.cons r t,s=>.cons r (Vals.append t s)
theorem Vals.take:∀{xs:List V} {us:List aa} (n:Nat),Vals xs us->Vals (xs.take n) (us.take n)
 | _,_,0,_=>.nil
 | _,_,_+1,.nil=>.nil
 | _,_,n+1,.cons r t=>.cons r (Vals.take n t)
theorem Vals.drop:∀{xs:List V} {us:List aa} (n:Nat),Vals xs us->Vals (xs.drop n) (us.drop n)
 | _,_,0,r=>r
 | _,_,_+1,.nil=>.nil
 | _,_,n+1,.cons _ t=>Vals.drop n t
def Cj:Option V->Option aa->Prop
 | some v,some u=>Aj v u
 | none,none=>True
 | _,_=>False
def KV {κ : Type}:List (κ × V)->List (κ × aa)->Prop:=Paired λ(p : κ × V) (q : κ × aa)=>p.1=q.1/\Aj p.2 q.2
def kV:Key->V
 | .inl i=>.int i
 | .inr x=>.str x
inductive HO where
 | lst (xs:List V)
 | tup (xs:List V)
 | dK (kvs:List (Key×V)) | dT (kvs:List (List Key×V))
 | set (S:Int->Bool) (n:Nat)
 | ins (C dx:ae) (fs:List (ak×V))
 | own (x:ae)
 | xd (fs:List (ak×V))
 | met (f x:ae)
 | rng (lo hi:Int)
 | frz (o:aK) (u:HO)
 | tbl (ps:Array aa)
 | ext (φ : am->Prop)
abbrev Hp:=ae->Option HO
def upd (H:Hp) (a:ae) (o:HO):Hp:=λb=>if b=a then some o else H b
def Ab{H}{a}{o}:upd H a o a=some o:=by unfold upd;rw[Tk rfl]
def Ae{H}{o}(h:b≠a):upd H a o b=H b:=by unfold upd;rw[Tj h]
def Xg7   : upd (upd H a o) a u=upd H a u:=by
 funext b;unfold upd;split<;>rfl
def La{H:Hp}  (h:H a=some o)(h':H b=some u)(d:o≠u):a≠b:=by
 intro e;subst e;rw[h] at h';exact d (Ox h')
def Av{H:Hp}{a b}{o}(h:H a=some o)(h':H b=none):a≠b:=by
 intro e;subst e;rw[h] at h';cases h'
section
variable (P:ao) (w:aw)
def A4 (H:Hp) (h:am) (a:ae):HO->Prop
 | .lst xs=>xs.length<=sizeLine/\∃(a7:List aa) (n:Nat),Vals xs a7/\h.get? a=some {cls:=.type "list",data:=.seq a7.toArray n}
 | .tup xs=>xs.length<=sizeLine/\∃a7:List aa,Vals xs a7/\cW h a a7.toArray
 | .dK kvs=>kvs.length<=sizeLine/\(a==b9)=false/\∃vs,KV kvs vs/\h.DictOf (Be P w) a vs
 | .dT kvs=>kvs.length<=sizeLine/\(a==b9)=false/\∃xs:List (List Key×ae×aa),
   Paired (λ(p:List Key×V) (q:List Key×ae×aa)=>p.1=q.1/\H q.2.1=some (.tup (p.1.map kV))/\Aj p.2 q.2.2) kvs xs /\
   ∃o es ep,h.get? a=some o/\o.ExactDict/\o.data = .dict es ep/\es.toList=xs.map (entryOfKey (cJ (Be P w)))/\(xs.map (·.1)).Nodup
 | .set S n=>h.SetOf (intKind P w) a S n
 | .ins C dx fs=>H dx=some (.own a)/\fs.length<=1000/\dx≠a/\h.get? a=some (MF C dx) /\
   ∃mA,h.Ns1 dx mA/\(∀f,Cj (fs.lookup f) (mA f))/\PySem.Within mA (fs.map (·.1))
 | .own _=>∃o,h.get? a=some o
 | .xd fs=>∃mA,h.Ns1 a mA/\∀f,Cj (fs.lookup f) (mA f)
 | .rng lo hi=>∃t u v,h.get? a=some {cls:=.type "range",data:=.fields #[.int lo t,.int hi u,.int 1 v]}
 | .frz o u=>h.get? a=some o/\A4 H h a u
 | .tbl ps=>h.get? a=some {cls:=.none,data:=.fields ps}
 | .met f x=>h.get? a=some (MA (.ref f) (.ref x))
 | .ext φ => φ h/\(∃o,h.get? a=some o)/\∀h1 h2:am, φ h1->(∀o,h1.get? a=some o->h2.get? a=some o) -> φ h2
def HOk (H:Hp) (h:am):Prop:=∀a o,H a=some o->A4 P w H h a o
end
section
variable {P:ao}{w:aw}{H H':Hp}{h h':am}{a:ae}{o:HO}
def A4.lt(x:A4 P w H h a o):a<h.objs.size:=by
 cases o with
 | lst xs=>obtain⟨_,_,_,_,e⟩:=x;exact Tr e
 | tup xs=>obtain⟨_,_,_,p⟩:=x;exact p.lt
 | dK kvs=>obtain⟨_,_,_,_,o,_,_,e,_⟩:=x;exact Tr e
 | dT kvs=>obtain⟨_,_,_,_,o,_,_,e,_⟩:=x;exact Tr e
 | set S n=>obtain⟨o,_,_,_,e,_⟩:=x;exact Tr e
 | ins C dx fs=>obtain⟨_,_,_,e,_⟩:=x;exact Tr e
 | own y=>obtain⟨_,e⟩:=x;exact Tr e
 | xd fs=>obtain⟨_,⟨_,_,_,e,_⟩,_⟩:=x;exact Tr e
 | rng lo hi=>obtain⟨_,_,_,e⟩:=x;exact Tr e
 | frz ob u=>obtain⟨e,_⟩:=x;exact Tr e
 | tbl ps=>exact Tr (show h.get? a=some _ from x)
 | met f y=>exact Tr (show h.get? a=some _ from x)
 | ext φ=>obtain⟨_,⟨_,e⟩,_⟩:=x;exact Tr e
theorem Paired.mapP{α β : Type}{F G}:∀{l₁ : List α} {l₂ : List β},Paired F l₁ l₂->(∀a b,F a b->G a b)->Paired G l₁ l₂
 | _,_,.nil,_=>.nil
 | _,_,.cons r t,f=>.cons (f _ _ r) (Paired.mapP t f)
def A4.stay(x:A4 P w H h a o)(k:∀b u,(b=a\/H b=some (.own a))->h.get? b=some u->h'.get? b=some u)
  (ho:∀b,H b=some (.own a)->H' b=some (.own a)) (ht:∀b xs,H b=some (.tup xs)->H' b=some (.tup xs)):A4 P w H' h' a o:=by
 induction o with
 | lst xs=>obtain⟨z,a7,n,r,e⟩:=x;exact⟨z,a7,n,r,k _ _ (.inl rfl) e⟩
 | tup xs=>obtain⟨z,a7,r,ob,e,c⟩:=x;exact⟨z,a7,r,ob,k _ _ (.inl rfl) e,c⟩
 | dK kvs=>obtain⟨z,y,vs,r,ob,es,ep,e,c⟩:=x;exact⟨z,y,vs,r,ob,es,ep,k _ _ (.inl rfl) e,c⟩
 | dT kvs=>
  obtain⟨z,y,xs,r,ob,es,ep,e,c⟩:=x;exact⟨z,y,xs,Paired.mapP r λp q z=>⟨z.1,ht _ _ z.2.1,z.2.2⟩,ob,es,ep,k _ _ (.inl rfl) e,c⟩
 | set S n=>obtain⟨ob,es,ep,t,e,c⟩:=x;exact⟨ob,es,ep,t,k _ _ (.inl rfl) e,c⟩
 | ins C dx fs=>
  obtain⟨d,z,ne,e,mA,⟨od,es,ep,e2,c⟩,r⟩:=x;exact⟨ho _ d,z,ne,k _ _ (.inl rfl) e,mA,⟨od,es,ep,k _ _ (.inr d) e2,c⟩,r⟩
 | own y=>obtain⟨ob,e⟩:=x;exact⟨ob,k _ _ (.inl rfl) e⟩
 | xd fs=>obtain⟨mA,⟨od,es,ep,e,c⟩,r⟩:=x;exact⟨mA,⟨od,es,ep,k _ _ (.inl rfl) e,c⟩,r⟩
 | rng lo hi=>obtain⟨t,u,v,e⟩:=x;exact⟨t,u,v,k _ _ (.inl rfl) e⟩
 | frz ob u ih=>obtain⟨e,q⟩:=x;exact⟨k _ _ (.inl rfl) e,ih q⟩
 | tbl ps=>
  have e:h.get? a=some {cls:=.none,data:=.fields ps}:=x;show h'.get? a=some {cls:=.none,data:=.fields ps};exact k a _ (.inl rfl) e
 | met f y=>
  have e:h.get? a=some (MA (.ref f) (.ref y)):=x;show h'.get? a=some (MA (.ref f) (.ref y));exact k a _ (.inl rfl) e
 | ext φ=>obtain⟨p,⟨o,e⟩,st⟩:=x;exact⟨st _ _ p λo q=>k _ _ (.inl rfl) q,⟨o,k _ _ (.inl rfl) e⟩,st⟩
def HOk.lt(x:HOk P w H h)(e:H a=some o):a<h.objs.size:=(x a o e).lt
def HOk.fresh(x:HOk P w H h)(e:h.objs.size<=a):H a=none:=by
 cases q:H a with
 | none=>rfl
 | some u=>exact absurd (O4 (x.lt q) e) (Pz _)
def HOk.kept(x:HOk P w H h)(k:∀b u,h.get? b=some u->h'.get? b=some u):HOk P w H h':=λa o e=>
 (x a o e).stay (λb u _ q=>k b u q) (λ_ q=>q) λ_ _ q=>q
def HOk.laid(x:HOk P w H h)(k:∀b u,h.get? b=some u->h'.get? b=some u)(hp:h.objs.size<=a)(new:A4 P w (upd H a o) h' a o):HOk P w (upd H a o) h':=λb u e=>by
 have hn:=x.fresh hp;by_cases hb:b=a
 ·subst hb;rw[Ab] at e;cases e;exact new
 ·rw[Ae hb] at e;exact(x b u e).stay (λc v _ q=>k c v q) (λc q=>by rw[Ae (Av q hn)];exact q) λc xs q=>by rw[Ae (Av q hn)];exact q
end
def Rd (H:Hp) (a:ae) (u:HO):Prop:=H a=some u \/ ∃o,H a=some (.frz o u)
def Rd.ok      (r:Rd H a u) (x:HOk P w H h):A4 P w H h a u:=by
 rcases r with r | ⟨o,r⟩
 ·exact x a u r
 ·obtain⟨_,q⟩:=x a _ r;exact q
def Mut:Option HO->Prop
 | some (.lst _)=>True
 | some (.dK _)=>True
 | some (.dT _)=>True
 | some (.set _ _)=>True
 | some (.ins _ _ _)=>True
 | some (.ext _)=>True
 | _=>False
section
variable {P:ao}{w:aw}{H:Hp}{h h':am}{x e:ae}{o':HO}
def HOk.write(ok:HOk P w H h)(mu:Mut (H x))(he:e=x\/H e=some (.own x))(k:∀b u,b≠e->h.get? b=some u->h'.get? b=some u)(qc:∃u,h'.get? e=some u)
  (new:A4 P w (upd H x o') h' x o'):HOk P w (upd H x o') h':=λb u q=>by
 have qR:∀c y,H c=some (.own y)->c≠x:=λc y r z=>by subst z;rw[r] at mu;exact mu
 have ntup:∀c xs,H c=some (.tup xs)->c≠x:=λc xs r z=>by subst z;rw[r] at mu;exact mu
 by_cases hb:b=x
 ·subst hb;rw[Ab] at q;cases q;exact new
 ·rw[Ae hb] at q;by_cases og:b=e
  ·have q':H b=some (.own x):=by
    rcases he with z | z
    ·exact absurd (og.trans z) hb
    ·rw[og];exact z
   rw[q] at q';cases q';obtain⟨v,hv⟩:=qc;exact⟨v,by rw[og];exact hv⟩
  ·refine(ok b u q).stay (λc v hc r=>k c v ?_ r) (λc r=>by rw[Ae (qR c b r)];exact r) λc xs r=>by rw[Ae (ntup c xs r)];exact r
   rcases hc with rfl | hc
   ·exact og
   ·rintro rfl;rcases he with z | z
    ·exact qR c b hc z
    ·rw[hc] at z;cases z;exact hb rfl
end
structure Un (fs ex:List ae) (H H':Hp) (h h':am):Prop where
 keep:∀b o,h.get? b=some o->H b=none->b∉fs->b∉ex->h'.get? b=some o
 slot:∀b o,h.get? b=some o->H b=none->b∈fs->b∉ex->∃sl,h'.get? b=some {o with slots:=sl}
 free:∀b o,h.get? b=some o->H b=none->b∉ex->H' b=none
 there:∀b o,h.get? b=some o->b∉ex->∃o',h'.get? b=some o'
 tups:∀b xs,H b=some (.tup xs)->H' b=some (.tup xs)
 frzs:∀b o u,H b=some (.frz o u)->H' b=some (.frz o u)
 tbls:∀b ps,H b=some (.tbl ps)->∃bZ,H' b=some (.tbl (ps++bZ))
section
variable {fs fZ ex ud:List ae}{H H1 H2:Hp}{h h1 h2 h':am}{a x e:ae}{o:HO}
def Un.any(u:Un fs ex H H1 h h1)  (q:h.get? b=some ob)(n:H b=none)(hx:b∉ex):∃sl,h1.get? b=some {ob with slots:=sl}:=by
 by_cases hb:b∈fs
 ·exact u.slot b ob q n hb hx
 ·exact⟨ob.slots,u.keep b ob q n hb hx⟩
def Un.kept(k:∀b u,h.get? b=some u->h'.get? b=some u):Un fs ex H H h h':=
 ⟨λb ob q _ _ _=>k b ob q,λb ob q _ _ _=>⟨ob.slots,k b ob q⟩,λ_ _ _ n _=>n,λb ob q _=>⟨ob,k b ob q⟩,λ_ _ q=>q,λ_ _ _ q=>q,λ_ ps q=>⟨#[],by rw[q];simp⟩⟩
def Un.refl:Un fs ex H H h h:=Un.kept λ_ _ q=>q
def Un.laid(k:∀b u,h.get? b=some u->h'.get? b=some u)(hp:h.objs.size<=a)(hn:H a=none):Un fs ex H (upd H a o) h h' where
 keep:=λb u q _ _ _=>k b u q
 slot:=λb u q _ _ _=>⟨u.slots,k b u q⟩
 free:=λb u q n _=>by rw[Ae (Oo (O4 (Tr q) hp))];exact n
 there:=λb u q _=>⟨u,k b u q⟩
 tups:=λb xs q=>by rw[Ae (Av q hn)];exact q
 frzs:=λb u xs q=>by rw[Ae (Av q hn)];exact q
 tbls:=λb ps q=>⟨#[],by rw[Ae (Av q hn),q];simp⟩
def Un.write(mu:Mut (H x))(he:e=x\/H e=some (.own x))(k:∀b u,b≠e->h.get? b=some u->h'.get? b=some u)(qc:∃u,h'.get? e=some u):Un fs ex H (upd H x o) h h':=by
 have hx:∀b,H b=none->b≠x:=λb n z=>by subst z;rw[n] at mu;exact mu
 have hb:∀b,H b=none->b≠e:=λb n z=>by
  subst z;rcases he with r | r
  ·exact hx b n r
  ·rw[n] at r;cases r
 have hm:∀b u,H b=some u->¬Mut (some u)->b≠x:=λb u q nm z=>by subst z;rw[q] at mu;exact nm mu
 refine⟨λb u q n _ _=>k b u (hb b n) q,λb u q n _ _=>⟨u.slots,k b u (hb b n) q⟩,λb u q n _=>by rw[Ae (hx b n)];exact n,λb u q _=>?_,
  λb xs q=>by rw[Ae (hm b _ q λz=>z)];exact q,λb u xs q=>by rw[Ae (hm b _ q λz=>z)];exact q,λb ps q=>⟨#[],by rw[Ae (hm b _ q λz=>z),q];simp⟩⟩
 by_cases og:b=e
 ·subst og;exact qc
 ·exact⟨u,k b u og q⟩
end
def trk (h:am) (H:Hp):List ae:=(List.range h.objs.size).filter λa=>(H a).isSome
def Dv (h:am) (H:Hp):am:=MG h (trk h H)
def Xg8(h)(H):(Dv h H).objs.size=h.objs.size:=PySem.W.hideAll_size _ _
def Xg9    (e:h.get? b=some o) (n:H b=none):(Dv h H).get? b=some o:=
 ME _ e λhm=>by
  have q:(H b).isSome=true:=(Om.mp hm).2;rw[n] at q;simp at q
def Xha    (e:(Dv h H).get? b=some o):h.get? b=some o/\H b=none:=by
 have e':h.get? b=some o:=MH (trk h H) e;refine⟨e',?_⟩;cases q:H b with
 | none=>rfl
 | some x=>
  have hm:b∈trk h H:=Om.mpr ⟨Ps.mpr (Tr e'),by simp[q]⟩;have z:(Dv h H).get? b=none:=PySem.W.hideAll_none (trk h H) hm;rw[z] at e;cases e
def Xhb (g h:am) (L:ae):List (ae×aK):=(List.range h.objs.size).filterMap λa=>if a=L\/(g.get? a).isSome=true then none else (h.get? a).map λo=>(a,o)
def rest (g h:am) (L d:ae):List (ae×aK):=(Xhb g h L).filter λp=>decide (p.1≠d)
structure Mod (K:LD) (mg:ak->Option aa) (base:am):Prop where
 kin:K.In base
 glob:base.Ns ap mg
 blt:∃mb,base.Ns cP mb/\∀x:ak,x ≠ "__name__" -> mb x=bA x
 nolimit:base.NoLimit
structure Cx where
 prog:ao
 w:aw
 K:LD
 mg:ak->Option aa
 base:am
 A:av
 N:Za
 s₀ : af
 H₀ : Hp
 env:dt
 outer:List dt
 stack:List dt
 ex:List ae
 fn:ak->Bool
 calm:Bool
 pn:List (ae×aK)
 xe:Zb
def frs (l:List dt):List ae:=l.filterMap (·.frame)
abbrev Cx.fs (X:Cx):List ae:=frs X.outer
def Vis (sc:bE) (x:ak):Prop:=sc.names.lookup x=some .local\/sc.names.lookup x=some .cell\/sc.names.lookup x=some .free
def Loc (sc:bE) (x:ak):Prop:=sc.names.lookup x=some .local\/sc.names.lookup x=some .cell
def Look (env:dt) (h:am) (m:ak->Option aa) (x:ak) (u:aa):Prop:=
 (env.kindOf x=some .local/\m x=some u)\/((env.kindOf x=some .cell\/env.kindOf x=some .free)/\∃c,env.cells.lookup x=some c/\h.IsCell c (some u))
structure Cx.Ok (X:Cx):Prop where
 mod:Mod X.K X.mg X.base
 kind:X.env.scope.kind = .function
 glob:X.env.globals=ap
 blt:X.env.builtins=cP
 above:X.s₀.heap.objs.size<=X.env.locals
 inj:∀x y c,X.env.cells.lookup x=some c->X.env.cells.lookup y=some c->x=y
 has:∀x,(X.env.kindOf x=some .cell\/X.env.kindOf x=some .free)->∃c,X.env.cells.lookup x=some c
 cab:∀x c,X.fn x=true->X.env.cells.lookup x=some c->X.s₀.heap.objs.size<=c
 hd:X.calm=true->X.A.handled=none
 frames:X.A.frames=some X.stack
 stk:X.stack=X.outer\/(X.stack=X.env::X.outer/\X.env.frame=some X.env.locals)
 exf:∀b∈X.ex,b≠X.env.locals/\∀x c,X.env.cells.lookup x=some c->c≠b
 bs:∀b o,X.base.get? b=some o->X.s₀.heap.get? b=some o/\X.H₀ b=none
 bsz:X.base.objs.size<=X.s₀.heap.objs.size
 noex:∀b o,X.base.get? b=some o->b∉X.ex
 exfs:∀b∈X.ex,b∉X.fs
 funs:X.s₀.heap.FunFrames X.base X.outer
 frf:∀b∈X.fs,X.H₀ b=none
structure Inv (X:Cx) (pins:List (ae×aK)) (Z:List (Option V)) (H:Hp) (s:af):Prop where
 ok:X.Ok
 os:s.os=X.s₀.os
 bare:c6 s.gens
 base:Un X.fs X.ex X.H₀ H X.s₀.heap s.heap
 loc:∃m,s.heap.Ns X.env.locals m/\∀(i:Nat) (x:ak) (v:V),X.N[i]? = some x -> Z[i]? = some (some v)->Vis X.env.scope x->∃u,Aj v u/\Look X.env s.heap m x u
 cell:∀x c,X.env.cells.lookup x=some c->∃v,s.heap.IsCell c v
 free:H X.env.locals=none
 freeC:∀x c,X.env.cells.lookup x=some c->H c=none
 pin:∀p∈X.pn++pins,s.heap.get? p.1=some p.2/\H p.1=none/\p.1≠X.env.locals/\p.1∉X.fs/\∀v,p.2.data ≠ .cell v
 hok:HOk X.prog X.w H s.heap
 len : Z.length=X.N.length
section
variable {X:Cx}{pins:List (ae×aK)}{Z:List (Option V)}{H H':Hp}{s:af}{h':am}
def Cx.Ok.nofr(ok:X.Ok)  (e:X.base.get? b=some o):b∉X.fs:=λhb=>by
 have:=(ok.funs.mem hb).1;rw[e] at this;cases this
def Inv.bs(I:Inv X pins Z H s):∀b o,X.base.get? b=some o->s.heap.get? b=some o/\H b=none:=λb o e=>
 ⟨I.base.keep b o (I.ok.bs b o e).1 (I.ok.bs b o e).2 (I.ok.nofr e) (I.ok.noex b o e),I.base.free b o (I.ok.bs b o e).1 (I.ok.bs b o e).2 (I.ok.noex b o e)⟩
def Inv.bk(I:Inv X pins Z H s):∀b o,X.base.get? b=some o->s.heap.get? b=some o:=λb o e=>(I.bs b o e).1
def Inv.mod(I:Inv X pins Z H s):Mod X.K X.mg X.base:=I.ok.mod
def Inv.kIn(I:Inv X pins Z H s):X.K.In s.heap:=I.ok.mod.kin.keeps I.bk
def Inv.lt(I:Inv X pins Z H s):X.env.locals<s.heap.objs.size:=let ⟨_,hn,_⟩:=I.loc;hn.lt
def Inv.sz(I:Inv X pins Z H s):X.s₀.heap.objs.size<=s.heap.objs.size:=Pj I.ok.above (Rp I.lt)
def Inv.nofs(I:Inv X pins Z H s)(h:s.heap.objs.size<=a):a∉X.fs:=λhb=>by
 obtain⟨_,o,ho,_⟩:=I.ok.funs.mem hb;exact absurd (O4 (Tr ho) (Pj I.sz h)) (Pz _)
def Inv.cne(I:Inv X pins Z H s):∀x c,X.env.cells.lookup x=some c->c≠X.env.locals:=λx c e z=>by
 obtain⟨v,o,ho,hd⟩:=I.cell x c e;obtain⟨m,⟨o',es,ep,fh,gU,_⟩,_⟩:=I.loc;rw[z,fh] at ho;cases ho;rw[gU] at hd;cases hd
def Inv.funs(I:Inv X pins Z H s):s.heap.FunFrames X.base X.outer:=by
 have all:∀(l:List dt),(∀b∈frs l,b∈X.fs)->X.s₀.heap.FunFrames X.base l->s.heap.FunFrames X.base l:=by
  intro l
  induction l with
  | nil=>intro _ _;trivial
  | cons env r ih=>
   intro hs hl;obtain⟨hk,⟨L,o,hf,hn,ho,hd⟩,hr⟩:=hl;have hL:L∈X.fs:=hs L (by unfold frs;rw[Qb,hf];exact Op);obtain⟨sl,e⟩:=I.base.slot L o ho (I.ok.frf L hL) hL λz=>I.ok.exfs L z hL;exact⟨hk,⟨L,_,hf,hn,e,hd⟩,ih (λb hb=>hs b (by unfold frs;rw[Qb,hf];exact Ol _ hb)) hr⟩
 exact all X.outer (λ_ hb=>hb) I.ok.funs
def Inv.stack(I:Inv X pins Z H s):s.heap.FunFrames X.base X.stack:=by
 rcases I.ok.stk with e | ⟨e,hf⟩
 ·rw[e];exact I.funs
 ·rw[e];obtain⟨m,hn,_⟩:=I.loc;refine .cons (by rw[I.ok.kind];decide) hf hn ?_ I.funs;exact am.get?_none_of_le (Pj I.ok.bsz I.ok.above)
def Inv.stkSub(I:Inv X pins Z H s):∀b∈frs X.stack,b∈X.env.locals::X.fs:=λb hb=>by
 rcases I.ok.stk with e | ⟨e,hf⟩
 ·rw[e] at hb;exact Ol _ hb
 ·rw[e] at hb;unfold frs at hb;rw[Qb,hf] at hb;exact hb
def Inv.stkFree(I:Inv X pins Z H s):∀b∈frs X.stack,H b=none:=λb hb=>by
 rcases Ou.mp (I.stkSub b hb) with e | hb
 ·rw[e];exact I.free
 ·obtain⟨_,o,ho,_⟩:=I.ok.funs.mem hb;exact I.base.free b o ho (I.ok.frf b hb) λz=>I.ok.exfs b z hb
def Inv.step{g'}{t'}{d'}{ch:List ae}(I:Inv X pins Z H s)
  (kZ:∀b∈ch,(b∈X.ex\/X.s₀.heap.objs.size<=b)/\b≠X.env.locals/\(∀x c,X.env.cells.lookup x=some c->c≠b)/\∀p∈X.pn++pins,p.1≠b)
  (keep:∀b o,b≠X.env.locals->b∉X.fs->b∉ch->s.heap.get? b=some o->H b=none->h'.get? b=some o)
  (slot:∀b o,b≠X.env.locals->b∈X.fs->b∉ch->s.heap.get? b=some o->H b=none->∃sl,h'.get? b=some {o with slots:=sl}) (free:∀b o,b∉ch->s.heap.get? b=some o->H b=none->H' b=none)
  (there:∀b o,b∉ch->s.heap.get? b=some o->∃o',h'.get? b=some o')
  (tups:∀b xs,H b=some (.tup xs)->H' b=some (.tup xs)) (frzs:∀b o u,H b=some (.frz o u)->H' b=some (.frz o u)) (tbls:∀b ps,H b=some (.tbl ps)->∃bZ,H' b=some (.tbl (ps++bZ)))
  (ns:∀m,s.heap.Ns X.env.locals m->h'.Ns X.env.locals m) (hok:HOk X.prog X.w H' h') (hg:c6 g'):
  Inv X pins Z H' {s with heap:=h',gens:=g',drawn:=d',toks:=t'}:=by
 have yw:∀b o,X.s₀.heap.get? b=some o->b≠X.env.locals:=λb o e=>Oo (O4 (Tr e) I.ok.above);have ue:∀b o,X.s₀.heap.get? b=some o->b∉X.ex->b∉ch:=λb o e hx hb=>by
  rcases (kZ b hb).1 with z | z
  ·exact hx z
  ·exact absurd (O4 (Tr e) z) (Pz _)
 have mR:∀x c,X.env.cells.lookup x=some c->∀v,s.heap.IsCell c v->h'.IsCell c v:=λx c e v ⟨o,ho,hd⟩=>by
  have qS:c∉ch:=λz=>(kZ c z).2.2.1 x c e rfl;by_cases hc:c∈X.fs
  ·obtain⟨sl,q⟩:=slot c o (I.cne x c e) hc qS ho (I.freeC x c e);exact⟨_,q,hd⟩
  ·exact⟨o,keep c o (I.cne x c e) hc qS ho (I.freeC x c e),hd⟩
 refine⟨I.ok,I.os,hg,⟨λb o e n hb hx=>?_,λb o e n hb hx=>?_,λb o e n hx=>?_,λb o e hx=>?_,λb xs e=>tups b xs (I.base.tups b xs e),λb o xs e=>frzs b o xs (I.base.frzs b o xs e),λb ps e=>?_⟩,?_,λx c e=>?_,?_,λx c e=>?_,λp hp=>?_,hok,I.len⟩
 ·exact keep b o (yw b o e) hb (ue b o e hx) (I.base.keep b o e n hb hx) (I.base.free b o e n hx)
 ·obtain⟨sl,e1⟩:=I.base.slot b o e n hb hx;obtain⟨iF,e2⟩:=slot b _ (yw b o e) hb (ue b o e hx) e1 (I.base.free b o e n hx);exact⟨iF,e2⟩
 ·obtain⟨o',e1⟩:=I.base.there b o e hx;exact free b o' (ue b o e hx) e1 (I.base.free b o e n hx)
 ·obtain⟨o',e1⟩:=I.base.there b o e hx;exact there b o' (ue b o e hx) e1
 ·obtain⟨m1,e1⟩:=I.base.tbls b ps e;obtain⟨m2,e2⟩:=tbls b _ e1;exact⟨m1++m2,by rw[e2,Array.append_assoc]⟩
 ·obtain⟨m,hn,hl⟩:=I.loc;refine⟨m,ns m hn,λi x v e1 e2 e3=>?_⟩;obtain⟨u,r,l⟩:=hl i x v e1 e2 e3;refine⟨u,r,?_⟩;rcases l with l | ⟨k,c,e,z⟩
  ·exact .inl l
  ·exact .inr ⟨k,c,e,mR x c e _ z⟩
 ·obtain⟨v,z⟩:=I.cell x c e;exact⟨v,mR x c e v z⟩
 ·obtain⟨m,⟨o,_,_,ho,_⟩,_⟩:=I.loc;exact free _ o (λz=>(kZ _ z).2.1 rfl) ho I.free
 ·obtain⟨v,o,ho,hd⟩:=I.cell x c e;exact free c o (λz=>(kZ c z).2.2.1 x c e rfl) ho (I.freeC x c e)
 ·obtain⟨e,n,ne,nf,d⟩:=I.pin p hp;have qS:p.1∉ch:=λz=>(kZ p.1 z).2.2.2 p hp rfl;exact⟨keep p.1 p.2 ne nf qS e n,free p.1 p.2 qS e n,ne,nf,d⟩
def Inv.un{t'}(I:Inv X pins Z H s)(u:Un X.fs [] H H' s.heap h')(hok:HOk X.prog X.w H' h'):Inv X pins Z H' {s with heap:=h',toks:=t'}:=by
 obtain⟨m,⟨o,es,ep,ho,r⟩,_⟩:=id I.loc;obtain⟨sl,hL⟩:=u.any ho I.free (by simp);exact I.step (g':=s.gens) (d':=s.drawn) (ch:=[]) (λ_ z=>nomatch z) (λb o _ hb _ e n=>u.keep b o e n hb (by simp)) (λb o _ hb _ e n=>u.slot b o e n hb (by simp)) (λb o _ e n=>u.free b o e n (by simp)) (λb o _ e=>u.there b o e (by simp)) u.tups u.frzs u.tbls (λm' hm=>by
  obtain⟨o',cA,lf,fh,r'⟩:=hm;rw[ho] at fh;cases fh;exact⟨_,cA,lf,hL,r'⟩) hok I.bare
def Inv.call{g'}{t'}{d'}{ch}(I:Inv X pins Z H s)(u:Un (frs X.stack) ch H H' s.heap h')(hok:HOk X.prog X.w H' h')(hg:c6 g')
  (kZ:∀b∈ch,(b∈X.ex\/X.s₀.heap.objs.size<=b)/\b≠X.env.locals/\(∀x c,X.env.cells.lookup x=some c->c≠b)/\∀p∈X.pn++pins,p.1≠b):
  Inv X pins Z H' {s with heap:=h',gens:=g',drawn:=d',toks:=t'}:=by
 obtain⟨m,⟨o,es,ep,ho,r⟩,_⟩:=id I.loc;obtain⟨sl,hL⟩:=u.any ho I.free λz=>(kZ _ z).2.1 rfl;exact I.step (ch:=ch) kZ (λb o hL hb hc e n=>u.keep b o e n (λz=>(Ou.mp (I.stkSub b z)).elim hL hb) hc) (λb o _ _ hc e n=>u.any e n hc) (λb o hc e n=>u.free b o e n hc) (λb o hc e=>u.there b o e hc) u.tups u.frzs u.tbls (λm' hm=>by
  obtain⟨o',cA,lf,fh,r'⟩:=hm;rw[ho] at fh;cases fh;exact⟨_,cA,lf,hL,r'⟩) hok hg
def Inv.turned{t'}(I:Inv X pins Z H s)(k:∀b o,b≠it->s.heap.get? b=some o->h'.get? b=some o)(hn:H it=none)(hL:it≠X.env.locals)
  (h1:it∈X.ex\/X.s₀.heap.objs.size<=it) (h2:∀x c,X.env.cells.lookup x=some c->c≠it) (h3:∀p∈X.pn++pins,p.1≠it):Inv X pins Z H {s with heap:=h',toks:=t'}:=by
 have yx:∀b u,H b=some u->b≠it:=λb u e z=>by rw[z,hn] at e;cases e
 refine I.step (g':=s.gens) (d':=s.drawn) (ch:=[it]) (λb hb=>?_) (λb o _ _ hc e _=>k b o (λz=>hc (by simp[z])) e) (λb o _ _ hc e _=>⟨o.slots,k b o (λz=>hc (by simp[z])) e⟩) (λ_ _ _ _ n=>n)
  (λb o hc e=>⟨o,k b o (λz=>hc (by simp[z])) e⟩) (λ_ _ e=>e) (λ_ _ _ e=>e) (λb ps e=>⟨#[],by rw[e];simp⟩) (λm hm=>?_) (λb u e=>?_) I.bare
 ·have e:b=it:=by simpa using hb
  subst e;exact⟨h1,hL,h2,h3⟩
 ·obtain⟨o,es,ep,ho,r⟩:=hm;exact⟨o,es,ep,k _ o (Ne.symm hL) ho,r⟩
 ·refine(I.hok b u e).stay (λc v hc q=>k c v ?_ q) (λ_ q=>q) λ_ _ q=>q;rcases hc with z | z
  ·rw[z];exact yx b u e
  ·exact yx c _ z
def Inv.tok(I:Inv X pins Z H s)(t):Inv X pins Z H {s with toks:=t}:=I.un (h':=s.heap) (t':=t) Un.refl I.hok
def Inv.kept{t'}(I:Inv X pins Z H s)(k:∀b u,s.heap.get? b=some u->h'.get? b=some u):Inv X pins Z H {s with heap:=h',toks:=t'}:=I.un (Un.kept k) (I.hok.kept k)
def Inv.laid{a:ae}{o}{t'}(I:Inv X pins Z H s)(k:∀b u,s.heap.get? b=some u->h'.get? b=some u)(hp:s.heap.objs.size<=a)(new:A4 X.prog X.w (upd H a o) h' a o):
  Inv X pins Z (upd H a o) {s with heap:=h',toks:=t'}:=I.un (Un.laid k hp (I.hok.fresh hp)) (I.hok.laid k hp new)
def Inv.write{x e}  (I:Inv X pins Z H s)(mu:Mut (H x))(he:e=x\/H e=some (.own x))(k:∀b u,b≠e->s.heap.get? b=some u->h'.get? b=some u)(qc:∃u,h'.get? e=some u)
  (new:A4 X.prog X.w (upd H x o) h' x o):Inv X pins Z (upd H x o) {s with heap:=h',toks:=t'}:=I.un (Un.write mu he k qc) (I.hok.write mu he k qc new)
def Inv.pins_of(I:Inv X pins Z H s)(h:∀p∈pins',s.heap.get? p.1=some p.2/\H p.1=none/\p.1≠X.env.locals/\p.1∉X.fs/\∀v,p.2.data ≠ .cell v):Inv X pins' Z H s:=
 ⟨I.ok,I.os,I.bare,I.base,I.loc,I.cell,I.free,I.freeC,λp hp=>(Oq.mp hp).elim (λz=>I.pin p (Qa _ z)) (h p),I.hok,I.len⟩
def Xaa{N:Za}(hN:N.Nodup){i j:Nat}(a:N[i]? = some x)(b:N[j]? = some x):i=j:=by
 obtain⟨h1,e1⟩:=Oz.mp a;obtain⟨h2,e2⟩:=Oz.mp b;exact(List.getElem_inj hN).mp (e1.trans e2.symm)
def Xab        (I:Inv X pins Z H s) (hN:X.N.Nodup) (hi:X.N[i]? = some x) (hx:Loc X.env.scope x) (r:Aj v u)
  (h:∀s',Inv X pins (Z.set i (some v)) H s'->(∃a,am.SameBut a s.heap s'.heap/\(a=X.env.locals\/X.env.cells.lookup x=some a))->Q () s') (hf:X.fn x=true\/X.env.scope.names.lookup x=some .local:=by first | exact .inl rfl | exact .inr rfl | assumption):ai M A (oh X.env x u) Q E s:=by
 obtain⟨m,hn,hl⟩:=id I.loc;have fH:(X.env.scope.kind == .class||(X.env.scope.kind == .module&&X.env.locals != X.env.globals))=false:=by rw[I.ok.kind];rfl
 have yy:i < Z.length:=by rw[I.len];exact(Oz.mp hi).1
 have cne:=I.cne;have iG:∀{a:ae} {h':am},(∃o,s.heap.get? a=some o/\H a=none)->am.SameBut a s.heap h'->HOk X.prog X.w H h':=λ{a h'} ha hs b ob e=>by
  obtain⟨_,_,iH⟩:=ha;refine(I.hok b ob e).stay (λc w' hc q=>(hs.2 c ?_).trans q) (λ_ q=>q) λ_ _ q=>q;rintro rfl;rcases hc with rfl | hc
  ·rw[iH] at e;cases e
  ·rw[iH] at hc;cases hc
 rcases hx with hk | hk
 ·refine wpAny_storeName_local hk hn (λh' AQ hs=>?_) fH;obtain⟨oL,_,_,iI,_⟩:=id hn;refine h _ ⟨I.ok,I.os,I.bare,⟨λb o e n hb hx=>?_,λb o e n hb hx=>?_,I.base.free,λb o e hx=>?_,I.base.tups,I.base.frzs,I.base.tbls⟩,⟨_,AQ,λj y v' e1 e2 e3=>?_⟩,λy c e=>?_,I.free,I.freeC,λp hp=>?_,iG ⟨oL,iI,I.free⟩ hs,by simpa using I.len⟩ ⟨_,hs,.inl rfl⟩
  ·exact(hs.2 b (Oo (O4 (Tr e) I.ok.above))).trans (I.base.keep b o e n hb hx)
  ·obtain⟨sl,e1⟩:=I.base.slot b o e n hb hx;exact⟨sl,(hs.2 b (Oo (O4 (Tr e) I.ok.above))).trans e1⟩
  ·obtain⟨o',e1⟩:=I.base.there b o e hx;exact⟨o',(hs.2 b (Oo (O4 (Tr e) I.ok.above))).trans e1⟩
  ·by_cases hj:j=i
   ·subst hj;rw[hi] at e1;cases e1;rw[List.getElem?_set_self yy] at e2;cases e2;exact⟨u,r,.inl ⟨hk,by simp⟩⟩
   ·rw[List.getElem?_set_ne (Ne.symm hj)] at e2;obtain⟨u',r',q⟩:=hl j y v' e1 e2 e3;refine⟨u',r',?_⟩;rcases q with ⟨k,e⟩ | ⟨k,c,e,z⟩
    ·refine .inl ⟨k,?_⟩;have:y≠x:=λe=>hj (Xaa hN e1 (e ▸ hi));simp[this,e]
    ·exact .inr ⟨k,c,e,z.sameBut hs (cne y c e)⟩
  ·obtain⟨w',z⟩:=I.cell y c e;exact⟨w',z.sameBut hs (cne y c e)⟩
  ·obtain⟨e,n,ne,nf,d⟩:=I.pin p hp;exact⟨(hs.2 p.1 ne).trans e,n,ne,nf,d⟩
 ·have uW:X.fn x=true:=by
   rcases hf with z | z
   ·exact z
   ·rw[z] at hk;cases hk
  obtain⟨c,hc⟩:=I.ok.has x (.inl hk);obtain⟨w',z⟩:=I.cell x c hc;refine wpAny_storeName_cell I.ok.kind hk hc z (λh' qd hs=>?_);obtain⟨oc,l8,uX⟩:=id z;refine h {s with heap:=h'} ⟨I.ok,I.os,I.bare,⟨λb o e n hb hx=>?_,λb o e n hb hx=>?_,I.base.free,λb o e hx=>?_,I.base.tups,I.base.frzs,I.base.tbls⟩,⟨m,hn.sameBut hs (Ne.symm (cne x c hc)),λj y v' e1 e2 e3=>?_⟩,λy c' e=>?_,I.free,I.freeC,λp hp=>?_,iG ⟨oc,l8,I.freeC x c hc⟩ hs,by simpa using I.len⟩ ⟨c,hs,.inr hc⟩
  ·exact(hs.2 b (Oo (O4 (Tr e) (I.ok.cab x c uW hc)))).trans (I.base.keep b o e n hb hx)
  ·obtain⟨sl,e1⟩:=I.base.slot b o e n hb hx;exact⟨sl,(hs.2 b (Oo (O4 (Tr e) (I.ok.cab x c uW hc)))).trans e1⟩
  ·obtain⟨o',e1⟩:=I.base.there b o e hx;exact⟨o',(hs.2 b (Oo (O4 (Tr e) (I.ok.cab x c uW hc)))).trans e1⟩
  ·by_cases hj:j=i
   ·subst hj;rw[hi] at e1;cases e1;rw[List.getElem?_set_self yy] at e2;cases e2;exact⟨u,r,.inr ⟨.inl hk,c,hc,qd⟩⟩
   ·rw[List.getElem?_set_ne (Ne.symm hj)] at e2;obtain⟨u',r',q⟩:=hl j y v' e1 e2 e3;refine⟨u',r',?_⟩;rcases q with q | ⟨k,c',e,z'⟩
    ·exact .inl q
    ·refine .inr ⟨k,c',e,z'.sameBut hs ?_⟩;rintro rfl;exact hj (Xaa hN e1 (I.ok.inj _ _ _ e hc ▸ hi))
  ·by_cases y0:c'=c
   ·subst y0;exact⟨_,qd⟩
   ·obtain⟨w2,z2⟩:=I.cell y c' e;exact⟨w2,z2.sameBut hs y0⟩
  ·obtain⟨e,n,ne,nf,d⟩:=I.pin p hp;refine⟨(hs.2 p.1 ?_).trans e,n,ne,nf,d⟩;intro q;rw[q,l8] at e;have q':oc=p.2:=Ox e;exact d w' (by rw[<-q'];exact uX)
def Lb        (I:Inv X pins Z H s) (hN:X.N.Nodup) (hi:X.N[i]? = some x) (hx:Loc X.env.scope x) (r:Aj v u)
  (h:∀s',Inv X pins (Z.set i (some v)) H s'->Q () s') (hf:X.fn x=true\/X.env.scope.names.lookup x=some .local:=by first | exact .inl rfl | exact .inr rfl | assumption):ai M A (oh X.env x u) Q E s:=
 Xab I hN hi hx r (λs' I' _=>h s' I') hf
def Inv.call'{ch}(I:Inv X pins Z H s)(ho:s'.os=s.os)(u:Un (frs X.stack) ch H H' s.heap s'.heap)(hok:HOk X.prog X.w H' s'.heap)(hg:c6 s'.gens)
  (kZ:∀b∈ch,(b∈X.ex\/X.s₀.heap.objs.size<=b)/\b≠X.env.locals/\(∀x c,X.env.cells.lookup x=some c->c≠b)/\∀p∈X.pn++pins,p.1≠b):Inv X pins Z H' s':=by
 obtain⟨h',g',d',t',o'⟩:=s';have e:o'=s.os:=ho;subst e;exact I.call (g':=g') (t':=t') (d':=d') u hok hg kZ
end
abbrev XK:=aa->Option ae->Hp->Prop
abbrev St:=List (Option V)
abbrev VK:=V->Hp->Prop
abbrev TE:=St->Hp->VK->Prop
abbrev TT:=St->Hp->(Bool->Hp->Prop)->Prop
abbrev TA:=St->Hp->(List V->Hp->Prop)->Prop
structure Ends where
 nx:St->Hp->Prop
 rt:VK
 bk:St->Hp->Prop:=λ_ _=>False
 ct:St->Hp->Prop:=λ_ _=>False
abbrev TS:=Ends->St->Hp->Prop
def EP (X:Cx) (pins:List (ae×aK)) (Z:St) (Q:VK) (u:aa) (s':af):Prop:=∃v H',Inv X pins Z H' s'/\Aj v u/\Q v H'
def TP (X:Cx) (pins:List (ae×aK)) (Z:St) (Q:Bool->Hp->Prop) (b:Bool) (s':af):Prop:=∃H',Inv X pins Z H' s'/\Q b H'
def AP (X:Cx) (pins:List (ae×aK)) (Z:St) (Q:List V->Hp->Prop) (us:List aa) (s':af):Prop:=∃vs H',Inv X pins Z H' s'/\Vals vs us/\Q vs H'
def SP (X:Cx) (pins:List (ae×aK)) (D:Ends) (f:Flow) (s':af):Prop:=
 match f with
 | .next=>∃Z' H',Inv X pins Z' H' s'/\D.nx Z' H'
 | .brk=>∃Z' H',Inv X pins Z' H' s'/\D.bk Z' H'
 | .cont=>∃Z' H',Inv X pins Z' H' s'/\D.ct Z' H'
 | .ret u=>∃v Z' H',Inv X pins Z' H' s'/\Aj v u/\D.rt v H'
def PE (X:Cx) (e:aE) (t:TE):Prop:=
 ∀pins s Z H (Q:VK),Inv X pins Z H s->t Z H Q->ai (ag X.prog X.w) X.A (eval e X.env) (EP X pins Z Q) X.xe s
def PT (X:Cx) (e:aE) (t:TT):Prop:=
 ∀pins s Z H (Q:Bool->Hp->Prop),Inv X pins Z H s->t Z H Q->ai (ag X.prog X.w) X.A (isTrue e X.env (eval e X.env)) (TP X pins Z Q) X.xe s
def PW (X:Cx) (e:aE) (t:TT):Prop:=
 ∀(iJ:fJ aa) (pins:List (ae×aK)) (s:af) (Z:St) (H:Hp) (Q:Bool->Hp->Prop),Inv X pins Z H s->t Z H Q->ai (ag X.prog X.w) X.A (isTrue e X.env iJ) (TP X pins Z Q) X.xe s
def PW.pt   (h:PW X e t):PT X e t:=h _
def PA (X:Cx) (es:List aE) (t:TA):Prop:=
 ∀(pos:bI) (pins:List (ae×aK)) (s:af) (Z:St) (H:Hp) (Q:List V->Hp->Prop),Inv X pins Z H s->t Z H Q->ai (ag X.prog X.w) X.A (spliced (bx pos (aA es X.env))) (AP X pins Z Q) X.xe s
def PS (X:Cx) (st:aM) (t:TS):Prop:=
 ∀pins s Z H (D:Ends),Inv X pins Z H s->t D Z H->ai (ag X.prog X.w) X.A (exec st X.env) (SP X pins D) X.xe s
def PSs (X:Cx) (st:List aM) (t:TS):Prop:=
 ∀pins s Z H (D:Ends),Inv X pins Z H s->t D Z H->ai (ag X.prog X.w) X.A (execs st X.env) (SP X pins D) X.xe s
def thn{α : Type}{t:fJ α}{Q Q'}    (h:ai M A t Q E s)(hQ:∀a s,Q a s->Q' a s):ai M A t Q' E s:=aI h hQ λ_ _ x=>x
section
variable {X:Cx}
def C7 (i:Nat):TE:=fun Z H Q=>∃v, Z[i]? = some (some v)/\Q v H
def tC (v:V):TE:=λ_ H Q=>Q v H
def Xhc   (hN:X.N[i]? = some x) (hv:Vis X.env.scope x) (hd:(x==("__debug__" : ak))=false:=by decide) (gW:(x==("__classdict__" : ak))=false:=by decide):PE X (.Name x pos) (C7 i):=by
 intro pins s Z H Q I h;obtain⟨v,e,h⟩:=h;obtain⟨m,hn,hl⟩:=I.loc;obtain⟨u,r,l⟩:=hl i x v hN e hv;have fin:EP X pins Z Q u s:=⟨v,H,I,r,h⟩;rcases l with ⟨hk,hm⟩ | ⟨hk,c,hc,eB⟩
 ·exact l9 (jL I.ok.kind hk hn hm fin) hd
 ·rcases hk with hk | hk
  ·exact l9 (lg I.ok.kind hk hc eB fin) hd
  ·exact l9 (wpAny_loadName_free I.ok.kind hk hc eB fin gW) hd
def Ai{i j pos}:PE X (.Constant (.int i) j pos) (tC (.int i)):=λ_ _ _ H _ I h=>wpAny_Constant_int ⟨.int i,H,I.tok _,⟨_,rfl⟩,h⟩
def Dw:PE X (.Constant (.bool b) j pos) (tC (.bl b)):=λ_ _ _ H _ I h=>Constant_bool ⟨.bl b,H,I,rfl,h⟩
def Bg:PE X (.Constant (.str x) j pos) (tC (.str x)):=λ_ _ _ H _ I h=>Calls.Constant_str ⟨.str x,H,I.tok _,⟨_,rfl⟩,h⟩
def Gl (X:Cx) (x:ak):Prop:=X.env.kindOf x=some .globalImplicit
def Jc         (I:Inv X pins Z H s) (hg:Gl X x) (hm:X.mg x=some u) (h:Q u s)
  (hd:(x==("__debug__" : ak))=false:=by decide):ai (ag X.prog X.w) X.A (eval (.Name x pos) X.env) Q E s:=
 Calls.Name_function_global I.ok.kind hg (Calls.loadGlobal_global (by rw[I.ok.glob];exact I.mod.glob.keeps I.bk) hm h) hd
def E9         (I:Inv X pins Z H s) (hg:Gl X x) (hm:X.mg x=none) (hv:bA x=some u) (h:Q u s)
  (hn:x ≠ "__name__" := by decide) (hd:(x==("__debug__" : ak))=false:=by decide):ai (ag X.prog X.w) X.A (eval (.Name x pos) X.env) Q E s:=by
 obtain⟨mb,h1,h2⟩:=I.mod.blt;exact Calls.Name_function_global I.ok.kind hg (Calls.loadGlobal_builtin (by rw[I.ok.glob];exact I.mod.glob.keeps I.bk) hm (by rw[I.ok.blt];exact h1.keeps I.bk) ((h2 x hn).trans hv) h) hd
def Xac  {v:V}  (hg:Gl X x) (hm:X.mg x=none) (hv:bA x=some u) (r:Aj v u) (hn:x ≠ "__name__" := by decide) (hd:(x==("__debug__" : ak))=false:=by decide):PE X (.Name x pos) (tC v):=
 λ_ _ _ H _ I h=>E9 I hg hm hv ⟨v,H,I,r,h⟩ hn hd
def t2I (ta tb:TE) (k:Int->Int->Hp->Prop):St->Hp->Prop:=fun Z H=>ta Z H λx H1=>tb Z H1 λy H2=>∃i j,x = .int i/\y = .int j/\k i j H2
def tMul (ta tb:TE):TE:=fun Z H Q=>t2I ta tb (λi j H2=>(-(2 ^ 64)<i/\i<2 ^ 64)/\Q (.int (i * j)) H2) Z H
variable {a b:aE}{ta tb:TE}{pos:bI}
def PC (X:Cx) (op:CmpOp) (a b:aE) (t:TE):Prop:=
 ∀pins s Z H (Q:VK),Inv X pins Z H s->t Z H Q ->
  ai (ag X.prog X.w) X.A (eval a X.env) (λv s₁=>ai (ag X.prog X.w) X.A (eval b X.env) (λu s₂=>ai (ag X.prog X.w) X.A (aF op v u) (EP X pins Z Q) X.xe s₂) X.xe s₁) X.xe s
def tIsN (ta:TE):TE:=fun Z H Q=>ta Z H λx H1=>Q (.bl (decide (x = .non))) H1
def tB (t:TE):TT:=fun Z H Q=>t Z H λx H1=>∃c,x = .bl c/\Q c H1
def Xhd  (h:PC X op a b t) (h1:cf op b=false:=by first | exact jM _ (by decide) (by decide) | rfl):PE X (.Compare a [op] [b] pos) t:=λpins s Z H Q I hw=>qT (h pins s Z H Q I hw) h1
def Xhe  (h:PC X op a b t) (h1:cf op b=false:=by first | exact jM _ (by decide) (by decide) | rfl):PT X (.Compare a [op] [b] pos) (tB t):=by
 intro pins s Z H Q I hw;refine jy (thn (h pins s Z H _ I hw) λv s1 h1=>thn h1 λu s2 h2=>thn h2 λc s3 ⟨x,H1,I1,r1,q1⟩=>?_) h1;obtain⟨d,rfl,q⟩:=q1;cases r1;exact aL ⟨H1,I1,q⟩
def En  (h:PE X e t) (he:∀iJ,isTrue e X.env iJ=(do       let v <-iJ;cQ e.pos;holding [v] (truthy v)):=by intro _;rfl):PT X e (tB t):=by
 intro pins s Z H Q I hw;refine isTrue_plain (thn (h pins s Z H _ I hw) λv s1 ⟨x,H1,I1,r1,q1⟩=>?_) (he _);obtain⟨d,rfl,q⟩:=q1;cases r1;exact aL ⟨H1,I1,q⟩
variable {tA uf:TT}{rest:List aE}
def tAnd (t u:TT):TT:=fun Z H Q=>t Z H λc H1=>if c=true then u Z H1 Q else Q false H1
def tOr (t u:TT):TT:=fun Z H Q=>t Z H λc H1=>if c=true then Q true H1 else u Z H1 Q
def tNot (t:TT):TT:=fun Z H Q=>t Z H λc H1=>Q (!c) H1
def Fa(ha:PT X a tA):PW X (.BoolOp .And [a] pos) tA:=by
 intro wh pins s Z H Q I h;refine AR (thn (ha pins s Z H Q I h) λc s1 e=>?_);cases c with
 | true=>exact isTrue_and_nil e
 | false=>exact e
def F2(ha:PT X a tA):PW X (.BoolOp .Or [a] pos) tA:=by
 intro wh pins s Z H Q I h;refine IZ (thn (ha pins s Z H Q I h) λc s1 e=>?_);cases c with
 | false=>exact isTrue_or_nil e
 | true=>exact e
def Fb(ha:PT X a tA)(hb:PW X (.BoolOp .And (b::rest) pos) uf):PW X (.BoolOp .And (a::b::rest) pos) (tAnd tA uf):=by
 intro wh pins s Z H Q I h;refine AR (thn (ha pins s Z H _ I h) λc s1 ⟨H1,I1,q1⟩=>?_);cases c with
 | true=>exact hb wh pins s1 Z H1 Q I1 q1
 | false=>exact⟨H1,I1,q1⟩
def F3(ha:PT X a tA)(hb:PW X (.BoolOp .Or (b::rest) pos) uf):PW X (.BoolOp .Or (a::b::rest) pos) (tOr tA uf):=by
 intro wh pins s Z H Q I h;refine IZ (thn (ha pins s Z H _ I h) λc s1 ⟨H1,I1,q1⟩=>?_);cases c with
 | true=>exact⟨H1,I1,q1⟩
 | false=>exact hb wh pins s1 Z H1 Q I1 q1
def Jd(ha:PT X a tA):PT X (.UnaryOp .Not a pos) (tNot tA):=by
 intro pins s Z H Q I h;exact isTrue_not (ha pins s Z H (λc H1=>Q (!c) H1) I h)
def Xhf (ta tb:TE):TE:=fun Z H Q=>ta Z H λx H1=>∃c,x = .bl c/\if c=true then tb Z H1 Q else Q (.bl false) H1
def tOrV (ta tb:TE):TE:=fun Z H Q=>ta Z H λx H1=>∃c,x = .bl c/\if c=true then Q (.bl true) H1 else tb Z H1 Q
def Xhg (ta:TE):TE:=fun Z H Q=>ta Z H λx H1=>∃c,x = .bl c/\Q (.bl (!c)) H1
def Je  (h:PE X a t):PE X (.BoolOp op [a] pos) t:=λpins s Z H Q I hw=>BoolOp_one (h pins s Z H Q I hw)
def Lc(ha:PE X a ta)(hb:PE X (.BoolOp .And (b::rest) pos) tb):PE X (.BoolOp .And (a::b::rest) pos) (Xhf ta tb):=by
 intro pins s Z H Q I h;refine BoolOp_and (thn (ha pins s Z H _ I h) λv s1 ⟨x,H1,I1,r1,q1⟩=>?_);obtain⟨c,rfl,q1⟩:=q1;cases r1;refine aL ?_;cases c with
 | true=>exact hb pins s1 Z H1 Q I1 q1
 | false=>exact⟨.bl false,H1,I1,rfl,q1⟩
def Xhh(ha:PE X a ta)(hb:PE X (.BoolOp .Or (b::rest) pos) tb):PE X (.BoolOp .Or (a::b::rest) pos) (tOrV ta tb):=by
 intro pins s Z H Q I h;refine BoolOp_or (thn (ha pins s Z H _ I h) λv s1 ⟨x,H1,I1,r1,q1⟩=>?_);obtain⟨c,rfl,q1⟩:=q1;cases r1;refine aL ?_;cases c with
 | false=>exact hb pins s1 Z H1 Q I1 q1
 | true=>exact⟨.bl true,H1,I1,rfl,q1⟩
def Xhi(ha:PE X a ta):PE X (.UnaryOp .Not a pos) (Xhg ta):=by
 intro pins s Z H Q I h;refine UnaryOp_ (thn (ha pins s Z H _ I h) λv s1 ⟨x,H1,I1,r1,q1⟩=>?_);obtain⟨c,rfl,q1⟩:=q1;cases r1;exact not_of (aL ⟨.bl (!c),H1,I1,rfl,q1⟩)
def tIf (t:TT) (ta tb:TE):TE:=fun Z H Q=>t Z H λc H1=>if c=true then ta Z H1 Q else tb Z H1 Q
def Jf(hc:PT X c tA)(ha:PE X a ta)(hb:PE X b tb):PE X (.IfExp c a b pos) (tIf tA ta tb):=by
 intro pins s Z H Q I h;refine wpAny_IfExp (thn (hc pins s Z H _ I h) λd s1 ⟨H1,I1,q1⟩=>?_);cases d with
 | true=>exact ha pins s1 Z H1 Q I1 q1
 | false=>exact hb pins s1 Z H1 Q I1 q1
end
def SqL (K:LD) (H:Hp) (a:ae) (xs:List V):Prop:=
 Rd H a (.lst xs) \/
  ∃(o:aK) (a7:Array aa) (n:Nat),K.lookup a=some o/\o.cls = .type "list" /\ o.dict=none/\o.data = .seq a7 n/\a7.size<=sizeLine/\Vals xs a7.toList
def SqT (K:LD) (H:Hp) (a:ae) (xs:List V):Prop:=
 Rd H a (.tup xs) \/
  ∃(o:aK) (a7:Array aa) (n:Nat),K.lookup a=some o/\o.cls = .type "tuple" /\ o.data = .seq a7 n/\a7.size<=sizeLine/\Vals xs a7.toList
def absV:aa->Option V
 | .none=>some .non
 | .bool b=>some (.bl b)
 | .int i _=>some (.int i)
 | .str x _=>some (.str x)
 | .bytes b _=>some (.byt b)
 | .float b _=>some (.flt b)
 | .ref a=>some (.ref a)
 | .type n=>some (.ty n)
 | _=>none
def Aj.abs  (r:Aj x u):absV u=some x:=by
 cases x with
 | non=>cases r;rfl
 | bl _=>cases r;rfl
 | int _=>obtain⟨t,rfl⟩:=r;rfl
 | str _=>obtain⟨t,rfl⟩:=r;rfl
 | byt _=>obtain⟨t,rfl⟩:=r;rfl
 | flt _=>obtain⟨t,rfl⟩:=r;rfl
 | ref _=>cases r;rfl
 | ty _=>cases r;rfl
def Aj.inj{x y}(r:Aj x u)(q:Aj y u):x=y:=Ox (r.abs.symm.trans q.abs)
theorem Vals.inj:∀{xs ys:List V} {us:List aa},Vals xs us->Vals ys us->xs=ys
 | _,_,_,.nil,.nil=>rfl
 | _,_,_,.cons r t,.cons r' t'=>by rw[r.inj r',Vals.inj t t']
section
variable {X:Cx}{pins:List (ae×aK)}{Z:St}{H:Hp}{s:af}{a:ae}{xs ys:List V}
def SqL.of{K}(h:H a=some (.lst xs)):SqL K H a xs:=.inl (.inl h)
def SqT.of{K}(h:H a=some (.tup xs)):SqT K H a xs:=.inl (.inl h)
def Inv.list(I:Inv X pins Z H s)(h:SqL X.K H a xs):∃a7:List aa,Vals xs a7/\PlainL s.heap a a7.toArray/\xs.length<=sizeLine:=by
 rcases h with h | ⟨o,a7,n,hk,hc,hd,hs,hz,r⟩
 ·obtain⟨z,a7,n,r,e⟩:=h.ok I.hok;exact⟨a7,r,⟨_,n,e,rfl,rfl,rfl⟩,z⟩
 ·refine⟨a7.toList,r,⟨o,n,I.kIn a o hk,hc,hd,by simpa using hs⟩,?_⟩;have e:=r.length;simp only[Os] at e
  lia
def Inv.tuple(I:Inv X pins Z H s)(h:SqT X.K H a xs):∃a7:List aa,Vals xs a7/\cW s.heap a a7.toArray/\xs.length<=sizeLine:=by
 rcases h with h | ⟨o,a7,n,hk,hc,hs,hz,r⟩
 ·obtain⟨z,a7,r,p⟩:=h.ok I.hok;exact⟨a7,r,p,z⟩
 ·refine⟨a7.toList,r,⟨o,I.kIn a o hk,hc,n,by simpa using hs⟩,?_⟩;have e:=r.length;simp only[Os] at e
  lia
def Inv.list_inj(I:Inv X pins Z H s)(h:SqL X.K H a xs)(h':SqL X.K H a ys):xs=ys:=by
 obtain⟨a7,r,⟨o,n,e,_,_,d⟩,_⟩:=I.list h;obtain⟨its',r',⟨o',n',e',_,_,d'⟩,_⟩:=I.list h';rw[e] at e';cases e';rw[d] at d';injection d' with d1 _
 have:a7=its':=by simpa using congrArg Array.toList d1
 subst this;exact r.inj r'
def Inv.tuple_inj(I:Inv X pins Z H s)(h:SqT X.K H a xs)(h':SqT X.K H a ys):xs=ys:=by
 obtain⟨a7,r,⟨o,e,_,n,d⟩,_⟩:=I.tuple h;obtain⟨its',r',⟨o',e',_,n',d'⟩,_⟩:=I.tuple h';rw[e] at e';cases e';rw[d] at d';injection d' with d1 _
 have:a7=its':=by simpa using congrArg Array.toList d1
 subst this;exact r.inj r'
end
abbrev Cx.wish (X:Cx) (E:Zb):Cx:={X with xe:=E}
abbrev Cx.nox (X:Cx):Cx:=X.wish λ_ _=>False
def Cx.Ok.wish{X:Cx}(ok:X.Ok)(E):(X.wish E).Ok:=
 ⟨ok.mod,ok.kind,ok.glob,ok.blt,ok.above,ok.inj,ok.has,ok.cab,ok.hd,ok.frames,ok.stk,ok.exf,ok.bs,ok.bsz,ok.noex,ok.exfs,ok.funs,ok.frf⟩
def Cx.Ok.unwish{X:Cx}(ok:(X.wish E).Ok):X.Ok:=
 ⟨ok.mod,ok.kind,ok.glob,ok.blt,ok.above,ok.inj,ok.has,ok.cab,ok.hd,ok.frames,ok.stk,ok.exf,ok.bs,ok.bsz,ok.noex,ok.exfs,ok.funs,ok.frf⟩
section
variable {X:Cx}{pins:List (ae×aK)}{Z:St}{H:Hp}{s:af}{E:Zb}
def Inv.wish(I:Inv X pins Z H s)(E):Inv (X.wish E) pins Z H s:=⟨I.ok.wish E,I.os,I.bare,I.base,I.loc,I.cell,I.free,I.freeC,I.pin,I.hok,I.len⟩
def Inv.unwish(I:Inv (X.wish E) pins Z H s):Inv X pins Z H s:=⟨I.ok.unwish,I.os,I.bare,I.base,I.loc,I.cell,I.free,I.freeC,I.pin,I.hok,I.len⟩
def SP.unwish   (h:SP (X.wish E) pins D f s'):SP X pins D f s':=by
 cases f with
 | next=>obtain⟨Z',H',I,q⟩:=h;exact⟨Z',H',I.unwish,q⟩
 | brk=>obtain⟨Z',H',I,q⟩:=h;exact⟨Z',H',I.unwish,q⟩
 | cont=>obtain⟨Z',H',I,q⟩:=h;exact⟨Z',H',I.unwish,q⟩
 | ret u=>obtain⟨v, Z',H',I,r,q⟩:=h;exact⟨v, Z',H',I.unwish,r,q⟩
def PSs.nox{st}(h:PSs X.nox st t):PSs X st t:=λpins s Z H D I hw=>
 aI (h pins s Z H D (I.wish _) hw) (λ_ _ q=>q.unwish) λ_ _ z=>False.elim z
end
section
variable {X:Cx}{st:aM}{rest:List aM}{t u:TS}{e:aE}{te:TE}{pos:bI}
def G2:TS:=λD Z H=>D.nx Z H
def Fc (t u:TS):TS:=λD Z H=>t {D with nx:=u D} Z H
def Bc:PSs X [] G2:=λ_ _ Z H _ I h=>cu ⟨Z,H,I,h⟩
def Ag(h1:PS X st t)(h2:PSs X rest u):PSs X (st::rest) (Fc t u):=by
 intro pins s Z H D I h;refine oi (thn (h1 pins s Z H {D with nx:=u D} I h) λf s1 q=>?_);cases f with
 | next=>
  obtain⟨Z',H',I',q⟩:=q;exact h2 pins s1 Z' H' D I' q
 | ret v=>exact q
 | brk=>exact q
 | cont=>exact q
def Ah(h1:PS X st t):PSs X [st] t:=by
 intro pins s Z H D I h;refine oi (thn (h1 pins s Z H D I h) λf s1 q=>?_);cases f with
 | next=>exact cu q
 | ret v=>exact q
 | brk=>exact q
 | cont=>exact q
def Xhj:TS:=λD Z H=>D.bk Z H
def Xhk:PS X (.Break pos) Xhj:=λ_ _ Z H _ I h=>wpAny_Break ⟨Z,H,I,h⟩
def Inv.quiet    (I:Inv X pins Z H s):interactive X.env=false:=by simp[interactive,I.ok.kind]
def Xad (te:TE):TS:=λD Z H=>te Z H λ_ H1=>D.nx Z H1
def Ea(he:PE X e te)(hs:dE e none pos.line X.env=pure false:=by rfl):PS X (.Expr e pos) (Xad te):=by
 intro pins s Z H D I h;exact wpAny_Expr_any (thn (he pins s Z H _ I h) λv s1 ⟨x,H1,I1,r1,q1⟩=>⟨Z,H1,I1,q1⟩) I.quiet hs
def Xae (te:TE):TS:=λD Z H=>te Z H D.rt
def Aq(he:PE X e te):PS X (.Return (some e) pos) (Xae te):=by
 intro pins s Z H D I h;exact wpAny_Return_some (thn (he pins s Z H _ I h) λv s1 ⟨x,H1,I1,r1,q1⟩=>⟨x, Z,H1,I1,r1,q1⟩)
def Xaf (c:TT) (t u:TS):TS:=λD Z H=>c Z H λb H1=>if b=true then t D Z H1 else u D Z H1
def Bb   (hc:PT X c tc) (ha:PSs X a t) (hb:PSs X b u):PS X (.If c a b pos) (Xaf tc t u):=by
 intro pins s Z H D I h;refine wpAny_If (thn (hc pins s Z H _ I h) λd s1 ⟨H1,I1,q1⟩=>?_);cases d with
 | true=>exact ha pins s1 Z H1 D I1 q1
 | false=>exact hb pins s1 Z H1 D I1 q1
def Xr0:TS:=λ_ _ _=>False
end
abbrev TG:=V->St->Hp->(St->Hp->Prop)->Prop
abbrev TGs:=List V->St->Hp->(St->Hp->Prop)->Prop
def PG (X:Cx) (oj:aE) (t:TG):Prop:=
 ∀pins s Z H (v:V) (u:aa) (Q:St->Hp->Prop),Inv X pins Z H s->Aj v u->t v Z H Q ->
  ai (ag X.prog X.w) X.A (assign oj X.env u) (λ_ s'=>∃Z' H',Inv X pins Z' H' s'/\Q Z' H') X.xe s
def PGs (X:Cx) (ts:List aE) (t:TGs):Prop:=
 ∀pins s Z H (vs:List V) (us:List aa) (Q:St->Hp->Prop),Inv X pins Z H s->Vals vs us->t vs Z H Q ->
  ai (ag X.prog X.w) X.A (assignInOrder ((bB ts X.env).map (·.2)) us) (λ_ s'=>∃Z' H',Inv X pins Z' H' s'/\Q Z' H') X.xe s
abbrev TSet:=V->V->V->Hp->(Hp->Prop)->Prop
def PSet (X:Cx) (t:TSet):Prop:=
 ∀pins s Z H (o i v:V) (ov iv u:aa) (Q:Hp->Prop),Inv X pins Z H s->Aj o ov->Aj i iv->Aj v u->t o i v H Q ->
  ai (ag X.prog X.w) X.A (uY ov iv u) (λ_ s'=>∃H',Inv X pins Z H' s'/\Q H') X.xe s
abbrev TIp:=V->V->Hp->VK->Prop
def PIp (X:Cx) (op:Operator) (t:TIp):Prop:=
 ∀pins s Z H (x y:V) (v u:aa) (Q:VK),Inv X pins Z H s->Aj x v->Aj y u->t x y H Q ->
  ai (ag X.prog X.w) X.A (om op v u) (EP X pins Z Q) X.xe s
section
variable {X:Cx}{pos:bI}
def A7 (i:Nat):TG:=λv Z H Q=>Q (Z.set i (some v)) H
def Ax{i:Nat}(hN:X.N.Nodup)(hi:X.N[i]? = some x)(hx:Loc X.env.scope x)(hf:X.fn x=true\/X.env.scope.names.lookup x=some .local:=by first | exact .inl rfl | exact .inr rfl | assumption):PG X (.Name x pos) (A7 i):=by
 intro pins s Z H v u Q I r h;exact mS (Lb I hN hi hx r (λs' I'=>⟨_,H,I',h⟩) hf)
def Xag:TGs:=λvs Z H Q=>vs=[]/\Q Z H
def Ld (t:TG) (u:TGs):TGs:=λvs Z H Q=>∃v r,vs=v::r/\t v Z H fun Z' H'=>u r Z' H' Q
def F4:PGs X [] Xag:=by
 intro pins s Z H vs us Q I r h;obtain⟨e,h⟩:=h;subst e;cases r;exact assignInOrder_nil ⟨Z,H,I,h⟩
def Ck    (h1:PG X e t) (h2:PGs X es u)
  (hs:(bB (e::es) X.env).map (·.2)=assign e X.env::(bB es X.env).map (·.2):=by rfl):PGs X (e::es) (Ld t u):=by
 intro pins s Z H vs us Q I r h;obtain⟨v,vr,e1,h⟩:=h;subst e1;cases r with
 | cons r rr=>
  rw[hs];refine assignInOrder_cons (thn (h1 pins s Z H _ _ _ I r h) λ_ s1 ⟨Z1,H1,I1,q1⟩=>?_);exact h2 pins s1 Z1 H1 _ _ Q I1 rr q1
def Lf (K:LD) (n:Nat) (t:TGs):TG:=λv Z H Q=>∃a xs,v = .ref a/\SqT K H a xs/\xs.length=n/\t xs Z H Q
def Xah   {n:Nat} (hc:X.calm=true) (h:PGs X es t)
  (hn:(bB es X.env).length=n:=by rfl) (bD:(bB es X.env).findIdx? (·.1)=none:=by rfl):PG X (.Tuple es k pos) (Lf X.K n t):=by
 intro pins s Z H v u Q I r hw;obtain⟨a,xs,e1,hq,hl,hw⟩:=hw;subst e1;cases r;obtain⟨a7,rv,ht,hz⟩:=I.tuple hq;refine assign_Tuple_tuple (I.ok.hd hc) ht (by simp[hn,<-hl,rv.length]) bD λh' hx=>?_;have I1:Inv X pins Z H {s with heap:=h'}:=I.kept (t':=s.toks) λb o e=>hx b o (Oo (Tr e)) e;exact h pins _ Z H xs _ Q I1 (by simpa using rv) hw
def gSub (to ti:TE) (t:TSet):TG:=λv Z H Q=>to Z H λo H1=>ti Z H1 λi H2=>t o i v H2 λH3=>Q Z H3
def Fd   (ho:PE X o to) (hi:PE X i ti) (hs:PSet X t)
  (ha:∀v,assign (.Subscript o i pos) X.env v=(do
   let ov <-holding [v] (eval o X.env)
   let iv <-holding [v,ov] (eval i X.env)
   cQ pos
   holding [v,ov,iv] (uY ov iv v)
   release [v,ov,iv] []):=by intro _;rfl):PG X (.Subscript o i pos) (gSub to ti t):=by
 intro pins s Z H v u Q I r h;rw[ha];refine Te (az (thn (ho pins s Z H _ I h) λov s1 ⟨x,H1,I1,r1,q1⟩=>?_));refine Te (az (thn (hi pins s1 Z H1 _ I1 q1) λiv s2 ⟨y,H2,I2,r2,q2⟩=>?_));refine Te (bd (Te (az (thn (hs pins s2 Z H2 x y v ov iv u _ I2 r1 r2 r q2) λ_ s3 ⟨H3,I3,q3⟩=>?_))));exact wpAny_release ⟨Z,H3,I3,q3⟩
def F5 (te:TE) (g:TG):TS:=λD Z H=>te Z H λx H1=>g x Z H1 D.nx
def Eo   (he:PE X e te) (hg:PG X tg g) (hs:swapsWithSole [tg] e pos.line X.env=pure false:=by rfl) (hw:swappedStores [tg] e X.env=pure none:=by rfl)
  (h1:(bB [tg] X.env).map (·.2)=[assign tg X.env]:=by rfl):PS X (.Assign [tg] e pos) (F5 te g):=by
 intro pins s Z H D I h;refine wpAny_Assign_stores (thn (he pins s Z H _ I h) λv s1 ⟨x,H1,I1,r1,q1⟩=>?_) hs hw;rw[h1];exact thn (hg pins s1 Z H1 x v _ I1 r1 q1) λ_ s2 q=>q
def Ap{i:Nat}    (hN:X.N.Nodup)(hi:X.N[i]? = some x)(hx:Loc X.env.scope x)(he:PE X e te)(hs:dE e (some (.Name x gc)) pos.line X.env=pure false:=by rfl)(hf:X.fn x=true\/X.env.scope.names.lookup x=some .local:=by first | exact .inl rfl | exact .inr rfl | assumption):
  PS X (.Assign [.Name x gc] e pos) (F5 te (A7 i)):=by
 intro pins s Z H D I h;refine wpAny_Assign_Name (thn (he pins s Z H _ I h) λv s1 ⟨y,H1,I1,r1,q1⟩=>?_) hs;exact Lb I1 hN hi hx r1 (λs2 I2=>⟨_,H1,I2,q1⟩) hf
def tPar (i j:Nat) (ta:TA):TS:=λD Z H=>ta Z H λvs H1=>∃v w,vs=[v,w]/\D.nx ((Z.set i (some v)).set j (some w)) H1
def tAug (i:Nat) (te:TE) (ti:TIp):TS:=λD Z H=>∃x, Z[i]? = some (some x)/\te Z H λy H1=>ti x y H1 λz H2=>D.nx (Z.set i (some z)) H2
def Xhl{i:Nat}      (hN:X.N.Nodup)(hi:X.N[i]? = some x)(hx:Loc X.env.scope x)(he:PE X e te)(ho:PIp X op ti)(hf:X.fn x=true\/X.env.scope.names.lookup x=some .local:=by first | exact .inl rfl | exact .inr rfl | assumption):
  PS X (.AugAssign (.Name x gc) op e pos) (tAug i te ti):=by
 intro pins s Z H D I h;obtain⟨v,e1,h⟩:=h;obtain⟨m,hn,hl⟩:=I.loc;have AS:Vis X.env.scope x:=by rcases hx with k | k;exact .inl k;exact .inr (.inl k)
 obtain⟨u,r,l⟩:=hl i x v hi e1 AS;refine wpAny_AugAssign_Name ?_;have go:ai (ag X.prog X.w) X.A (eval e X.env) (λw s₂=>ai (ag X.prog X.w) X.A (om op u w) (λr s₃=>ai (ag X.prog X.w) X.A (oh X.env x r) (λ_=>SP X pins D .next) X.xe s₃) X.xe s₂) X.xe s:=by
  refine thn (he pins s Z H _ I h) λw s1 ⟨y,H1,I1,r1,q1⟩=>?_;refine thn (ho pins s1 Z H1 v y u w _ I1 r r1 q1) λz s2 ⟨zv,H2,I2,r2,q2⟩=>?_;exact Lb I2 hN hi hx r2 (λs3 I3=>⟨_,H2,I3,q2⟩) hf
 rcases l with ⟨hk,hm⟩ | ⟨hk,c,hc,eB⟩
 ·exact jL I.ok.kind hk hn hm go
 ·rcases hk with hk | hk
  ·exact lg I.ok.kind hk hc eB go
  ·rcases hx with k | k
   ·have:X.env.scope.names.lookup x=some .free:=hk;rw[k] at this;cases this
   ·have:X.env.scope.names.lookup x=some .free:=hk;rw[k] at this;cases this
def tAugS (to ti te:TE) (uZ:V->V->Hp->VK->Prop) (AT:TIp) (va:TSet):TS:=λD Z H=>to Z H λo H1=>ti Z H1 λi H2=>uZ o i H2 λx H3=>te Z H3 λy H4=>AT x y H4 λz H5=>va o i z H5 λH6=>D.nx Z H6
def PGet (X:Cx) (t:V->V->Hp->VK->Prop):Prop:=
 ∀pins s Z H (o i:V) (ov iv:aa) (Q:VK),Inv X pins Z H s->Aj o ov->Aj i iv->t o i H Q ->
  ai (ag X.prog X.w) X.A (bU ov iv) (EP X pins Z Q) X.xe s
def ipI (f:Int->Int->Int):TIp:=λx y H Q=>∃i j,x = .int i/\y = .int j/\Q (.int (f i j)) H
def Xhm:PIp X .Sub (ipI λi j=>i - j):=by
 intro pins s Z H x y v u Q I r1 r2 h;obtain⟨i,j,e1,e2,q⟩:=h;subst e1;subst e2;obtain⟨t,rfl⟩:=r1;obtain⟨t',rfl⟩:=r2;exact isub_int ⟨.int _,H,I.tok _,⟨_,rfl⟩,q⟩
end
section
variable {X:Cx}{pos:bI}
def Xhn (c:TT) (tb:TS):TS:=λD Z H=>∃W:Nat->St->Hp->Prop,(∃m,W m Z H)/\∀m Z H,W m Z H ->
 c Z H λb H1=>if b=true then ∃N:St->Hp->Prop,(∀Z' H',N Z' H'->∃m',m'<m/\W m' Z' H')/\tb {D with nx:=N,ct:=N,bk:=D.nx} Z H1 else D.nx Z H1
def Xho    (hp:aT (ag X.prog X.w) X.A X.env X.xe) (hc:PT X c tc) (hb:PSs X body tb):PS X (.While c body [] pos) (Xhn tc tb):=by
 intro pins s Z H D I h;obtain⟨W,⟨m0,w0⟩,turn⟩:=h;refine wpAny_While (codeAny_whileLoop (λn s'=>∃Z' H',Inv X pins Z' H' s'/\W n Z' H') ?_ m0 ⟨Z,H,I,w0⟩);rintro n s1 ⟨Z1,H1,I1,w1⟩;refine bF hp (thn (hc pins s1 Z1 H1 _ I1 (turn n Z1 H1 w1)) λb s2 ⟨H2,I2,q2⟩=>?_);cases b with
 | true=>
  obtain⟨N,hN,q2⟩:=q2;rw[Tk rfl];refine bF hp (thn (hb pins s2 Z1 H2 _ I2 q2) λf s3 q3=>?_);cases f with
  | next=>
   obtain⟨Z3,H3,I3,n3⟩:=q3;obtain⟨m',hm,w3⟩:=hN Z3 H3 n3;exact⟨m',hm, Z3,H3,I3,w3⟩
  | cont=>
   obtain⟨Z3,H3,I3,n3⟩:=q3;obtain⟨m',hm,w3⟩:=hN Z3 H3 n3;exact⟨m',hm, Z3,H3,I3,w3⟩
  | brk=>exact q3
  | ret v=>exact q3
 | false=>
  rw[Tj Ow];exact cu ⟨Z1,H2,I2,q2⟩
end
structure It where
 go:Nat->Hp->Prop
 yld:Nat->Hp->V->Hp->Prop
 stop:Nat->Hp->Prop
def FpOk (X:Cx) (pins:List (ae×aK)) (H:Hp) (b:ae):Prop:=
 H b=none/\b≠X.env.locals/\b∉X.fs/\(b∈X.ex\/X.s₀.heap.objs.size<=b)/\(∀x c,X.env.cells.lookup x=some c->c≠b)/\∀p∈X.pn++pins,p.1≠b
def Inv.fpOk      (I:Inv X pins Z H s) (hb:s.heap.objs.size<=b) (hn:H' b=none):FpOk X pins H' b:=by
 refine⟨hn,Sf (O4 I.lt hb),I.nofs hb,.inr (Pj I.sz hb),λx c e z=>?_,λp hp z=>?_⟩
 ·obtain⟨v,q⟩:=I.cell x c e;exact absurd (O4 q.lt (by rw[z];exact hb)) (Pz _)
 ·exact absurd (O4 (Tr (I.pin p hp).1) (by rw[z];exact hb)) (Pz _)
structure Turn (P:ao) (w:aw) (K:LD) (tg:aE) (J:It) (fp:List ae) (it:ae) (tn:Nat->am->Prop):Prop where
 mem:it∈fp
 obj:∀i h,tn i h->∀b∈fp,∃o,h.get? b=some o/\∀v,o.data ≠ .cell v
 keep:∀i h h',tn i h->(∀b∈fp,∀o,h.get? b=some o->h'.get? b=some o)->tn i h'
 item:∀(X:Cx),X.prog=P->X.w=w->X.K=K->X.calm=true->∀(i:Nat) (pins:List (ae×aK)) (s:af) (Z:St) (H:Hp) (E:Zb),Inv X pins Z H s->(∀b∈fp,FpOk X pins H b)->tn i s.heap->J.go i H ->
  ai (ag P w) X.A (dR (.ref it)) (λr s1=>∃u,r=some u /\
   ai (ag P w) X.A (cw tg (.ref it) u) (λ_ s2=>∃x H',Inv X pins Z H' s2/\Aj x u/\J.yld i H x H'/\tn (i+1) s2.heap/\∀b∈fp,H' b=none) E s1) E s
 done:∀(X:Cx),X.prog=P->X.w=w->X.K=K->X.calm=true->∀(i:Nat) (pins:List (ae×aK)) (s:af) (Z:St) (H:Hp) (E:Zb),Inv X pins Z H s->(∀b∈fp,FpOk X pins H b)->tn i s.heap->J.stop i H ->
  ai (ag P w) X.A (dR (.ref it)) (λr s1=>r=none/\Inv X pins Z H s1) E s
 self:∀(A:av) (i:Nat) (s:af) (Q:Zb) (E:Zb),tn i s.heap->Q (.ref it) s->ai (ag P w) A (gf (.ref it)) Q E s
abbrev TI:=St->Hp->(It->Hp->Prop)->Prop
def PIE (X:Cx) (pins:List (ae×aK)) (Z:St) (tg:aE) (R:It->Hp->Prop) (mT:aa) (s2:af):Prop:=
 ∃(it:ae) (fp:List ae) (tn:Nat->am->Prop) (J:It) (H':Hp),mT = .ref it/\Inv X pins Z H' s2/\Turn X.prog X.w X.K tg J fp it tn/\tn 0 s2.heap/\(∀b∈fp,FpOk X pins H' b)/\R J H'
def PI (X:Cx) (tg iter:aE) (wi:TI):Prop:=
 ∀pins s Z H (R:It->Hp->Prop),Inv X pins Z H s->wi Z H R ->
  ai (ag X.prog X.w) X.A (eval iter X.env) (λv s1=>ai (ag X.prog X.w) X.A (gf v) (PIE X pins Z tg R) X.xe s1) X.xe s
def Jg    {s}     {n}  (ho:s.heap.get? it=some o) (hc:o.cls = .type n) (hd:o.data = .fields vs)
    (hn:["enumerate", "zip", "dict_itemiterator", "dict_reverseitemiterator", "odict_iterator", "itertools.zip_longest", "itertools.pairwise"].contains n=false) (hQ:Q () s):ai M A (cw tg (.ref it) u) Q E s:=by
  unfold cw;cases tg<;>first
    | exact Tf hQ
    | (cases u<;>first
        | exact Tf hQ
        | (refine Te (lA ho ?_)
           rw[hc,hd];show ai M A (if (["enumerate", "zip", "dict_itemiterator", "dict_reverseitemiterator", "odict_iterator", "itertools.zip_longest", "itertools.pairwise"].contains n&&vs[0]? == some (aW _))=true then _ else _) Q E s;rw[Tj (by intro h;rw[hn,P6] at h;cases h)];exact Tf hQ))
def Itl (K:LD) (a:ae):It:=
 ⟨λi H=>∃xs x,SqL K H a xs/\xs[i]? = some x,λi H x H'=>H'=H/\∀xs,SqL K H a xs->xs[i]? = some x,λi H=>∃xs,SqL K H a xs/\xs.length<=i⟩
def Itt (K:LD) (a:ae):It:=
 ⟨λi H=>∃xs x,SqT K H a xs/\xs[i]? = some x,λi H x H'=>H'=H/\∀xs,SqT K H a xs->xs[i]? = some x,λi H=>∃xs,SqT K H a xs/\xs.length<=i⟩
def Itr (lo:Int) (n:Nat):It:=⟨λi _=>i<n,λi H x H'=>H'=H/\x = .int (lo+i),λi _=>n<=i⟩
def Xhp{P:ao}{w:aw}{K:LD}{tg:aE}(a it:ae):Turn P w K tg (Itl K a) [it] it (λi h=>h.IsListIter it a i) where
 mem:=by simp
 obj:=λi h st b hb=>by
  have e:b=it:=by simpa using hb
  subst e;obtain⟨o,e,c,d⟩:=st;exact⟨o,e,λv z=>by rw[d] at z;cases z⟩
 keep:=λi h h' st k=>st.at λo e=>k it (by simp) o e
 item:=by
  intro X hP hw hK hc i pins s Z H E I hf st hg;subst hP hw hK;obtain⟨xs,x,hq,hx⟩:=hg;obtain⟨a7,rv,p,hz⟩:=I.list hq;obtain⟨u,hu,ru⟩:=rv.get hx;obtain⟨f0,f1,f2,f3,f4,f5⟩:=hf it (by simp);refine wpAny_pyNext_list_item st p.isList (x:=u) (by simpa using hu) λh' a8 sb=>?_;have I1:Inv X pins Z H {s with heap:=h'}:=I.turned (t':=s.toks) (λb o hb e=>(sb.2 b hb).trans e) f0 f1 f3 f4 f5;obtain⟨o,e,c,d⟩:=id a8;exact⟨u,rfl,Jg (s:={s with heap:=h'}) e c d (by decide) ⟨x,H,I1,ru,⟨rfl,λys hy=>by rw[I.list_inj hy hq];exact hx⟩,a8,λb hb=>(hf b hb).1⟩⟩
 done:=by
  intro X hP hw hK hc i pins s Z H E I hf st hg;subst hP hw hK;obtain⟨xs,hq,hx⟩:=hg;obtain⟨a7,rv,p,hz⟩:=I.list hq;obtain⟨f0,f1,f2,f3,f4,f5⟩:=hf it (by simp);have hl:=rv.length;exact wpAny_pyNext_list_end (I.ok.hd hc) st p.isList (by simp;lia) λh' eb=>⟨rfl,I.turned (t':=s.toks) (λb o hb e=>eb b o hb e) f0 f1 f3 f4 f5⟩
 self:=λ_ _ _ _ _ st h=>wpAny_pyIter_listiter st h
def Xhq{P:ao}{w:aw}{K:LD}{tg:aE}(a it:ae):Turn P w K tg (Itt K a) [it] it (λi h=>h.IsTupleIter it a i) where
 mem:=by simp
 obj:=λi h st b hb=>by
  have e:b=it:=by simpa using hb
  subst e;obtain⟨o,e,c,d⟩:=st;exact⟨o,e,λv z=>by rw[d] at z;cases z⟩
 keep:=λi h h' st k=>st.at λo e=>k it (by simp) o e
 item:=by
  intro X hP hw hK hc i pins s Z H E I hf st hg;subst hP hw hK;obtain⟨xs,x,hq,hx⟩:=hg;obtain⟨a7,rv,p,hz⟩:=I.tuple hq;obtain⟨u,hu,ru⟩:=rv.get hx;obtain⟨f0,f1,f2,f3,f4,f5⟩:=hf it (by simp);refine wpAny_pyNext_tuple_item st (show s.heap.IsTuple a a7.toArray from p) (x:=u) (by simpa using hu) λh' a8 sb=>?_;have I1:Inv X pins Z H {s with heap:=h'}:=I.turned (t':=s.toks) (λb o hb e=>(sb.2 b hb).trans e) f0 f1 f3 f4 f5;obtain⟨o,e,c,d⟩:=id a8;exact⟨u,rfl,Jg (s:={s with heap:=h'}) e c d (by decide) ⟨x,H,I1,ru,⟨rfl,λys hy=>by rw[I.tuple_inj hy hq];exact hx⟩,a8,λb hb=>(hf b hb).1⟩⟩
 done:=by
  intro X hP hw hK hc i pins s Z H E I hf st hg;subst hP hw hK;obtain⟨xs,hq,hx⟩:=hg;obtain⟨a7,rv,p,hz⟩:=I.tuple hq;obtain⟨f0,f1,f2,f3,f4,f5⟩:=hf it (by simp);have hl:=rv.length;exact wpAny_pyNext_tuple_end (I.ok.hd hc) st (show s.heap.IsTuple a a7.toArray from p) (by simp;lia) λh' eb=>⟨rfl,I.turned (t':=s.toks) (λb o hb e=>eb b o hb e) f0 f1 f3 f4 f5⟩
 self:=λ_ _ _ _ _ st h=>wpAny_pyIter_tupleiter st h
def Xhr{P:ao}{w:aw}{K:LD}{tg:aE}(it:ae)(lo:Int)(n:Nat):Turn P w K tg (Itr lo n) [it] it (λi h=>y1 h it (lo+(i:Nat) * 1) ((n:Int) - (i:Nat)) 1) where
 mem:=by simp
 obj:=λi h st b hb=>by
  have e:b=it:=by simpa using hb
  subst e;exact⟨_,st,λv z=>by
   have z':vb.fields _=vb.cell v:=z;cases z'⟩
 keep:=λi h h' st k=>k it (by simp) _ st
 item:=by
  intro X hP hw hK hc i pins s Z H E I hf st hg;subst hP hw hK;obtain⟨f0,f1,f2,f3,f4,f5⟩:=hf it (by simp);have W:=mU.range (prog:=X.prog) (w:=X.w) (I.ok.hd hc) it lo 1 n;refine W.item i s _ _ hg st λv h' tk hv a8 kk=>?_;obtain⟨t,rfl⟩:=hv;have I1:Inv X pins Z H {s with heap:=h',toks:=tk}:=I.turned (λb o hb e=>kk b o (by simpa using hb) e) f0 f1 f3 f4 f5;refine⟨_,rfl,Jg (s:={s with heap:=h',toks:=tk}) (n := "range_iterator") a8 rfl rfl (by decide) ⟨.int (lo+i),H,I1,⟨t,?_⟩,⟨rfl,rfl⟩,a8,λb hb=>(hf b hb).1⟩⟩;rw[Int.mul_one]
 done:=by
  intro X hP hw hK hc i pins s Z H E I hf st hg;subst hP hw hK;obtain⟨f0,f1,f2,f3,f4,f5⟩:=hf it (by simp);exact wpAny_pyNext_range_end (I.ok.hd hc) st (by have:n<=i:=hg;lia) λh' eb=>⟨rfl,I.turned (t':=s.toks) (λb o hb e=>eb b o hb e) f0 f1 f3 f4 f5⟩
 self:=λ_ _ _ _ _ st h=>wpAny_pyIter_rangeiter st h
section
variable {X:Cx}{tg:aE}
def Xhs (K:LD) (tl:TE):TI:=fun Z H R=>tl Z H λx H1=>∃a,x = .ref a/\(∃xs,SqL K H1 a xs)/\R (Itl K a) H1
def iTup (K:LD) (tl:TE):TI:=fun Z H R=>tl Z H λx H1=>∃a,x = .ref a/\(∃xs,SqT K H1 a xs)/\R (Itt K a) H1
def Bp  (hl:PE X l tl):PI X tg l (Xhs X.K tl):=by
 intro pins s Z H R I h;refine thn (hl pins s Z H _ I h) λv s1 ⟨x,H1,I1,r1,q1⟩=>?_;obtain⟨a,e,⟨xs,hq⟩,q⟩:=q1;subst e;cases r1;obtain⟨a7,rv,p,hz⟩:=I1.list hq;refine cD p.isList ?_;refine⟨s1.heap.objs.size,[s1.heap.objs.size],_,_,H1,rfl,I1.kept (t':=s1.toks) λb o e=>Tt _ e,Xhp a _,⟨_,am.get?_push_size _ rfl,rfl,rfl⟩,λb hb=>?_,q⟩;have e:b=s1.heap.objs.size:=by simpa using hb
 subst e;exact I1.fpOk (Og _) (I1.hok.fresh (Og _))
def G3  (hl:PE X l tl):PI X tg l (iTup X.K tl):=by
 intro pins s Z H R I h;refine thn (hl pins s Z H _ I h) λv s1 ⟨x,H1,I1,r1,q1⟩=>?_;obtain⟨a,e,⟨xs,hq⟩,q⟩:=q1;subst e;cases r1;obtain⟨a7,rv,p,hz⟩:=I1.tuple hq;refine lB (show s1.heap.IsTuple a a7.toArray from p) ?_;refine⟨s1.heap.objs.size,[s1.heap.objs.size],_,_,H1,rfl,I1.kept (t':=s1.toks) λb o e=>Tt _ e,Xhq a _,⟨_,am.get?_push_size _ rfl,rfl,rfl⟩,λb hb=>?_,q⟩;have e:b=s1.heap.objs.size:=by simpa using hb
 subst e;exact I1.fpOk (Og _) (I1.hok.fresh (Og _))
def Xht       {lo hi}  (I:Inv X pins Z H s) (h1 : -(2 ^ 62)<=lo) (h2:lo<2 ^ 62) (h3 : -(2 ^ 62)<=hi) (h4:hi<2 ^ 62)
  (q:R (Itr lo (hi - lo).toNat) H):ai (ag X.prog X.w) X.A (gf (.ref s.heap.objs.size)) (PIE X pins Z tg R) E {s with heap:=s.heap.push {cls:=.type "range",data:=.fields #[.int lo t,.int hi u,.int 1 v]},toks:=tk}:=by
 refine wpAny_pyIter_range (IsRange.new ..) (small_one h1 h2 h3 h4) ?_;have I1:Inv X pins Z H {s with heap:=s.heap.push {cls:=.type "range",data:=.fields #[.int lo t,.int hi u,.int 1 v]},toks:=tk}:=I.kept λb o e=>Tt _ e;refine⟨(s.heap.push {cls:=.type "range",data:=.fields #[.int lo t,.int hi u,.int 1 v]}).objs.size,[(s.heap.push {cls:=.type "range",data:=.fields #[.int lo t,.int hi u,.int 1 v]}).objs.size],_,_,H,rfl,
  I1.kept (t':=tk) λb o e=>Tt _ e,Xhr _ lo (hi - lo).toNat,?_,λb hb=>?_,q⟩
 ·have e1:lo+((0:Nat):Int) * 1=lo:=by simp
  have e2:(((hi - lo).toNat:Nat):Int) - ((0:Nat):Int)=aj.Range.rangeSize lo hi 1:=by rw[rangeSize_one];split<;>lia
  show y1 _ _ (lo+((0:Nat):Int) * 1) ((((hi - lo).toNat:Nat):Int) - ((0:Nat):Int)) 1;rw[e1,e2];exact am.get?_push_size _ rfl
 ·have e:b=(s.heap.push {cls:=.type "range",data:=.fields #[.int lo t,.int hi u,.int 1 v]}).objs.size:=by simpa using hb
  subst e;exact I1.fpOk (Og _) (I1.hok.fresh (Og _))
def Xhu (ta:TA):TI:=fun Z H R=>ta Z H λvs H1=>∃j:Int,vs=[.int j] /\ -(2 ^ 62)<=j/\j<2 ^ 62/\R (Itr 0 j.toNat) H1
def Jh   (hg:Gl X "range") (hm:X.mg "range" = none) (ha:PA X [a] ta) (hs:aA [a] X.env=[(false,eval a X.env)]:=by rfl):PI X tg (.Call (.Name "range" p) [a] [] pos) (Xhu ta):=by
 intro pins s Z H R I h;refine Call_ (E9 I hg hm boot_range (PyProof.Rows.callWith_type1 (thn (ha pos pins s Z H _ I h) λus s1 ⟨vs,H1,I1,r1,q1⟩=>?_) hs rfl));obtain⟨j,e,q1,q2,q⟩:=q1;subst e;cases r1 with
 | cons r rr=>
  cases rr;obtain⟨t,rfl⟩:=r;exact call_range_1 (Xht I1 (by lia) (by lia) q1 q2 (by simpa using q))
def tFor (wi:TI) (g:TG) (tb:TS):TS:=λD Z H=>wi Z H λJ H1=>∃W:Nat->Nat->St->Hp->Prop,(∃m,W 0 m Z H1)/\∀i m Z H,W i m Z H ->
 (J.stop i H/\D.nx Z H)\/(J.go i H/\∃N:St->Hp->Prop,(∀Z' H',N Z' H'->∃m',m'<m/\W (i+1) m' Z' H')/\∀x H',J.yld i H x H'->g x Z H' fun Z2 H2=>tb {D with nx:=N,ct:=N,bk:=D.nx} Z2 H2)
def G4 (fp:List ae) (h:am):List (ae×aK):=fp.filterMap λb=>(h.get? b).map λo=>(b,o)
def Ji    (hb:b∈fp) (e:h.get? b=some o):(b,o)∈G4 fp h:=Sq.mpr ⟨b,hb,by rw[e];rfl⟩
def Xhv   (hp:p∈G4 fp h):p.1∈fp/\h.get? p.1=some p.2:=by
 obtain⟨b,hb,e⟩:=Sq.mp hp;cases q:h.get? b with
 | none=>rw[q] at e;cases e
 | some o=>
  rw[q] at e;have e':(b,o)=p:=Ox e;subst e';exact⟨hb,q⟩
def Inv.pinned     (I:Inv X pins Z H s) (hf:∀b∈fp,FpOk X pins H b) (ho:∀b∈fp,∃o,s.heap.get? b=some o/\∀v,o.data ≠ .cell v):Inv X (pins++G4 fp s.heap) Z H s:=
 I.pins_of λp hp=>(Oq.mp hp).elim (λz=>I.pin p (O9 _ z)) λz=>by
  obtain⟨hb,e⟩:=Xhv z;obtain⟨f0,f1,f2,_⟩:=hf p.1 hb;obtain⟨o,e',d⟩:=ho p.1 hb;rw[e] at e';cases e';exact⟨e,f0,f1,f2,d⟩
def Inv.unpinned    (I:Inv X (pins++pl) Z H s):Inv X pins Z H s:=I.pins_of λp hp=>I.pin p (O9 _ (Qa _ hp))
def Ca      (hp:aT (ag X.prog X.w) X.A X.env X.xe) (hc:X.calm=true) (hi:PI X tg iter wi) (hg:PG X tg g) (hb:PSs X body tb)
  (hs:∀x,aG iter X.env x=pure x:=by intro _;rfl):PS X (.For tg iter body [] pos) (tFor wi g tb):=by
 intro pins s Z H D I h;refine wpAny_For (thn (hi pins s Z H _ I h) λv s1 h1=>thn h1 λmT s2 h2=>?_) hs;obtain⟨it,fp,tn,J,H2,e,I2,T,du,f2,W,⟨m0,w0⟩,turn⟩:=h2;subst e;have ie:∀{H':Hp},(∀b∈fp,H' b=none)->∀b∈fp,FpOk X pins H' b:=λhn b hb=>⟨hn b hb,(f2 b hb).2⟩;refine codeAny_forLoop_any (λn s'=>∃i Z' H',Inv X pins Z' H' s'/\tn i s'.heap/\(∀b∈fp,H' b=none)/\W i n Z' H') ?_ m0 ⟨0, Z,H2,I2,du,λb hb=>(f2 b hb).1,w0⟩;rintro n s3 ⟨i, Z3,H3,I3,qf,y3,w3⟩;rcases turn i n Z3 H3 w3 with ⟨stop,qn⟩ | ⟨go,N,hN,step⟩
 ·refine bF hp (thn (T.done X rfl rfl rfl hc i pins s3 Z3 H3 X.xe I3 (ie y3) qf stop) λr s4 ⟨hr,I4⟩=>?_);subst hr;exact cu ⟨Z3,H3,I4,qn⟩
 ·refine bF hp (thn (T.item X rfl rfl rfl hc i pins s3 Z3 H3 X.xe I3 (ie y3) qf go) λr s4 ⟨u,hr,h4⟩=>?_);subst hr;refine bF hp (thn h4 λ_ s5 ⟨x,H5,I5,r5,y5,on,vc⟩=>?_);have vd:=I5.pinned (ie vc) (T.obj _ _ on);refine bF hp (thn (hg _ s5 Z3 H5 x u _ vd r5 (step x H5 y5)) λ_ s6 ⟨Z6,H6,I6,q6⟩=>?_);refine bF hp (thn (hb _ s6 Z6 H6 _ I6 q6) λf s7 q7=>?_);have again:∀{Z7:St} {H7:Hp},Inv X (pins++G4 fp s5.heap) Z7 H7 s7->N Z7 H7->∃m,m<n/\∃i Z' H',Inv X pins Z' H' s7/\tn i s7.heap/\(∀b∈fp,H' b=none)/\W i m Z' H':=λ{Z7 H7} I7 n7=>by
   obtain⟨m',hm,w7⟩:=hN Z7 H7 n7;refine⟨m',hm,i+1, Z7,H7,I7.unpinned,T.keep _ _ _ on λb hb o e=>(I7.pin (b,o) (O9 _ (O9 _ (Ji hb e)))).1,λb hb=>?_,w7⟩;obtain⟨o,e,d⟩:=T.obj _ _ on b hb;exact(I7.pin (b,o) (O9 _ (O9 _ (Ji hb e)))).2.1
  cases f with
  | next=>obtain⟨Z7,H7,I7,n7⟩:=q7;exact again I7 n7
  | cont=>obtain⟨Z7,H7,I7,n7⟩:=q7;exact again I7 n7
  | brk=>obtain⟨Z7,H7,I7,q7⟩:=q7;exact⟨Z7,H7,I7.unpinned,q7⟩
  | ret v=>obtain⟨x7, Z7,H7,I7,r7,q7⟩:=q7;exact⟨x7, Z7,H7,I7.unpinned,r7,q7⟩
end
def Dh{K}{a}{xs}{g:TG}{tb:TS}{D:Ends}  (Pv:Nat->St->Hp->Prop)(h0:Pv 0 Z H)(hl:∀i Z H,i<=xs.length->Pv i Z H->SqL K H a xs)
  (hs:∀i x Z H,xs[i]? = some x->Pv i Z H->g x Z H fun Z2 H2=>tb {D with nx:=Pv (i+1),ct:=Pv (i+1),bk:=D.nx} Z2 H2) (hd:∀Z H,Pv xs.length Z H->D.nx Z H):
  ∃W:Nat->Nat->St->Hp->Prop,(∃m,W 0 m Z H)/\∀i m Z H,W i m Z H ->
   ((Itl K a).stop i H/\D.nx Z H)\/((Itl K a).go i H/\∃N:St->Hp->Prop,(∀Z' H',N Z' H'->∃m',m'<m/\W (i+1) m' Z' H')/\∀x H',(Itl K a).yld i H x H'->g x Z H' fun Z2 H2=>tb {D with nx:=N,ct:=N,bk:=D.nx} Z2 H2):=by
 refine⟨λi m Z H=>m=xs.length - i/\i<=xs.length/\Pv i Z H,⟨xs.length,by simp,Pf _,h0⟩,?_⟩;rintro i m Z H ⟨rfl,hi,p⟩;have q:=hl i Z H hi p;by_cases aZ:i<xs.length
 ·refine .inr ⟨⟨xs,xs[i],q,by simp[aZ]⟩,Pv (i+1),fun Z' H' p'=>⟨xs.length - (i+1),by lia,rfl,aZ,p'⟩,λx H' y=>?_⟩;obtain⟨e,y⟩:=y;subst e;exact hs i x Z _ (y xs q) p
 ·have e:i=xs.length:=by lia
  subst e;exact .inl ⟨⟨xs,q,Og _⟩,hd Z H p⟩
def Jj{lo}{n}{g:TG}{tb:TS}{D:Ends}  (Pv:Nat->St->Hp->Prop)(h0:Pv 0 Z H)
  (hs:∀i Z H,i<n->Pv i Z H->g (.int (lo+i)) Z H fun Z2 H2=>tb {D with nx:=Pv (i+1),ct:=Pv (i+1),bk:=D.nx} Z2 H2) (hd:∀Z H,Pv n Z H->D.nx Z H):
  ∃W:Nat->Nat->St->Hp->Prop,(∃m,W 0 m Z H)/\∀i m Z H,W i m Z H ->
   ((Itr lo n).stop i H/\D.nx Z H)\/((Itr lo n).go i H/\∃N:St->Hp->Prop,(∀Z' H',N Z' H'->∃m',m'<m/\W (i+1) m' Z' H')/\∀x H',(Itr lo n).yld i H x H'->g x Z H' fun Z2 H2=>tb {D with nx:=N,ct:=N,bk:=D.nx} Z2 H2):=by
 refine⟨λi m Z H=>m=n - i/\i<=n/\Pv i Z H,⟨n,by simp,Pf _,h0⟩,?_⟩;rintro i m Z H ⟨rfl,hi,p⟩;by_cases aZ:i<n
 ·refine .inr ⟨aZ,Pv (i+1),fun Z' H' p'=>⟨n - (i+1),by lia,rfl,aZ,p'⟩,λx H' y=>?_⟩;obtain⟨e,y⟩:=y;subst e y;exact hs i Z _ aZ p
 ·have e:i=n:=by lia
  subst e;exact .inl ⟨Og _,hd Z H p⟩
abbrev R2:=V->V->Hp->VK->Prop
def OpR (X:Cx) (f:aa->aa->fJ aa) (r:R2):Prop:=
 ∀pins s Z H (x y:V) (v u:aa) (Q:VK),Inv X pins Z H s->Aj x v->Aj y u->r x y H Q ->
  ai (ag X.prog X.w) X.A (f v u) (EP X pins Z Q) X.xe s
def UnR (X:Cx) (f:aa->fJ aa) (r:V->Hp->VK->Prop):Prop:=
 ∀pins s Z H (x:V) (v:aa) (Q:VK),Inv X pins Z H s->Aj x v->r x H Q ->
  ai (ag X.prog X.w) X.A (f v) (EP X pins Z Q) X.xe s
def Bv (X:Cx) (f:aa) (r:List V->Hp->VK->Prop):Prop:=
 ∀pins s Z H (xs:List V) (us:List aa) (Q:VK),Inv X pins Z H s->Vals xs us->r xs H Q ->
  ai (ag X.prog X.w) X.A (call f us) (EP X pins Z Q) X.xe s
def TruR (X:Cx) (r:V->Hp->(Bool->Hp->Prop)->Prop):Prop:=
 ∀pins s Z H (x:V) (v:aa) (Q:Bool->Hp->Prop),Inv X pins Z H s->Aj x v->r x H Q ->
  ai (ag X.prog X.w) X.A (truthy v) (TP X pins Z Q) X.xe s
def tOp (r:R2) (ta tb:TE):TE:=fun Z H Q=>ta Z H λx H1=>tb Z H1 λy H2=>r x y H2 Q
def tUn (r:V->Hp->VK->Prop) (ta:TE):TE:=fun Z H Q=>ta Z H λx H1=>r x H1 Q
def rI (C:Int->Int->Prop) (g:Int->Int->V):R2:=λx y H Q=>∃i j,x = .int i/\y = .int j/\C i j/\Q (g i j) H
def rI0 (g:Int->Int->V):R2:=λx y H Q=>∃i j,x = .int i/\y = .int j/\Q (g i j) H
def rU (g:Int->V):V->Hp->VK->Prop:=λx H Q=>∃i,x = .int i/\Q (g i) H
section
variable {X:Cx}{a b c:aE}{ta tb tc:TE}{pos:bI}
def binT(ha:PE X a ta)(hb:PE X b tb)     {R:V->V->Hp->Prop}(I:Inv X pins Z H s)
  (h:ta Z H λx H1=>tb Z H1 λy H2=>R x y H2) {f:aa->aa->fJ aa}
  (hf:∀v u s2 x y H2,Inv X pins Z H2 s2->Aj x v->Aj y u->R x y H2->ai (ag X.prog X.w) X.A (f v u) Q X.xe s2):
  ai (ag X.prog X.w) X.A (eval a X.env) (λv s₁=>ai (ag X.prog X.w) X.A (eval b X.env) (λu s₂=>ai (ag X.prog X.w) X.A (f v u) Q X.xe s₂) X.xe s₁) X.xe s:=by
 refine thn (ha pins s Z H _ I h) λv s1 ⟨x,H1,I1,r1,q1⟩=>?_;refine thn (hb pins s1 Z H1 _ I1 q1) λu s2 ⟨y,H2,I2,r2,q2⟩=>?_;exact hf v u s2 x y H2 I2 r1 r2 q2
def Ar  (ho:OpR X (bh op) r) (ha:PE X a ta) (hb:PE X b tb):PE X (.BinOp a op b pos) (tOp r ta tb):=by
 intro pins s Z H Q I h;exact wpAny_BinOp (binT ha hb I h λv u s2 x y H2 I2 rx ry q=>ho pins s2 Z H2 x y v u Q I2 rx ry q)
def Xai  (ho:UnR X (unaryOp op) r) (ha:PE X a ta):PE X (.UnaryOp op a pos) (tUn r ta):=by
 intro pins s Z H Q I h;exact UnaryOp_ (thn (ha pins s Z H _ I h) λv s1 ⟨x,H1,I1,r1,q1⟩=>ho pins s1 Z H1 x v Q I1 r1 q1)
def opI  {g:Int->Int->Int}
  (rule:∀(i j:Int) (t u:Tok) (s:af) (Q:Zb) (E:Zb),C i j->Q (.int (g i j) s.toks) {s with toks:=s.toks+1}->ai (ag X.prog X.w) X.A (f (.int i t) (.int j u)) Q E s):
  OpR X f (rI C λi j=>.int (g i j)):=by
 intro pins s Z H x y v u Q I rx ry h;obtain⟨i,j,rfl,rfl,hc,q⟩:=h;obtain⟨t,rfl⟩:=rx;obtain⟨t',rfl⟩:=ry;exact rule i j t t' s _ _ hc ⟨.int (g i j),H,I.tok _,⟨_,rfl⟩,q⟩
def Xaj{g:Int->Int->Int}
  (rule:∀(i j:Int) (t u:Tok) (s:af) (Q:Zb) (E:Zb),Q (.int (g i j) s.toks) {s with toks:=s.toks+1}->ai (ag X.prog X.w) X.A (f (.int i t) (.int j u)) Q E s):
  OpR X f (rI0 λi j=>.int (g i j)):=by
 intro pins s Z H x y v u Q I rx ry h;obtain⟨i,j,rfl,rfl,q⟩:=h;obtain⟨t,rfl⟩:=rx;obtain⟨t',rfl⟩:=ry;exact rule i j t t' s _ _ ⟨.int (g i j),H,I.tok _,⟨_,rfl⟩,q⟩
def Jk{g:Int->Int->Bool}
  (rule:∀(i j:Int) (t u:Tok) (s:af) (Q:Zb) (E:Zb),Q (.bool (g i j)) s->ai (ag X.prog X.w) X.A (f (.int i t) (.int j u)) Q E s):
  OpR X f (rI0 λi j=>.bl (g i j)):=by
 intro pins s Z H x y v u Q I rx ry h;obtain⟨i,j,rfl,rfl,q⟩:=h;obtain⟨t,rfl⟩:=rx;obtain⟨t',rfl⟩:=ry;exact rule i j t t' s _ _ ⟨.bl (g i j),H,I,rfl,q⟩
def CDiv (i j:Int):Prop:=0<j/\j<1073741824
def CPow (i j:Int):Prop:=0<=j/\j<=1000000/\i.natAbs<2 ^ 64
def CMul (i j:Int):Prop:=(-(2 ^ 64)<i/\i<2 ^ 64)\/(-(2 ^ 64)<j/\j<2 ^ 64)
def CMul.ok(h:CMul i j):IntMulOk i j:=by
 rcases h with ⟨h1,h2⟩ | ⟨h1,h2⟩
 ·exact .of_left (ug h1 h2)
 ·exact .of_right (ug h1 h2)
def Cb:OpR X (bh .Add) (rI0 λi j=>.int (i+j)):=Xaj λ_ _ _ _ _ _ _ q=>add_int q
def Xhw:OpR X (bh .Sub) (rI0 λi j=>.int (i - j)):=Xaj λ_ _ _ _ _ _ _ q=>sub_int q
def Xak:OpR X (bh .Mult) (rI CMul λi j=>.int (i * j)):=opI λ_ _ _ _ _ _ _ hc q=>mul_int q hc.ok
def Xal:OpR X (bh .FloorDiv) (rI CDiv λi j=>.int (i / j)):=opI λi j _ _ _ _ _ hc q=>by
 have h1:(0:Int)<j:=hc.1;have h2:j<1073741824:=hc.2;exact floordiv_int (by lia) (by rw[Int.fdiv_eq_ediv_of_nonneg i (by lia)];exact q) (.inl (PyProof.noPylong_small (by lia)))
def F6:OpR X (bh .Mod) (rI (λ_ j=>0<j) λi j=>.int (i % j)):=opI λi j _ _ _ _ _ hc q=>by
 have h1:(0:Int)<j:=hc;exact mod_int' (by lia) (by rw[Int.fmod_eq_emod_of_nonneg i (by lia)];exact q)
def Xam:OpR X (bh .Pow) (rI CPow λi j=>.int (i ^ j.toNat)):=opI λ_ _ _ _ _ _ _ hc q=>pow_int_small hc.1 hc.2.1 hc.2.2 q
def unI{g:Int->Int}
  (rule:∀(i:Int) (t:Tok) (s:af) (Q:Zb) (E:Zb),Q (.int (g i) s.toks) {s with toks:=s.toks+1}->ai (ag X.prog X.w) X.A (f (.int i t)) Q E s):
  UnR X f (rU λi=>.int (g i)):=by
 intro pins s Z H x v Q I rx h;obtain⟨i,rfl,q⟩:=h;obtain⟨t,rfl⟩:=rx;exact rule i t s _ _ ⟨.int (g i),H,I.tok _,⟨_,rfl⟩,q⟩
def Xan:UnR X (unaryOp .USub) (rU λi=>.int (-i)):=unI λ_ _ _ _ _ q=>neg_int q
end
def scal:V->V->Bool
 | .non,.non=>true | .non,.int _=>true | .int _,.non=>true | .non,.bl _=>true | .bl _,.non=>true | .non,.str _=>true | .str _,.non=>true
 | .int _,.int _=>true | .bl _,.bl _=>true | .str _,.str _=>true | .byt _,.byt _=>true
 | .int _,.str _=>true | .str _,.int _=>true | .bl _,.str _=>true | .str _,.bl _=>true
 | _,_=>false
def rEq:R2:=λx y H Q=>scal x y=true/\Q (.bl (decide (x=y))) H
def rNe:R2:=λx y H Q=>scal x y=true/\Q (.bl (!decide (x=y))) H
def Xao:decide (V.int i=V.int j)=(i==j):=by
 rw[Qj];simp
def Lg:decide (V.bl i=V.bl j)=(i==j):=by
 rw[Qj];simp
def Xap:decide (V.str i=V.str j)=(i==j):=by
 rw[Qj];simp
def Xaq:decide (V.byt i=V.byt j)=(i.toList==j.toList):=by
 rw[Qj];cases i;cases j;simp
section
variable {X:Cx}{a b c:aE}{ta tb tc:TE}{pos:bI}
def A9      (I:Inv X pins Z H s) (q:Q (.bl k) H) (e:k=k'):EP X pins Z Q (.bool k') s:=by
 subst e;exact⟨.bl k,H,I,rfl,q⟩
def B5:OpR X (aF .Eq) rEq:=by
 intro pins s Z H x y v u Q I rx ry h;obtain⟨hs,q⟩:=h;cases x with
 | non=>
  cases rx;cases y with
  | non=>cases ry;exact PySem.EqNone.eq_none_none (A9 I q (by simp))
  | bl j=>cases ry;exact PySem.EqNone.eq_none_bool (A9 I q (by simp))
  | int j=>obtain⟨t',rfl⟩:=ry;exact PySem.EqNone.eq_none_int (A9 I q (by simp))
  | str j=>obtain⟨t',rfl⟩:=ry;exact PySem.EqNone.eq_none_str (A9 I q (by simp))
  | _=>exact absurd (show false=true from hs) Ow
 | bl i=>
  cases rx;cases y with
  | non=>cases ry;exact PySem.EqNone.eq_bool_none (A9 I q (by simp))
  | bl j=>cases ry;exact eq_bool (A9 I q Lg)
  | str j=>obtain⟨t',rfl⟩:=ry;exact PySem.EqMixed.eq_bool_str (A9 I q (by simp))
  | _=>exact absurd (show false=true from hs) Ow
 | int i=>
  obtain⟨t,rfl⟩:=rx;cases y with
  | non=>cases ry;exact PySem.EqNone.eq_int_none (A9 I q (by simp))
  | int j=>obtain⟨t',rfl⟩:=ry;exact eq_int (A9 I q Xao)
  | str j=>obtain⟨t',rfl⟩:=ry;exact PySem.EqMixed.eq_int_str (A9 I q (by simp))
  | _=>exact absurd (show false=true from hs) Ow
 | str i=>
  obtain⟨t,rfl⟩:=rx;cases y with
  | non=>cases ry;exact PySem.EqNone.eq_str_none (A9 I q (by simp))
  | bl j=>cases ry;exact PySem.EqMixed.eq_str_bool (A9 I q (by simp))
  | int j=>obtain⟨t',rfl⟩:=ry;exact PySem.EqMixed.eq_str_int (A9 I q (by simp))
  | str j=>obtain⟨t',rfl⟩:=ry;exact eq_str (A9 I q Xap)
  | _=>exact absurd (show false=true from hs) Ow
 | byt i=>
  obtain⟨t,rfl⟩:=rx;cases y with
  | byt j=>obtain⟨t',rfl⟩:=ry;exact PySem.W.eq_bytes (A9 I q Xaq)
  | _=>exact absurd (show false=true from hs) Ow
 | _=>cases y<;>exact absurd (show false=true from hs) Ow
def G5:OpR X (aF .NotEq) rNe:=by
 intro pins s Z H x y v u Q I rx ry h;obtain⟨hs,q⟩:=h;cases x with
 | non=>
  cases rx;cases y with
  | non=>cases ry;exact PySem.EqNone.ne_none_none (A9 I q (by simp))
  | bl j=>cases ry;exact PySem.EqNone.ne_none_bool (A9 I q (by simp))
  | int j=>obtain⟨t',rfl⟩:=ry;exact PySem.EqNone.ne_none_int (A9 I q (by simp))
  | str j=>obtain⟨t',rfl⟩:=ry;exact PySem.EqNone.ne_none_str (A9 I q (by simp))
  | _=>exact absurd (show false=true from hs) Ow
 | bl i=>
  cases rx;cases y with
  | non=>cases ry;exact PySem.EqNone.ne_bool_none (A9 I q (by simp))
  | bl j=>cases ry;exact ne_bool (A9 I q (congrArg not Lg))
  | str j=>obtain⟨t',rfl⟩:=ry;exact PySem.EqMixed.ne_bool_str (A9 I q (by simp))
  | _=>exact absurd (show false=true from hs) Ow
 | int i=>
  obtain⟨t,rfl⟩:=rx;cases y with
  | non=>cases ry;exact PySem.EqNone.ne_int_none (A9 I q (by simp))
  | int j=>obtain⟨t',rfl⟩:=ry;exact ne_int (A9 I q (congrArg not Xao))
  | str j=>obtain⟨t',rfl⟩:=ry;exact PySem.EqMixed.ne_int_str (A9 I q (by simp))
  | _=>exact absurd (show false=true from hs) Ow
 | str i=>
  obtain⟨t,rfl⟩:=rx;cases y with
  | non=>cases ry;exact PySem.EqNone.ne_str_none (A9 I q (by simp))
  | bl j=>cases ry;exact PySem.EqMixed.ne_str_bool (A9 I q (by simp))
  | int j=>obtain⟨t',rfl⟩:=ry;exact PySem.EqMixed.ne_str_int (A9 I q (by simp))
  | str j=>obtain⟨t',rfl⟩:=ry;exact ne_str (A9 I q (congrArg not Xap))
  | _=>exact absurd (show false=true from hs) Ow
 | byt i=>
  obtain⟨t,rfl⟩:=rx;cases y with
  | byt j=>obtain⟨t',rfl⟩:=ry;exact PySem.W.ne_bytes (A9 I q (congrArg not Xaq))
  | _=>exact absurd (show false=true from hs) Ow
 | _=>cases y<;>exact absurd (show false=true from hs) Ow
def Cn:OpR X (aF .Lt) (rI0 λi j=>.bl (decide (i<j))):=Jk λ_ _ _ _ _ _ _ q=>lt_int q
def Xhx:OpR X (aF .LtE) (rI0 λi j=>.bl (decide (i<=j))):=Jk λ_ _ _ _ _ _ _ q=>le_int q
def Xhy:OpR X (aF .Gt) (rI0 λi j=>.bl (decide (j<i))):=Jk λ_ _ _ _ _ _ _ q=>gt_int q
def Xar:OpR X (aF .GtE) (rI0 λi j=>.bl (decide (j<=i))):=Jk λ_ _ _ _ _ _ _ q=>ge_int q
def Xas:OpR X (aF .Lt) (λx y H Q=>∃i j,x = .str i/\y = .str j/\Q (.bl (decide (i.cps.toList<j.cps.toList))) H):=by
 intro pins s Z H x y v u Q I rx ry h;obtain⟨i,j,rfl,rfl,q⟩:=h;obtain⟨t,rfl⟩:=rx;obtain⟨t',rfl⟩:=ry;exact lt_str (A9 I q rfl)
def isObj:HO->Bool
 | .lst _=>true
 | .ins _ _ _=>true
 | _=>false
def Az(b:aE)(h:op ≠ .In:=by decide)(h2:op ≠ .NotIn:=by decide):cf op b=false:=by
 have e1:(op==CmpOp.In)=false:=by cases op<;>first | rfl | exact absurd rfl h
 have e2:(op==CmpOp.NotIn)=false:=by cases op<;>first | rfl | exact absurd rfl h2
 cases b<;>simp[cf,e1,e2]
def Ep  (ho:OpR X (aF op) r) (ha:PE X a ta) (hb:PE X b tb) (hm:cf op b=false):PE X (.Compare a [op] [b] pos) (tOp r ta tb):=by
 intro pins s Z H Q I h;exact qT (binT ha hb I h λv u s2 x y H2 I2 rx ry q=>ho pins s2 Z H2 x y v u Q I2 rx ry q) hm
def Lh (t:TE):TT:=fun Z H Q=>t Z H λx H'=>∃k,x = .bl k/\Q k H'
def Aw  (ho:OpR X (aF op) r) (ha:PE X a ta) (hb:PE X b tb) (hm:cf op b=false):PT X (.Compare a [op] [b] pos) (Lh (tOp r ta tb)):=by
 intro pins s Z H Q I h;refine jy (thn (ha pins s Z H _ I h) λv s1 ⟨x,H1,I1,r1,q1⟩=>thn (hb pins s1 Z H1 _ I1 q1) λu s2 ⟨y,H2,I2,r2,q2⟩=>
  thn (ho pins s2 Z H2 x y v u _ I2 r1 r2 q2) λc s3 ⟨z,H3,I3,r3,k,e,q3⟩=>?_) hm
 subst e;cases r3;exact aL ⟨H3,I3,q3⟩
def Li (r r':R2) (ta tb tc:TE):TE:=fun Z H Q=>ta Z H λx H1=>tb Z H1 λy H2=>r x y H2 λz H3=>∃k,z = .bl k /\
 (if k=true then tc Z H3 λw' H4=>r' y w' H4 Q else Q (.bl false) H3)
def Xat  (ho:OpR X (aF op) r) (fh:OpR X (aF qU) r') (ha:PE X a ta) (hb:PE X b tb) (hc:PE X c tc)
  (hm:J' [op,qU] [b,c]=false:=by with_unfolding_all rfl):PE X (.Compare a [op,qU] [b,c] pos) (Li r r' ta tb tc):=by
 intro pins s Z H Q I h;refine Compare_chain (thn (ha pins s Z H _ I h) λv s1 ⟨x,H1,I1,r1,q1⟩=>chain_link (thn (hb pins s1 Z H1 _ I1 q1) λu s2 ⟨y,H2,I2,r2,q2⟩=>
  thn (ho pins s2 Z H2 x y v u _ I2 r1 r2 q2) λd s3 ⟨z,H3,I3,r3,k,e,q3⟩=>?_)) hm
 subst e;cases r3;refine aL ?_;cases k with
 | false=>exact ite_ff ⟨.bl false,H3,I3,rfl,q3⟩
 | true=>exact ite_tt (chain_last (thn (hc pins s3 Z H3 _ I3 q3) λw' s4 ⟨z',H4,I4,r4,q4⟩=>fh pins s4 Z H4 y z' u w' Q I4 r2 r4 q4))
def Xau  (ho:OpR X (aF op) r) (fh:OpR X (aF qU) r') (ha:PE X a ta) (hb:PE X b tb) (hc:PE X c tc)
  (hm:J' [op,qU] [b,c]=false:=by with_unfolding_all rfl):PT X (.Compare a [op,qU] [b,c] pos) (Lh (Li r r' ta tb tc)):=by
 intro pins s Z H Q I h;refine isTrue_chain (thn (ha pins s Z H _ I h) λv s1 ⟨x,H1,I1,r1,q1⟩=>test_link (thn (hb pins s1 Z H1 _ I1 q1) λu s2 ⟨y,H2,I2,r2,q2⟩=>
  thn (ho pins s2 Z H2 x y v u _ I2 r1 r2 q2) λd s3 ⟨z,H3,I3,r3,k,e,q3⟩=>?_)) hm
 subst e;cases r3;refine aL ?_;cases k with
 | false=>
  obtain⟨k',e',q'⟩:=q3;cases e';exact ite_ff ⟨H3,I3,q'⟩
 | true=>
  refine ite_tt (test_last (thn (hc pins s3 Z H3 _ I3 q3) λw' s4 ⟨z',H4,I4,r4,q4⟩=>thn (fh pins s4 Z H4 y z' u w' _ I4 r2 r4 q4) λd' s5 ⟨z2,H5,I5,r5,k2,e2,q5⟩=>?_));subst e2;cases r5;exact aL ⟨H5,I5,q5⟩
def TruV (K:LD) (x:V) (H:Hp) (k:Bool):Prop:=
 match x with
 | .non=>k=false
 | .bl b=>k=b
 | .int i=>k=(i != 0)
 | .str y=>y.length<=sizeLine/\k=((y.length:Int) != 0)
 | .byt y=>y.size<=sizeLine/\k=((y.size:Int) != 0)
 | .ref p=>(∃xs,SqL K H p xs/\k = !xs.isEmpty)\/(∃xs,SqT K H p xs/\k = !xs.isEmpty) \/ ∃kvs,H p=some (.dK kvs)/\k = !kvs.isEmpty
 | _=>False
def line63:(sizeLine:Nat)<2 ^ 63:=by rw[Ti];decide
def Jl:OpR X (bh .Add) (λx y H Q=>∃i j,x = .str i/\y = .str j/\i.length+j.length<=sizeLine/\Q (.str (i++j)) H):=by
 intro pins s Z H x y v u Q I rx ry h;obtain⟨i,j,rfl,rfl,hz,q⟩:=h;obtain⟨t,rfl⟩:=rx;obtain⟨t',rfl⟩:=ry;exact add_str (λt' tk=>⟨.str (i++j),H,I.tok _,⟨_,rfl⟩,q⟩) hz
def Bw  (r:Vals [x] us):∃u,us=[u]/\Aj x u:=by
 cases r with
 | cons r1 r2=>cases r2;exact⟨_,rfl,r1⟩
def vals2  (r:Vals [x,y] us):∃u w',us=[u,w']/\Aj x u/\Aj y w':=by
 cases r with
 | cons r1 r2=>
  cases r2 with
  | cons r3 r4=>cases r4;exact⟨_,_,rfl,r1,r3⟩
def Xhz(hc:X.calm=true):Bv X (.builtin "min") (λxs H Q=>∃i j,xs=[.int i,.int j]/\Q (.int (if j<i then j else i)) H):=by
 intro pins s Z H xs us Q I r h;obtain⟨i,j,rfl,q⟩:=h;obtain⟨u,w',rfl,⟨t,rfl⟩,⟨t',rfl⟩⟩:=vals2 r;refine min_two_ints (I.ok.hd hc) λh' tk k=>⟨_,H,I.kept k,?_,q⟩;by_cases hj:j<i
 ·rw[Tk hj,Tk hj];exact⟨_,rfl⟩
 ·rw[Tj hj,Tj hj];exact⟨_,rfl⟩
def Xav:Bv X (.type "int") (λxs H Q=>(∃i,xs=[.int i]/\Q (.int i) H) \/ ∃k,xs=[.bl k]/\Q (.int (if k then 1 else 0)) H):=by
 intro pins s Z H xs us Q I r h;rcases h with ⟨i,rfl,q⟩ | ⟨k,rfl,q⟩
 ·obtain⟨u,rfl,t,rfl⟩:=Bw r;exact call_int_int ⟨.int i,H,I,⟨_,rfl⟩,q⟩
 ·obtain⟨u,rfl,r1⟩:=Bw r;cases r1;exact call_int_bool ⟨.int (if k then 1 else 0),H,I.tok _,⟨_,rfl⟩,q⟩
def LenV (K:LD) (x:V) (H:Hp) (n:Nat):Prop:=
 match x with
 | .str y=>y.length<=sizeLine/\n=y.length
 | .byt y=>y.size<=sizeLine/\n=y.size
 | .ref p=>(∃xs,SqL K H p xs/\n=xs.length) \/ ∃xs,SqT K H p xs/\n=xs.length
 | _=>False
end
structure ObjM (h:am) (x dx C:ae) (mA:ak->Option aa):Prop where
 obj:h.get? x=some (MF C dx)
 ns:h.Ns1 dx mA
 ne:dx≠x
def Xh0{h:am}  (n:h.Ns1 dx mA):∃od,h.get? dx=some od/\∀name,MN name od=some (mA name):=by
 obtain⟨o,es,ep,ho,hd,hk,_,hm⟩:=n;refine⟨o,ho,λname=>?_⟩;have e:=hm name;unfold nsFind findBy at e;rw[<-Array.find?_toList] at e;unfold MN;rw[hd];dsimp only;split
 ·rename_i y q;rw[q] at e;exact congrArg some e
 ·rename_i q;rw[q] at e;have a:es.toList.any (·.refKey)=false:=by
   rw[List.any_eq_false];intro y hy;obtain⟨z,t,fi⟩:=hk y (Array.mem_toList_iff.mp hy);simp[fj.refKey,fi]
  have a':¬es.toList.any (·.refKey)=true:=by rw[a];exact Ow
  rw[Tj a'];exact congrArg some e
def ObjM.look  {x dx C} (I:ObjM h x dx C mA):∃od,PySem.W.InstAt h x (MF C dx) C (some od)/\∀name,MN name od=some (mA name):=
 let ⟨od,ho,hl⟩:=Xh0 I.ns
 ⟨od,⟨I.obj,rfl,rfl,ho⟩,hl⟩
section
variable {prog:ao}{w:aw}{A:av}{E:Zb}{s:af}{K:LD}{x dx C f:ae}{mA:ak->Option aa}{name:ak}{v:aa}
end
def Lj (f:ak) (v:V):List (ak×V)->List (ak×V)
 | []=>[(f,v)]
 | (g,x)::r=>if g=f then (g,v)::r else (g,x)::Lj f v r
def Cj.some_of{v}{o}(r:Cj (some v) o):∃u,o=some u/\Aj v u:=by
 cases o with
 | none=>exact(show False from r).elim
 | some u=>exact⟨u,rfl,r⟩
section
variable {P:ao}{w:aw}{H H':Hp}{h h':am}{a C dx:ae}{fs fZ:List (ak×V)}
def Xh1(hok:HOk P w H h)(e:H a=some (.ins C dx fs)):∃mA,ObjM h a dx C mA/\(∀f,Cj (fs.lookup f) (mA f))/\PySem.Within mA (fs.map (·.1))/\fs.length<=1000/\H dx=some (.own a):=by
 obtain⟨d,z,ne,ob,mA,n,r,q⟩:=(show A4 P w H h a (.ins C dx fs) from hok a _ e);exact⟨mA,⟨ob,n,ne⟩,r,q,z,d⟩
end
structure Cls (K:LD) (C:ae):Prop where
 pg:MR K C ak.empty=true
 hd:PySem.W.hasDictIn K C=true
 po:PySem.W.plainOver K C=true
 sa:LH K (.ref C) "__setattr__" = some (some (.builtin "object.__setattr__"))
def Cls.get{K}(c:Cls K C)(f):MR K C f=true:=c.pg
def Lk (K:LD) (C:ae) (f:ak):Prop:=LH K (.ref C) f=some none
structure Con (K:LD) (C:ae) (f:ak) (v:V) (u:aa):Prop where
 jN:LH K (.ref C) f=some (some u)
 cK:Aj v u
 get:MO K u "__get__" = some none
 cp:PySem.W.copiedNames.contains f=false
structure Meth (K:LD) (C:ae) (m:ak) (f:ae):Prop where
 jN:LH K (.ref C) m=some (some (.ref f))
 fn:MZ K (.ref f)=true
 kp:LL K (.ref f)=true
section
variable {X:Cx}{pins:List (ae×aK)}{Z:St}{H:Hp}{s:af}{a C dx:ae}{fs:List (ak×V)}{f:ak}{v:V}{A:av}{E:Zb}
end
def tFld (K:LD) (ta:TE) (f:ak):TE:=fun Z H Q=>ta Z H λx H1=>∃a C dx fs v,x = .ref a/\H1 a=some (.ins C dx fs)/\Cls K C/\Lk K C f/\fs.lookup f=some v/\Q v H1
def tCon (K:LD) (ta:TE) (f:ak):TE:=fun Z H Q=>ta Z H λx H1=>∃a C dx fs v u,x = .ref a/\H1 a=some (.ins C dx fs)/\Cls K C/\Con K C f v u/\fs.lookup f=none/\Q v H1
def sFld (K:LD) (ta tv:TE) (f:ak):TS:=λD Z H=>tv Z H λy H1=>ta Z H1 λx H2=>∃a C dx fs,x = .ref a/\H2 a=some (.ins C dx fs)/\Cls K C/\Lk K C f/\fs.length<1000 /\
 D.nx Z (upd H2 a (.ins C dx (Lj f y fs)))
def InOp (X:Cx) (op:Operator) (rd:V->V->Hp->VK->Prop):Prop:=
 ∀pins s Z H (x y:V) (u v:aa) (Q:VK),Inv X pins Z H s->Aj x u->Aj y v->rd x y H Q->ai (ag X.prog X.w) X.A (om op u v) (EP X pins Z Q) X.xe s
def Xr1 (K:LD) (ta tv:TE) (rd:V->V->Hp->VK->Prop) (f:ak):TS:=λD Z H=>ta Z H λx H1=>∃a C dx fs v,x = .ref a/\H1 a=some (.ins C dx fs)/\Cls K C/\Lk K C f/\fs.lookup f=some v /\
 tv Z H1 λy H2=>rd v y H2 λz H3=>∃y4 fZ,H3 a=some (.ins C y4 fZ)/\fZ.length<1000/\D.nx Z (upd H3 a (.ins C y4 (Lj f z fZ)))
section
variable {X:Cx}{o e value:aE}{f:ak}{pos gc ve:bI}{ta tv:TE}
end
section
variable {X:Cx}{pins:List (ae×aK)}{Z:St}{H:Hp}{s:af}{A:av}{E:Zb}{Q:Zb}{c:aa}{b:Bool}
inductive TyOf (K:LD) (H:Hp):V->aa->Prop where
 | non:TyOf K H .non (.type "NoneType")
 | bl (x:Bool):TyOf K H (.bl x) (.type "bool")
 | int (i:Int):TyOf K H (.int i) (.type "int")
 | str (x:ak):TyOf K H (.str x) (.type "str")
 | flt (x:UInt64):TyOf K H (.flt x) (.type "float")
 | lst {a:ae} {xs:List V} (e:H a=some (.lst xs)):TyOf K H (.ref a) (.type "list")
 | frz {a:ae} {o:aK} {xs:List V} (e:H a=some (.frz o (.lst xs))):TyOf K H (.ref a) (.type "list")
 | tup {a:ae} {xs:List V} (e:H a=some (.tup xs)):TyOf K H (.ref a) (.type "tuple")
 | dK {a:ae} {kvs:List (Key×V)} (e:H a=some (.dK kvs)):TyOf K H (.ref a) (.type "dict")
 | dT {a:ae} {kvs:List (List Key×V)} (e:H a=some (.dT kvs)):TyOf K H (.ref a) (.type "dict")
 | ins {a C dx:ae} {fs:List (ak×V)} (e:H a=some (.ins C dx fs)) (cl:Cls K C) (ha:LH K (.ref C) "__class__" = some (some (.builtin "object.__class__")))
   (hn:MO K (.builtin "object.__class__") "__get__" = some (some (.builtin "getset_descriptor.__get__"))) (gh:PySem.W.takesIn K (.builtin "object.__class__")=some true)
   (hm:PySem.W.mroIn K C (.type "object")=some true):TyOf K H (.ref a) (.ref C)
def Xh2  (I:Inv X pins Z H s) (rx:Aj x u) (ty:TyOf X.K H x t) (e:LI X.K t c=some b) (h:∀tk,Q (.bool b) {s with toks:=tk}):
  ai (ag X.prog X.w) A (call (.builtin "isinstance") [u,c]) Q E s:=by
 cases ty with
 | non=>cases (show u=aa.none from rx);exact LM PySem.W.kitx_none I.kIn True.intro e (λz=>nomatch z) h
 | bl y=>cases (show u=aa.bool y from rx);exact LM PySem.W.kitx_bool I.kIn True.intro e (λz=>nomatch z) h
 | int i=>obtain⟨t,q⟩:=(show ∃t,u=aa.int i t from rx);cases q;exact LM PySem.W.kitx_int I.kIn True.intro e (λz=>nomatch z) h
 | str y=>obtain⟨t,q⟩:=(show ∃t,u=aa.str y t from rx);cases q;exact LM PySem.W.kitx_str I.kIn True.intro e (λz=>nomatch z) h
 | flt y=>obtain⟨t,q⟩:=(show ∃t,u=aa.float y t from rx);cases q;exact LM PySem.W.kitx_float I.kIn True.intro e (λz=>nomatch z) h
 | @lst a xs ea=>
  cases (show u=aa.ref a from rx);obtain⟨_,_,n,_,h1⟩:=(show A4 X.prog X.w H s.heap a (.lst xs) from I.hok a _ ea);exact LM MP I.kIn ⟨_,h1,rfl⟩ e (λz=>nomatch z) h
 | @frz a ob xs ea=>
  cases (show u=aa.ref a from rx);obtain⟨_,_,_,n,_,h1⟩:=(show A4 X.prog X.w H s.heap a (.frz ob (.lst xs)) from I.hok a _ ea);exact LM MP I.kIn ⟨_,h1,rfl⟩ e (λz=>nomatch z) h
 | @tup a xs ea=>
  cases (show u=aa.ref a from rx);obtain⟨_,_,_,p⟩:=(show A4 X.prog X.w H s.heap a (.tup xs) from I.hok a _ ea);obtain⟨o,h1,h2,_⟩:=p;exact LM PySem.W.kitx_tuple I.kIn ⟨o,h1,h2⟩ e (λz=>nomatch z) h
 | @dK a kvs ea=>
  cases (show u=aa.ref a from rx);obtain⟨_,_,vs,_,p⟩:=(show A4 X.prog X.w H s.heap a (.dK kvs) from I.hok a _ ea);obtain⟨o,es,ep,h1,h2,_⟩:=p;exact LM MQ I.kIn ⟨o,h1,h2.1⟩ e (λz=>nomatch z) h
 | @dT a kvs ea=>
  cases (show u=aa.ref a from rx);obtain⟨_,_,xs,_,o,es,ep,h1,h2,_⟩:=(show A4 X.prog X.w H s.heap a (.dT kvs) from I.hok a _ ea);exact LM MQ I.kIn ⟨o,h1,h2.1⟩ e (λz=>nomatch z) h
 | @ins a C dx fs ea cl ha hn gh hm=>
  cases (show u=aa.ref a from rx);obtain⟨mA,O,_⟩:=Xh1 I.hok ea;obtain⟨od,J,_⟩:=O.look;exact LM (PySem.W.kitx_own (cl.get _) cl.hd ha hn gh hm) I.kIn J e (λz=>nomatch z) h
end
structure Room (k:Nat) (A:av):Prop where
 hd:A.handled=none
 dp:A.depth+3 * k+5<qV
 un:A.units+16 * k+200<bu
 gd:A.guards=some []
def Room.mono  (r:Room k A) (h:j<=k):Room j A:=⟨r.hd,by have:=r.dp;lia,by have:=r.un;lia,r.gd⟩
def Room.deeper  (r:Room (k+1) A) (env):Room k (A.deeper env):=
 ⟨r.hd,by have:=r.dp;show A.depth+1+3 * k+5<_;lia,by have:=r.un;show A.units+3+16 * k+200<_;lia,r.gd⟩
def Room.in1{k}{A}(r:Room (k+1) A):Room k A.in1:=
 ⟨r.hd,by have:=r.dp;show A.depth+3 * k+5<_;lia,by have:=r.un;show A.units+1+16 * k+200<_;lia,r.gd⟩
def Room.depth  (r:Room k A):A.depth<qV:=by have:=r.dp;lia
def Room.units  (r:Room k A):A.units+64<bu:=by have:=r.un;lia
def Room.units0  (r:Room k A):A.units<bu:=by have:=r.un;lia
def Fe:TA:=λ_ H Q=>Q [] H
def Er (ta:TE) (tr:TA):TA:=fun Z H Q=>ta Z H λx H1=>tr Z H1 λxs H2=>Q (x::xs) H2
section
variable {X:Cx}{e:aE}{es:List aE}{te:TE}{t:TA}{pos:bI}
def Ac:PA X [] Fe:=λ_ _ _ _ H Q I h=>Calls.spliced_nil ⟨[],H,I,.nil,h⟩
def Aa(ha:PE X e te)(hr:PA X es t)(hs:aA (e::es) X.env=(false,eval e X.env)::aA es X.env:=by rfl):PA X (e::es) (Er te t):=by
 intro pos pins s Z H Q I h;rw[hs];show ai _ _ (spliced ((false,eval e X.env)::bx pos (aA es X.env))) _ _ s;refine Calls.spliced_cons (thn (ha pins s Z H _ I h) λu s1 ⟨x,H1,I1,r1,q1⟩=>?_);exact thn (hr pos pins s1 Z H1 _ I1 q1) λus s2 ⟨xs,H2,I2,r2,q2⟩=>⟨x::xs,H2,I2,.cons r1 r2,q2⟩
def Ll (t:TA):TE:=fun Z H Q=>t Z H λxs H1=>xs.length<=sizeLine/\∀p,H1 p=none->Q (.ref p) (upd H1 p (.tup xs))
def tLst (t:TA):TE:=fun Z H Q=>t Z H λxs H1=>xs.length<=sizeLine/\∀p,H1 p=none->Q (.ref p) (upd H1 p (.lst xs))
def B0(h:PA X es t):PE X (.Tuple es x1 pos) (Ll t):=by
 intro pins s Z H Q I hq;refine wpAny_Tuple_spliced (thn (h pos pins s Z H _ I hq) λus s1 ⟨xs,H1,I1,r,z,q⟩=>⟨by rw[<-r.length];exact z,?_⟩);have hf:H1 s1.heap.objs.size=none:=I1.hok.fresh (Og _);refine⟨.ref s1.heap.objs.size,upd H1 s1.heap.objs.size (.tup xs),I1.laid (t':=s1.toks) (λb u e=>Tt _ e) (Og _) ?_,rfl,q _ hf⟩;exact⟨z,us,r,⟨_,am.get?_push_size _ rfl,rfl,_,rfl⟩⟩
def Bq(h:PA X es t):PE X (.List es pos) (tLst t):=by
 intro pins s Z H Q I hq;refine wpAny_List_spliced (thn (h pos pins s Z H _ I hq) λus s1 ⟨xs,H1,I1,r,z,q⟩=>⟨by rw[<-r.length];exact z,?_⟩);have hf:H1 s1.heap.objs.size=none:=I1.hok.fresh (Og _);refine⟨.ref s1.heap.objs.size,upd H1 s1.heap.objs.size (.lst xs),I1.laid (t':=s1.toks) (λb u e=>Tt _ e) (Og _) ?_,rfl,q _ hf⟩;exact⟨z,us,0,r,am.get?_push_size _ rfl⟩
end
abbrev Sp:=List V->Hp->VK->XK->Prop
abbrev CXT:=List dt->Hp->af->XK->aa->af->Prop
structure Env0 (P:ao) (w:aw) (K:LD) (mg:ak->Option aa) (base:am) (A:av) (outer:List dt) (s:af) (H:Hp):Prop where
 frames:A.frames=some outer
 mod:Mod K mg base
 bs:∀b o,base.get? b=some o->s.heap.get? b=some o/\H b=none
 bsz:base.objs.size<=s.heap.objs.size
 funs:s.heap.FunFrames base outer
 frf:∀b∈frs outer,H b=none
 hok:HOk P w H s.heap
 bare:c6 s.gens
def CE (outer:List dt) (P:ao) (w:aw) (H:Hp) (s:af) (Q:VK) (u:aa) (s':af):Prop:=
 ∃v H',s'.os=s.os/\c6 s'.gens/\Un (frs outer) [] H H' s.heap s'.heap/\HOk P w H' s'.heap/\Aj v u/\Q v H'
def CR (CX:CXT) (outer:List dt) (P:ao) (w:aw) (H:Hp) (s:af) (Q:VK) (E:XK) (r:qW) (s':af):Prop:=
 match r with
 | .ok (.ret u)=>CE outer P w H s Q u s'
 | .ok _=>False
 | .error e=>CX outer H s E e s'
structure FnOk (P:ao) (w:aw) (K:LD) (mg:ak->Option aa) (base:am) (CX:CXT) (k:Nat) (f:ae) (fd:au) (ps:Za) (sp:Sp):Prop where
 len:∀vs H Q E,sp vs H Q E->vs.length=ps.length
 run:∀(A:av) (outer:List dt) (s:af) (H:Hp) (args:Args) (us:List aa) (vs:List V) (Q:VK) (E:XK),Room k A->Env0 P w K mg base A outer s H->eC s fd args (ps.zip us)->Vals vs us->sp vs H Q E ->
  bw (ag P w) A (.call (.ref f) args) (CR CX outer P w H s Q E) s
def Env0.in1   {K}   {A}  {s} (e:Env0 P w K mg base A outer s H):
  Env0 P w K mg base A.in1 outer s H:=⟨e.frames,e.mod,e.bs,e.bsz,e.funs,e.frf,e.hok,e.bare⟩
section
variable {X:Cx}{pins:List (ae×aK)}{Z:St}{H:Hp}{s s':af}
def Inv.env0(I:Inv X pins Z H s):Env0 X.prog X.w X.K X.mg X.base X.A X.stack s H:=
 ⟨I.ok.frames,I.ok.mod,I.bs,Pj I.ok.bsz I.sz,I.stack,I.stkFree,I.hok,I.bare⟩
def Inv.after  (I:Inv X pins Z H s) (h:CE X.stack X.prog X.w H s Q u s'):EP X pins Z Q u s':=by
 obtain⟨v,H',os,bare,un,hok,r,q⟩:=h;obtain⟨hh,g,d,t,AU⟩:=s';obtain rfl:AU=s.os:=os;exact⟨v,H',I.call (h':=hh) (g':=g) (d':=d) (t':=t) (ch:=[]) un hok bare (λb z=>absurd z (by simp)),r,q⟩
end
def Lm (sp:Sp) (fA:List V) (E:XK) (t:TA):TE:=fun Z H Q=>t Z H λvs H1=>sp (vs++fA) H1 Q E
def tMeth (C:ae) (m:ak) (sp:Sp) (fA:List V) (E:XK) (ta:TE) (t:TA):TE:=fun Z H Q=>ta Z H λx H1=>∃a dx fs,x = .ref a/\H1 a=some (.ins C dx fs)/\fs.lookup m=none /\
 t Z H1 λvs H2=>sp (x::(vs++fA)) H2 Q E
def tMake (C:ae) (sp:Sp) (fA:List V) (E:XK) (t:TA):TE:=fun Z H Q=>t Z H λvs H1=>∀x dx,H1 x=none->H1 dx=none->dx≠x ->
 sp (.ref x::(vs++fA)) (upd (upd H1 dx (.own x)) x (.ins C dx [])) (λv H2=>v = .non/\Q (.ref x) H2) E
def Binds (K:LD) (fd:au) (ps:Za) (ds:List aa):Prop:=
 ∀(s:af) (us:List aa),K.In s.heap->(us++ds).length=ps.length->eC s fd ⟨us,[]⟩ (ps.zip (us++ds))
def Binds.all{K}  (h:∀us:List aa,us.length=ps.length->cL fd ⟨us,[]⟩=pure (ps.zip us)):Binds K fd ps []:=λs us _ hl=>by
 rw[Pm] at hl ⊢;exact .of_eq (h us hl)
def Passes (CX:CXT) (X:Cx) (E:XK):Prop:=∀(pins:List (ae×aK)) (Z:St) (H:Hp) (s:af) (e:aa) (s':af),Inv X pins Z H s->CX X.stack H s E e s'->X.xe e s'
section
variable {X:Cx}{CX:CXT}{k:Nat}{f C:ae}{fd:au}{ps:Za}{sp:Sp}{fA:List V}{ds:List aa}{E:XK}{x m:ak}{p pos eD:bI}{e o:aE}{es:List aE}{ta:TE}{t:TA}
def Xh3       (F:FnOk X.prog X.w X.K X.mg X.base CX k f fd ps sp) (hr:Room k X.A) (hb:Binds X.K fd ps ds) (hd:Vals fA ds) (hx:Passes CX X E)
  (I:Inv X pins Z H s) (r:Vals vs us) (h:sp (vs++fA) H Q E):ai (ag X.prog X.w) X.A (call (.ref f) us) (EP X pins Z Q) X.xe s:=by
 have r2:Vals (vs++fA) (us++ds):=r.append hd;have hl:(us++ds).length=ps.length:=by rw[<-r2.length];exact F.len _ _ _ _ h
 refine dS (bi (F.run X.A X.stack s H ⟨us,[]⟩ (us++ds) (vs++fA) Q E hr I.env0 (hb s us I.kIn hl) r2 h) λr s' hq=>?_);cases r with
 | error e=>exact hx pins Z H s e s' I hq
 | ok fl=>
  cases fl with
  | ret u=>exact I.after hq
  | next=>exact False.elim hq
  | brk=>exact False.elim hq
  | cont=>exact False.elim hq
def Xh4(F:FnOk X.prog X.w X.K X.mg X.base CX k f fd ps sp)(hr:Room k X.A)(hg:Gl X x)(hm:X.mg x=some (.ref f))(hk:LL X.K (.ref f)=true)(hb:Binds X.K fd ps ds)(hd:Vals fA ds)(hx:Passes CX X E)
  (ha:PA X (e::es) t) (gj:(x==("__debug__" : ak))=false:=by decide) (he:aA (e::es) X.env=(false,eval e X.env)::aA es X.env:=by rfl) (bL:(bx pos (aA es X.env)).any (·.1)=false:=by rfl):
  PE X (.Call (.Name x p) (e::es) [] pos) (Lm sp fA E t):=by
 intro pins s Z H Q I h;refine bC (Jc I hg hm ?_ gj);refine MK (h₀:=X.base) I.ok.mod.kin hk (thn (ha pos pins s Z H _ I h) λus s1 ⟨vs,H1,I1,r,q⟩=>⟨I1.kIn,?_⟩) he bL;exact Xh3 F hr hb hd hx I1 r q
structure Mk (K:LD) (C f:ae):Prop where
 makes:PySem.W.makesIn K C=true
 init:LH K (.ref C) "__init__" = some (some (.ref f))
 fn:MZ K (.ref f)=true
 kp:LL K (.ref C)=true
end
def PK (X:Cx) (gX:List cR) (t:TA):Prop:=
 ∀(pos:bI) (pins:List (ae×aK)) (s:af) (Z:St) (H:Hp) (Q:List V->Hp->Prop),Inv X pins Z H s->t Z H Q->ai (ag X.prog X.w) X.A (evalAll ((bV pos (bj gX X.env)).map (·.2))) (AP X pins Z Q) X.xe s
section
variable {X:Cx}{CX:CXT}{k:Nat}{f C:ae}{fd:au}{ps ks:Za}{sp:Sp}{E:XK}{x m:ak}{p pos eD vf:bI}{e o:aE}{es:List aE}{gX:List cR}{te ta:TE}{t tk:TA}{nm:Option ak}
def Xaw:PK X [] Fe:=λ_ _ _ _ H Q I h=>wpAny_evalAll_nil ⟨[],H,I,.nil,h⟩
def Xax(ha:PE X e te)(hr:PK X gX t):PK X (⟨nm,e,vf⟩::gX) (Er te t):=by
 intro pos pins s Z H Q I h
 show ai _ _ (evalAll ((do    let v <-eval e X.env;cQ pos;pure v)::(bV pos (bj gX X.env)).map (·.2))) _ _ s;refine wpAny_evalAll_cons (Te (thn (ha pins s Z H _ I h) λu s1 ⟨x,H1,I1,r1,q1⟩=>Te (bd (Tf ?_))));exact thn (hr pos pins s1 Z H1 _ I1 q1) λus s2 ⟨xs,H2,I2,r2,q2⟩=>⟨x::xs,H2,I2,.cons r1 r2,q2⟩
structure KBinds (K:LD) (fd:au) (ps ks:Za) (g:List aa->List aa->List aa) (gV:List V->List V->List V):Prop where
 to:∀(s:af) (us ws:List aa),K.In s.heap->(g us ws).length=ps.length->eC s fd ⟨us,ks.zip ws⟩ (ps.zip (g us ws))
 cK:∀{vs:List V} {us:List aa} {zs:List V} {ws:List aa},Vals vs us->Vals zs ws->Vals (gV vs zs) (g us ws)
variable {g:List aa->List aa->List aa}{gV:List V->List V->List V}
end
structure FnScope (N P:Za) (sc:bE):Prop where
 kind:sc.kind = .function
 co:sc.isCoroutine=false
 gen:sc.isGenerator=false
 nd:N.Nodup
 pre:N.take P.length=P
 par:∀x∈P,sc.names.lookup x=some .local\/sc.names.lookup x=some .cell
 nofree:∀y∈sc.names,y.2 ≠ .free
theorem Xay{kindOf}:∀{binds:List (ak×aa)} {m:ak->Option aa},(∀v,(x,v)∉binds)->iK kindOf binds m x=m x
 | [],_,_=>rfl
 | (n,v)::r,m,h=>by
  unfold iK;rw[Xay λw hw=>h w (Ol _ hw)];split
  ·have:x≠n:=by rintro rfl;exact h v Op
   simp[this]
  ·rfl
theorem Xaz{kindOf}:∀{binds:List (ak×aa)} {m:ak->Option aa},(∀v,(x,v)∉binds)->iL kindOf binds m x=m x
 | [],_,_=>rfl
 | (n,v)::r,m,h=>by
  unfold iL;rw[Xaz λw hw=>h w (Ol _ hw)];split
  ·rfl
  ·have:x≠n:=by rintro rfl;exact h v Op
   simp[this]
theorem Xa0{kindOf}  : ∀{P:Za} {vs:List aa} {i:Nat} {m:ak->Option aa},P.Nodup->P[i]? = some x->vs[i]? = some v->kindOf x=some .local ->
  iK kindOf (P.zip vs) m x=some v
 | [],_,_,_,_,h,_,_=>by simp at h
 | _::_,[],_,_,_,_,h,_=>by simp at h
 | p::P,w::vs,0,m,nd,h1,h2,hk=>by
  simp at h1 h2;subst h1;subst h2;show iK kindOf ((p,w)::P.zip vs) m p=_;unfold iK;rw[Xay λv hv=>(P5.mp nd).1 (Sk hv).1,Tk hk];simp
 | p::P,w::vs,i+1,m,nd,h1,h2,hk=>by
  show iK kindOf ((p,w)::P.zip vs) m x=_;unfold iK;exact Xa0 (i:=i) (P5.mp nd).2 (by simpa using h1) (by simpa using h2) hk
theorem Xa1{kindOf}  : ∀{P:Za} {vs:List aa} {i:Nat} {m:ak->Option aa},P.Nodup->P[i]? = some x->vs[i]? = some v->kindOf x≠some .local ->
  iL kindOf (P.zip vs) m x=some v
 | [],_,_,_,_,h,_,_=>by simp at h
 | _::_,[],_,_,_,_,h,_=>by simp at h
 | p::P,w::vs,0,m,nd,h1,h2,hk=>by
  simp at h1 h2;subst h1;subst h2;show iL kindOf ((p,w)::P.zip vs) m p=_;unfold iL;rw[Xaz λv hv=>(P5.mp nd).1 (Sk hv).1,Tj hk];simp
 | p::P,w::vs,i+1,m,nd,h1,h2,hk=>by
  show iL kindOf ((p,w)::P.zip vs) m x=_;unfold iL;exact Xa1 (i:=i) (P5.mp nd).2 (by simpa using h1) (by simpa using h2) hk
def start (N:Za) (vs:List V):St:=vs.map some++List.replicate (N.length - vs.length) none
def Co (CX:CXT) (P:ao) (w:aw) (K:LD) (mg:ak->Option aa) (base:am) (N:Za) (qual:ak) (scope:bE) (f:ae) (cd:aa) (A:av) (outer:List dt) (s:af) (H:Hp) (E:XK):Cx where
 prog:=P
 w:=w
 K:=K
 mg:=mg
 base:=base
 A:=A.deeper (aO qual scope s.heap.objs.size f cd)
 N:=N
 s₀:=s
 H₀:=H
 env:=aO qual scope s.heap.objs.size f cd
 outer:=outer
 stack:=aO qual scope s.heap.objs.size f cd::outer
 ex:=[]
 calm:=true
 fn:=λ_=>true
 pn:=[]
 xe:=λe s'=>ai (ag P w) (A.deeper (aO qual scope s.heap.objs.size f cd)) (leaving (aO qual scope s.heap.objs.size f cd) e) (λ_ lC=>CX outer H s E e lC) (λe' lC=>CX outer H s E e' lC) s'
def Xa2{sc:bE}{n}(h:sc.names.lookup x=some .cell):∃c,(bJ n sc.names []).lookup x=some c:=by
 have q:=LN sc.names n [] (.inl h);exact Qu.mp q
def Xa3    {K}              (S:FnScope N ps scope) (hd:A.handled=none) (e0:Env0 P w K mg base A outer s H) (hl:vs.length=ps.length) (r:Vals vs us)
  (x:InCallC s s.heap.objs.size (iK (aO qual scope s.heap.objs.size f cd).kindOf (ps.zip us) λ_=>none) (bJ (s.heap.objs.size+1) scope.names []) (iL (aO qual scope s.heap.objs.size f cd).kindOf (ps.zip us) λ_=>none) s1):
  Inv (Co CX P w K mg base N qual scope f cd A outer s H E) [] (start N vs) H s1:=by
 have bL:ps.length<=N.length:=by have:=congrArg List.length S.pre;rw[O0] at this;lia
 obtain⟨h1,tk,rfl,hk⟩:=x.done;have lD:∀b:ae,b∉(Co CX P w K mg base N qual scope f cd A outer s H E).ex:=λb z=>absurd (show b∈([]:List ae) from z) (by simp);refine⟨⟨e0.mod,S.kind,rfl,rfl,Og _,λy z c h1 h2=>?_,λy hy=>?_,λy c _ h=>?_,λ_=>hd,av.frames_deeper e0.frames,.inr ⟨rfl,rfl⟩,λb z=>absurd z (lD b),e0.bs,e0.bsz,λb _ _=>lD b,λb z=>absurd z (lD b),e0.funs,e0.frf⟩,
  rfl,e0.bare,Un.kept hk,⟨_,x.toInCall.ns,λi y v h1 h2 h3=>?_⟩,λy c h=>⟨_,x.cell y c h⟩,e0.hok.fresh (Og _),λy c h=>?_,λp hp=>absurd (show p∈([]:List (ae×aK)) from hp) (by simp),e0.hok.kept hk,?_⟩
 ·exact name_of_addr x.apart (PySem.mem_of_lookup h1) (PySem.mem_of_lookup h2)
 ·have hy:scope.names.lookup y=some .cell\/scope.names.lookup y=some .free:=hy;rcases hy with hy | hy
  ·exact Xa2 hy
  ·exact absurd rfl (S.nofree _ (PySem.mem_of_lookup hy))
 ·exact Rp (x.above y c (PySem.mem_of_lookup h))
 ·have hi:i<vs.length:=by
   unfold start at h2;by_cases hi:i<vs.length
   ·exact hi
   ·rw[Po (by simpa using hi)] at h2;rw[List.getElem?_replicate] at h2;split at h2<;>cases h2
  have ha:vs[i]? = some v:=by
   unfold start at h2;rw[Pt (by simpa using hi),Ov] at h2;cases e:vs[i]? with
   | none=>rw[e] at h2;cases h2
   | some a=>rw[e] at h2;cases h2;rfl
  obtain⟨u,hu,rv⟩:=r.get ha;have hp:ps[i]? = some y:=by
   rw[<-S.pre,List.getElem?_take_of_lt (by lia)];exact h1
  have y6:ps.Nodup:=by rw[<-S.pre];exact S.nd.sublist (P2 _ _)
  refine⟨u,rv,?_⟩;rcases S.par y (Qn hp) with k | k
  ·exact .inl ⟨k,Xa0 y6 hp hu k⟩
  ·obtain⟨c,e⟩:=Xa2 (n:=s.heap.objs.size+1) k;refine .inr ⟨.inl k,c,e,?_⟩;have q:=x.cell y c e;rw[Xa1 y6 hp hu (by show scope.names.lookup y≠_;rw[k];decide)] at q;exact q
 ·exact e0.hok.fresh (Rp (x.above y c (PySem.mem_of_lookup h)))
 ·unfold start;show _=N.length;rw[Oh,Od,List.length_replicate]
  lia
def Ln    {K}         {dV kV cX pm cdv ct oc}    (lk:K.lookup f=some ⟨oc,od,.func (LS name qual params body scope dV kV cX pm an cdv ct),iM⟩) (gW:LV K cdv qual=true) (S:FnScope N ps scope)
  (len:∀vs H Q E,sp vs H Q E->vs.length=ps.length)
  (eE:∀(A:av) (outer:List dt) (s:af) (H:Hp) (vs:List V) (Q:VK) (E:XK),Room k (A.deeper (aO qual scope s.heap.objs.size f cdv))->sp vs H Q E ->
   ∃t,PSs (Co CX P w K mg base N qual scope f cdv A outer s H E) body t/\t {nx:=λ_ H'=>Q .non H',rt:=Q} (start N vs) H):
  FnOk P w K mg base CX (k+1) f (LS name qual params body scope dV kV cX pm an cdv ct) ps sp:=by
 refine⟨len,λA outer s H args us vs Q E hr e0 hb r gY=>?_⟩;have hl:=len _ _ _ _ gY;have KX:K.In s.heap:=e0.mod.kin.keeps λb o e=>(e0.bs b o e).1;have qX:s.heap.NoLimit:=e0.mod.nolimit.keeps λb o e=>(e0.bs b o e).1;have fB:∀y∈ps.zip us,scope.names.lookup y.1=some .local\/(scope.names.lookup y.1=some .cell/\((bJ (s.heap.objs.size+1) scope.names []).lookup y.1).isSome=true):=λ⟨n,v⟩ hy=>by
  rcases S.par n (Sk hy).1 with q | q
  ·exact .inl q
  ·exact .inr ⟨q,LN _ _ _ (.inl q)⟩
 refine codeAny_call_function hr.depth (KX _ _ lk) rfl S.co S.gen rfl (PySem.W.codeRec_of KX gW) (hb _ _ _ _ ?_);refine gk S.kind fB λenv he s1 x=>?_;subst he;refine⟨qX.keeps x.toInCall.keep,codeAny_func ?_⟩;obtain⟨t,ht,hq⟩:=eE A outer s H vs Q E (hr.deeper _) gY;have I:Inv (Co CX P w K mg base N qual scope f cdv A outer s H E) [] (start N vs) H s1:=Xa3 S hr.hd e0 hl r x;refine aI (ht [] s1 (start N vs) H _ I hq) (λfl s' hs=>?_) λe s' hs=>hs;have fin:∀{Z':St} {H':Hp} {v:V} {u:aa},Inv (Co CX P w K mg base N qual scope f cdv A outer s H E) [] Z' H' s'->Aj v u->Q v H'->CE outer P w H s Q u s':=
  λ{Z' H' v u} J rv q=>⟨v,H',J.os,J.bare,J.base,J.hok,rv,q⟩
 cases fl with
 | ret u=>
  obtain⟨v, Z',H',J,rv,q⟩:=hs;exact fin J rv q
 | next=>
  obtain⟨Z',H',J,q⟩:=hs;exact fin (v:=V.non) (u:=aa.none) J rfl q
 | brk=>
  obtain⟨_,_,_,q⟩:=hs;exact False.elim q
 | cont=>
  obtain⟨_,_,_,q⟩:=hs;exact False.elim q
section
variable {X:Cx}{x:ak}{p pos:bI}{e:aE}{es:List aE}{t:TA}{id T:String}{r:List V->Hp->VK->Prop}
def tCB (r:List V->Hp->VK->Prop) (t:TA):TE:=fun Z H Q=>t Z H λvs H1=>r vs H1 Q
def A8(hc:Bv X (.builtin id) r)(hg:Gl X x)(hm:X.mg x=none)(hv:bA x=some (.builtin id))(ha:PA X (e::es) t)(hn:x ≠ "__name__" := by decide)(gj:(x==("__debug__" : ak))=false:=by decide)
  (he:aA (e::es) X.env=(false,eval e X.env)::aA es X.env:=by rfl) (bL:(bx pos (aA es X.env)).any (·.1)=false:=by rfl):PE X (.Call (.Name x p) (e::es) [] pos) (tCB r t):=by
 intro pins s Z H Q I h;refine bC (E9 I hg hm hv ?_ hn gj);exact PyProof.Rows.callWith_builtin1 (thn (ha pos pins s Z H _ I h) λus s1 ⟨vs,H1,I1,r1,q1⟩=>hc pins s1 Z H1 vs us Q I1 r1 q1) he bL
def B1(hc:Bv X (.type T) r)(hg:Gl X x)(hm:X.mg x=none)(hv:bA x=some (.type T))(ha:PA X (e::es) t)(hn:x ≠ "__name__" := by decide)(gj:(x==("__debug__" : ak))=false:=by decide)
  (he:aA (e::es) X.env=(false,eval e X.env)::aA es X.env:=by rfl) (bL:(bx pos (aA es X.env)).any (·.1)=false:=by rfl):PE X (.Call (.Name x p) (e::es) [] pos) (tCB r t):=by
 intro pins s Z H Q I h;refine bC (E9 I hg hm hv ?_ hn gj);exact PyProof.Rows.callWith_type1 (thn (ha pos pins s Z H _ I h) λus s1 ⟨vs,H1,I1,r1,q1⟩=>hc pins s1 Z H1 vs us Q I1 r1 q1) he bL
end
end L2
namespace HT
open PySem PyProof.Rows
def Xh5:List Int->List Int->Bool
 | [],[]=>false
 | [],_::_=>true
 | _::_,[]=>false
 | x::xs,y::ys=>if x=y then Xh5 xs ys else decide (x<y)
section
open PySem.SeqAt
open PySem.AutoSeq1 (wpAny_loadPart')
open PySem.MeetsSeq PySem.MeetsSeq2 PySem.MeetsSeq3
end
section
variable {prog:ao}{w:aw}{A:av}{E:Zb}{s:af}
def cat_tup   (ht:cW s.heap t vs.toArray) (hb:cW s.heap b ws.toArray) (hv:vs≠[])
  (h1:ws=[]->Q (.ref t) s) (h2:ws≠[]->Q (.ref s.heap.objs.size) {s with heap:=s.heap.push {cls:=.type "tuple",data:=.seq (vs++ws).toArray} })
  (hsz:vs.length+ws.length<=sizeLine):ai (ag prog w) A (bh .Add (.ref t) (.ref b)) Q E s:=by
 obtain⟨⟨cls,dd,data,sl⟩,ho,hc,n,hd⟩:=id ht;obtain⟨⟨qY,mV,data2,mW⟩,jz,gl,n2,cE⟩:=id hb;simp only at hc hd gl cE;subst hc hd gl cE;have e:vs.toArray++ws.toArray=(vs++ws).toArray:=by simp
 by_cases hw:ws=[]
 ·exact iX ⟨_,ho,rfl⟩ ⟨_,jz,rfl⟩ fk ig PySem.F.slot_tuple_add PySem.F.entry_tuple_add (PySem.F.args_tuple_add_2 _ _)
   (tuple_addW1 t b vs.toArray ws.toArray n n2 dd mV sl mW (by simpa using hv) (by simp[hw])) ⟨ho,jz,h1 hw⟩
 ·refine iX ⟨_,ho,rfl⟩ ⟨_,jz,rfl⟩ fk ig PySem.F.slot_tuple_add PySem.F.entry_tuple_add (PySem.F.args_tuple_add_2 _ _)
   (tuple_addW2 t b vs.toArray ws.toArray n n2 dd mV sl mW (by simpa using hv) (by simpa using hw) (by rw[Oi,Oi];exact hsz)) ⟨ho,jz,?_⟩
  rw[e];exact h2 hw
def sIx (n d:Nat):Option Int->Nat
 | none=>d
 | some v=>if v<0 then (v+(n:Int)).toNat else min v.toNat n
def sIx_none(n d):sIx n d none=d:=rfl
def sIx_nat(n d k:Nat):sIx n d (some (k:Int))=min k n:=by
 show (if (k:Int)<0 then ((k:Int)+(n:Int)).toNat else min (k:Int).toNat n)=min k n;rw[Tj (by lia),Ru]
def Xh6(n d)(hd:d<=n)(o):sIx n d o<=n:=by
 cases o with
 | none=>exact hd
 | some v=>
  show (if v<0 then (v+(n:Int)).toNat else min v.toNat n)<=n;by_cases hv:v<0
  ·rw[Tk hv];lia
  ·rw[Tj hv];exact Nat.min_le_right _ _
def Xa4(v)(n d:Nat):(if v<0 then max (v+(n:Int)) 0 else min v (n:Int))=((sIx n d (some v):Nat):Int):=by
 show (if v<0 then max (v+(n:Int)) 0 else min v (n:Int))=(((if v<0 then (v+(n:Int)).toNat else min v.toNat n):Nat):Int);by_cases hv:v<0
 ·simp only[Tk hv];lia
 ·simp only[Tj hv];lia
def Xh7(lo hi)(n:Nat):aj.Slice.sliceAdjust lo hi 1 (n:Int)=(((sIx n 0 lo:Nat):Int),((sIx n n hi:Nat):Int)):=by
 have h1:¬((1:Int)<0):=by lia
 unfold aj.Slice.sliceAdjust;simp only[h1,if_false];refine Prod.ext ?_ ?_
 ·cases lo with
  | none=>rfl
  | some v=>exact Xa4 v n 0
 ·cases hi with
  | none=>rfl
  | some v=>exact Xa4 v n n
def Xh8(i j:Nat):aj.Slice.slicePlaces (i:Int) (j:Int) 1=j - i:=by
 unfold aj.Slice.slicePlaces;have h1:(1:Int) > 0:=by lia
 simp only[h1,if_true,Int.ediv_one];split<;>lia
def Xa5   (p:dw v o) (h:Q o s):ai (ag prog w) A (aj.Slice.slicePartIndex v) Q E s:=by
 cases p with
 | none=>exact dy h
 | int i t=>exact uh h
def Xa6   {lo hi} {n:Nat} (hs:s.heap.IsSliceOf sl vl vu .none) (pl:dw vl lo) (pu:dw vu hi)
  (h:Q (((sIx n 0 lo:Nat):Int),1,sIx n n hi - sIx n 0 lo) s):ai (ag prog w) A (aj.Slice.sliceApplied (.ref sl) (pure (n:Int))) Q E s:=by
 obtain⟨os,fC,oo,lh⟩:=id hs;unfold aj.Slice.sliceApplied aj.Slice.sliceFields;refine Te (Te (cF fC lh (x:=vl) rfl (Te (cF fC lh (x:=vu) rfl (Te (cF fC lh (x:=.none) rfl (Tf ?_)))))));refine Te (dy ?_);show ai _ _ (if ((1:Int)==0)=true then _ else _) _ _ s;rw[Tj (by decide)];refine Te (Xa5 pl (Te (Xa5 pu (Te (Tf ?_)))));show ai _ _ (match aj.Slice.sliceAdjust lo hi 1 (n:Int) with | (lo,hi)=>pure (lo,(1:Int),aj.Slice.slicePlaces lo hi 1)) _ _ s;rw[Xh7 lo hi n];show ai _ _ (pure (((sIx n 0 lo:Nat):Int),(1:Int),aj.Slice.slicePlaces ((sIx n 0 lo:Nat):Int) ((sIx n n hi:Nat):Int) 1)) _ _ s;rw[Xh8];exact Tf h
def Xh9(xs:Array aa)(i k:Nat):((List.range k).filterMap λ(m:Nat)=>xs[((i:Int)+(m:Int) * 1).toNat]?).toArray=((xs.toList.drop i).take k).toArray:=by
 have e:(λ(m:Nat)=>xs[((i:Int)+(m:Int) * 1).toNat]?)=λm=>xs[i+m]?:=by
  funext m;have:((i:Int)+(m:Int) * 1).toNat=i+m:=by lia
  rw[this]
 rw[e];have:=pick_run xs i k;rw[Sr] at this;have e2:((λx=>xs[x]?) ∘ λx=>i+x)=λm=>xs[i+m]?:=rfl;rw[e2] at this;rw[this]
def getItem_tuple_cut    {lo hi} (ht:cW s.heap t ay) (hs:s.heap.IsSliceOf sl vl vu .none) (pl:dw vl lo) (pu:dw vu hi)
  (hw:¬(sIx ay.size 0 lo=0/\sIx ay.size ay.size hi=ay.size))
  (h:Q (.ref s.heap.objs.size) {s with heap:=s.heap.push {cls:=.type "tuple",data:=.seq ((ay.toList.drop (sIx ay.size 0 lo)).take (sIx ay.size ay.size hi - sIx ay.size 0 lo)).toArray} })
  (hsz:ay.size<=sizeLine):ai (ag prog w) A (bU (.ref t) (.ref sl)) Q E s:=by
 have dz:sizeOk (.seq ((ay.toList.drop (sIx ay.size 0 lo)).take (sIx ay.size ay.size hi - sIx ay.size 0 lo)).toArray):=by
  show ((ay.toList.drop (sIx ay.size 0 lo)).take (sIx ay.size ay.size hi - sIx ay.size 0 lo)).toArray.size<=sizeLine;rw[Oi,O0,Pw,Os]
  lia
 have hj:sIx ay.size ay.size hi<=ay.size:=Xh6 _ _ (Og _) hi;obtain⟨os,fC,oo,lh⟩:=id hs;have li:s.TypeIs (.ref sl) "slice" := ⟨os,fC,oo⟩;unfold bU
 try with_reducible refine az ?_
 first | refine Te (Tf ?_) | skip
 refine Te (eF ht.typeIs (by decide) ?_);refine Te (bz (name:=ak.ofString "__getitem__") ht.typeIs PyProof.Rows.slot_tuple_getitem
  (aP PyProof.Rows.slot_tuple_getitem ht.typeIs dH ?_ (dU _ _)))
 show ai _ _ (aj.Tuple.tupleItemsOf (.ref t) >>= _) _ _ s;refine Te (ii ht ?_);refine Te (bo li ?_);rw[Tk (by decide)];refine Te (Xa6 hs pl pu ?_);have fm:¬((((sIx ay.size 0 lo:Nat):Int)==0&&(1:Int)==1&&(sIx ay.size ay.size hi - sIx ay.size 0 lo)==ay.size)=true):=by
  intro q;rw[Oy,Oy] at q;have q1:((sIx ay.size 0 lo:Nat):Int)=0:=eq_of_beq q.1.1;have q2:sIx ay.size ay.size hi - sIx ay.size 0 lo=ay.size:=eq_of_beq q.2;exact hw ⟨by lia,by lia⟩
 show ai _ _ (if (((sIx ay.size 0 lo:Nat):Int)==0&&(1:Int)==1&&(sIx ay.size ay.size hi - sIx ay.size 0 lo)==ay.size)=true then _ else _) _ _ s;rw[Tj fm,Xh9]
 first
  | exact Te (m:=aj.Tuple.tupleExact _) (aD (Tf ⟨_,rfl,Tf h⟩) dz)
  | exact Te (m:=aj.Tuple.tupleExact _) (aD (Te (Tf (Tf ⟨_,rfl,Tf h⟩))) dz)
  | exact Te (Te (m:=aj.Tuple.tupleExact _) (aD (Tf (Tf ⟨_,rfl,Tf h⟩)) dz))
  | exact Te (Te (m:=aj.Tuple.tupleExact _) (aD (Tf ⟨_,rfl,Tf h⟩) dz))
end
end HT
namespace L2
abbrev TO:=St->Hp->(Option Int->Hp->Prop)->Prop
def PO (X:Cx) (e:Option aE) (t:TO):Prop:=
 ∀pins s Z H (Q:Option Int->Hp->Prop),Inv X pins Z H s->t Z H Q ->
  ai (ag X.prog X.w) X.A (evalPart e X.env) (λu s'=>∃o H',Inv X pins Z H' s'/\dw u o/\Q o H') X.xe s
def Lo:TO:=λ_ H Q=>Q none H
def Lp (t:TE):TO:=fun Z H Q=>t Z H λx H1=>∃i,x = .int i/\Q (some i) H1
section
variable {X:Cx}{e:aE}{te:TE}{lo hi:Option aE}{tl th:TO}{pos p2:bI}
def Cp:PO X none Lo:=by
 intro pins s Z H Q I h;rw[dP];exact Tf ⟨none,H,I,.none,h⟩
def B6(h:PE X e te):PO X (some e) (Lp te):=by
 intro pins s Z H Q I hw;rw[ij];refine thn (h pins s Z H _ I hw) λu s1 ⟨x,H1,I1,r1,q1⟩=>?_;obtain⟨i,rfl,q⟩:=q1;obtain⟨t,rfl⟩:=r1;exact⟨some i,H1,I1,.int i t,q⟩
def SlR (X:Cx) (r:V->Option Int->Option Int->Hp->VK->Prop):Prop:=
 ∀pins s Z H (x:V) (v vl vu:aa) (lo hi:Option Int) (sl:ae) (Q:VK),Inv X pins Z H s->Aj x v->s.heap.IsSliceOf sl vl vu .none->dw vl lo->dw vu hi->r x lo hi H Q ->
  ∃T id,lE (.type T) "__getitem__" = pure (some (.builtin id))/\s.TypeIs v T/\ai (ag X.prog X.w) X.A (bU v (.ref sl)) (EP X pins Z Q) X.xe s
def tSl (r:V->Option Int->Option Int->Hp->VK->Prop) (te:TE) (tl th:TO):TE:=fun Z H Q=>te Z H λx H1=>tl Z H1 λl H2=>th Z H2 λu H3=>r x l u H3 Q
def Cd(hr:SlR X r)(he:PE X e te)(hl:PO X lo tl)(hu:PO X hi th):PE X (.Subscript e (.Slice lo hi none p2) pos) (tSl r te tl th):=by
 intro pins s Z H Q I h;refine dW (thn (he pins s Z H _ I h) λv s1 ⟨x,H1,I1,r1,q1⟩=>?_);refine jO (thn (hl pins s1 Z H1 _ I1 q1) λvl s2 ⟨l,H2,I2,pl,q2⟩=>thn (hu pins s2 Z H2 _ I2 q2) λvu s3 ⟨u,H3,I3,pu,q3⟩=>?_);rw[dP];refine Tf ?_;have I4:Inv X pins Z H3 {s3 with heap:=s3.heap.push {cls:=.type "slice",data:=.fields #[vl,vu,.none]} }:=I3.kept (t':=s3.toks) λb ob q=>Tt _ q;obtain⟨T,id,hT,ht,hg⟩:=hr pins {s3 with heap:=s3.heap.push {cls:=.type "slice",data:=.fields #[vl,vu,.none]} } Z H3 x v vl vu l u s3.heap.objs.size Q I4 r1 (am.IsSliceOf.new ..) pl pu q3;show ai (ag X.prog X.w) X.A (ik e (.Slice lo hi none p2) v (.ref s3.heap.objs.size)) (EP X pins Z Q) X.xe {s3 with heap:=s3.heap.push {cls:=.type "slice",data:=.fields #[vl,vu,.none]} };exact jP (ops:=[.ref s3.heap.objs.size,v]) ht hT hg (by with_unfolding_all rfl)
def Bx (xs:List V) (lo hi:Option Int):List V:=(xs.drop (HT.sIx xs.length 0 lo)).take (HT.sIx xs.length xs.length hi - HT.sIx xs.length 0 lo)
def Xa7(xs)(lo hi):(Bx xs lo hi).length<=xs.length:=by
 unfold Bx;rw[O0,Pw]
 lia
def rSlT (K:LD):V->Option Int->Option Int->Hp->VK->Prop:=λx lo hi H Q=>∃a xs,x = .ref a/\SqT K H a xs /\
 ¬(HT.sIx xs.length 0 lo=0/\HT.sIx xs.length xs.length hi=xs.length)/\∀p,H p=none->Q (.ref p) (upd H p (.tup (Bx xs lo hi)))
def Xia:SlR X (rSlT X.K):=by
 intro pins s Z H x v vl vu lo hi sl Q I rx hs pl pu h;obtain⟨a,xs,rfl,hx,hw,q⟩:=h;cases rx;obtain⟨a7,r,ht,hz⟩:=I.tuple hx;have aN:a7.toArray.size=xs.length:=by rw[Oi];exact r.length.symm
 refine⟨"tuple",_,PyProof.Rows.slot_tuple_getitem.lookup,ht.typeIs,?_⟩;refine HT.getItem_tuple_cut ht hs pl pu (by rw[aN];exact hw) ?_ (by rw[aN];exact hz);rw[aN];refine⟨.ref s.heap.objs.size,_,I.laid (t':=s.toks) (o:=.tup (Bx xs lo hi)) (λb ob q=>Tt _ q) (Og _) ?_,rfl,q _ (I.hok.fresh (Og _))⟩;exact⟨Pj (Xa7 xs lo hi) hz,_,(r.drop (HT.sIx xs.length 0 lo)).take (HT.sIx xs.length xs.length hi - HT.sIx xs.length 0 lo),cW.new _ _⟩
def Xib (K:LD):R2:=λx y H Q=>∃a b xs ys,x = .ref a/\y = .ref b/\SqT K H a xs/\SqT K H b ys/\xs≠[]/\xs.length+ys.length<=sizeLine /\
 (ys=[]->Q (.ref a) H)/\(ys≠[]->∀p,H p=none->Q (.ref p) (upd H p (.tup (xs++ys))))
def Vals.nil_iff  (r:Vals xs us):us=[]↔xs=[]:=by
 cases r with
 | nil=>simp
 | cons _ _=>simp
def Xic:OpR X (bh .Add) (Xib X.K):=by
 intro pins s Z H x y v u Q I rx ry h;obtain⟨a,b,xs,ys,rfl,rfl,ha,hb,hx,hz,q1,q2⟩:=h;cases rx;cases ry;obtain⟨a7,r1,p1,_⟩:=I.tuple ha;obtain⟨il,r2,p2,_⟩:=I.tuple hb;refine HT.cat_tup p1 p2 (λz=>hx (r1.nil_iff.mp z)) (λz=>⟨.ref a,H,I,rfl,q1 (r2.nil_iff.mp z)⟩) (λz=>?_) (by rw[<-r1.length,<-r2.length];exact hz);refine⟨.ref s.heap.objs.size,_,I.laid (t':=s.toks) (o:=.tup (xs++ys)) (λb ob q=>Tt _ q) (Og _) ?_,rfl,q2 (λw=>z (r2.nil_iff.mpr w)) _ (I.hok.fresh (Og _))⟩;exact⟨by rw[Oh];exact hz,_,r1.append r2,cW.new _ _⟩
end
def ixN (n:Nat) (i:Int):Option Nat:=if 0<=i then (if i<n then some i.toNat else none) else if -(n:Int)<=i then some (i+n).toNat else none
def atI {α : Type} (xs:List α) (i:Int):Option α:=(ixN xs.length i).bind λj=>xs[j]?
def Xa8   (h:ixN n i=some j):JA i n=some j/\j<n /\ -(n:Int)<=i/\i<n:=by
 unfold ixN at h;by_cases h0:0<=i
 ·rw[Tk h0] at h;by_cases h1:i<n
  ·rw[Tk h1] at h;have e:i.toNat=j:=Ox h;exact⟨by rw[jQ h0 h1,e],by lia,by lia,h1⟩
  ·rw[Tj h1] at h;cases h
 ·rw[Tj h0] at h;by_cases h1 : -(n:Int)<=i
  ·rw[Tk h1] at h;have e:(i+n).toNat=j:=Ox h;exact⟨by rw[seqIndex_neg (by lia) h1,e],by lia,h1,by lia⟩
  ·rw[Tj h1] at h;cases h
def Lq{α : Type}{xs}{v : α}(h:atI xs i=some v):∃j,JA i xs.length=some j/\xs[j]? = some v/\j<xs.length /\ -(xs.length:Int)<=i/\i<xs.length:=by
 unfold atI at h;cases e:ixN xs.length i with
 | none=>rw[e] at h;cases h
 | some j=>
  rw[e] at h;obtain⟨h1,h2,h3,h4⟩:=Xa8 e;exact⟨j,h1,h,h2,h3,h4⟩
def Ff{α : Type}{xs}{j:Nat}{v : α}(h:xs[j]? = some v):atI xs (j:Int)=some v:=by
 have hj:j<xs.length:=(Oz.mp h).1;have e:ixN xs.length (j:Int)=some j:=by
  unfold ixN;rw[Tk (by lia),Tk (by lia)];simp
 unfold atI;rw[e];exact h
def Xid (b:aE):Prop:=∀o i,subscripted b false o i=operate [o,i] (bU o i)
def IxR (X:Cx) (r:R2):Prop:=
 ∀(value slice:aE) (pins:List (ae×aK)) (s:af) (Z:St) (H:Hp) (x y:V) (v u:aa) (Q:VK),Inv X pins Z H s->Aj x v->Aj y u->r x y H Q ->
  subscripted slice false v u=operate [v,u] (bU v u)->ai (ag X.prog X.w) X.A (ik value slice v u) (EP X pins Z Q) X.xe s
def MtR (X:Cx) (id:String) (r:V->List V->Hp->VK->Prop):Prop:=
 ∀pins s Z H (x:V) (xs:List V) (v:aa) (us:List aa) (Q:VK),Inv X pins Z H s->Aj x v->Vals xs us->r x xs H Q ->
  ai (ag X.prog X.w) X.A (call (.builtin id) (v::us)) (EP X pins Z Q) X.xe s
section
variable {X:Cx}{a b:aE}{ta tb:TE}{pos:bI}
def A0(hr:IxR X r)(ha:PE X a ta)(hb:PE X b tb)(hs:Xid b):PE X (.Subscript a b pos) (tOp r ta tb):=by
 intro pins s Z H Q I h;exact dW (binT ha hb I h λv u s2 x y H2 I2 rx ry q=>hr a b pins s2 Z H2 x y v u Q I2 rx ry q (hs _ _))
def Xa9 (K:LD):R2:=λx y H Q=>∃p xs i v,x = .ref p/\y = .int i/\SqL K H p xs/\atI xs i=some v/\Q v H
def Lr (K:LD):R2:=λx y H Q=>∃p xs i v,x = .ref p/\y = .int i/\SqT K H p xs/\atI xs i=some v/\Q v H
def Xba:R2:=λx y H Q=>∃z i c,x = .str z/\y = .int i/\z.length<=sizeLine/\atI z.cps.toList i=some c/\Q (.str ⟨#[c]⟩) H
def Bf:IxR X (Xa9 X.K):=by
 intro value slice pins s Z H x y v u Q I rx ry h hs;obtain⟨p,xs,i,z,rfl,rfl,hq,he,q⟩:=h;cases rx;obtain⟨t,rfl⟩:=ry;obtain⟨a7,r,pl,hz⟩:=I.list hq;obtain⟨j,h1,h2,h3,h4,h5⟩:=Lq he;obtain⟨w,ew,jR⟩:=r.get h2;have hl:=r.length;have hn:=line63;have fin:EP X pins Z Q w s:=⟨z,H,I,jR,q⟩;by_cases h0:0<=i
 ·have hj:i.toNat=j:=by
   rw[jQ h0 h5] at h1;exact Ox h1
  exact item_listR pl.isList h0 (by lia) (by rw[hj];simpa using ew) fin hs
 ·have hj:(i+(a7.toArray.size:Int)).toNat=j:=by
   rw[seqIndex_neg (by lia) h4] at h1;rw[Oi,<-hl];exact Ox h1
  exact iY (x:=w) pl.isList.typeIs eG.lookup
   (wpAny_getItem_list_neg (Q:=λr s'=>r=w/\EP X pins Z Q r s') pl.isList (by lia) (by rw[Oi]<;>lia) (by lia) (by rw[hj];simpa using ew) ⟨rfl,fin⟩) hs
def G6:IxR X (Lr X.K):=by
 intro value slice pins s Z H x y v u Q I rx ry h hs;obtain⟨p,xs,i,z,rfl,rfl,hq,he,q⟩:=h;cases rx;obtain⟨t,rfl⟩:=ry;obtain⟨a7,r,pl,hz⟩:=I.tuple hq;obtain⟨j,h1,h2,h3,h4,h5⟩:=Lq he;obtain⟨w,ew,jR⟩:=r.get h2;have hl:=r.length;have hn:=line63;have fin:EP X pins Z Q w s:=⟨z,H,I,jR,q⟩;exact iY (x:=w) pl.typeIs slot_tuple_getitem.lookup
  (getItem_tuple (j:=j) (Q:=λr s'=>r=w/\EP X pins Z Q r s') pl (by lia) (by lia) (by rw[Oi,<-hl];exact h1) (by simpa using ew) ⟨rfl,fin⟩) hs
def Xie:IxR X Xba:=by
 intro value slice pins s Z H x y v u Q I rx ry h hs;obtain⟨z,i,c,rfl,rfl,hz,he,q⟩:=h;obtain⟨t,rfl⟩:=rx;obtain⟨t',rfl⟩:=ry;obtain⟨j,h1,h2,h3,h4,h5⟩:=Lq he;have hl:z.cps.toList.length=z.length:=by simp[ak.length]
 rw[hl] at h1 h4 h5;have hn:=line63;exact jP (lF s z t) slot_str_getitem.lookup (getItem_str (c:=c) (by
  have e1:decide (i < -(2 ^ 63:Int))=false:=Tn (by lia);have e2:decide (i ≥ 2 ^ 63)=false:=Tn (by lia);rw[e1,e2,Ta]) (by rw[h1];simpa using h2) ⟨.str ⟨#[c]⟩,H,I.tok _,⟨_,rfl⟩,q⟩) hs
def rIx (K:LD):R2:=λx y H Q=>Xa9 K x y H Q\/Lr K x y H Q\/Xba x y H Q
def Xif(a7:List aa)(n j)(u):aK.mapSeq (·.setIfInBounds j u) {cls:=.type "list",data:=.seq a7.toArray n} = {cls:=.type "list",data:=.seq (a7.set j u).toArray n}:=by
 simp[aK.mapSeq]
def Inv.lst{pins}{Z:St}{H}{s}{p}{xs}(I:Inv X pins Z H s)(h:H p=some (.lst xs)):
  ∃(a7:List aa) (n:Nat),Vals xs a7/\s.heap.get? p=some {cls:=.type "list",data:=.seq a7.toArray n}/\xs.length<=sizeLine:=by
 obtain⟨z,a7,n,r,e⟩:=I.hok p _ h;exact⟨a7,n,r,e,z⟩
def Inv.lstUpd       {a7 its':List aa}  (I:Inv X pins Z H s) (h:H p=some (.lst xs))
  (ho:s.heap.get? p=some {cls:=.type "list",data:=.seq a7.toArray n}) (hf:f {cls:=.type "list",data:=.seq a7.toArray n} = {cls:=.type "list",data:=.seq its'.toArray n'}) (r:Vals ys its') (hz:ys.length<=sizeLine) (t):
  Inv X pins Z (upd H p (.lst ys)) {s with heap:=s.heap.update p f,toks:=t}:=by
 have e:(s.heap.update p f).get? p=some {cls:=.type "list",data:=.seq its'.toArray n'}:=by
  rw[am.get?_update_self f ho (by rw[hf]<;>rfl),hf]
 refine I.write (x:=p) (e:=p) (by rw[h];trivial) (.inl rfl) (λb u hb q=>(am.get?_update_other _ _ (Ne.symm hb)).trans q) ⟨_,e⟩ ?_;exact⟨hz,its',n',r,e⟩
def Xig:V->V->V->Hp->(Hp->Prop)->Prop:=λo i v H Q=>∃p xs k j,o = .ref p/\i = .int k/\H p=some (.lst xs)/\ixN xs.length k=some j/\Q (upd H p (.lst (xs.set j v)))
def Fg:PSet X Xig:=by
 intro pins s Z H o i v ov iv u Q I ro ri rv h;obtain⟨p,xs,k,j,rfl,rfl,hp,hj,q⟩:=h;cases ro;obtain⟨t,rfl⟩:=ri;obtain⟨a7,n,r,ho,hz⟩:=I.lst hp;obtain⟨h1,h2,h3,h4⟩:=Xa8 hj;have hl:=r.length;have hn:=line63;have I':Inv X pins Z (upd H p (.lst (xs.set j v))) {s with heap:=s.heap.update p (aK.mapSeq (·.setIfInBounds j u))}:=
  I.lstUpd hp ho (Xif a7 n j u) (r.set rv j) (by rw[List.length_set];exact hz) s.toks
 by_cases h0:0<=k
 ·have hk:k.toNat=j:=by
   rw[jQ h0 h4] at h1;exact Ox h1
  exact PySem.W.ki_setAt ho h0 (by lia) (by rw[Oi,<-hl];exact h4) (by rw[hk];exact⟨_,I',q⟩)
 ·have hk:(k+(a7.toArray.size:Int)).toNat=j:=by
   rw[seqIndex_neg (by lia) h3] at h1;rw[Oi,<-hl];exact Ox h1
  exact PySem.W.ki_setBack ho (by lia) (by rw[Oi,<-hl];exact h3) (by lia) (by rw[hk];exact⟨_,I',q⟩)
def Xih(lo hi)(n):(cj lo hi none n).1=((HT.sIx n 0 lo:Nat):Int)/\(cj lo hi none n).2.1=((HT.sIx n n hi:Nat):Int)/\(cj lo hi none n).2.2=1:=by
 refine⟨?_,?_,rfl⟩
 ·cases lo with
  | none=>simp[cj,HT.sIx]
  | some i=>
   simp only[cj,HT.sIx,Option.getD_none,show (1:Int) > 0 by decide,if_true];by_cases h:i<0
   ·simp only[h,if_true]<;>lia
   ·simp only[h,if_false]<;>lia
 ·cases hi with
  | none=>simp[cj,HT.sIx]
  | some i=>
   simp only[cj,HT.sIx,Option.getD_none,show (1:Int) > 0 by decide,if_true];by_cases h:i<0
   ·simp only[h,if_true]<;>lia
   ·simp only[h,if_false]<;>lia
def Xii(a7:List aa)(lo hi):JB a7.toArray lo hi none=((a7.drop (HT.sIx a7.length 0 lo)).take (HT.sIx a7.length a7.length hi - HT.sIx a7.length 0 lo)).toArray:=by
 obtain⟨h1,h2,h3⟩:=Xih lo hi a7.toArray.size;unfold JB;rw[h1,h2,h3];simp only[sliceRange_one,pick_run,Oi]<;>rfl
def rSlL (K:LD):V->Option Int->Option Int->Hp->VK->Prop:=λx lo hi H Q=>∃a xs,x = .ref a/\SqL K H a xs/\∀p,H p=none->Q (.ref p) (upd H p (.lst (Bx xs lo hi)))
def Eb:SlR X (rSlL X.K):=by
 intro pins s Z H x v vl vu lo hi sl Q I rx hs pl pu h;obtain⟨a,xs,rfl,hx,q⟩:=h;cases rx;obtain⟨a7,r,ht,hz⟩:=I.list hx;have aN:=r.length;refine⟨"list",_,eG.lookup,ht.isList.typeIs,?_⟩;refine im ht.isList hs pl pu .none (by simp) ?_ (by rw[Oi]<;>lia);rw[Xii,<-aN];refine⟨.ref s.heap.objs.size,_,I.laid (t':=s.toks) (o:=.lst (Bx xs lo hi)) (λb ob q=>Tt _ q) (Og _) ?_,rfl,q _ (I.hok.fresh (Og _))⟩;exact⟨Pj (Xa7 xs lo hi) hz,_,0,(r.drop (HT.sIx xs.length 0 lo)).take (HT.sIx xs.length xs.length hi - HT.sIx xs.length 0 lo),am.get?_push_size _ rfl⟩
def Cq:V->Bool
 | .non=>true
 | .bl _=>true
 | .int _=>true
 | .str _=>true
 | _=>false
def eqV:V->V->Bool
 | .non,.non=>true
 | .bl a,.bl b=>a==b
 | .bl a,.int b=>(if a then 1 else 0)==b
 | .int a,.bl b=>a==(if b then 1 else 0)
 | .int a,.int b=>a==b
 | .str a,.str b=>a==b
 | _,_=>false
def Xbb    (ry:Aj y u) (rx:Aj x v) (fy:Cq y=true) (fx:Cq x=true):SeqAt.EqAt A s u v (eqV y x):=by
 cases y with
 | non=>
  cases ry;cases x with
  | non=>cases rx;exact SeqAt.EqAt.same _
  | bl b=>cases rx;exact SeqAt.EqAt.none_bool b
  | int b=>obtain⟨t,rfl⟩:=rx;exact SeqAt.EqAt.none_int b t
  | str b=>obtain⟨t,rfl⟩:=rx;exact SeqAt.EqAt.none_str b t
  | _=>exact absurd (show false=true from fx) Ow
 | bl a=>
  cases ry;cases x with
  | non=>cases rx;exact SeqAt.EqAt.bool_none a
  | bl b=>cases rx;exact SeqAt.EqAt.bool_bool a b
  | int b=>obtain⟨t,rfl⟩:=rx;exact SeqAt.EqAt.bool_int a b t
  | str b=>obtain⟨t,rfl⟩:=rx;exact SeqAt.EqAt.bool_str a b t
  | _=>exact absurd (show false=true from fx) Ow
 | int a=>
  obtain⟨t',rfl⟩:=ry;cases x with
  | non=>cases rx;exact SeqAt.EqAt.int_none a t'
  | bl b=>cases rx;exact SeqAt.EqAt.int_bool a t' b
  | int b=>obtain⟨t,rfl⟩:=rx;exact SeqAt.EqAt.int_int a t' b t
  | str b=>obtain⟨t,rfl⟩:=rx;exact SeqAt.EqAt.int_str a t' b t
  | _=>exact absurd (show false=true from fx) Ow
 | str a=>
  obtain⟨t',rfl⟩:=ry;cases x with
  | non=>cases rx;exact SeqAt.EqAt.str_none a t'
  | bl b=>cases rx;exact SeqAt.EqAt.str_bool a t' b
  | int b=>obtain⟨t,rfl⟩:=rx;exact SeqAt.EqAt.str_int a t' b t
  | str b=>obtain⟨t,rfl⟩:=rx;exact SeqAt.EqAt.str_str a t' b t
  | _=>exact absurd (show false=true from fx) Ow
 | _=>exact absurd (show false=true from fy) Ow
def eqU (x:V) (u:aa):Bool:=match u with
 | .none=>eqV .non x
 | .bool b=>eqV (.bl b) x
 | .int i _=>eqV (.int i) x
 | .str z _=>eqV (.str z) x
 | _=>false
def Xbc  (r:Aj y u) (f:Cq y=true):eqU x u=eqV y x:=by
 cases y with
 | non=>cases r;rfl
 | bl b=>cases r;rfl
 | int i=>obtain⟨t,rfl⟩:=r;rfl
 | str z=>obtain⟨t,rfl⟩:=r;rfl
 | _=>exact absurd (show false=true from f) Ow
theorem G7:∀{xs:List V} {us:List aa},Vals xs us->xs.all Cq=true->us.any (eqU x)=xs.any λy=>eqV y x
 | _,_,.nil,_=>rfl
 | y::xs,u::us,.cons r t,f=>by
  rw[List.all_cons,Oy] at f;rw[Sj,Sj,Xbc r f.1,G7 t f.2]
theorem G8    (rx:Aj x v) (fx:Cq x=true):∀{xs:List V} {us:List aa},Vals xs us->xs.all Cq=true->∀u∈us,SeqAt.EqAt A s u v (eqU x u)
 | _,_,.nil,_=>λu hu=>by cases hu
 | y::xs,u::us,.cons r t,f=>λu' hu=>by
  rw[List.all_cons,Oy] at f;rcases Ou.mp hu with rfl | hu
  ·rw[Xbc r f.1];exact Xbb r rx f.1 fx
  ·exact G8 rx fx t f.2 u' hu
def inV (x:V) (xs:List V):Bool:=xs.any λy=>eqV y x
def rIn (K:LD) (AV:Bool):R2:=λx y H Q=>∃p xs,y = .ref p/\(SqL K H p xs\/SqT K H p xs)/\Cq x=true/\xs.all Cq=true/\Q (.bl (if AV then !inV x xs else inV x xs)) H
def Ls:OpR X (aF .In) (rIn X.K false):=by
 intro pins s Z H x y v u Q I rx ry h;obtain⟨p,xs,rfl,hq,fx,fs,q⟩:=h;cases ry;rcases hq with hq | hq
 ·obtain⟨a7,r,pl,hz⟩:=I.list hq;refine SeqAt.in_listAt (eqU x) pl.isList (λw hw=>G8 rx fx r fs w (by simpa using hw)) ⟨.bl _,H,I,rfl,?_⟩;rw[show a7.toArray.any (eqU x)=a7.any (eqU x) by simp,G7 r fs];exact q
 ·obtain⟨a7,r,pl,hz⟩:=I.tuple hq;refine SeqAt.in_tupleAt (eqU x) pl (λw hw=>G8 rx fx r fs w (by simpa using hw)) ⟨.bl _,H,I,rfl,?_⟩;rw[show a7.toArray.any (eqU x)=a7.any (eqU x) by simp,G7 r fs];exact q
def Jm:OpR X (aF .NotIn) (rIn X.K true):=by
 intro pins s Z H x y v u Q I rx ry h;obtain⟨p,xs,rfl,hq,fx,fs,q⟩:=h;cases ry;rcases hq with hq | hq
 ·obtain⟨a7,r,pl,hz⟩:=I.list hq;refine SeqAt.notIn_listAt (eqU x) pl.isList (λw hw=>G8 rx fx r fs w (by simpa using hw)) ⟨.bl _,H,I,rfl,?_⟩;rw[show a7.toArray.any (eqU x)=a7.any (eqU x) by simp,G7 r fs];exact q
 ·obtain⟨a7,r,pl,hz⟩:=I.tuple hq;refine SeqAt.notIn_tupleAt (eqU x) pl (λw hw=>G8 rx fx r fs w (by simpa using hw)) ⟨.bl _,H,I,rfl,?_⟩;rw[show a7.toArray.any (eqU x)=a7.any (eqU x) by simp,G7 r fs];exact q
def Cr:Bv X (.builtin "len") (λxs H Q=>∃p ys,xs=[.ref p]/\(SqL X.K H p ys\/SqT X.K H p ys)/\Q (.int ys.length) H):=by
 intro pins s Z H xs us Q I r h;obtain⟨p,ys,rfl,hq,q⟩:=h;obtain⟨u,rfl,rx⟩:=Bw r;cases rx;have hn:=line63;rcases hq with hq | hq
 ·obtain⟨a7,r',pl,hz⟩:=I.list hq;have aN:=r'.length;exact Calls.call_len_list pl.isList (by simp only[Oi]<;>lia) ⟨.int ys.length,H,I.tok _,⟨s.toks+1,by rw[Oi,aN]⟩,q⟩
 ·obtain⟨a7,r',pl,hz⟩:=I.tuple hq;have aN:=r'.length;exact len_tuple pl (by simp only[Oi]<;>lia) ⟨.int ys.length,H,I.tok _,⟨s.toks+1,by rw[Oi,aN]⟩,q⟩
def G9:Bv X (.type "list") (λxs H Q=>∃p ys,xs=[.ref p]/\(SqL X.K H p ys\/SqT X.K H p ys)/\∀l,H l=none->Q (.ref l) (upd H l (.lst ys))):=by
 intro pins s Z H xs us Q I r h;obtain⟨p,ys,rfl,hq,q⟩:=h;obtain⟨u,rfl,rx⟩:=Bw r;cases rx;have fin:∀(a7:List aa),Vals ys a7->ys.length<=sizeLine->∀(h':am) (c':Nat),(∀b o',s.heap.get? b=some o'->h'.get? b=some o') ->
   h'.get? s.heap.objs.size=some {cls:=.type "list",dict:=none,data:=.seq a7.toArray c',slots := #[]}->EP X pins Z Q (.ref s.heap.objs.size) {s with heap:=h'}:=λa7 r' hz h' c' kp e=>
  ⟨.ref s.heap.objs.size,_,I.laid (t':=s.toks) kp (Og _) (show A4 X.prog X.w _ h' _ (.lst ys) from ⟨hz,a7,c',r',e⟩),rfl,q _ (I.hok.fresh (Og _))⟩
 rcases hq with hq | hq
 ·obtain⟨a7,r',pl,hz⟩:=I.list hq;have aN:=r'.length;obtain⟨o,ho,hc,n,hd⟩:=pl.isList;exact ui p (.inl rfl) ho hc hd (λh' c' kp e=>fin a7 r' hz h' c' kp e) (by simp only[Oi]<;>lia)
 ·obtain⟨a7,r',pl,hz⟩:=I.tuple hq;have aN:=r'.length;obtain⟨o,ho,hc,n,hd⟩:=pl;exact ui p (.inr rfl) ho hc hd (λh' c' kp e=>fin a7 r' hz h' c' kp e) (by simp only[Oi]<;>lia)
def Hg:Bv X (.type "tuple") (λxs H Q=>∃p ys,xs=[.ref p]/\((SqL X.K H p ys/\∀l,H l=none->Q (.ref l) (upd H l (.tup ys)))\/(SqT X.K H p ys/\Q (.ref p) H))):=by
 intro pins s Z H xs us Q I r h;obtain⟨p,ys,rfl,h⟩:=h;obtain⟨u,rfl,rx⟩:=Bw r;cases rx;rcases h with ⟨hq,q⟩ | ⟨hq,q⟩
 ·obtain⟨a7,r',pl,hz⟩:=I.list hq;have aN:=r'.length;refine call_tuple_list pl.isList (λh' kp=>?_) (by simp only[Oi]<;>lia);have I1:Inv X pins Z H {s with heap:=h'}:=I.kept (t':=s.toks) kp;have I2:Inv X pins Z (upd H h'.objs.size (.tup ys)) {s with heap:=h'.push {cls:=.type "tuple",data:=.seq a7.toArray} }:=
   I1.laid (t':=s.toks) (λb o e=>Tt _ e) (Og _) (show A4 X.prog X.w _ _ _ (.tup ys) from ⟨hz,a7,r',cW.new _ _⟩)
  exact⟨.ref h'.objs.size,_,I2,rfl,q _ (I1.hok.fresh (Og _))⟩
 ·obtain⟨a7,r',pl,hz⟩:=I.tuple hq;exact call_tuple_same pl ⟨.ref p,H,I,rfl,q⟩
def tyV (K:LD) (T:String) (x:V) (H:Hp):Prop:=match x with
 | .str _=>T = "str"
 | .int _=>T = "int"
 | .ref p=>(T = "list" /\ ∃xs,SqL K H p xs)\/(T = "tuple" /\ ∃o,K.lookup p=some o/\o.cls = .type "tuple" /\ o.dict=none) \/
   (T = "dict" /\ ((∃kvs,H p=some (.dK kvs)) \/ ∃kvs,H p=some (.dT kvs)))\/(T = "set" /\ ∃S n,H p=some (.set S n))
 | _=>False
def Xij       (I:Inv X pins Z H s) (r:Aj x v) (ty:tyV X.K T x H):
  s.TypeIs v T/\∀a,v = .ref a->∃ob,s.heap.get? a=some ob/\ob.dict=none:=by
 cases x with
 | str z=>
  obtain⟨t,rfl⟩:=r;cases (show T = "str" from ty);exact⟨lF s z t,λ_ e=>nomatch e⟩
 | int i=>
  obtain⟨t,rfl⟩:=r;cases (show T = "int" from ty);exact⟨lH s i t,λ_ e=>nomatch e⟩
 | ref p=>
  cases r;rcases ty with ⟨rfl,xs,hq⟩ | ⟨rfl,o,hk,hc,hd⟩ | ⟨rfl,hk⟩ | ⟨rfl,S,n,hk⟩
  ·obtain⟨a7,_,pl,_⟩:=I.list hq;refine⟨pl.isList.typeIs,λa e=>?_⟩;cases e;obtain⟨o,n,e,c,hd,_⟩:=pl;exact⟨o,e,hd⟩
  ·refine⟨⟨o,I.kIn p o hk,hc⟩,λa e=>?_⟩;cases e;exact⟨o,I.kIn _ o hk,hd⟩
  ·have z:∃o,s.heap.get? p=some o/\o.ExactDict:=by
    rcases hk with ⟨kvs,hk⟩ | ⟨kvs,hk⟩
    ·obtain⟨_,_,_,_,o,_,_,e,ex,_⟩:=I.hok p _ hk;exact⟨o,e,ex⟩
    ·obtain⟨_,_,_,_,o,_,_,e,ex,_⟩:=I.hok p _ hk;exact⟨o,e,ex⟩
   obtain⟨o,e,ex⟩:=z;refine⟨⟨o,e,ex.1⟩,λa e2=>?_⟩;cases e2;exact⟨o,e,ex.2.1⟩
  ·obtain⟨o,_,_,_,e,ex,_⟩:=I.hok p _ hk;refine⟨⟨o,e,ex.1⟩,λa e2=>?_⟩;cases e2;exact⟨o,e,ex.2.1⟩
 | _=>exact False.elim ty
def tBM (K:LD) (T:String) (r:V->List V->Hp->VK->Prop) (to:TE) (t:TA):TE:=fun Z H Q=>to Z H λx H1=>tyV K T x H1/\t Z H1 λxs H2=>r x xs H2 Q
variable {o e:aE}{es:List aE}{to:TE}{t:TA}{name:ak}{eD ca:bI}{T id:String}{r:V->List V->Hp->VK->Prop}
def Hh(pa:PlainAttrs T)(slot:Slot T name id)(AW:typeOf (.builtin id)=pure (.type "method_descriptor"))(hm:MtR X id r)(ho:PE X o to)(ha:PA X (e::es) t)
  (gm:io o name X.env (eval o X.env)=eval o X.env:=by rfl)
  (vh:((bx ca (aA (e::es) X.env)).all (λx => !x.1)&&(bV ca (bj [] X.env)).all (λx=>x.1.isSome)
   && decide ((e::es).length+([]:List cR).length+(if ([]:List cR).isEmpty then 0 else 1)<30))=true:=by rfl)
  (qZ:(eD.endLine==ca.line)=true:=by rfl) (hs:aA (e::es) X.env=(false,eval e X.env)::aA es X.env:=by rfl) (eI:(bx ca (aA es X.env)).any (·.1)=false:=by rfl):
  PE X (.Call (.Attribute o name eD) (e::es) [] ca) (tBM X.K T r to t):=by
 intro pins s Z H Q I h;refine wpAny_Call_method_late gm vh qZ rfl (thn (ho pins s Z H _ I h) λv s1 ⟨x,H1,I1,r1,ty,q1⟩=>?_);obtain⟨h1,h2⟩:=Xij I1 r1 ty;refine⟨T,id,pa,slot,AW,h1,h2,?_⟩;have hA:=ha ca pins s1 Z H1 _ I1 q1;rw[hs] at hA ⊢;refine Calls.callWith_builtin (by show (false||(bx ca (aA es X.env)).any (·.1))=false;rw[eI]<;>rfl) (Calls.evalArgs_plain ?_);exact thn hA λus s2 ⟨vs,H2,I2,r2,q2⟩=>hm pins s2 Z H2 x vs v us Q I2 r1 r2 q2
end
def MtM (X:Cx) (id:String) (r:V->List V->Hp->VK->Prop):Prop:=
 ∀pins s Z H (x:V) (xs:List V) (v:aa) (us:List aa) (Q:VK),Inv X pins Z H s->Aj x v->Vals xs us->r x xs H Q ->
  ai (ag X.prog X.w) X.A (call (.builtin id) (v::us)) (EP X pins Z Q) X.xe s
theorem Vals.one:∀{x:V} {us:List aa},Vals [x] us->∃u,us=[u]/\Aj x u
 | _,_,.cons r .nil=>⟨_,rfl,r⟩
def Vals.two  (h:Vals [x,y] us):∃u v,us=[u,v]/\Aj x u/\Aj y v:=by
 cases h with
 | cons r t=>
  cases t with
  | cons q z=>cases z;exact⟨_,_,rfl,r,q⟩
def Vals.reverse  (h:Vals xs us):Vals xs.reverse us.reverse:=by
 induction h with
 | nil=>exact .nil
 | cons r t ih=>rw[S0,S0];exact Vals.append ih (.cons r .nil)
theorem Vals.rep  (h:Vals xs us):∀k:Nat,Vals (List.replicate k xs).flatten (List.replicate k us).flatten
 | 0=>.nil
 | k+1=>by
  rw[Qp,Qp,Sb,Sb];exact Vals.append h (Vals.rep h k)
theorem Xbd(a7):∀(k:Nat) (acc:List aa),
  List.foldl (λx1 x2=>x1++x2) acc.toArray (List.replicate k a7.toArray)=(acc++(List.replicate k a7).flatten).toArray
 | 0,acc=>by simp
 | k+1,acc=>by
  have e:acc.toArray++a7.toArray=(acc++a7).toArray:=by simp
  have e2:(acc++a7)++(List.replicate k a7).flatten=acc++(List.replicate (k+1) a7).flatten:=by
   rw[Qp,Sb,O7]
  rw[<-e2,<-Xbd a7 k (acc++a7),<-e,Qp,Rq]
section
variable {X:Cx}{pins:List (ae×aK)}{Z:St}{H:Hp}{s:af}{l b:ae}{xs ys zs:List V}
def Inv.lset{a7 its':List aa}{f}{t'}(I:Inv X pins Z H s)(hH:H l=some (.lst xs))
  (e:s.heap.get? l=some {cls:=.type "list",data:=.seq a7.toArray n}) (hf:f a7.toArray=its'.toArray) (hv:Vals ys its') (hz:ys.length<=sizeLine):
  Inv X pins Z (upd H l (.lst ys)) {s with heap:=s.heap.update l (aK.mapSeq f),toks:=t'}:=by
 have q:=PySem.IsL.update e f;rw[hf] at q;refine I.write (x:=l) (e:=l) (by rw[hH];exact trivial) (.inl rfl) (λb' u hb hu=>(am.get?_update_other s.heap (aK.mapSeq f) (Ne.symm hb)).trans hu) ⟨_,q⟩ ?_;exact⟨hz,its',_,hv,q⟩
def Inv.lnew{t'}(I:Inv X pins Z H s)(hv:Vals ys a7)(hz:ys.length<=sizeLine):
  Inv X pins Z (upd H s.heap.objs.size (.lst ys)) {s with heap:=s.heap.push {cls:=.type "list",data:=.seq a7.toArray},toks:=t'}:=
 I.laid (λ_ _ q=>Tt _ q) (Og _) ⟨hz,a7,0,hv,am.get?_push_size _ rfl⟩
def Inv.fresh(I:Inv X pins Z H s):H s.heap.objs.size=none:=I.hok.fresh (Og _)
def Inv.lstM(I:Inv X pins Z H s)(hH:H l=some (.lst xs)):xs.length<=sizeLine/\∃(a7:List aa) (n:Nat),Vals xs a7/\xs.length=a7.length/\s.heap.get? l=some {cls:=.type "list",data:=.seq a7.toArray n}:=by
 obtain⟨z,a7,n,r,e⟩:=I.hok l _ hH;exact⟨z,a7,n,r,r.length,e⟩
def Xik(h:n<=sizeLine):aj.List.listTooLong n=false:=by
 unfold aj.List.listTooLong;exact Tn (by lia)
end
section
variable {X:Cx}
def Lu:V->List V->Hp->VK->Prop:=λx vs H Q=>∃l xs y,x = .ref l/\vs=[y]/\H l=some (.lst xs)/\xs.length<sizeLine/\Q .non (upd H l (.lst (xs++[y])))
def F7:MtM X "list.append" Lu:=by
 intro pins s Z H x vs v us Q I rx rv h;obtain⟨l,xs,y,rfl,rfl,hH,hz,q⟩:=h;cases rx;obtain⟨u,rfl,ru⟩:=rv.one;obtain⟨z,a7,n,r,hl,e⟩:=I.lstM hH;refine lI F.slot_list_append ⟨_,e,rfl⟩ F.entry_list_append (F.args_list_append_2 _ _) (PySem.list_append l a7.toArray n u (by rw[Oi];lia)) ⟨e,?_⟩;refine⟨.non,_,I.lset (its':=a7++[u]) hH e (by simp) (r.append (.cons ru .nil)) ?_,rfl,q⟩;rw[Oh,Pn]
 lia
def rCat:R2:=λx y H Q=>∃l b xs zs,x = .ref l/\y = .ref b/\H l=some (.lst xs)/\H b=some (.lst zs)/\xs.length+zs.length<=sizeLine/\∀p,H p=none->Q (.ref p) (upd H p (.lst (xs++zs)))
def B2:OpR X (bh .Add) rCat:=by
 intro pins s Z H x y v u Q I rx ry h;obtain⟨l,b,xs,zs,rfl,rfl,hH,hB,hz,q⟩:=h;cases rx;cases ry;obtain⟨z,a7,n,r,hl,e⟩:=I.lstM hH;obtain⟨z2,il,n2,r2,lJ,e2⟩:=I.lstM hB;refine PySem.P.add_list e e2 ?_ (by rw[Oi,Oi];lia);have ea:a7.toArray++il.toArray=(a7++il).toArray:=by simp
 rw[ea];exact⟨.ref _,_,I.lnew (t':=s.toks) (r.append r2) (by rw[Oh];lia),rfl,q _ I.fresh⟩
def Xbe:R2:=λx y H Q=>∃l k xs,x = .ref l/\y = .int k/\H l=some (.lst xs) /\ -(2 ^ 63)<=k/\k<2 ^ 63/\xs.length * k.toNat<=sizeLine /\
 ∀p,H p=none->Q (.ref p) (upd H p (.lst (List.replicate k.toNat xs).flatten))
def Xil{α : Type}(xs:List α)(k):(List.replicate k xs).flatten.length=k * xs.length:=by
 induction k with
 | zero=>simp
 | succ k ih=>rw[Qp,Sb,Oh,ih,Nat.succ_mul,Nat.add_comm]
def Xbf:OpR X (bh .Mult) Xbe:=by
 intro pins s Z H x y v u Q I rx ry h;obtain⟨l,k,xs,rfl,rfl,hH,h1,h2,hz,q⟩:=h;cases rx;obtain⟨t,rfl⟩:=ry;obtain⟨z,a7,n,r,hl,e⟩:=I.lstM hH;have aN:a7.toArray.size * k.toNat<=sizeLine:=by rw[Oi,<-hl];exact hz
 have vi:¬a7.toArray.size * k.toNat > (2 ^ 63 - 1) / 8:=by
  have:(sizeLine:Nat)<=(2 ^ 63 - 1) / 8:=by decide
  lia
 have oq:¬(!aj.List.listFitsIndex k)=true:=by
  rw[fitsIndex_both h1 h2];exact Ow
 have rg:¬aj.List.listTooLong (a7.toArray.size * k.toNat)=true:=by
  rw[Xik aN];exact Ow
 have jS:List.foldl (λx1 x2=>x1++x2) #[] (List.replicate (if a7.toArray.isEmpty=true then 0 else k.toNat) a7.toArray)=(List.replicate k.toNat a7).flatten.toArray:=by
  have f0:∀m:Nat,List.foldl (λx1 x2=>x1++x2) #[] (List.replicate m a7.toArray)=(List.replicate m a7).flatten.toArray:=λm=>by
   have:=Xbd a7 m [];rw[Rf] at this;exact this
  rw[f0];cases a7 with
  | nil=>simp
  | cons a r'=>rw[Tj (by simp)]
 refine wpAny_binaryOp_repeat_ref (T := "list") (U := "int") (by decide) ⟨_,e,rfl⟩ (λs'=>lH s' k t) noFill_list_mul F.fills_int_mul F.slot_int_rmul repeat_list F.slot_int_index.lookup
  (lI F.slot_int_rmul (lH s k t) F.entry_int_rmul (F.args_int_rmul_2 _ _) (int___rmul___int_list k t l a7.toArray n)
   ⟨e,rfl,⟨_,e,rfl⟩,lI F.slot_list_mul ⟨_,e,rfl⟩ F.entry_list_mul (F.args_list_mul_2 _ _) (AutoListH.list___mul___list_int_3 l a7.toArray n k t oq vi rg) ⟨e,?_⟩⟩)
 rw[jS];exact⟨.ref _,_,I.lnew (t':=s.toks) (r.rep k.toNat) (by rw[Xil,Nat.mul_comm];exact hz),rfl,q _ I.fresh⟩
end
section
variable {prog:ao}{w:aw}{A:av}{E:Zb}{s:af}
end
section
variable {X:Cx}
end
section
variable {κ : Type} [DecidableEq κ]
def Ay (kvs:List (κ × V)) (k : κ):Option V:=(kvs.find? λkv=>decide (kv.1=k)).map (·.2)
def Bh (kvs:List (κ × V)) (k : κ) (v:V):List (κ × V):=
 if (kvs.any λkv=>decide (kv.1=k))=true then kvs.map (λkv=>if kv.1=k then (kv.1,v) else kv) else kvs++[(k,v)]
def Xbg (kvs:List (κ × V)) (k : κ):List (κ × V):=kvs.filter λkv=>decide (kv.1≠k)
def Di{p}{k : κ}(e:p.1=k):Ay (p::r) k=some p.2:=by simp[Ay,Rg,e]
def Dj{p}{k : κ}(e:¬p.1=k):Ay (p::r) k=Ay r k:=by simp[Ay,Rg,e]
theorem Et(k):∀kvs:List (κ × V),(kvs.any λkv=>decide (kv.1=k))=(Ay kvs k).isSome
 | []=>rfl
 | p::r=>by
  rw[Sj];by_cases e:p.1=k
  ·simp only[Di e,Tl e,Bool.true_or,Ss]
  ·rw[Dj e,Tn e,Bool.false_or];exact Et k r
theorem Xbh(k j)(y):∀kvs:List (κ × V),Ay (kvs.map λkv=>if kv.1=k then (kv.1,y) else kv) j=(Ay kvs j).map λx=>if j=k then y else x
 | []=>rfl
 | p::r=>by
  have ih:=Xbh k j y r;rw[O5];by_cases h:p.1=k
  ·rw[Tk h];by_cases e:p.1=j
   ·rw[Di (p:=(p.1,y)) e,Di e,Qy,Tk (e.symm.trans h)]
   ·rw[Dj (p:=(p.1,y)) e,Dj e,ih]
  ·rw[Tj h];by_cases e:p.1=j
   ·rw[Di (p:=p) e,Di e,Qy,Tj (λz=>h (e.trans z))]
   ·rw[Dj (p:=p) e,Dj e,ih]
theorem Xbi(k j)(y):∀kvs:List (κ × V),Ay kvs k=none->Ay (kvs++[(k,y)]) j=if j=k then some y else Ay kvs j
 | [],_=>by
  by_cases e:k=j
  ·rw[Tk e.symm];exact Di (p:=(k,y)) e
  ·rw[Tj (λz=>e z.symm)];exact Dj (p:=(k,y)) e
 | p::r,hn=>by
  rw[List.cons_append];have hk:¬p.1=k:=λz=>by rw[Di z] at hn;cases hn
  rw[Dj hk] at hn;have ih:=Xbi k j y r hn;by_cases e:p.1=j
  ·rw[Di e,Di e,Tj (λz=>hk (e.trans z))]
  ·rw[Dj e,Dj e,ih]
def Jn(kvs)(k j : κ)(y):Ay (Bh kvs k y) j=if j=k then some y else Ay kvs j:=by
 unfold Bh;by_cases a:(kvs.any λkv=>decide (kv.1=k))=true
 ·rw[Tk a,Xbh];rw[Et] at a;by_cases e:j=k
  ·obtain⟨x,hx⟩:=Qu.mp a;rw[Tk e,e,hx,Qy,Tk rfl]
  ·rw[Tj e];cases Ay kvs j with
   | none=>rfl
   | some x=>rw[Qy,Tj e]
 ·rw[Tj a];refine Xbi k j y kvs ?_;rw[Et] at a;cases q:Ay kvs k with
  | none=>rfl
  | some x=>rw[q] at a;exact(a rfl).elim
def Jo(kvs)(k : κ)(v):(Bh kvs k v).length<=kvs.length+1:=by
 unfold Bh;split
 ·rw[Od];lia
 ·rw[Oh,O2,Qr];lia
def Hi{k : κ}(v)(h:Ay kvs k=none):Bh kvs k v=kvs++[(k,v)]:=by
 unfold Bh;rw[Et,h];exact Tj (by decide)
def Cj.isSome_eq  (r:Cj o u):o.isSome=u.isSome:=by
 cases o with
 | none=>cases u with
  | none=>rfl
  | some _=>exact(show False from r).elim
 | some _=>cases u with
  | none=>exact(show False from r).elim
  | some _=>rfl
def Cj.getD{o}   (r:Cj o u)(rd:Aj d d'):Aj (o.getD d) (u.getD d'):=by
 cases o with
 | none=>cases u with
  | none=>exact rd
  | some _=>exact(show False from r).elim
 | some _=>cases u with
  | none=>exact(show False from r).elim
  | some _=>exact r
def KV.val  (r:KV kvs vs) (k : κ):Cj (Ay kvs k) (eJ vs k):=by
 unfold KV at r
 induction r with
 | nil=>exact True.intro
 | @cons p q ps qs h t ih=>
  obtain⟨h1,h2⟩:=h;by_cases e:p.1=k
  ·have e':q.1=k:=h1.symm.trans e;have b:eJ (q::qs) k=some q.2:=by simp[eJ,Rg,e']
   rw[Di e,b];exact h2
  ·have e':¬q.1=k:=λz=>e (h1.trans z);have b:eJ (q::qs) k=eJ qs k:=by simp[eJ,Rg,e']
   rw[Dj e,b];exact ih
def KV.any  (r:KV kvs vs) (k : κ):(kvs.any λkv=>decide (kv.1=k))=vs.any λkv=>decide (kv.1=k):=by
 unfold KV at r
 induction r with
 | nil=>rfl
 | cons h t ih=>rw[Sj,Sj,ih,h.1]
def KV.repl   (r:KV kvs vs) (k : κ)  (ry:Aj y u):
  KV (kvs.map λkv=>if kv.1=k then (kv.1,y) else kv) (vs.map λkv=>if kv.1=k then (kv.1,u) else kv):=by
 unfold KV at r ⊢
 induction r with
 | nil=>exact .nil
 | @cons p q ps qs h t ih=>
  rw[O5,O5];refine .cons ?_ ih;obtain⟨h1,h2⟩:=h;by_cases e:p.1=k
  ·rw[Tk e,Tk (h1.symm.trans e)];exact⟨h1,ry⟩
  ·rw[Tj e,Tj (λz=>e (h1.trans z))];exact⟨h1,h2⟩
def KV.put   (r:KV kvs vs) (k : κ)  (ry:Aj y u):KV (Bh kvs k y) (stored vs k u):=by
 unfold Bh stored;rw[r.any k];by_cases e:(vs.any λkv=>decide (kv.1=k))=true
 ·rw[Tk e,Tk e];exact r.repl k ry
 ·rw[Tj e,Tj e];exact Paired.snoc r ⟨rfl,ry⟩
def KV.keys{kvs:List (κ × V)}(r:KV kvs vs):kvs.map (·.1)=vs.map (·.1):=by
 unfold KV at r
 induction r with
 | nil=>rfl
 | cons h t ih=>rw[O5,O5,ih,h.1]
def KV.length{kvs:List (κ × V)}(r:KV kvs vs):kvs.length=vs.length:=Paired.length r
end
def Fh    (r:Aj (kV k) u):(Be P w).is k u=true:=by
 cases k with
 | inl i=>obtain⟨t,e⟩:=(show ∃t,u=aa.int i t from r);subst e;exact Xg5 P w i t
 | inr x=>obtain⟨t,e⟩:=(show ∃t,u=aa.str x t from r);subst e;exact Xg6 P w x t
theorem Xbj  : ∀{ks:List Key} {us:List aa},Vals (ks.map kV) us->ItemsAre (Be P w) ks us
 | [],_,r=>by rw[R0] at r;cases r;exact .nil
 | k::ks,_,r=>by
  rw[O5] at r;cases r with
  | cons h t=>exact .cons (Fh h) (Xbj t)
abbrev KT (H:Hp):List (List Key×V)->List (List Key×ae×aa)->Prop:=Paired λp q=>p.1=q.1/\H q.2.1=some (.tup (p.1.map kV))/\Aj p.2 q.2.2
def KT.val   (r:KT H kvs xs) (k):Cj (Ay kvs k) ((gp xs k).map (·.2)):=by
 induction r with
 | nil=>exact True.intro
 | @cons p q ps qs h t ih=>
  obtain⟨h1,_,h2⟩:=h;by_cases e:p.1=k
  ·have e':q.1=k:=h1.symm.trans e;have b:gp (q::qs) k=some q.2:=by simp[gp,Rg,e']
   rw[Di e,b];exact h2
  ·have e':¬q.1=k:=λz=>e (h1.trans z);have b:gp (q::qs) k=gp qs k:=by simp[gp,Rg,e']
   rw[Dj e,b];exact ih
def KT.repl    (r:KT H kvs xs) (k)  (ry:Aj y u):
  KT H (kvs.map λkv=>if kv.1=k then (kv.1,y) else kv) (xs.map (putAt k u)):=by
 induction r with
 | nil=>exact .nil
 | @cons p q ps qs h t ih=>
  rw[O5,O5];refine .cons ?_ ih;obtain⟨h1,h2,h3⟩:=h;unfold putAt;by_cases e:p.1=k
  ·rw[Tk e,Tk (h1.symm.trans e)];exact⟨h1,h2,ry⟩
  ·rw[Tj e,Tj (λz=>e (h1.trans z))];exact⟨h1,h2,h3⟩
def KT.put    (r:KT H kvs xs) (k)   (hb:H b=some (.tup (k.map kV))) (ry:Aj y u):
  KT H (Bh kvs k y) (storedH xs k b u):=by
 have e:(kvs.any λkv=>decide (kv.1=k))=(gp xs k).isSome:=by
  rw[Et,(r.val k).isSome_eq,S5]
 unfold Bh storedH;rw[e];by_cases q:(gp xs k).isSome=true
 ·rw[Tk q,Tk q];exact r.repl k ry
 ·rw[Tj q,Tj q];exact Paired.snoc r ⟨rfl,hb,ry⟩
def KT.keeps   (r:KT H kvs xs) (ht:∀b ys,H b=some (.tup ys)->H' b=some (.tup ys)):KT H' kvs xs:=
 Paired.mapP r λ_ _ z=>⟨z.1,ht _ _ z.2.1,z.2.2⟩
section
variable {P:ao}{w:aw}{H:Hp}{h:am}{a:ae}
def Xbk(ok:HOk P w H h)(e:Rd H a u):A4 P w H h a u:=e.ok ok
def Eu(ok:HOk P w H h)(e:Rd H a (.dK kvs)):kvs.length<=sizeLine/\(a==b9)=false/\∃vs,KV kvs vs/\h.DictOf (Be P w) a vs:=
 show A4 P w H h a (.dK kvs) from Xbk ok e
def Xbl(ok:HOk P w H h)(e:H a=some (.dK kvs)):kvs.length<=sizeLine/\(a==b9)=false/\∃vs,KV kvs vs/\h.DictOf (Be P w) a vs:=Eu ok (.inl e)
def Fi(ok:HOk P w H h)(e:H a=some (.tup (ks.map kV))):(cJ (Be P w)).is h ks a:=by
 obtain⟨_,a7,r,o,h1,h2,n,h3⟩:=(show A4 P w H h a (.tup (ks.map kV)) from ok a _ e);exact⟨o,a7.toArray,n,h1,h2,h3,by simpa using Xbj r⟩
def Fj(ok:HOk P w H h)(e:Rd H a (.dT kvs)):kvs.length<=sizeLine/\(a==b9)=false /\
  ∃xs,KT H kvs xs/\h.DictOfH (cJ (Be P w)) a xs:=by
 obtain⟨z,y,xs,r,o,es,ep,h1,h2,h3,h4,h5⟩:=(show A4 P w H h a (.dT kvs) from Xbk ok e);refine⟨z,y,xs,r,o,es,ep,h1,h2,h3,h4,λx hx=>?_,h5⟩;have all:∀{l:List (List Key×V)} {m:List (List Key×ae×aa)},KT H l m->∀x∈m,(cJ (Be P w)).is h x.1 x.2.1:=by
  intro l m q
  induction q with
  | nil=>intro x hx;exact nomatch hx
  | @cons p q ps qs hq t ih=>
   intro x hx;rcases Ou.mp hx with e | hx
   ·subst e;exact Fi ok (by rw[<-hq.1];exact hq.2.1)
   ·exact ih x hx
 exact all r x hx
def Xbm(ok:HOk P w H h)(e:H a=some (.dT kvs)):kvs.length<=sizeLine/\(a==b9)=false /\
  ∃xs,KT H kvs xs/\h.DictOfH (cJ (Be P w)) a xs:=Fj ok (.inl e)
end
def DGet (H:Hp) (a:ae) (y:V) (r:Option V):Prop:=
 (∃kvs k,Rd H a (.dK kvs)/\y=kV k/\r=Ay kvs k) \/ ∃kvs k b,Rd H a (.dT kvs)/\y = .ref b/\H b=some (.tup (k.map kV))/\r=Ay kvs k
def DPut (H:Hp) (a:ae) (y v:V) (H':Hp):Prop:=
 (∃kvs k,H a=some (.dK kvs)/\y=kV k/\kvs.length<sizeLine/\H'=upd H a (.dK (Bh kvs k v))) \/
 ∃kvs k b,H a=some (.dT kvs)/\y = .ref b/\H b=some (.tup (k.map kV))/\kvs.length<sizeLine/\H'=upd H a (.dT (Bh kvs k v))
def DGet.k  {a} {k} (e:H a=some (.dK kvs)):DGet H a (kV k) (Ay kvs k):=.inl ⟨kvs,k,.inl e,rfl,rfl⟩
def DPut.k  {a} {k} {v} (e:H a=some (.dK kvs)) (hl:kvs.length<sizeLine):DPut H a (kV k) v (upd H a (.dK (Bh kvs k v))):=.inl ⟨kvs,k,e,rfl,hl,rfl⟩
section
variable {X:Cx}{pins:List (ae×aK)}{Z:St}{H:Hp}{s:af}{a:ae}{y v:V}{u r:aa}{o:Option V}{A:av}{E:Zb}
def Inv.big(I:Inv X pins Z H s):b9<s.heap.objs.size:=by
 have h:ap<s.heap.objs.size:=(I.mod.glob.keeps I.bk).lt;exact Qs (by decide) h
def d_getItem(hu:A.units+1<bu)(I:Inv X pins Z H s)(g:DGet H a y (some v))(ry:Aj y u)(h:∀w' s',Inv X pins Z H s'->Aj v w'->Q w' s'):
  ai (ag X.prog X.w) A (bU (.ref a) u) Q E s:=by
 rcases g with ⟨kvs,k,e,ey,l⟩ | ⟨kvs,k,b,e,ey,eb,l⟩
 ·subst ey;obtain⟨z,hd,vs,cK,dd⟩:=Eu I.hok e;obtain⟨w',hw,jR⟩:=Cj.some_of (v:=v) (o:=eJ vs k) (by rw[l];exact cK.val k);exact wpAny_getItem_of (Fh ry) dd.mapOf hw (h w' _ (I.tok _) jR)
 ·subst ey;cases (show u=aa.ref b from ry);obtain⟨z,hd,xs,cK,dd⟩:=Fj I.hok e;obtain⟨w',hw,jR⟩:=Cj.some_of (v:=v) (o:=(gp xs k).map (·.2)) (by rw[l];exact cK.val k);obtain⟨p,hp,lK⟩:=Sa.mp hw;refine wpAny_getItem_heap (bO hu) (Fi I.hok eb) dd hp ?_;rw[lK];exact h w' _ (I.tok _) jR
def d_in(hu:A.units+1<bu)(I:Inv X pins Z H s)(g:DGet H a y o)(ry:Aj y u)(h:∀s',Inv X pins Z H s'->Q (.bool o.isSome) s'):
  ai (ag X.prog X.w) A (aF .In u (.ref a)) Q E s:=by
 rcases g with ⟨kvs,k,e,ey,l⟩ | ⟨kvs,k,b,e,ey,eb,l⟩
 ·subst ey;obtain⟨z,hd,vs,cK,dd⟩:=Eu I.hok e;refine wpAny_in_of (Fh ry) hd dd.mapOf ?_;rw[<-(cK.val k).isSome_eq,<-l];exact h _ (I.tok _)
 ·subst ey;cases (show u=aa.ref b from ry);obtain⟨z,hd,xs,cK,dd⟩:=Fj I.hok e;refine wpAny_in_heap (bO hu) (Fi I.hok eb) hd dd ?_;have q:=(cK.val k).isSome_eq;rw[S5] at q;rw[<-q,<-l];exact h _ (I.tok _)
def Xim(hu:A.units+1<bu)(I:Inv X pins Z H s)(g:DGet H a y o)(ry:Aj y u)(h:∀s',Inv X pins Z H s'->Q (.bool (!o.isSome)) s'):
  ai (ag X.prog X.w) A (aF .NotIn u (.ref a)) Q E s:=by
 rcases g with ⟨kvs,k,e,ey,l⟩ | ⟨kvs,k,b,e,ey,eb,l⟩
 ·subst ey;obtain⟨z,hd,vs,cK,dd⟩:=Eu I.hok e;refine wpAny_notIn_of (Fh ry) hd dd.mapOf ?_;rw[<-(cK.val k).isSome_eq,<-l];exact h _ (I.tok _)
 ·subst ey;cases (show u=aa.ref b from ry);obtain⟨z,hd,xs,cK,dd⟩:=Fj I.hok e;refine wpAny_notIn_heap (bO hu) (Fi I.hok eb) hd dd ?_;have q:=(cK.val k).isSome_eq;rw[S5] at q;rw[<-q,<-l];exact h _ (I.tok _)
def Jp   (I:Inv X pins Z H s) (mu:Mut (H a)) (hs:am.SameBut a s.heap h') (he:∃q,h'.get? a=some q) (new:A4 X.prog X.w (upd H a ob) h' a ob):
  Inv X pins Z (upd H a ob) {s with heap:=h',toks:=t'}:=
 I.write (x:=a) (e:=a) mu (.inl rfl) (λb q hb z=>(hs.2 b hb).trans z) he new
def Xbn      (z:kvs.length<=sizeLine) (hd:(a==b9)=false) (cK:KV kvs vs) (dd:h'.DictOf (Be P w) a vs):
  A4 P w H' h' a (.dK kvs):=⟨z,hd,vs,cK,dd⟩
def Xin  (hu:A.units+1<bu) (I:Inv X pins Z H s) (g:DPut H a y v H') (ry:Aj y u) (rv:Aj v r) (h:∀s',Inv X pins Z H' s'->Q () s'):
  ai (ag X.prog X.w) A (uY (.ref a) u r) Q E s:=by
 rcases g with ⟨kvs,k,e,ey,l,eH⟩ | ⟨kvs,k,b,e,ey,eb,l,eH⟩
 ·subst ey eH;obtain⟨z,hd,vs,cK,dd⟩:=Xbl I.hok e;have hz:vs.length<=sizeLine:=by rw[<-cK.length];exact z
  have hl:(Bh kvs k v).length<=sizeLine:=by have:=Jo kvs k v;lia
  refine wpAny_setItem_pairs (hsz:=hz) (Fh ry) dd λh' lL hs=>h _ ?_;have he:∃q,h'.get? a=some q:=let ⟨q,_,_,hq,_⟩:=lL; ⟨q,hq⟩;exact Jp I (by rw[e];exact True.intro) hs he (Xbn hl hd (cK.put k rv) lL)
 ·subst ey eH;cases (show u=aa.ref b from ry);obtain⟨z,hd,xs,cK,dd⟩:=Xbm I.hok e;have hz:xs.length<=sizeLine:=by rw[<-Paired.length cK];exact z
  have hl:(Bh kvs k v).length<=sizeLine:=by have:=Jo kvs k v;lia
  refine wpAny_setItem_heap (hsz:=hz) (bO hu) (Fi I.hok eb) dd λh' lL hs=>h _ ?_;obtain⟨q,es,ep,hq,h2,h3,h4,_,h5⟩:=lL;refine Jp I (by rw[e];exact True.intro) hs ⟨q,hq⟩ ⟨hl,hd,_,(cK.put k eb rv).keeps λc ys ec=>?_,q,es,ep,hq,h2,h3,h4,h5⟩;rw[Ae (La ec e (λz=>nomatch z))];exact ec
end
section
variable {X:Cx}{pins:List (ae×aK)}{Z:St}{H:Hp}{s:af}{a:ae}{kvs:List (Key×V)}{k:Key}{u:aa}{A:av}{E:Zb}
end
def Xbo (i:aE):Prop:=∀ov iv,subscripted i false ov iv=operate [ov,iv] (bU ov iv)
def Xio         {T id} (hl:lE (.type T) "__getitem__" = pure (some (.builtin id))) (hs:Xbo slice)
  (h:ai (ag prog w) A (eval value env) (λo s₁=>ai (ag prog w) A (eval slice env) (λi s₂=>s₂.TypeIs o T/\ai (ag prog w) A (bU o i) Q E s₂) E s₁) E s):
  ai (ag prog w) A (eval (.Subscript value slice pos) env) Q E s:=by
 refine dW (aI h (λo s₁ h₁=>aI h₁ (λi s₂ h₂=>?_) λ_ _ x=>x) λ_ _ x=>x);obtain⟨hT,h₂⟩:=h₂;unfold ik;refine Te ?_;rw[getitemInPython_of_ne hT.not_modules];refine Te (qg hT hl ?_);have fin:ai (ag prog w) A (subscripted slice false o i) (λr s₃=>ai (ag prog w) A (letTemporaryGo value o r >>= λ_=>pure r) Q E s₃) E s₂:=by
  rw[hs o i];exact wpAny_operating (aI h₂ (λr s₃ h₃=>Te (wpAny_letTemporaryGo (Tf h₃))) λ_ _ x=>x)
 first
  | exact Tf (Te fin)
  | exact Te (Tf (Te fin))
  | exact Te fin
def Xip        (I:Inv X pins Z H s) (g:DGet H a y o):s.TypeIs (.ref a) "dict" := by
 rcases g with ⟨kvs,k,e,_,_⟩ | ⟨kvs,k,b,e,_,_,_⟩
 ·obtain⟨_,_,vs,_,dd⟩:=Eu I.hok e;exact dd.typeIs
 ·obtain⟨_,_,xs,_,dd⟩:=Fj I.hok e;exact dd.typeIs
def Xiq (td ty:TE):TE:=fun Z H Q=>td Z H λx H1=>ty Z H1 λy H2=>∃a v,x = .ref a/\DGet H2 a y (some v)/\Q v H2
def tDIn (ty td:TE):TE:=fun Z H Q=>ty Z H λy H1=>td Z H1 λx H2=>∃a o,x = .ref a/\DGet H2 a y o/\Q (.bl o.isSome) H2
def Xir (ty td:TE):TE:=fun Z H Q=>ty Z H λy H1=>td Z H1 λx H2=>∃a o,x = .ref a/\DGet H2 a y o/\Q (.bl (!o.isSome)) H2
def Xis (td ty tv:TE):TS:=λD Z H=>tv Z H λv H1=>td Z H1 λx H2=>ty Z H2 λy H3=>∃a H4,x = .ref a/\DPut H3 a y v H4/\D.nx Z H4
def sDAug (td ty tv:TE) (rd:V->V->Hp->VK->Prop):TS:=λD Z H=>td Z H λx H1=>ty Z H1 λy H2=>∃a v,x = .ref a/\DGet H2 a y (some v) /\
 tv Z H2 λy2 H3=>rd v y2 H3 λz H4=>∃H5,DPut H4 a y z H5/\D.nx Z H5
def sDDel (td ty:TE):TS:=λD Z H=>td Z H λx H1=>ty Z H1 λy H2=>∃a kvs k,x = .ref a/\H2 a=some (.dK kvs)/\y=kV k/\(Ay kvs k).isSome=true/\D.nx Z (upd H2 a (.dK (Xbg kvs k)))
section
variable {X:Cx}{o i e value:aE}{pos gc ve:bI}{td ty tv:TE}
def Ce(hu:X.A.units+1<bu)(ho:PE X o td)(hi:PE X i ty)(hs:Xbo i):PE X (.Subscript o i pos) (Xiq td ty):=by
 intro pins s Z H Q I h;refine Xio PySem.F.slot_dict_getitem.lookup hs (thn (ho pins s Z H _ I h) λu s1 ⟨x,H1,I1,rx,q1⟩=>thn (hi pins s1 Z H1 _ I1 q1) λiv s2 ⟨y,H2,I2,ry,a,v,ex,g,q2⟩=>?_);subst ex;obtain rfl:u=aa.ref a:=rx;exact⟨Xip I2 g,d_getItem hu I2 g ry λw' s3 I3 jR=>⟨v,H2,I3,jR,q2⟩⟩
def Xit(hu:X.A.units+1<bu)(hi:PE X i ty)(ho:PE X o td):PC X .In i o (tDIn ty td):=by
 intro pins s Z H Q I h;refine thn (hi pins s Z H _ I h) λiv s1 ⟨y,H1,I1,ry,q1⟩=>thn (ho pins s1 Z H1 _ I1 q1) λu s2 ⟨x,H2,I2,rx,a,ov,ex,g,q2⟩=>?_;subst ex;obtain rfl:u=aa.ref a:=rx;exact d_in hu I2 g ry λs3 I3=>⟨.bl ov.isSome,H2,I3,rfl,q2⟩
def Xiu(hu:X.A.units+1<bu)(hi:PE X i ty)(ho:PE X o td):PC X .NotIn i o (Xir ty td):=by
 intro pins s Z H Q I h;refine thn (hi pins s Z H _ I h) λiv s1 ⟨y,H1,I1,ry,q1⟩=>thn (ho pins s1 Z H1 _ I1 q1) λu s2 ⟨x,H2,I2,rx,a,ov,ex,g,q2⟩=>?_;subst ex;obtain rfl:u=aa.ref a:=rx;exact Xim hu I2 g ry λs3 I3=>⟨.bl (!ov.isSome),H2,I3,rfl,q2⟩
def Xbp(hu:X.A.units+1<bu)(ho:PE X o td)(hi:PE X i ty)(hv:PE X value tv)(hs:dE value (some (.Subscript o i gc)) pos.line X.env=pure false):
  PS X (.Assign [.Subscript o i gc] value pos) (Xis td ty tv):=by
 intro pins s Z H D I h;refine wpAny_Assign_Subscript (thn (hv pins s Z H _ I h) λr s1 ⟨v,H1,I1,rv,q1⟩=>thn (ho pins s1 Z H1 _ I1 q1) λu s2 ⟨x,H2,I2,rx,q2⟩=>thn (hi pins s2 Z H2 _ I2 q2) λiv s3 ⟨y,H3,I3,ry,a,H4,ex,g,q3⟩=>?_) hs;subst ex;obtain rfl:u=aa.ref a:=rx;exact Xin hu I3 g ry rv λs4 I4=>⟨Z,H4,I4,q3⟩
end
def Xbq   (h:am) (hb:b9<h.objs.size):A4 P w H (h.push {cls:=.type "dict",data:=.dict #[]}) h.objs.size (.dK []):=
 ⟨Pf _,beq_eq_false_iff_ne.mpr (Ne.symm (Oo hb)),[],.nil,am.DictOf.new h⟩
def Xiv   (h:am) (hb:b9<h.objs.size):A4 P w H (h.push {cls:=.type "dict",data:=.dict #[]}) h.objs.size (.dT []):=
 ⟨Pf _,beq_eq_false_iff_ne.mpr (Ne.symm (Oo hb)),[],.nil,_, #[],0,am.get?_push_size _ rfl,⟨rfl,rfl,rfl⟩,rfl,rfl,List.nodup_nil⟩
def Xiw:TE:=λ_ H Q=>∀p,H p=none->Q (.ref p) (upd H p (.dK []))
section
variable {X:Cx}{pos:bI}
def Xix:PE X (.Dict [] [] pos) Xiw:=λpins s Z H Q I h=>
 wpAny_Dict_empty ⟨.ref s.heap.objs.size,_,I.laid (a:=s.heap.objs.size) (o:=.dK []) (t':=s.toks) (λ_ _ q=>Tt _ q) (Og _) (Xbq s.heap I.big),rfl,h _ (I.hok.fresh (Og _))⟩
end
def Lv:List (TE×TE)->St->Hp->(List (V×V)->Hp->Prop)->Prop
 | [],_,H,Q=>Q [] H
 | (tk,tv)::r, Z,H,Q=>tk Z H λx H1=>tv Z H1 λy H2=>Lv r Z H2 λps H3=>Q ((x,y)::ps) H3
abbrev VV:List (V×V)->List (aa×aa)->Prop:=Paired λp q=>Aj p.1 q.1/\Aj p.2 q.2
def PPs (X:Cx) (pos:bI) (keys:List (Option aE)) (ot:List aE) (rh:List (TE×TE)):Prop:=
 ∀pins s Z H (Q:List (V×V)->Hp->Prop),Inv X pins Z H s->Lv rh Z H Q ->
  ai (ag X.prog X.w) X.A (evalPairs (pairTrees keys ot X.env pos)) (λvs s'=>∃ps H',Inv X pins Z H' s'/\VV ps vs/\Q ps H') X.xe s
def Xiy  : PPs X pos [] [] []:=λpins s Z H Q I h=>pairTrees_nil_walk ⟨[],H,I,.nil,h⟩
def Xiz       (hk:PE X k tk) (hv:PE X v tv) (hr:PPs X pos ks vs rh):
  PPs X pos (some k::ks) (v::vs) ((tk,tv)::rh):=λpins s Z H Q I h=>
 pairTrees_cons_walk (thn (hk pins s Z H _ I h) λu s1 ⟨x,H1,I1,rx,q1⟩=>thn (hv pins s1 Z H1 _ I1 q1) λw2 s2 ⟨y,H2,I2,ry,q2⟩=>
  thn (hr pins s2 Z H2 _ I2 q2) λws s3 ⟨ps,H3,I3,cK,q3⟩=>⟨(x,y)::ps,H3,I3,.cons ⟨rx,ry⟩ cK,q3⟩)
def Xi0 (kvs bZ:List (Key×V)):List (Key×V):=bZ.foldl (λacc kv=>Bh acc kv.1 kv.2) kvs
def tDisp (rh:List (TE×TE)):TE:=fun Z H Q=>∀p,H p=none->Lv rh Z (upd H p (.dK [])) λps H2=>H2 p=some (.dK [])/\∃kvs:List (Key×V),ps=kvs.map (λkv=>(kV kv.1,kv.2))/\kvs.length<=15/\Q (.ref p) (upd H2 p (.dK (Xi0 [] kvs)))
structure M1 (X:Cx) (o:aE) (m:ak) (eD:bI) (e:aE) (ca:bI):Prop where
 base:io o m X.env (eval o X.env)=eval o X.env
 few:((bx ca (aA [e] X.env)).all (λx => !x.1)&&(bV ca (bj [] X.env)).all (λx=>x.1.isSome)
  && decide (([e]:List aE).length+([]:List cR).length+(if ([]:List cR).isEmpty then 0 else 1)<30))=true
 line:(eD.endLine==ca.line)=true
 trees:bx ca (aA [e] X.env)=[(false,eval e X.env)]
structure M2 (X:Cx) (o:aE) (m:ak) (eD:bI) (e f:aE) (ca:bI):Prop where
 base:io o m X.env (eval o X.env)=eval o X.env
 few:((bx ca (aA [e,f] X.env)).all (λx => !x.1)&&(bV ca (bj [] X.env)).all (λx=>x.1.isSome)
  && decide (([e,f]:List aE).length+([]:List cR).length+(if ([]:List cR).isEmpty then 0 else 1)<30))=true
 line:(eD.endLine==ca.line)=true
 trees:bx ca (aA [e,f] X.env)=[(false,eval e X.env),(false,eval f X.env)]
def IsD (H:Hp) (a:ae):Prop:=(∃kvs,Rd H a (.dK kvs)) \/ ∃kvs,Rd H a (.dT kvs)
def Xi1      (I:Inv X pins Z H s) (d:IsD H a):
  s.TypeIs (.ref a) "dict" /\ (∀b,aa.ref a = .ref b->∃ob,s.heap.get? b=some ob/\ob.dict=none)/\(a==b9)=false:=by
 rcases d with ⟨kvs,e⟩ | ⟨kvs,e⟩
 ·obtain⟨_,hd,vs,_,dd⟩:=Eu I.hok e;refine⟨dd.typeIs,λb q=>?_,hd⟩;cases q;obtain⟨ob,_,_,h1,h2,_⟩:=dd;exact⟨ob,h1,h2.2.1⟩
 ·obtain⟨_,hd,xs,_,dd⟩:=Fj I.hok e;refine⟨dd.typeIs,λb q=>?_,hd⟩;cases q;obtain⟨ob,_,_,h1,h2,_⟩:=dd;exact⟨ob,h1,h2.2.1⟩
section
variable {X:Cx}{pins:List (ae×aK)}{Z:St}{H:Hp}{s:af}{a:ae}{y d:V}{u r:aa}{o:Option V}{A:av}{E:Zb}
def Xi2(hu:A.units+1<bu)(I:Inv X pins Z H s)(g:DGet H a y o)(ry:Aj y u)(rd:Aj d r)(h:∀w' s',Inv X pins Z H s'->Aj (o.getD d) w'->Q w' s'):
  ai (ag X.prog X.w) A (call (.builtin "dict.get") [.ref a,u,r]) Q E s:=by
 rcases g with ⟨kvs,k,e,ey,l⟩ | ⟨kvs,k,b,e,ey,eb,l⟩
 ·subst ey;obtain⟨z,hd,vs,cK,dd⟩:=Eu I.hok e;refine vj PySem.F.slot_dict_get dd.typeIs PySem.F.entry_dict_get (PySem.F.args_dict_get_3 _ _ _) (meets_dict_get_default (Be X.prog X.w) a (Fh ry) hd r) ⟨_,dd.mapOf,h _ _ (I.tok _) ?_⟩;rw[l];exact(cK.val k).getD rd
 ·subst ey;cases (show u=aa.ref b from ry);obtain⟨z,hd,xs,cK,dd⟩:=Fj I.hok e;refine vj PySem.F.slot_dict_get dd.typeIs PySem.F.entry_dict_get (PySem.F.args_dict_get_3 _ _ _) (meetsH_dict_get_default (cJ (Be X.prog X.w)) a b hd r) ⟨bO hu,k,xs,Fi I.hok eb,dd,h _ _ (I.tok _) ?_⟩;rw[l];exact(cK.val k).getD rd
end
def Xi3 (td ty tx:TE):TE:=fun Z H Q=>td Z H λx H1=>∃a,x = .ref a/\IsD H1 a/\ty Z H1 λy H2=>tx Z H2 λz H3=>∃o,DGet H3 a y o/\Q (o.getD z) H3
def Xr2 (td ty:TE):TE:=fun Z H Q=>td Z H λx H1=>∃a,x = .ref a/\IsD H1 a/\ty Z H1 λy H2=>∃kvs k v,H2 a=some (.dK kvs)/\y=kV k/\Ay kvs k=some v/\Q v (upd H2 a (.dK (Xbg kvs k)))
section
variable {X:Cx}{o e f:aE}{eD ca:bI}{td ty tx:TE}
def Xbr(hu:X.A.units+1<bu)(ho:PE X o td)(he:PE X e ty)(hf:PE X f tx)(m:M2 X o "get" eD e f ca):PE X (.Call (.Attribute o "get" eD) [e,f] [] ca) (Xi3 td ty tx):=by
 intro pins s Z H Q I h;refine wpAny_Call_method m.base m.few m.line PySem.F.plainAttrs_dict PySem.F.slot_dict_get PySem.F.type_dict_get (thn (ho pins s Z H _ I h) λu s1 ⟨x,H1,I1,rx,a,ex,d,q1⟩=>?_);subst ex;obtain rfl:u=aa.ref a:=rx;obtain⟨t1,t2,_⟩:=Xi1 I1 d;refine⟨t1,t2,?_⟩;rw[m.trees];refine Calls.callWith_builtin rfl (Calls.evalArgs_plain (Calls.spliced_cons (thn (he pins s1 Z H1 _ I1 q1) λiv s2 ⟨y,H2,I2,ry,q2⟩=>
  Calls.spliced_cons (thn (hf pins s2 Z H2 _ I2 q2) λfv s3 ⟨z,H3,I3,rz,ov,g,q3⟩=>Calls.spliced_nil ?_))))
 exact Xi2 hu I3 g ry rz λw' s4 I4 jR=>⟨_,H3,I4,jR,q3⟩
end
section
variable {X:Cx}{pins:List (ae×aK)}{Z:St}{H:Hp}{s:af}{a:ae}{kvs:List (Key×V)}{A:av}{E:Zb}
end
section
variable {X:Cx}{pins:List (ae×aK)}{Z:St}{H:Hp}{s:af}{a:ae}{y:V}{u:aa}{A:av}{E:Zb}
end
end L2
namespace Att
open PySem PySem.W PySem.Calls PyProof.Rows
def Xi4  : ∀ns vs,WellAll P h vs (ns.map WData.int)->cS vs ns:=by
 intro ns
 induction ns with
 | nil=>
  intro vs w;rw[R0] at w;cases w;exact .nil
 | cons n ns ih=>
  intro vs w;rw[O5] at w;cases w with
  | cons a b=>
   cases a;exact .cons _ _ (ih _ b)
def Xi5{l:OpenLaw}  (hn:l.most=some n)    (lM:l.row.toRowW.claim.pre args=true)(rj:WellAll P h rl args):
  ∃a vs ns,rl=[aa.ref a]/\args=[WData.list (ns.map WData.int)]/\h.get? a=some {cls:=.type "list",data:=.seq vs.toArray}/\cS vs ns/\ns.length<=n:=by
 have AX:WShape.hasAll [] args [.list .int]=true:=(pre_splitW lM).1;have hc:l.pre.holds [] {args:=args}=true:=(pre_splitW lM).2;obtain⟨d,r,rfl,h1,h2⟩:=hasAllW_cons AX;obtain rfl:=hasAllW_nil h2;obtain⟨xs,rfl,h3⟩:=hasW_list h1;obtain⟨ns,rfl⟩:=items_int h3;have aN:ns.length<=n:=by
  unfold OpenLaw.pre at hc;have h4:(WTm.not (.lt (.lit (.int (n:Int))) (.len (.arg 0)))).holds [] {args:=[.list (ns.map .int)]}=true:=by
   have h4:=(holds_andW hc).1;rw[hn] at h4;exact h4
  have h5:=condW_of h4 (w_not (w_lt w_lit (w_len_list (w_arg rfl))));rw[Od] at h5;refine Nat.le_of_not_lt λq=>?_;have q':(n:Int)<((ns.length:Nat):Int):=by lia
  first
   | (rw[Tl q'] at h5;exact absurd h5 (by decide))
   | (simp at h5;lia)
 cases rj with
 | cons w1 w2=>
  cases w2;cases w1 with
  | list ho bT=>exact⟨_,_,ns,rfl,rfl,ho,Xi4 ns _ bT,aN⟩
def Xi6(l:OpenLaw)(args):l.row.toRowW.claim.post args (.bool true) args=true:=
 postW_of (r:=l.row.toRowW) (X:=(true==true))
  (show WShape.has [] (.bool true) .bool=true by first | rfl | decide | simp[WShape.has,WShape.arms,WShape.armsAll])
  (show (WTm.eq .res (.lit (.bool true))).value [] {args:=args,res:=some (.bool true),after:=args}=some (.bool (true==true)) from w_eq_bool (w_res rfl) w_lit) rfl
def attach_call{l:OpenLaw}      (hn:l.most=some n)(rm:d.params.defaults=[])
  (call:∀(w:aw) (s₀ s₁ : af) (mg mb:ak->Option aa) (fa:ae) (o:aK) (pm cd cX:aa) (a:ae) (vs:List aa) (ns:List Int),
   Ground q loose [] XP w s₀ mg mb s₁.heap->YP w s₁.heap ->
   s₁.heap.get? fa=some o->o.data = .func (docDef d.name d.params d.body d.scope pm cd cX)->s₁.heap.CodeRec cd d.name->mg d.name=some (.ref fa) ->
   s₁.heap.get? a=some {cls:=.type "list",data:=.seq vs.toArray}->cS vs ns->ns.length<=n->s₁.gens = #[] ->
   bw (ag l.prog w) eK (.call (.ref fa) ⟨[.ref a],[]⟩) (λr s'=>r = .ok (.ret (.bool true))/\AY s₁.heap s'.heap/\s'.os=s₁.os/\c6 s'.gens) s₁):
  WalkO q loose XP YP l.row.toRowW d [] (λf vs=>PySem.call f vs):=by
 intro w s₀ s₁ mg mb G Y fa o pm cd cX dV kV ho hd gW hD hmg hg args rl as lM rp JC rj iN;obtain rfl:dV = .none:=Dflts.none hD rm;obtain rfl:kV = .none:=Dflts.noKw hD;obtain⟨a,vs,ns,rfl,rfl,ou,jT,aN⟩:=Xi5 hn lM rj;refine enter_call (bi (call w s₀ s₁ mg mb fa o pm cd cX a vs ns G Y ho (fd_plain hd) gW hmg ou jT aN hg) λr s' hq=>?_);obtain⟨rfl,h2,h3,h4⟩:=hq;exact⟨.inl ⟨.bool true,.bool true,[],rfl,λ_=>rfl,.bool true,Xi6 l _,λ_=>⟨List.Pairwise.nil,λ_ hm=>(nomatch hm)⟩⟩,h2,h3,h4⟩
section
variable {prog:ao}{w:aw}{A:av}{E:Zb}{s:af}{K:Frag}
def ledger (h:am) (L d:ae):List (ae×aK):=(List.range h.objs.size).filterMap λa=>if a=L\/a=d then none else (h.get? a).map λo=>(a,o)
end
end Att
namespace L2
theorem Xbs:∀{vs:List aa} {ns:List Int},cS vs ns->Vals (ns.map V.int) vs
 | _,_,.nil=>.nil
 | _,_,.cons n t h=>.cons ⟨t,rfl⟩ (Xbs h)
def Only (H:Hp):Prop:=∀b,H b=none \/ ∃o xs,H b=some (.frz o (.lst xs))
abbrev KOf {K:LD} {h:am} (_:K.In h):LD:=K
def Xr3 (s:aM) (j:Nat):aM:=match s with
 | .ClassDef _ _ _ body _ _ _ _ _ _ _=>body.getD j (.Pass ⟨0,0,0,0⟩)
 | _=>.Pass ⟨0,0,0,0⟩
def Ec (s:aM):cM:=match s with
 | .FunctionDef _ a _ _ _ _ _ _ _ _=>a
 | _=>{posonlyargs:=[],args:=[],vararg:=none,kwonlyargs:=[],kw_defaults:=[],kwarg:=none,defaults:=[]}
def Cs (s:aM):List aM:=match s with
 | .FunctionDef _ _ b _ _ _ _ _ _ _=>b
 | _=>[]
def defScope (s:aM):bE:=match s with
 | .FunctionDef _ _ _ _ _ _ sc _ _ _=>sc
 | _=>{kind:=.function,names:=[],isGenerator:=false,isCoroutine:=false}
abbrev CX0:CXT:=λ_ _ _ _ _ _=>False
abbrev E0:XK:=λ_ _ _=>False
def Am:Passes CX0 X E0:=λ_ _ _ _ _ _ _ h=>h.elim
structure Fun (K:LD) (x qual:ak) (st:aM) (f:ae) (fd:au):Prop where
 ex:∃(oc:aa) (od:Option ae) (kV cX pm:aa) (an:Option ae) (cdv ct:aa) (iM:Array (Option aa)),
  fd=LS x qual (Ec st) (Cs st) (defScope st) .none kV cX pm an cdv ct/\K.lookup f=some ⟨oc,od,.func fd,iM⟩/\LV K cdv qual=true
 kp:LL K (.ref f)=true
section
variable {P:ao}{w:aw}{K:LD}{mg:ak->Option aa}{base:am}
def Fun.ok{x qual}{st}  {fd}   (F:Fun K x qual st f fd)(S:FnScope N ps (defScope st))(len:∀vs H Q E,sp vs H Q E->vs.length=ps.length)
  (eE:∀(cdv:aa) (A:av) (outer:List dt) (s:af) (H:Hp) (vs:List V) (Q:VK) (E:XK),Room k (A.deeper (aO qual (defScope st) s.heap.objs.size f cdv))->sp vs H Q E ->
   ∃t,PSs (Co CX0 P w K mg base N qual (defScope st) f cdv A outer s H E).nox (Cs st) t/\t {nx:=λ_ H'=>Q .non H',rt:=Q} (start N vs) H):FnOk P w K mg base CX0 (k+1) f fd ps sp:=by
 obtain⟨oc,od,kV,cX,pm,an,cdv,ct,iM,rfl,lk,gW⟩:=F.ex;refine Ln lk gW S len λA outer s H vs Q E hr gY=>?_;obtain⟨t,h,q⟩:=eE cdv A outer s H vs Q E hr gY;exact⟨t,h.nox,q⟩
def Fun.binds  {st}   (F:Fun K x qual st f fd)
  (h:∀(kV cX pm:aa) (an:Option ae) (cdv ct:aa) (us:List aa),us.length=ps.length->cL (LS x qual (Ec st) (Cs st) (defScope st) .none kV cX pm an cdv ct) ⟨us,[]⟩=pure (ps.zip us)):Binds K fd ps []:=by
 obtain⟨oc,od,kV,cX,pm,an,cdv,ct,iM,rfl,lk,gW⟩:=F.ex;exact .all (h kV cX pm an cdv ct)
def Xbt  {st}    {kV cX pm cdv ct} (l:K.lookup f=some ⟨oc,od,.func (LS x qual (Ec st) (Cs st) (defScope st) .none kV cX pm an cdv ct),iM⟩)
  (c:LV K cdv qual=true) (k:LL K (.ref f)=true):Fun K x qual st f (LS x qual (Ec st) (Cs st) (defScope st) .none kV cX pm an cdv ct):=⟨⟨oc,od,kV,cX,pm,an,cdv,ct,iM,rfl,l,c⟩,k⟩
end
def Ct  (hr:Room k A):A.units+1<bu:=R1 (Nat.add_le_add_left (by decide:1<=64) _) hr.units
section
variable {X:Cx}
def pv(i:Nat)  (hN:X.N[i]? = some x:=by rfl)(hv:Vis X.env.scope x:=by first | exact Or.inl rfl | exact Or.inr (.inl rfl) | exact Or.inr (.inr rfl))(hd:(x==("__debug__" : ak))=false:=by decide)
  (gW:(x==("__classdict__" : ak))=false:=by decide):PE X (.Name x pos) (C7 i):=Xhc hN hv hd gW
end
def Bn{A B:Prop}(h:B):if false=true then A else B:=by
 rw[Tj Ow];exact h
def B3{A B:Prop}(h:A):if true=true then A else B:=by
 rw[Tk rfl];exact h
def Xi7{c A B:Prop}[Decidable c](hc:c)(h:B):if (!decide c)=true then A else B:=by
 rw[Tl hc];exact Bn h
def Same (H H':Hp):Prop:=∀b o,H b=some o->H' b=some o
def Same.refl(H):Same H H:=λ_ _ h=>h
def Same.trans(a:Same H H1)(b:Same H1 H2):Same H H2:=λc o h=>b c o (a c o h)
def Same.free  (e:Same H H') (h:H' l=Option.none):H l=Option.none:=by
 cases q:H l with
 | none=>rfl
 | some o=>
  rw[e l o q] at h;cases h
def Same.seq{K}   (e:Same H H')(h:SqL K H a xs):SqL K H' a xs:=by
 rcases h with (h | ⟨o,h⟩) | h
 ·exact .inl (.inl (e _ _ h))
 ·exact .inl (.inr ⟨o,e _ _ h⟩)
 ·exact .inr h
section
variable {X:Cx}
end
section
variable {κ : Type} [DecidableEq κ]
def Xi8{k : κ}(h:Ay kvs k=none):¬k∈kvs.map (·.1):=by
 intro m;obtain⟨p,hp,e⟩:=Pa.mp m;have q:(kvs.any λkv=>decide (kv.1=k))=true:=Rk.mpr ⟨p,hp,Tl e⟩;rw[Et,h] at q;exact absurd q (by simp)
def Hj  {k : κ} (h:Ay kvs k=some v):k∈kvs.map (·.1):=by
 have q:(kvs.any λkv=>decide (kv.1=k))=true:=by
  rw[Et,h]
  all_goals rfl
 obtain⟨p,hp,e⟩:=Rk.mp q;exact Pa.mpr ⟨p,hp,Tp e⟩
theorem nd_snoc:∀{l:List κ} {k : κ},l.Nodup->¬k∈l->(l++[k]).Nodup
 | [],k,_,_=>by simp
 | a::r,k,h,hk=>by
  obtain⟨h1,h2⟩:=P5.mp h;show (a::(r++[k])).Nodup;refine P5.mpr ⟨λm=>?_,nd_snoc h2 λm=>hk (Ou.mpr (Or.inr m))⟩;rcases Oq.mp m with q | q
  ·exact h1 q
  ·exact hk (Ou.mpr (Or.inl (Oj.mp q).symm))
def Xi9{k : κ}(v)(hn:(kvs.map (·.1)).Nodup)(h:Ay kvs k=none):((Bh kvs k v).map (·.1)).Nodup:=by
 rw[Hi v h,Ot];exact nd_snoc hn (Xi8 h)
end
def Cf (env:dt):List (ak×aH)->List (ak×ae)->List (ak×ae)
 | [],cs=>cs
 | (n,k)::r,cs=>if k == .free then Cf env r ((n,(env.cells.lookup n).getD 0)::cs) else Cf env r cs
theorem Lw:∀names cs,(∀x∈names,x.2 = .free->∃c,env.cells.lookup x.1=some c) ->
  (forIn names cs fun (x : ak × aH) r => (if (x.2 == .free) = true then do        let c <- rq env x.1; pure (ForInStep.yield ((x.1, c) :: r)) else pure (ForInStep.yield r) : fJ (ForInStep (List (ak × ae))))) = pure (Cf env names cs)
 | [],cs,_=>rfl
 | (n,k)::r,cs,h=>by
  rw[R4];cases hk:(k==aH.free) with
  | true=>
   have j4:k = .free:=by simpa using hk
   obtain⟨c,hc⟩:=h (n,k) Op j4;have e1:rq env n=pure c:=by unfold rq;rw[hc]
   simp only[hk,if_true,e1,pure_bind];rw[Lw r _ λx hx=>h x (Ol _ hx)];show _=pure (if (k==aH.free)=true then _ else _);rw[hk,Tk rfl,hc];rfl
  | false=>
   simp only[hk,Pe,if_false,pure_bind];rw[Lw r _ λx hx=>h x (Ol _ hx)];show _=pure (if (k==aH.free)=true then _ else _);rw[hk,Tj Ow]
def Xbu  (h:∀x∈scope.names,x.2 = .free->∃c,env.cells.lookup x.1=some c):gq scope env=pure (Cf env scope.names []):=by
 have e:=Lw scope.names [] h
 have q : gq scope env = (forIn scope.names [] fun (x : ak × aH) r => (if (x.2 == .free) = true then do                let c <- rq env x.1; pure (ForInStep.yield ((x.1, c) :: r)) else pure (ForInStep.yield r) : fJ (ForInStep (List (ak × ae))))) >>= fun cs => pure cs := rfl
 rw[q,e];rfl
theorem Lx   : ∀names cs,(∀x∈names,x.2 = .free->∃c,env.cells.lookup x.1=some c) ->
  (Cf env names cs).lookup x=some c->cs.lookup x=some c\/env.cells.lookup x=some c
 | [],cs,_,h=>.inl h
 | (n,k)::r,cs,hf,h=>by
  unfold Cf at h;split at h
  ·rename_i hk;rcases Lx r _ (λx hx=>hf x (Ol _ hx)) h with q | q
   ·rw[Px] at q;split at q
    ·rename_i e;have e':x=n:=by simpa using e
     subst e';obtain⟨c',hc⟩:=hf (x,k) Op (by simpa using hk);have qd:env.cells.lookup x=some c':=hc;rw[qd] at q ⊢;exact .inr q
    ·exact .inl q
   ·exact .inr q
  ·exact Lx r _ (λx hx=>hf x (Ol _ hx)) h
theorem Ly  : ∀names cs,((cs.lookup x).isSome=true\/(x,aH.free)∈names)->((Cf env names cs).lookup x).isSome=true
 | [],cs,h=>by
  rcases h with h | h
  ·exact h
  ·cases h
 | (n,k)::r,cs,h=>by
  unfold Cf;split
  ·refine Ly r _ ?_;rw[Px];rcases h with h | h
   ·left;split
    ·rfl
    ·exact h
   ·rcases Ou.mp h with e | h
    ·left;cases e;simp
    ·exact .inr h
  ·rename_i hk;refine Ly r _ ?_;rcases h with h | h
   ·exact .inl h
   ·rcases Ou.mp h with e | h
    ·cases e;exact absurd rfl hk
    ·exact .inr h
theorem Xbv{env:dt}{x:ak}{k':aH}:∀{names:List (ak×aH)},
  (names.map λ(n,k)=>if (k==aH.free&&env.scope.kind == .function&&env.kindOf n==some .cell) then (n,aH.cell) else (n,k)).lookup x=some k'->∃k,names.lookup x=some k/\(k'=k\/k = .free)
 | [],h=>by simp at h
 | (n,k)::r,h=>by
  have ih := @Xbv env x k' r;have h':List.lookup x ((if (k==aH.free&&env.scope.kind == .function&&env.kindOf n==some .cell)=true then (n,aH.cell) else (n,k))::_)=_:=h;rw[Px];by_cases hc:(k==aH.free&&env.scope.kind == .function&&env.kindOf n==some .cell)=true
  ·rw[Tk hc,Px] at h';cases hx:x==n with
   | true=>
    have hk:k = .free:=by
     simp only[Oy,beq_iff_eq] at hc;exact hc.1.1
    exact⟨k,rfl,.inr hk⟩
   | false=>
    rw[hx] at h';exact ih h'
  ·rw[Tj hc,Px] at h';cases hx:x==n with
   | true=>
    rw[hx] at h';exact⟨k,rfl,.inl (Ox h').symm⟩
   | false=>
    rw[hx] at h';exact ih h'
theorem Lz:∀(names:List (ak×aH)) (h:am) (acc:List (ak×ae)) (x:ak) (c:ae),(bJ h.objs.size names acc).lookup x=some c ->
  (h.objs.size<=c/\(x,aH.cell)∈names/\(bQ h names).IsCell c none)\/acc.lookup x=some c
 | [],_,_,_,_,e=>.inr e
 | (name,kind)::r,h,acc,x,c,e=>by
  unfold bJ at e;unfold bQ;by_cases hk:(kind==aH.cell)=true
  ·rw[Tk hk] at e ⊢;have j4:kind = .cell:=by simpa using hk
   have sz:(h.push {cls:=.type "cell",data:=.cell none}).objs.size=h.objs.size+1:=am.size_push ..;rw[<-sz] at e;rcases Lz r _ _ x c e with ⟨a1,a2,a3⟩ | a
   ·exact .inl ⟨by lia,Ol _ a2,a3⟩
   ·rw[Px] at a;cases hx:x==name with
    | true=>
     rw[hx] at a;cases a;have:x=name:=by simpa using hx
     subst this;refine .inl ⟨Og _,by rw[j4];exact Op,?_⟩;exact⟨_,cY r _ _ _ (am.get?_push_size _ rfl),rfl⟩
    | false=>rw[hx] at a;exact .inr a
  ·rw[Tj hk] at e ⊢;rcases Lz r h acc x c e with ⟨a1,a2,a3⟩ | a
   ·exact .inl ⟨a1,Ol _ a2,a3⟩
   ·exact .inr a
theorem L0:∀(names:List (ak×aH)) (n:Nat) (acc:List (ak×ae)),(∀x y c,acc.lookup x=some c->acc.lookup y=some c->x=y)->(∀x c,acc.lookup x=some c->c<n) ->
  ∀x y c,(bJ n names acc).lookup x=some c->(bJ n names acc).lookup y=some c->x=y
 | [],_,_,h,_=>h
 | (name,kind)::r,n,acc,h,hb=>by
  unfold bJ;by_cases hk:(kind==aH.cell)=true
  ·rw[Tk hk];refine L0 r (n+1) _ (λx y c e1 e2=>?_) (λx c e=>?_)
   ·rw[Px] at e1 e2;cases hx:x==name with
    | true=>
     cases hy:y==name with
     | true=>rw[beq_iff_eq.mp hx,beq_iff_eq.mp hy]
     | false=>
      rw[hx] at e1;rw[hy] at e2;cases e1;exact absurd (hb y _ e2) (Pz _)
    | false=>
     cases hy:y==name with
     | true=>
      rw[hx] at e1;rw[hy] at e2;cases e2;exact absurd (hb x _ e1) (Pz _)
     | false=>rw[hx] at e1;rw[hy] at e2;exact h x y c e1 e2
   ·rw[Px] at e;cases hx:x==name with
    | true=>rw[hx] at e;cases e;exact Nat.lt_succ_self _
    | false=>rw[hx] at e;exact Pu (hb x c e)
  ·rw[Tj hk];exact L0 r n acc h hb
theorem L1   : ∀names cs,(Cf env names cs).lookup x=some c->cs.lookup x=some c\/(x,aH.free)∈names
 | [],cs,h=>.inl h
 | (n,k)::r,cs,h=>by
  unfold Cf at h;split at h
  ·rename_i hk;have j4:k = .free:=by simpa using hk
   rcases L1 r _ h with q | q
   ·rw[Px] at q;cases hx:x==n with
    | true=>
     have:x=n:=by simpa using hx
     subst this;exact .inr (by rw[j4];exact Op)
    | false=>rw[hx] at q;exact .inl q
   ·exact .inr (Ol _ q)
  ·rcases L1 r _ h with q | q
   ·exact .inl q
   ·exact .inr (Ol _ q)
def Xja          (h:Q (newEnv scope s.heap.objs.size globals (bJ (s.heap.objs.size+1) scope.names lN) qual none .none (some outer) cP) {s with heap:=bQ (s.heap.push {cls:=.type "dict",data:=.dict #[]}) scope.names}):
  ai M A (gr scope globals lN [] qual none .none (some outer)) Q E s:=by
 simp only[gr,Ss,if_true];refine Te (jU ?_);refine Te (wpAny_layCells _ (λname kind cells=>by cases AZ:kind==aH.cell<;>simp[AZ]) _ _ _ _ ?_);rw[show ({s with heap:=s.heap.push {cls:=.type "dict",data:=.dict #[]} }:af).heap.objs.size=s.heap.objs.size+1 from am.size_push ..];refine Te ?_;rw[Sd];exact Tf (Tf h)
def Hk (X:Cx) (scope:bE) (s0:af):List (ak×ae):=bJ (s0.heap.objs.size+1) scope.names (Cf X.env scope.names [])
def Cx.comp (X:Cx) (N:Za) (scope:bE) (s0:af) (H0:Hp) (ex:List ae):Cx where
 prog:=X.prog
 w:=X.w
 K:=X.K
 mg:=X.mg
 base:=X.base
 A:=X.A
 N:=N
 s₀:=s0
 H₀:=H0
 env:=r0 scope (Hk X scope s0) s0.heap.objs.size X.env
 outer:=X.stack
 stack:=X.stack
 ex:=ex
 fn:=λx=>decide (scope.names.lookup x=some .cell)
 calm:=X.calm
 pn:=[]
 xe:=λ_ _=>False
def Bs (cap:List (Option Nat)) (Z:St):St:=cap.map λo=>o.bind λj=>(Z[j]?).join
structure CompScope (X:Cx) (N:Za) (cap:List (Option Nat)) (scope:bE):Prop where
 kind:scope.kind = .function
 uniq:∀y∈scope.names,scope.names.lookup y.1=some y.2
 free:∀y∈scope.names,y.2 = .free->X.env.kindOf y.1=some .cell\/X.env.kindOf y.1=some .free
 len:cap.length=N.length
 cap:∀(i:Nat) (x:ak) (j:Nat),N[i]? = some x->cap[i]? = some (some j)->X.N[j]? = some x/\scope.names.lookup x=some .free
def PIfs (X:Cx) (cx:List aE) (t:TT):Prop:=
 ∀pins s Z H (Q:Bool->Hp->Prop),Inv X pins Z H s->t Z H Q ->
  ai (ag X.prog X.w) X.A (forIn cx true fun c r => if r = true then do        let ok <- isTrue c X.env (eval c X.env); pure (ForInStep.yield ok) else pure (ForInStep.yield r)) (TP X pins Z Q) X.xe s
def Ed:TT:=λ_ H Q=>Q true H
def Dk:PIfs X [] Ed:=λ_ _ _ H _ I h=>wpAny_tests_nil ⟨H,I,h⟩
def Dl   (h:PT X c t):PIfs X [c] t:=λpins s Z H Q I hw=>wpAny_tests_one (h pins s Z H Q I hw)
def Ee (cap:List (Option Nat)) (g:TG) (tt:TT) (te:TE) (J:It) (Z:St) (H1:Hp) (F:ae->Hp->Prop):Prop:=
 ∀D,H1 D=none->∃W:Nat->Nat->St->Hp->Prop,(∃m,W 0 m (Bs cap Z) (upd H1 D (.lst [])))/\∀i m Z1 H2,W i m Z1 H2 ->
  (J.stop i H2/\F D H2)\/(J.go i H2/\∀x H3,J.yld i H2 x H3->g x Z1 H3 fun Z2 H4=>tt Z2 H4 λb H5=>
   if b=true then te Z2 H5 λy H6=>∃ys,H6 D=some (.lst ys)/\ys.length<sizeLine/\∃m',m'<m/\W (i+1) m' Z2 (upd H6 D (.lst (ys++[y])))
   else ∃m',m'<m/\W (i+1) m' Z2 H5)
theorem Xbw{env:dt}{x:ak}:∀{names:List (ak×aH)} {k:aH},names.lookup x=some k ->
  (names.map λ(n,k)=>if (k==aH.free&&env.scope.kind == .function&&env.kindOf n==some .cell) then (n,aH.cell) else (n,k)).lookup x=some (if (k==aH.free&&env.scope.kind == .function&&env.kindOf x==some .cell) then aH.cell else k)
 | [],_,h=>by simp at h
 | (n,q)::r,k,h=>by
  have ih := @Xbw env x r k;show List.lookup x ((if (q==aH.free&&env.scope.kind == .function&&env.kindOf n==some .cell)=true then (n,aH.cell) else (n,q))::_)=_;rw[Px] at h;cases hx:x==n with
  | true=>
   rw[hx] at h;cases h;have:x=n:=by simpa using hx
   subst this;by_cases hc:(q==aH.free&&env.scope.kind == .function&&env.kindOf x==some .cell)=true
   ·rw[Tk hc,Tk hc,Px,hx]
   ·rw[Tj hc,Tj hc,Px,hx]
  | false=>
   rw[hx] at h;by_cases hc:(q==aH.free&&env.scope.kind == .function&&env.kindOf n==some .cell)=true
   ·rw[Tk hc,Px,hx];exact ih h
   ·rw[Tj hc,Px,hx];exact ih h
section
variable {X:Cx}{N:Za}{cap:List (Option Nat)}{scope:bE}{pins:List (ae×aK)}{Z:St}{H H':Hp}{s s':af}{fp:List ae}
def L3(C:CompScope X N cap scope)(ok:X.Ok):∀x∈scope.names,x.2 = .free->∃c,X.env.cells.lookup x.1=some c:=λx hx hf=>ok.has x.1 (C.free x hx hf)
def Jq(C:CompScope X N cap scope)(ok:X.Ok)  (h:(Cf X.env scope.names []).lookup x=some c):X.env.cells.lookup x=some c:=by
 rcases Lx scope.names [] (L3 C ok) h with q | q
 ·simp at q
 ·exact q
def Xbx(C:CompScope X N cap scope)(ok:X.Ok)(h:scope.names.lookup x=some .free):∃c,(Cf X.env scope.names []).lookup x=some c:=
 Qu.mp (Ly scope.names [] (.inr (PySem.mem_of_lookup h)))
def Xby(C:CompScope X N cap scope)(ok:X.Ok)  (hz:h.objs.size=s.heap.objs.size+1)  (e:(Hk X scope s).lookup x=some c):
  (s.heap.objs.size<c/\scope.names.lookup x=some .cell/\(bQ h scope.names).IsCell c none)\/(scope.names.lookup x=some .free/\X.env.cells.lookup x=some c):=by
 unfold Hk at e;rw[<-hz] at e;rcases Lz scope.names h _ x c e with ⟨a1,a2,a3⟩ | a
 ·exact .inl ⟨by lia,C.uniq _ a2,a3⟩
 ·refine .inr ⟨?_,Jq C ok a⟩;rcases L1 scope.names [] a with q | q
  ·simp at q
  ·exact C.uniq _ q
def Xjb(C:CompScope X N cap scope)(I:Inv X pins Z H s)(hf:∀b∈fp,FpOk X pins H b)(oy:∀b∈fp,b<s.heap.objs.size){tk}:
  Inv (X.comp N scope s H fp) [] (Bs cap Z) H {s with heap:=bQ (s.heap.push {cls:=.type "dict",data:=.dict #[]}) scope.names,toks:=tk}:=by
 have hC:H s.heap.objs.size=none:=I.hok.fresh (Og _);have hz:(s.heap.push {cls:=.type "dict",data:=.dict #[]}).objs.size=s.heap.objs.size+1:=am.size_push ..;have lO:(bQ (s.heap.push {cls:=.type "dict",data:=.dict #[]}) scope.names).Ns s.heap.objs.size λ_=>none:=(am.Ns.new s.heap (.type "dict")).keeps (cY _ _);have hk:∀b o,s.heap.get? b=some o->(bQ (s.heap.push {cls:=.type "dict",data:=.dict #[]}) scope.names).get? b=some o:=λb o e=>cY _ _ b o (Tt _ e);have look:∀{x c},(X.comp N scope s H fp).env.cells.lookup x=some c->_:=λ{x c} h=>Xby (s:=s) C I.ok hz h;have By:∀x c,X.env.cells.lookup x=some c->c<s.heap.objs.size:=λx c h=>by
  obtain⟨v,q⟩:=I.cell x c h;exact q.lt
 have kind:∀x k,(relabel scope X.env).names.lookup x=some k->k = .cell\/k = .free->scope.names.lookup x=some .cell\/scope.names.lookup x=some .free:=λx k e hk=>by
  obtain⟨k0,e0,z⟩:=Xbv e;rcases z with z | z
  ·rw[<-z] at e0;rcases hk with q | q
   ·rw[q] at e0;exact .inl e0
   ·rw[q] at e0;exact .inr e0
  ·rw[z] at e0;exact .inr e0
 refine⟨⟨I.ok.mod,C.kind,I.ok.glob,I.ok.blt,Og _,?inj,λx hx=>?has,λx c h e=>?cab,I.ok.hd,I.ok.frames,.inl rfl,λb hb=>⟨Oo (oy b hb),λx c h=>?exf⟩,
   I.bs,Pj I.ok.bsz I.sz,λb o e hb=>?noex,λb hb hs=>?exfs,I.stack,I.stkFree⟩,
  rfl,I.bare,Un.kept hk,⟨_,lO,λi x v B' h2 h3=>?loc⟩,λx c h=>?cell,hC,λx c h=>?freeC,λp hp=>absurd (show p∈([]:List (ae×aK)) from hp) (by simp),I.hok.kept hk,?len⟩
 case inj=>
  refine L0 scope.names _ _ (λx y c e1 e2=>I.ok.inj x y c (Jq C I.ok e1) (Jq C I.ok e2)) λx c e=>Pu (By x c (Jq C I.ok e))
 case has=>
  have iZ:(relabel scope X.env).names.lookup x=some .cell\/(relabel scope X.env).names.lookup x=some .free:=hx;refine Qu.mp (LN scope.names _ _ ?_);rcases (iZ.elim (λq=>kind x _ q (.inl rfl)) λq=>kind x _ q (.inr rfl)) with q | q
  ·exact .inl q
  ·obtain⟨c,hc⟩:=Xbx C I.ok q;exact .inr (by rw[hc];rfl)
 case cab=>
  have h:scope.names.lookup x=some .cell:=Tp h;rcases look e with ⟨a,_⟩ | ⟨a,_⟩
  ·exact Rp a
  ·rw[h] at a;cases a
 case exf=>
  rcases look h with ⟨a,_⟩ | ⟨_,a⟩
  ·exact λz=>Pz _ (Qs a (by rw[z];exact oy b hb))
  ·exact(hf b hb).2.2.2.2.1 x c a
 case noex=>
  obtain⟨_,_,_,z,_⟩:=hf b hb;rcases z with z | z
  ·exact I.ok.noex b o e z
  ·exact absurd (O4 (Tr e) (Pj I.ok.bsz z)) (Pz _)
 case exfs=>
  obtain⟨_,f1,f2,_⟩:=hf b hb;rcases Ou.mp (I.stkSub b hs) with e | e
  ·exact f1 e
  ·exact f2 e
 case loc=>
  have ip:(cap.map λo=>o.bind λj=>(Z[j]?).join)[i]? = some (some v):=h2;rw[Ov] at ip;cases hc:cap[i]? with
  | none=>rw[hc] at ip;cases ip
  | some o=>
   rw[hc] at ip;cases o with
   | none=>cases ip
   | some j=>
    have lP:(Z[j]?).join=some v:=Ox ip;have hZ : Z[j]? = some (some v):=by
     cases hj : Z[j]? with
     | none=>rw[hj] at lP;cases lP
     | some o=>rw[hj] at lP;exact congrArg some lP
    obtain⟨hN,j5⟩:=C.cap i x j B' hc;obtain⟨m,hn,hl⟩:=I.loc;have fB:X.env.kindOf x=some .cell\/X.env.kindOf x=some .free:=C.free (x,.free) (PySem.mem_of_lookup j5) rfl;obtain⟨u,r,l⟩:=hl j x v hN hZ (by rcases fB with q | q;exact .inr (.inl q);exact .inr (.inr q));refine⟨u,r,.inr ⟨?_,?_⟩⟩
    ·show (relabel scope X.env).names.lookup x=some .cell\/(relabel scope X.env).names.lookup x=some .free;have:=Xbw (env:=X.env) j5;have e:(relabel scope X.env).names.lookup x=_:=this;rw[e];split
     ·exact .inl rfl
     ·exact .inr rfl
    ·obtain⟨c,fK⟩:=Xbx C I.ok j5;obtain⟨c2,gl⟩:=Qu.mp (LN scope.names (s.heap.objs.size+1) (Cf X.env scope.names []) (x:=x) (.inr (by rw[fK];rfl)));rcases look (x:=x) (c:=c2) gl with ⟨_,a,_⟩ | ⟨_,a⟩
     ·rw[j5] at a;cases a
     ·rcases l with ⟨k,_⟩ | ⟨_,c',e,z⟩
      ·rcases fB with q | q
       ·rw[k] at q;cases q
       ·rw[k] at q;cases q
      ·rw[a] at e;cases e;obtain⟨o,ho,hd⟩:=z;exact⟨c2,gl,o,hk c2 o ho,hd⟩
 case cell=>
  rcases look h with ⟨_,_,a⟩ | ⟨_,a⟩
  ·exact⟨none,a⟩
  ·obtain⟨v,o,ho,hd⟩:=I.cell x c a;exact⟨v,o,hk c o ho,hd⟩
 case freeC=>
  rcases look h with ⟨a,_⟩ | ⟨_,a⟩
  ·exact I.hok.fresh (Rp a)
  ·exact I.freeC x c a
 case len=>
  show (cap.map _).length=N.length;rw[Od,C.len]
end
def Xjc (cap:List (Option Nat)) (wi:TI) (g:TG) (tt:TT) (te:TE):TE:=fun Z H Q=>wi Z H λJ H1=>Ee cap g tt te J Z H1 λD H2=>Q (.ref D) H2
def Xjd (i:Nat) (cap:List (Option Nat)) (wi:TI) (g:TG) (tt:TT) (te:TE):TS:=λD Z H=>wi Z H λJ H1=>Ee cap g tt te J Z H1 λl H2=>D.nx (Z.set i (some (.ref l))) H2
def A4.there      (x:A4 P w H h a o):∃u,h.get? a=some u:=by
 cases o with
 | lst xs=>obtain⟨_,_,_,_,e⟩:=x;exact⟨_,e⟩
 | tup xs=>obtain⟨_,_,_,o,e,_⟩:=x;exact⟨_,e⟩
 | dK kvs=>obtain⟨_,_,_,_,o,_,_,e,_⟩:=x;exact⟨_,e⟩
 | dT kvs=>obtain⟨_,_,_,_,o,_,_,e,_⟩:=x;exact⟨_,e⟩
 | set S n=>obtain⟨o,_,_,_,e,_⟩:=x;exact⟨_,e⟩
 | ins C dx fs=>obtain⟨_,_,_,e,_⟩:=x;exact⟨_,e⟩
 | own y=>exact x
 | xd fs=>obtain⟨_,⟨_,_,_,e,_⟩,_⟩:=x;exact⟨_,e⟩
 | rng lo hi=>obtain⟨_,_,_,e⟩:=x;exact⟨_,e⟩
 | frz ob u=>obtain⟨e,_⟩:=x;exact⟨_,e⟩
 | tbl ps=>exact⟨_,(show h.get? a=some _ from x)⟩
 | met f y=>exact⟨_,(show h.get? a=some _ from x)⟩
 | ext φ=>obtain⟨_,e,_⟩:=x;exact e
structure Flown (P:ao) (w:aw) (outer:List dt) (H:Hp) (hc:am) (H':Hp) (ex C:ae) (B:am) (a0:aa) (h:am):Prop where
 un:Un (frs outer) [] H H' hc h
 hok:HOk P w H' h
 fly:am.FlyingW B outer ex (.ref C) a0 h
 inB:∀b o,h.get? b=some o->b∉frs outer->((∃o',hc.get? b=some o')\/H' b≠none)->B.get? b=some o
 frf:∀b∈frs outer,H' b=none
def Flown.move       (F:Flown P w outer H hc H' ex C B a0 h) (st:B.StaysIn h') (up:h.UpToSlots h'):
  Un (frs outer) [] H H' hc h'/\HOk P w H' h'/\∀b o,h'.get? b=some o->b∉frs outer->((∃o',hc.get? b=some o')\/H' b≠none)->B.get? b=some o:=by
 have nf:∀b∈frs outer,∀o,h.get? b=some o->∀vs,o.data ≠ .fields vs:=λb hb o e=>by
  obtain⟨_,o',e',d⟩:=F.fly.2.2.1.mem hb;rw[e] at e';cases e';exact d
 have tr:∀b o,H' b=some o->b∉frs outer:=λb o e hb=>by rw[F.frf b hb] at e;cases e
 have iq:∀b,(∃o',hc.get? b=some o')\/H' b≠none->∃o,h.get? b=some o:=λb hb=>by
  rcases hb with ⟨o',e⟩ | hb
  ·obtain⟨o,e'⟩:=F.un.there b o' e (by simp);exact⟨o,e'⟩
  ·cases q:H' b with
   | none=>exact absurd q hb
   | some u=>exact(F.hok b u q).there
 refine⟨⟨λb o e n hb hx=>?_,λb o e n hb hx=>?_,F.un.free,λb o e hx=>?_,F.un.tups,F.un.frzs,F.un.tbls⟩,λa o e=>?_,λb o e hb hw=>?_⟩
 ·exact st b o (F.inB b o (F.un.keep b o e n hb hx) hb (.inl ⟨o,e⟩))
 ·obtain⟨sl,e1⟩:=F.un.slot b o e n hb hx;obtain⟨iF,e2⟩:=up b _ e1 (nf b hb _ e1);exact⟨iF,e2⟩
 ·obtain⟨o1,e1⟩:=F.un.there b o e hx;by_cases hb:b∈frs outer
  ·obtain⟨iF,e2⟩:=up b _ e1 (nf b hb _ e1);exact⟨_,e2⟩
  ·exact⟨o1,st b o1 (F.inB b o1 e1 hb (.inl ⟨o,e⟩))⟩
 ·refine(F.hok a o e).stay (λb u hb q=>?_) (λ_ q=>q) λ_ _ q=>q;have hn:H' b≠none:=by
   rcases hb with z | z
   ·rw[z,e];simp
   ·rw[z];simp
  have dF:b∉frs outer:=λz=>hn (F.frf b z);exact st b u (F.inB b u q dF (.inr hn))
 ·obtain⟨o1,e1⟩:=iq b hw;have e2:=F.inB b o1 e1 hb hw;have e3:=st b o1 e2;rw[e] at e3;cases e3;exact e2
def CX1 (P:ao) (w:aw):CXT:=λouter H s E e s'=>
 ∃ex C H' B a0,e = .ref ex/\s'.os=s.os/\c6 s'.gens/\Flown P w outer H s.heap H' ex C B a0 s'.heap/\E (.ref C) none H'
section
variable {P:ao}{w:aw}{K:LD}{mg:ak->Option aa}{base:am}{N:Za}{qual:ak}{scope:bE}{f:ae}{cd:aa}{A:av}{outer:List dt}{s:af}{H:Hp}{E:XK}
def Leaves (X:Cx) (E:XK):Prop:=∀(pins:List (ae×aK)) (Z:St) (H:Hp) (s:af) (h':am) (ex C:ae) (args:List aa),
 Inv X pins Z H s->am.MadeExcOf s.heap h' ex (.ref C) args->E (.ref C) none H->X.xe (.ref ex) {s with heap:=h'}
def leaves1:Leaves (Co (CX1 P w) P w K mg base N qual scope f cd A outer s H E) E:=by
 intro pins Z H1 s1 h' ex C args I hm hE;show ai (ag P w) (A.deeper (aO qual scope s.heap.objs.size f cd)) (leaving (aO qual scope s.heap.objs.size f cd) (.ref ex)) _ _ {s1 with heap:=h'};have bD:(Co (CX1 P w) P w K mg base N qual scope f cd A outer s H E).stack=aO qual scope s.heap.objs.size f cd::outer:=rfl;have dh:∀env∈(aO qual scope s.heap.objs.size f cd::outer),∀b,env.frame=some b->b∈frs (aO qual scope s.heap.objs.size f cd::outer):=λenv he b hb=>Sq.mpr ⟨env,he,hb⟩;have r6:s1.heap.FunFrames base (aO qual scope s.heap.objs.size f cd::outer):=I.stack;have hB:(MG s1.heap (frs (aO qual scope s.heap.objs.size f cd::outer))).StaysIn s1.heap:=λb o q=>MH _ q;have lQ:∀b o,s1.heap.get? b=some o->b∉frs (aO qual scope s.heap.objs.size f cd::outer)->(MG s1.heap (frs (aO qual scope s.heap.objs.size f cd::outer))).get? b=some o:=λb o e n=>ME _ e n;have sub:∀b,b∈frs (aO qual scope s.heap.objs.size f cd::outer)->b=s.heap.objs.size\/b∈frs outer:=λb hb=>Ou.mp (I.stkSub b hb);have r9:∀b,b∈frs outer->b∈frs (aO qual scope s.heap.objs.size f cd::outer):=λb hb=>by
  unfold frs at hb ⊢;rw[Qb];split
  ·exact hb
  ·exact Ol _ hb
 have ir:∀b,b∈frs (aO qual scope s.heap.objs.size f cd::outer)->H1 b=none:=λb hb=>I.stkFree b hb;refine wpAny_leaves_madeW (A:=A.deeper (aO qual scope s.heap.objs.size f cd)) (L:=s.heap.objs.size) I.ok.frames rfl hB (PySem.W.funFrames_hide r6 dh) hm λBA t f1 _ _ up=>?_;have iq:∀b o,s.heap.get? b=some o->b∉frs outer->b∉frs (aO qual scope s.heap.objs.size f cd::outer):=λb o e nb hb=>by
  rcases sub b hb with z | z
  ·exact absurd (Tr e) (by rw[z];exact Pz _)
  ·exact nb z
 have nf:∀b∈frs (aO qual scope s.heap.objs.size f cd::outer),∀o,s1.heap.get? b=some o->∀vs,o.data ≠ .fields vs:=λb hb o e=>by
  obtain⟨_,o',e',d⟩:=r6.mem hb;rw[e] at e';cases e';exact d
 refine⟨ex,C,H1,_,_,rfl,I.os,I.bare,⟨⟨λb o e n hb hx=>?_,λb o e n hb hx=>?_,I.base.free,λb o e hx=>?_,I.base.tups,I.base.frzs,I.base.tbls⟩,λa o e=>?_,f1,λb o e hb hw=>?_,λb hb=>ir b (r9 b hb)⟩,hE⟩
 ·exact f1.1 b o (lQ b o (I.base.keep b o e n hb hx) (iq b o e hb))
 ·obtain⟨sl,e1⟩:=I.base.slot b o e n hb hx;obtain⟨iF,e2⟩:=up b _ (hm.keeps _ _ e1) (nf b (r9 b hb) _ e1);exact⟨iF,e2⟩
 ·obtain⟨o1,e1⟩:=I.base.there b o e hx;by_cases hb:b∈frs (aO qual scope s.heap.objs.size f cd::outer)
  ·obtain⟨iF,e2⟩:=up b _ (hm.keeps _ _ e1) (nf b hb _ e1);exact⟨_,e2⟩
  ·exact⟨o1,f1.1 b o1 (lQ b o1 e1 hb)⟩
 ·refine(I.hok a o e).stay (λb u hb q=>?_) (λ_ q=>q) λ_ _ q=>q;have hn:H1 b≠none:=by
   rcases hb with z | z
   ·rw[z,e];simp
   ·rw[z];simp
  exact f1.1 b u (lQ b u q λz=>hn (ir b z))
 ·have:∃o1,s1.heap.get? b=some o1/\b∉frs (aO qual scope s.heap.objs.size f cd::outer):=by
   rcases hw with ⟨o',e'⟩ | hw
   ·obtain⟨o1,e1⟩:=I.base.there b o' e' (λz=>absurd (show b∈([]:List ae) from z) (by simp));exact⟨o1,e1,iq b o' e' hb⟩
   ·cases q:H1 b with
    | none=>exact absurd q hw
    | some u=>
     obtain⟨o1,e1⟩:=(I.hok b u q).there;exact⟨o1,e1,λz=>hw (ir b z)⟩
  obtain⟨o1,e1,nb⟩:=this;have e2:=lQ b o1 e1 nb;have e3:=f1.1 b o1 e2;rw[e] at e3;cases e3;exact e2
def pass1:Passes (CX1 P w) (Co (CX1 P w) P w K mg base N qual scope f cd A outer s H E) E:=by
 intro pins Z H1 s1 e s' I h;obtain⟨ex,C,H',B,a0,rfl,fC,jV,F,hE⟩:=h;show ai (ag P w) (A.deeper (aO qual scope s.heap.objs.size f cd)) (leaving (aO qual scope s.heap.objs.size f cd) (.ref ex)) _ _ s';have sub:∀b,b∈frs (aO qual scope s.heap.objs.size f cd::outer)->b=s.heap.objs.size\/b∈frs outer:=λb hb=>Ou.mp (I.stkSub b hb);have r9:∀b,b∈frs outer->b∈frs (aO qual scope s.heap.objs.size f cd::outer):=λb hb=>by
  unfold frs at hb ⊢;rw[Qb];split
  ·exact hb
  ·exact Ol _ hb
 have iq:∀b o,s.heap.get? b=some o->b∉frs outer->b∉frs (aO qual scope s.heap.objs.size f cd::outer):=λb o e nb hb=>by
  rcases sub b hb with z | z
  ·exact absurd (Tr e) (by rw[z];exact Pz _)
  ·exact nb z
 have F':Flown P w (aO qual scope s.heap.objs.size f cd::outer) H1 s1.heap H' ex C B a0 s'.heap:=F;refine wpAny_leaves_onW (A:=A.deeper (aO qual scope s.heap.objs.size f cd)) (L:=s.heap.objs.size) I.ok.frames rfl F'.fly λBA f1 up=>?_;obtain⟨un,hok,inB⟩:=F'.move f1.1 up;refine⟨ex,C,H',B,a0,rfl,fC.trans I.os,jV,⟨?_,hok,f1,λb o e hb hw=>?_,λb hb=>F'.frf b (r9 b hb)⟩,hE⟩
 ·have lj:Un (frs outer) [] H H1 s.heap s1.heap:=I.base;refine⟨λb o e n hb hx=>?_,λb o e n hb hx=>?_,λb o e n hx=>?_,λb o e hx=>?_,λb xs e=>un.tups b xs (lj.tups b xs e),λb ob u e=>un.frzs b ob u (lj.frzs b ob u e),λb ps e=>?_⟩
  ·exact un.keep b o (lj.keep b o e n hb hx) (lj.free b o e n hx) (iq b o e hb) hx
  ·obtain⟨sl,e1⟩:=lj.slot b o e n hb hx;obtain⟨iF,e2⟩:=un.slot b _ e1 (lj.free b o e n hx) (r9 b hb) hx;exact⟨iF,e2⟩
  ·obtain⟨o1,e1⟩:=lj.there b o e hx;exact un.free b o1 e1 (lj.free b o e n hx) hx
  ·obtain⟨o1,e1⟩:=lj.there b o e hx;exact un.there b o1 e1 hx
  ·obtain⟨m1,e1⟩:=lj.tbls b ps e;obtain⟨m2,e2⟩:=un.tbls b _ e1;exact⟨m1++m2,by rw[e2,Array.append_assoc]⟩
 ·refine inB b o e ?_ ?_
  ·rcases hw with ⟨o',e'⟩ | hw
   ·exact iq b o' e' hb
   ·intro z;exact hw (F'.frf b z)
  ·rcases hw with ⟨o',e'⟩ | hw
   ·obtain⟨o1,e1⟩:=(show Un (frs outer) [] H H1 s.heap s1.heap from I.base).there b o' e' (by simp);exact .inl ⟨o1,e1⟩
   ·exact .inr hw
end
abbrev bmV:List aa:=[.type "ValueError",.type "Exception",.type "BaseException",.type "object"]
def Xje{K}  {C}  (X:K.In h)(q:LY K C vk iO=true):
  ∃bm N nm q bs hdct sn sub ab col dd k0 k1 k2 k3 k5 mN,h.get? C=some (excClassObj nm q C N bs bm hdct sn sub ab col dd k0 k1 k2 k3 k5 iO)/\h.Ns N mN/\mN "__init__" = none/\OwnTail h vk bm:=by
 unfold LY at q;split at q
 ·rename_i dd cd sl ho;split at q
  ·rename_i C' bm k0 k1 k2 k3 n k5 hm hs;simp only[Oy,beq_iff_eq,S6] at q;obtain⟨⟨⟨⟨⟨rfl,rfl⟩,rA⟩,ht⟩,hok⟩,uj⟩:=q;obtain⟨nm,bs,mro,ns,qn,hd,sn,sub,ab,col,JD⟩:=cd;dsimp only at hm rA hok uj;subst hm rA;have j6:sl = #[k0,k1,k2,k3,some (.builtin n),k5]:=by
    obtain⟨l⟩:=sl;simp only at hs;rw[hs]
   subst j6;exact⟨bm,ns,nm,qn,bs,hd,sn,sub,ab,col,dd,k0,k1,k2,k3,k5,_,X _ _ ho,.of_isNs (PySem.W.isNs_of_in X hok),PySem.W.nsMap_none_of_in X hok uj,PySem.W.tail_of_in X ht⟩
  ·cases q
 ·cases q
def Xjf (C:ae) (E:XK) (t:TA):TS:=λ_ Z H=>t Z H λvs H1=>vs.length<=sizeLine/\E (.ref C) none H1
def Xbz  {C:ae} {E:XK}     (hc:LY X.K C bmV "ValueError.__new__" = true) (bv:X.calm=true) (hx:Leaves X E) (hg:Gl X x) (hm:X.mg x=some (.ref C))
  (ha:PA X (e::es) t) (gj:(x==("__debug__" : ak))=false:=by decide) (he:aA (e::es) X.env=(false,eval e X.env)::aA es X.env:=by rfl) (bL:(bx ca (aA es X.env)).any (·.1)=false:=by rfl):
  PS X (.Raise (some (.Call (.Name x np) (e::es) [] ca)) none pos) (Xjf C E t):=by
 intro pins s Z H D I h;obtain⟨tl,N,nm,q,bs,hdct,sn,sub,ab,col,dd,k0,k1,k2,k3,k5,mN,hC,hN,uj,T⟩:=Xje I.mod.kin hc;refine wpAny_Raise_call_subT (C:=C) (nm:=nm) (q:=q) (N:=N) (bs:=bs) (bm:=tl) (hdct:=hdct) (sn:=sn) (sub:=sub) (ab:=ab) (col:=col) (dd:=dd) (k0:=k0) (k1:=k1) (k2:=k2) (k3:=k3) (k5:=k5)
  PySem.F.excBase_ValueError (mN:=mN) (T.hasType PySem.F.excBase_ValueError.hasBase) (I.ok.hd bv) (by rw[he];show (false||(bx ca (aA es X.env)).any (·.1))=false;rw[bL];rfl) uj (Jc I hg hm ⟨rfl,?_⟩ gj)
 have hh:=thn (ha ca pins s Z H _ I h) (Q':=λvs s₂=>vs.length<=sizeLine/\(∀b o,X.base.get? b=some o->s₂.heap.get? b=some o)/\∀h' e,am.MadeExcOf s₂.heap h' e (.ref C) vs->X.xe (.ref e) {s₂ with heap:=h'})
  (λus s2 ⟨vs,H2,I2,r2,hl,hE⟩=>⟨by rw[<-r2.length];exact hl,I2.bk,λh' ex BB=>hx pins Z H2 s2 h' ex C us I2 BB hE⟩)
 rw[he] at hh ⊢;exact Calls.evalArgs_plain (aI hh (λvs s₂ h₂=>⟨rfl,h₂.1,h₂.2.1 _ _ hC,hN.keeps h₂.2.1,T.keeps h₂.2.1,h₂.2.2⟩) λ_ _ y=>y)
def Fun.ok1   {K}    {st}     (F:Fun K x qual st f fd) (S:FnScope N ps (defScope st)) (len:∀vs H Q E,sp vs H Q E->vs.length=ps.length)
  (eE:∀(cdv:aa) (A:av) (outer:List dt) (s:af) (H:Hp) (vs:List V) (Q:VK) (E:XK),Room k (A.deeper (aO qual (defScope st) s.heap.objs.size f cdv))->sp vs H Q E ->
   ∃t,PSs (Co (CX1 P w) P w K mg base N qual (defScope st) f cdv A outer s H E) (Cs st) t/\t {nx:=λ_ H'=>Q .non H',rt:=Q} (start N vs) H):FnOk P w K mg base (CX1 P w) (k+1) f fd ps sp:=by
 obtain⟨oc,od,kV,cX,pm,an,cdv,ct,iM,rfl,lk,gW⟩:=F.ex;exact Ln lk gW S len λA outer s H vs Q E hr gY=>eE cdv A outer s H vs Q E hr gY
abbrev Cx.re (X:Cx) (pn:List (ae×aK)) (A:av) (c:Bool) (E:Zb):Cx:={X with pn:=pn,A:=A,calm:=c,xe:=E}
section
variable {X:Cx}{pins pins' pn:List (ae×aK)}{Z:St}{H:Hp}{s:af}{A:av}{c:Bool}{E:Zb}
def Inv.as(I:Inv X pins Z H s)(hd:c=true->A.handled=none)(hf:A.frames=some X.stack)(hp:∀p∈pn++pins',p∈X.pn++pins):Inv (X.re pn A c E) pins' Z H s:=
 ⟨⟨I.ok.mod,I.ok.kind,I.ok.glob,I.ok.blt,I.ok.above,I.ok.inj,I.ok.has,I.ok.cab,hd,hf,I.ok.stk,I.ok.exf,I.ok.bs,I.ok.bsz,I.ok.noex,I.ok.exfs,I.ok.funs,I.ok.frf⟩,
  I.os,I.bare,I.base,I.loc,I.cell,I.free,I.freeC,λp lR=>I.pin p (hp p lR),I.hok,I.len⟩
def Inv.back(I:Inv (X.re pn A c E) pins' Z H s)(ok:X.Ok)(hp:∀p∈X.pn++pins,p∈pn++pins'):Inv X pins Z H s:=
 ⟨ok,I.os,I.bare,I.base,I.loc,I.cell,I.free,I.freeC,λp lR=>I.pin p (hp p lR),I.hok,I.len⟩
end
def excP (ex C:ae) (h:am):Prop:=∃o vs,h.get? ex=some o/\o.cls = .ref C/\o.data = .fields vs
def ExcO (ex C:ae):HO:=.ext (excP ex C)
def Cx.tryC (X:Cx) (pn:List (ae×aK)) (R:ae->St->Hp->Prop):Cx:=X.re pn X.A X.calm λe s1=>
 ∃Z Hc sc,Inv (X.re pn X.A X.calm λ_ _=>True) [] Z Hc sc/\CX1 X.prog X.w X.stack Hc sc (λc _ H1=>∃C,c = .ref C/\R C Z H1) e s1
def Cx.suite (X:Cx) (pn:List (ae×aK)) (ex:ae):Cx:=X.re pn (X.A.mark (some (.ref ex))) false λ_ _=>False
section
variable {X:Cx}{pn:List (ae×aK)}{R:ae->St->Hp->Prop}{k:Nat}{f:ae}{fd:au}{ps:Za}{sp:Sp}{fA:List V}{ds:List aa}{x:ak}{p pos:bI}{e:aE}{es:List aE}{t:TA}
def Xjg (sp:Sp) (fA:List V) (R:ae->St->Hp->Prop) (t:TA):TE:=fun Z H Q=>t Z H λvs H1=>sp (vs++fA) H1 Q λc _ H'=>∃C,c = .ref C/\R C Z H'
def Xjh(F:FnOk X.prog X.w X.K X.mg X.base (CX1 X.prog X.w) k f fd ps sp)(hr:Room k X.A)(hg:Gl X x)(hm:X.mg x=some (.ref f))(hk:LL X.K (.ref f)=true)(hb:Binds X.K fd ps ds)(hd:Vals fA ds)
  (ha:PA (X.tryC pn R) (e::es) t) (gj:(x==("__debug__" : ak))=false:=by decide) (he:aA (e::es) X.env=(false,eval e X.env)::aA es X.env:=by rfl) (bL:(bx pos (aA es X.env)).any (·.1)=false:=by rfl):
  PE (X.tryC pn R) (.Call (.Name x p) (e::es) [] pos) (Xjg sp fA R t):=by
 intro pins s Z H Q I h;refine bC (Jc I (show Gl (X.tryC pn R) x from hg) hm ?_ gj);refine MK (h₀:=X.base) I.ok.mod.kin hk (thn (ha pos pins s Z H _ I h) λus s1 ⟨vs,H1,I1,r,q⟩=>⟨I1.kIn,?_⟩) he bL;have r2:Vals (vs++fA) (us++ds):=r.append hd;have hl:(us++ds).length=ps.length:=by rw[<-r2.length];exact F.len _ _ _ _ q
 refine dS (bi (F.run X.A X.stack s1 H1 ⟨us,[]⟩ (us++ds) (vs++fA) Q _ hr I1.env0 (hb s1 us I1.kIn hl) r2 q) λr s' hq=>?_);cases r with
 | error e=>exact⟨Z,H1,s1,(Inv.back (X:=X.re pn X.A X.calm λ_ _=>True) (pins:=[]) I1 (I1.as (X:=X.tryC pn R) (pins':=[]) (pn:=pn) (A:=X.A) (c:=X.calm) (E:=λ_ _=>True) I1.ok.hd I1.ok.frames (λp hp=>Oq.mpr (.inl (show p∈pn from by simpa using hp)))).ok (λp hp=>Oq.mpr (.inl (show p∈pn from by simpa using hp)))),hq⟩
 | ok fl=>
  cases fl with
  | ret u=>exact I1.after hq
  | next=>exact False.elim hq
  | brk=>exact False.elim hq
  | cont=>exact False.elim hq
end
section
variable {X:Cx}{pos np jW:bI}{body:List aM}{b0:aM}{suite:List aM}{n x:ak}{i:Nat}{Cc:ae}{tb:(ae->St->Hp->Prop)->TS}{th:TS}
def tTry (K:LD) (i:Nat) (Cc:ae) (tb:(ae->St->Hp->Prop)->TS) (th:TS):TS:=λD Z H=>∃R:ae->St->Hp->Prop,tb R D Z H/\∀C Z1 H1,R C Z1 H1->LG K (.ref C) (.ref Cc)=some true /\
 ∀ex,H1 ex=none->th {nx:=fun Z2 H2=>D.nx (Z2.set i none) H2,rt:=D.rt,bk:=fun Z2 H2=>D.bk (Z2.set i none) H2,ct:=fun Z2 H2=>D.ct (Z2.set i none) H2} (Z1.set i (some (.ref ex))) (upd H1 ex (ExcO ex C))
end
section
variable {X:Cx}{pos p2:bI}{e:aE}{te:TE}
def tRev (K:LD) (te:TE):TE:=fun Z H Q=>te Z H λx H1=>∃a xs,x = .ref a/\SqL K H1 a xs/\∀p,H1 p=none->Q (.ref p) (upd H1 p (.lst xs.reverse))
def Xb0  (he:PE X e te):PE X (.Subscript e (.Slice none none (some (.UnaryOp .USub (.Constant (.int 1) k p3) p4)) p2) pos) (tRev X.K te):=by
 intro pins s Z H Q I h;refine dW (thn (he pins s Z H _ I h) λv s1 ⟨x,H1,I1,r1,q1⟩=>?_);have jX:PE X (.UnaryOp .USub (.Constant (.int 1) k p3) p4) (tUn (rU λi=>.int (-i)) (tC (.int 1))):=Xai Xan Ai;refine jO ?_;rw[dP];refine Tf (Tf ?_);rw[ij];refine thn (jX pins s1 Z H1 (λy H2=>y = .int (-1)/\H2=H1) I1 ⟨1,rfl,rfl,rfl⟩) λu s2 ⟨y,H2,I2,r2,ey,eH⟩=>?_;subst ey eH;obtain⟨t,rfl⟩:=r2;obtain⟨a,xs,ex,hx,q⟩:=q1;subst ex;cases r1;obtain⟨a7,r,ht,hz⟩:=I2.list hx;have I4:Inv X pins Z H2 {s2 with heap:=s2.heap.push {cls:=.type "slice",data:=.fields #[.none,.none,.int (-1) t]} }:=I2.kept (t':=s2.toks) λb ob q=>Tt _ q;obtain⟨vm,r4,ja,qh⟩:=I4.list hx;have aN:=r4.length;refine jP (ops:=[.ref a,.ref s2.heap.objs.size]) ja.isList.typeIs eG.lookup (im ja.isList (am.IsSliceOf.new ..) .none .none (.int (-1) t) (by simp) ?_ (by rw[Oi]<;>lia)) (by with_unfolding_all rfl);rw[PySem.W.krv_pick];refine⟨.ref _,_,I4.laid (t':=s2.toks) (o:=.lst xs.reverse) (λb ob q=>Tt _ q) (Og _) ?_,rfl,q _ (I4.hok.fresh (Og _))⟩;exact⟨by rw[Rz];exact qh,_,0,Vals.reverse r4,am.get?_push_size _ rfl⟩
def B4 (xs ys:List V):Bool:=(xs.length==ys.length)&&(List.range xs.length).all λj=>eqV (xs.getD j .non) (ys.getD j .non)
def Hl:∀(xs ys:Za),B4 (xs.map V.str) (ys.map V.str)=decide (xs=ys):=by
 intro xs ys;unfold B4;rw[Od,Od];by_cases e:xs=ys
 ·subst e;simp only[beq_self_eq_true,P8,decide_true];rw[O8];intro j hj;have fV:j<xs.length:=Ps.mp hj;simp[List.getD,fV,eqV]
 ·rw[Tn e];by_cases hl:xs.length=ys.length
  ·cases hb:((xs.length==ys.length)&&(List.range xs.length).all λj=>eqV ((xs.map V.str).getD j .non) ((ys.map V.str).getD j .non)) with
   | false=>rfl
   | true=>
    exfalso;refine e (Q8 hl λj h1 h2=>?_);rw[Oy,O8] at hb;have q:=hb.2 j (Ps.mpr h1);simp[List.getD,h1,h2,eqV] at q;exact q
  ·have:(xs.length==ys.length)=false:=by simpa using hl
   rw[this,P6]
def Xb1 (K:LD) (g:Bool->Bool):R2:=λx y H Q=>∃a b xs ys,x = .ref a/\y = .ref b/\SqL K H a xs/\SqL K H b ys/\(∀v∈xs,Cq v=true)/\(∀v∈ys,Cq v=true)/\Q (.bl (g (B4 xs ys))) H
def Xb2    (rx:Vals xs us) (ry:Vals ys vs) (fx:∀v∈xs,Cq v=true) (fy:∀v∈ys,Cq v=true) (j) (h1:j<us.toArray.size) (h2:j<vs.toArray.size):
  SeqAt.EqAt A s us.toArray[j] vs.toArray[j] (eqV (xs.getD j .non) (ys.getD j .non)):=by
 have l1:=rx.length;have l2:=ry.length;rw[Oi] at h1 h2;have g1:xs[j]? = some (xs[j]'(by lia)):=Oe (by lia);have g2:ys[j]? = some (ys[j]'(by lia)):=Oe (by lia);obtain⟨u,hu,ru⟩:=rx.get g1;obtain⟨v,hv,rv⟩:=ry.get g2;have e1:us.toArray[j]=u:=by
  rw[List.getElem_toArray];rw[Oe h1] at hu;exact Ox hu
 have e2:vs.toArray[j]=v:=by
  rw[List.getElem_toArray];rw[Oe h2] at hv;exact Ox hv
 rw[e1,e2];have d1:xs.getD j .non=xs[j]'(by lia):=by simp[List.getD,g1]
 have d2:ys.getD j .non=ys[j]'(by lia):=by simp[List.getD,g2]
 rw[d1,d2];exact Xbb ru rv (fx _ (Ph _)) (fy _ (Ph _))
def Xb3(hu:X.A.units<bu):OpR X (aF .Eq) (Xb1 X.K id):=by
 intro pins s Z H x y v u Q I rx ry h;obtain⟨a,b,xs,ys,rfl,rfl,hx,hy,fx,fy,q⟩:=h;cases rx;cases ry;obtain⟨us,r1,p1,z1⟩:=I.list hx;obtain⟨vs,r2,p2,z2⟩:=I.list hy;have l1:=r1.length;have l2:=r2.length;by_cases hl:xs.length=ys.length
 ·refine SeqAt.eq_listAt (e:=λj=>eqV (xs.getD j .non) (ys.getD j .non)) p1.isList p2.isList (by rw[Oi,Oi];lia) hu (λj h1 h2=>Xb2 r1 r2 fx fy j h1 h2) ?_;refine⟨.bl (B4 xs ys),H,I,?_,q⟩;show aa.bool _=aa.bool (B4 xs ys);unfold B4;rw[Oi,<-l1,hl,beq_self_eq_true,P8]
 ·refine SeqAt.eq_list_lengthsAt p1.isList p2.isList (by rw[Oi,Oi];simpa using (by lia:us.length≠vs.length)) hu ?_;refine⟨.bl (B4 xs ys),H,I,?_,q⟩;show aa.bool _=aa.bool (B4 xs ys);unfold B4;have:(xs.length==ys.length)=false:=by simpa using hl
  rw[this,P6]
def L4(hu:X.A.units<bu):OpR X (aF .NotEq) (Xb1 X.K not):=by
 intro pins s Z H x y v u Q I rx ry h;obtain⟨a,b,xs,ys,rfl,rfl,hx,hy,fx,fy,q⟩:=h;cases rx;cases ry;obtain⟨us,r1,p1,z1⟩:=I.list hx;obtain⟨vs,r2,p2,z2⟩:=I.list hy;have l1:=r1.length;have l2:=r2.length;by_cases hl:xs.length=ys.length
 ·refine SeqAt.RcNeAt.lists (e:=λj=>eqV (xs.getD j .non) (ys.getD j .non)) p1.isList p2.isList (by rw[Oi,Oi];lia) hu (λj h1 h2=>Xb2 r1 r2 fx fy j h1 h2) _ _ _ _ ?_;refine⟨.bl (!B4 xs ys),H,I,?_,q⟩;show aa.bool _=aa.bool (!B4 xs ys);unfold B4;rw[Oi,<-l1,hl,beq_self_eq_true,P8]
 ·refine SeqAt.RcNeAt.lists_lengths p1.isList p2.isList (by rw[Oi,Oi];simpa using (by lia:us.length≠vs.length)) hu _ _ _ _ ?_;refine⟨.bl (!B4 xs ys),H,I,?_,q⟩;show aa.bool _=aa.bool (!B4 xs ys);unfold B4;have:(xs.length==ys.length)=false:=by simpa using hl
  rw[this,P6,Bool.not_false]
def Xji (K:LD) (n:Nat) (t:TGs):TG:=λv Z H Q=>∃a xs,v = .ref a/\SqL K H a xs/\xs.length=n/\t xs Z H Q
def Xjj    (hc:X.calm=true) (h:PGs X es t)
  (hn:(bB es X.env).length=n:=by rfl) (bD:(bB es X.env).findIdx? (·.1)=none:=by rfl):PG X (.Tuple es k pos) (Xji X.K n t):=by
 intro pins s Z H v u Q I r hw;obtain⟨a,xs,e1,hq,hl,hw⟩:=hw;subst e1;cases r;obtain⟨a7,rv,ht,hz⟩:=I.list hq;rw[assign_Tuple];refine Te (bd ?_);unfold unpack;have aN:(bB es X.env).length=a7.toArray.size:=by rw[hn,<-hl,Oi];exact rv.length
 rw[aN,bD];refine Te (az (PySem.W.kun_itemsOf (I.ok.hd hc) ht.isList λh' hx=>?_));have I1:Inv X pins Z H {s with heap:=h'}:=I.kept (t':=s.toks) λb o e=>hx b o (Oo (Tr e)) e;exact h pins _ Z H xs _ Q I1 (by simpa using rv) hw
def repS (z:ak) (n:Nat):ak:=⟨(List.replicate n z.cps).foldl (· ++ ·) #[]⟩
def Xjk(z):repS z 1=z:=by
 obtain⟨c⟩:=z;show (⟨(#[]:Array Nat)++c⟩:ak)=⟨c⟩;rw[Array.empty_append]
theorem Xb4(z):∀(n:Nat) (a:Array Nat),((List.replicate n z).foldl (· ++ ·) a).size=a.size+n * z.size
 | 0,a=>by simp
 | n+1,a=>by
  rw[Qp,Rq,Xb4 z n,Array.size_append,Nat.succ_mul]
  lia
def L5(z)(n):(repS z n).length=n * z.length:=by
 have e:=Xb4 z.cps n #[];show ((List.replicate n z.cps).foldl (· ++ ·) #[]).size=n * z.cps.size;simpa using e
def Xjl(h:z.length=0)(n):repS z n=z:=by
 have e:=L5 z n;rw[h,Nat.mul_zero] at e;generalize repS z n=y at e;obtain⟨c⟩:=z;obtain⟨d⟩:=y;have h':c.size=0:=h;have e':d.size=0:=e;rw[Array.size_eq_zero_iff] at h' e';rw[h',e']
def Xjm:OpR X (bh .Mult) (λx y H Q=>∃z n,x = .str z/\y = .int n/\0<=n/\n<=1000/\z.length<=1000/\Q (.str (repS z n.toNat)) H):=by
 intro pins s Z H x y v u Q I rx ry h;obtain⟨z,n,rfl,rfl,h0,h1,hz,q⟩:=h;obtain⟨t,rfl⟩:=rx;obtain⟨t',rfl⟩:=ry;have hle:z.length * n.toNat<=1000 * 1000:=Sy hz (by lia);refine PySem.P.mul_str ?_ (λhn y7=>?_) (λhn y7=>?_) ?_
 ·have h2:¬n < -(2 ^ 63:Int):=by lia
  have h3:¬n ≥ 2 ^ 63:=by lia
  rw[Tn h2,Tn h3];rfl
 ·have h4:(1000:Int)<=(2 ^ 63 - 1) / n:=by
   refine(Int.le_ediv_iff_mul_le (by lia)).mpr ?_;have:(1000:Int) * n<=1000 * 1000:=by lia
   lia
  lia
 ·show aj.Str.tooLong _=false;unfold aj.Str.tooLong
  first
   | (refine Tn ?_;have:=hle;rw[Ti];lia)
   | (simp;lia)
 ·by_cases hn:n<1
  ·rw[Tk hn];have:n=0:=by lia
   subst this;exact⟨by decide,.str ak.empty,H,I.tok _,⟨_,rfl⟩,q⟩
  ·rw[Tj hn];by_cases hc:(n==1||z.length==0)=true
   ·rw[Tk hc];have e:repS z n.toNat=z:=by
     rcases Sl.mp hc with e | e
     ·have e':n=1:=by simpa using e
      subst e';exact Xjk z
     ·exact Xjl (by simpa using e) _
    rw[e] at q;exact⟨.str z,H,I,⟨_,rfl⟩,q⟩
   ·rw[Tj hc];refine⟨?_,.str (repS z n.toNat),H,I.tok _,⟨_,rfl⟩,q⟩;show (repS z n.toNat).length<=sizeLine;rw[L5,Nat.mul_comm,Ti]
    lia
def Xb5:X.calm=true->Bv X (.builtin "all") (λxs H Q=>∃(a:ae) (bs:List Bool),xs=[.ref a]/\H a=some (.lst (bs.map V.bl))/\Q (.bl (bs.all id)) H):=by
 intro hc pins s Z H xs us Q I r h;obtain⟨a,bs,rfl,ha,q⟩:=h;obtain⟨u,rfl,ru⟩:=Bw r;cases ru;obtain⟨a7,rv,p,hz⟩:=I.list (SqL.of ha);have hl:=rv.length;rw[Od] at hl;refine call_all_walk (cD p.isList ?_);have aZ:a≠s.heap.objs.size:=by
  obtain⟨o,ho,_⟩:=p.isList;exact Oo (Tr ho)
 refine⟨s.heap.objs.size,_,_,_,_,_,λj=>bs.getD j false,rfl,mU.list (A:=X.A.in1) (show X.A.in1.handled=none from I.ok.hd hc) s.heap.objs.size a aZ a7.toArray,⟨⟨_,am.get?_push_size _ rfl,rfl,rfl⟩,p.isList.push _⟩,λi v s' Q' E' hP hQ=>?_,λh' tk k=>?_⟩
 ·have hv:a7[i]? = some v:=by simpa using hP
  have hi:i<a7.length:=(Oz.mp hv).1;have g:(bs.map V.bl)[i]? = some (.bl (bs[i]'(by lia))):=by
   rw[Ov,Oe (by lia)];rfl
  obtain⟨u,hu,ru⟩:=rv.get g;rw[hv] at hu;cases hu;cases ru;have e:bs.getD i false=bs[i]'(by lia):=by simp[List.getD,(by lia:i<bs.length)]
  have rB:Q' (bs.getD i false) s':=hQ;rw[e] at rB;exact aL rB
 ·refine⟨.bl (bs.all id),H,I.kept (t':=tk) λb o e=>k b o (λz=>?_) (Tt _ e),?_,q⟩
  ·have z':b=s.heap.objs.size:=by simpa using z
   exact absurd (Tr e) (by rw[z'];exact Pz _)
  ·show aa.bool _=aa.bool _;congr 1;rw[Oi,<-hl];rw[Qj,O8,O8];constructor
   ·intro hx b hb;obtain⟨j,hj,rfl⟩:=P0.mp hb;have:=hx j (Ps.mpr hj);simpa [List.getD,hj] using this
   ·intro hx j hj;have fV:=Ps.mp hj;have:=hx _ (Ph fV);simpa [List.getD,fV] using this
end
def Itd (d:ae) (o:aK) (kvs:List (Key×V)):It:=
 ⟨λi H=>H d=some (.frz o (.dK kvs))/\i<kvs.length,λi H x H'=>H'=H/\∃p,kvs[i]? = some p/\x=kV p.1,λi H=>H d=some (.frz o (.dK kvs))/\kvs.length<=i⟩
def Xjn    (h:(Be P w).is k u=true):Aj (kV k) u:=by
 rcases Du (show D9 k u=true from h) with ⟨i,t,rfl,rfl⟩ | ⟨x,t,rfl,rfl⟩
 ·exact⟨t,rfl⟩
 ·exact⟨t,rfl⟩
theorem Xb6:∀{kvs:List (Key×V)} {vs:List (Key×aa)} {i:Nat} {p:Key×V},KV kvs vs->kvs[i]? = some p->∃u,vs[i]? = some (p.1,u)
 | _,_,_,_,.nil,e=>by simp at e
 | _,_,0,p,.cons (b:=b) r _,e=>by
  simp at e;subst e;obtain⟨k,u⟩:=b;obtain⟨r1,r2⟩:=r;exact⟨u,by simp only[List.getElem?_cons_zero,Option.some.injEq,Prod.mk.injEq];exact⟨r1.symm,trivial⟩⟩
 | _,_,i+1,p,.cons _ t,e=>by
  obtain⟨u,h⟩:=Xb6 (i:=i) t (by simpa using e);exact⟨u,by simpa using h⟩
def L6{P:ao}{w:aw}{K:LD}{tg:aE}(d it:ae)(o:aK)(es:Array fj)(ep:Nat)(hd:o.data = .dict es ep)(kvs:List (Key×V))(fo:d≠it):
  Turn P w K tg (Itd d o kvs) [it] it (λi h=>h.IsKeyIter it d i kvs.length ep) where
 mem:=by simp
 obj:=λi h st b hb=>by
  have e:b=it:=by simpa using hb
  subst e;obtain⟨o,e,c,d⟩:=st;exact⟨o,e,λv z=>by rw[d] at z;cases z⟩
 keep:=λi h h' st k=>by
  obtain⟨o,e,r⟩:=st;exact⟨o,k it (by simp) o e,r⟩
 item:=by
  intro X hP hw hK hc i pins s Z H E I hf st hg;subst hP hw hK;obtain⟨hH,hi⟩:=hg;obtain⟨ho,hz,hm,vs,rv,o',cA,lf,fh,hex,gU,r'⟩:=I.hok d _ hH;rw[ho] at fh;cases fh;rw[hd] at gU;cases gU;have aN:kvs.length=vs.length:=Paired.length rv;obtain⟨f0,f1,f2,f3,f4,f5⟩:=hf it (by simp);have hp:kvs[i]? = some (kvs[i]'hi):=Oe hi;obtain⟨u,hu⟩:=Xb6 rv hp;rw[aN] at st;refine wpAny_pyNext_dict_item (knd:=Be X.prog X.w) st ⟨o,es,ho,hex,hd,r'⟩ hu λdm h' hk a8 sb=>?_;have I1:Inv X pins Z H {s with heap:=h'}:=I.turned (t':=s.toks) (λb o hb e=>(sb.2 b hb).trans e) f0 f1 f3 f4 f5;obtain⟨o2,e2,c2,d2⟩:=id a8;refine⟨dm,rfl,Jg (s:={s with heap:=h'}) e2 c2 d2 (by decide) ⟨_,H,I1,Xjn hk,⟨rfl,_,hp,rfl⟩,?_,λb hb=>(hf b hb).1⟩⟩;rw[aN];exact a8
 done:=by
  intro X hP hw hK hc i pins s Z H E I hf st hg;subst hP hw hK;obtain⟨hH,hi⟩:=hg;obtain⟨ho,hz,hm,vs,rv,o',cA,lf,fh,hex,gU,r'⟩:=I.hok d _ hH;rw[ho] at fh;cases fh;rw[hd] at gU;cases gU;have aN:kvs.length=vs.length:=Paired.length rv;obtain⟨f0,f1,f2,f3,f4,f5⟩:=hf it (by simp);rw[aN] at st;exact wpAny_pyNext_dict_end (knd:=Be X.prog X.w) (I.ok.hd hc) st ⟨o,es,ho,hex,hd,r'⟩ (Rr (by lia)) λh' eb=>⟨rfl,I.turned (t':=s.toks) (λb o hb e=>eb b o hb e) f0 f1 f3 f4 f5⟩
 self:=λA i s Q E st h=>by
  refine eM st.typeIs PySem.F.slot_dict_keyiterator_iter (aP PySem.F.slot_dict_keyiterator_iter st.typeIs PySem.F.entry_dict_keyiterator_iter ?_ (PySem.F.args_dict_keyiterator_iter_1 _));show ai _ _ (ret (.ref it)) _ _ s;exact Tf ⟨_,rfl, "dict_keyiterator",_,st.typeIs,PySem.F.slot_dict_keyiterator_next.lookup,h⟩
section
variable {X:Cx}{tg:aE}
def Inv.freeze       (I:Inv X pins Z H s) (hH:H d=some (.dK kvs)) (ho:s.heap.get? d=some o):Inv X pins Z (upd H d (.frz o (.dK kvs))) s:=by
 have ne:∀{b:ae} {u:HO},H b=some u->(HO.dK kvs≠u)->b≠d:=λ{b u} e n=>La e hH (λz=>n z.symm);refine⟨I.ok,I.os,I.bare,⟨I.base.keep,I.base.slot,λb ob e n hx=>?_,I.base.there,λb xs e=>?_,λb ob u e=>?_,λb ps e=>?_⟩,I.loc,I.cell,?_,λx c e=>?_,λp lR=>?_,λb ob e=>?_,I.len⟩
 ·have q:=I.base.free b ob e n hx;rw[Ae (λz=>by rw[z,hH] at q;cases q)];exact q
 ·have q:=I.base.tups b xs e;rw[Ae (ne q (by simp))];exact q
 ·have q:=I.base.frzs b ob u e;rw[Ae (ne q (by simp))];exact q
 ·obtain⟨bZ,q⟩:=I.base.tbls b ps e;exact⟨bZ,by rw[Ae (ne q (by simp))];exact q⟩
 ·rw[Ae (λz=>by have:=I.free;rw[z,hH] at this;cases this)];exact I.free
 ·have q:=I.freeC x c e;rw[Ae (λz=>by rw[z,hH] at q;cases q)];exact q
 ·obtain⟨e,n,r⟩:=I.pin p lR;exact⟨e,by rw[Ae (λz=>by rw[z,hH] at n;cases n)];exact n,r⟩
 ·by_cases hb:b=d
  ·subst hb;rw[Ab] at e;cases e;exact⟨ho,(I.hok b _ hH).stay (λ_ _ _ q=>q) (λc q=>by rw[Ae (ne q (by simp))];exact q) λc xs q=>by rw[Ae (ne q (by simp))];exact q⟩
  ·rw[Ae hb] at e;exact(I.hok b ob e).stay (λ_ _ _ q=>q) (λc q=>by rw[Ae (ne q (by simp))];exact q) λc xs q=>by rw[Ae (ne q (by simp))];exact q
def Xjo (tl:TE):TI:=fun Z H R=>tl Z H λx H1=>∃d kvs,x = .ref d/\H1 d=some (.dK kvs)/\∀o,R (Itd d o kvs) (upd H1 d (.frz o (.dK kvs)))
def Xjp  (hl:PE X l tl):PI X tg l (Xjo tl):=by
 intro pins s Z H R I h;refine thn (hl pins s Z H _ I h) λv s1 ⟨x,H1,I1,r1,q1⟩=>?_;obtain⟨d,kvs,e,hH,q⟩:=q1;subst e;cases r1;obtain⟨hz,hm,vs,rv,o,es,ep,ho,hex,hd,r⟩:=I1.hok d _ hH;have aN:kvs.length=vs.length:=Paired.length rv;refine eO (knd:=Be X.prog X.w) hm ⟨o,es,ho,hex,hd,r⟩ ?_;have I2:=I1.freeze hH ho;refine⟨s1.heap.objs.size,[s1.heap.objs.size],_,_,_,rfl,I2.kept (t':=s1.toks) λb o e=>Tt _ e,L6 d _ o es ep hd kvs (Oo (Tr ho)),⟨_,am.get?_push_size _ rfl,rfl,by rw[aN];rfl⟩,λb hb=>?_,q o⟩;have e:b=s1.heap.objs.size:=by simpa using hb
 subst e;exact I2.fpOk (Og _) (I2.hok.fresh (Og _))
end
def PJ (X:Cx) (es:List aE) (t:St->Hp->(Hp->Prop)->Prop):Prop:=
 ∀(out:ak) (pins:List (ae×aK)) (s:af) (Z:St) (H:Hp) (Q:Hp->Prop),Inv X pins Z H s->t Z H Q->out.length+5000 * es.length<=sizeLine ->
  ai (ag X.prog X.w) X.A (joinParts out (c7 es X.env)) (λu s'=>∃z tk H',u = .str z tk/\Inv X pins Z H' s'/\Q H') X.xe s
def Xjq:St->Hp->(Hp->Prop)->Prop:=λ_ H Q=>Q H
def Xjr (t:St->Hp->(Hp->Prop)->Prop):St->Hp->(Hp->Prop)->Prop:=t
section
variable {X:Cx}{es:List aE}{t:St->Hp->(Hp->Prop)->Prop}{e:aE}{te:TE}{pos:bI}
def Xb7:PJ X [] Xjq:=λout pins s Z H Q I h hz=>joinParts_nil ⟨out,_,H,rfl,I.tok _,h⟩ (by simpa using hz)
def Fl(a b:ak):(a++b).length=a.length+b.length:=iu a b
def Jr   (hz:z.length<=5000) (h:PJ X es t) (he:c7 (.Constant (.str z) k p::es) X.env=eval (.Constant (.str z) k p) X.env::c7 es X.env:=by rfl):PJ X (.Constant (.str z) k p::es) (Xjr t):=by
 intro out pins s Z H Q I hw hl;rw[he];rw[O2] at hl;refine gt (Calls.Constant_str ⟨by rw[Fl];lia,?_⟩);exact h (out++z) pins _ Z H Q (I.tok _) hw (by rw[Fl];lia)
def Xjs (t:St->Hp->(Hp->Prop)->Prop):TE:=fun Z H Q=>t Z H λH1=>∀z,Q (.str z) H1
def Xb8(h:PJ X (a::b::es) t)(hz:5000 * (a::b::es).length<=sizeLine:=by decide)(he:c7 (a::b::es) X.env=eval a X.env::eval b X.env::c7 es X.env:=by rfl):PE X (.JoinedStr (a::b::es) pos) (Xjs t):=by
 intro pins s Z H Q I hw;refine JoinedStr_many ?_;rw[<-he];refine thn (h ak.empty pins s Z H _ I hw (by rw[show ak.empty.length=0 from rfl];lia)) λu s' ⟨z,tk,H',e,I',q⟩=>?_;subst e;exact⟨.str z,H',I',⟨tk,rfl⟩,q z⟩
end
end L2
namespace L2
open PySem.Calls Builtin Builtin.ObjectAttr Builtin.Getset_descriptor
structure ExcF (K:LD) (C:ae):Prop where
 ga:LH K (.ref C) "__getattribute__" = some (some (.builtin "BaseException.__getattribute__"))
 gn:LH K (.ref C) "__getattr__" = some none
 cl:LH K (.ref C) "__class__" = some (some (.builtin "object.__class__"))
 sb:LQ K (.ref C) (.type "BaseException")=some true
 so:LQ K (.ref C) (.type "object")=some true
 ic:(ML K C).isSome=true
section
variable {prog:ao}{w:aw}{A:av}{E:Zb}{K:LD}{C a:ae}{h:am}{g:Array rC}{d:rD}{t:Nat}{os:vn}
end
end L2
namespace L2
def L7:V->Option aa
 | .ty n=>some (.type n)
 | .ref a=>some (.ref a)
 | _=>none
def Xjt  (r:Aj c u) (h:L7 c=some v):u=v:=by
 cases c with
 | ty n=>cases r;exact Ox h
 | ref a=>cases r;exact Ox h
 | _=>cases h
section
variable {X:Cx}
def Xb9:Bv X (.builtin "isinstance") (λxs H Q=>∃x c t cv b,xs=[x,c]/\TyOf X.K H x t/\L7 c=some cv/\LI X.K t cv=some b/\Q (.bl b) H):=by
 intro pins s Z H xs us Q I r h;obtain⟨x,c,t,cv,b,rfl,ty,hc,e,q⟩:=h;obtain⟨u,v,rfl,ru,rv⟩:=r.two;have:=Xjt rv hc;subst this;exact Xh2 I ru ty e λtk=>⟨.bl b,H,I.tok _,rfl,q⟩
end
def wN (n:Nat) (Pv:Nat->St->Hp->Prop):Nat->Nat->St->Hp->Prop:=λi m Z H=>m=n - i/\i<=n/\Pv i Z H
def wput       (hi:i<n) (hD:H D=some (.lst ys)) (hl:ys.length<sizeLine) (p:Pv (i+1) Z (upd H D (.lst (ys++[y])))):
  ∃ys,H D=some (.lst ys)/\ys.length<sizeLine/\∃m',m'<n - i/\wN n Pv (i+1) m' Z (upd H D (.lst (ys++[y]))):=⟨ys,hD,hl,n - (i+1),by lia,rfl,hi,p⟩
def wskip    (hi:i<n) (p:Pv (i+1) Z H):∃m',m'<n - i/\wN n Pv (i+1) m' Z H:=⟨n - (i+1),by lia,rfl,hi,p⟩
def F8        (n:Nat) (vs:Nat->V) (Pv:ae->Nat->St->Hp->Prop)
  (h0:∀D,H1 D=none->Pv D 0 (Bs cap Z) (upd H1 D (.lst [])))
  (gu:∀D i Z2 H2,H1 D=none->i<n->Pv D i Z2 H2->J.go i H2/\∀x H3,J.yld i H2 x H3->H3=H2/\x=vs i)
  (bD:∀D Z2 H2,H1 D=none->Pv D n Z2 H2->J.stop n H2)
  (step:∀D i Z1 H2,H1 D=none->i<n->Pv D i Z1 H2->g (vs i) Z1 H2 fun Z2 H4=>tt Z2 H4 λb H5=>
   if b=true then te Z2 H5 λy H6=>∃ys,H6 D=some (.lst ys)/\ys.length<sizeLine/\∃m',m'<n - i/\wN n (Pv D) (i+1) m' Z2 (upd H6 D (.lst (ys++[y])))
   else ∃m',m'<n - i/\wN n (Pv D) (i+1) m' Z2 H5)
  (hd:∀D Z2 H2,H1 D=none->Pv D n Z2 H2->F D H2):Ee cap g tt te J Z H1 F:=by
 intro D hD;refine⟨wN n (Pv D),⟨n,by simp,Pf _,h0 D hD⟩,?_⟩;rintro i m Z1 H2 ⟨rfl,hi,p⟩;by_cases aZ:i<n
 ·obtain⟨h1,h2⟩:=gu D i Z1 H2 hD aZ p;refine .inr ⟨h1,λx H3 y=>?_⟩;obtain⟨e1,e2⟩:=h2 x H3 y;subst e1 e2;exact step D i Z1 _ hD aZ p
 ·have e:i=n:=by lia
  subst e;exact .inl ⟨bD D Z1 H2 hD p,hd D Z1 H2 hD p⟩
def Ef{K}    (h:SqL K H a xs)(hi:i<xs.length):(Itl K a).go i H/\∀x H3,(Itl K a).yld i H x H3->H3=H/\x=xs.getD i .non:=
 ⟨⟨xs,xs[i],h,by simp[hi]⟩,λx H3 ⟨e,y⟩=>⟨e,by have:=y xs h;simp[List.getD,this]⟩⟩
def Eg{K}   (h:SqL K H a xs):(Itl K a).stop xs.length H:=⟨xs,h,Og _⟩
def Hm{K}    (h:SqT K H a xs)(hi:i<xs.length):(Itt K a).go i H/\∀x H3,(Itt K a).yld i H x H3->H3=H/\x=xs.getD i .non:=
 ⟨⟨xs,xs[i],h,by simp[hi]⟩,λx H3 ⟨e,y⟩=>⟨e,by have:=y xs h;simp[List.getD,this]⟩⟩
def Hn{K}   (h:SqT K H a xs):(Itt K a).stop xs.length H:=⟨xs,h,Og _⟩
def Ho   {kvs}  (h:H d=some (.frz o (.dK kvs))) (hi:i<kvs.length):(Itd d o kvs).go i H/\∀x H3,(Itd d o kvs).yld i H x H3->H3=H/\x=(kvs.map λp=>kV p.1).getD i .non:=
 ⟨⟨h,hi⟩,λx H3 ⟨e,p,hp,y⟩=>⟨e,by rw[y];simp[List.getD,hp]⟩⟩
def Hq   {kvs} (h:H d=some (.frz o (.dK kvs))):(Itd d o kvs).stop kvs.length H:=⟨h,Og _⟩
end L2
namespace L2
open PySem.Calls
def Xju(t:ah)(n):(t.orStandIn n).led=t.led:=by
 unfold ah.orStandIn;split
 ·rfl
 ·rfl
def Xjv(t)(es)(k)(x):(BC t es k x).2.1.led=t.led:=by
 unfold BC;split
 ·exact Xju _ _
 ·rfl
def Xjw  {led plain}   (h:ah.laid mask finger moves led plain hs=some (t,o)):t.led=led/\t.plain=plain:=by
 unfold ah.laid at h;cases q:ah.layClean mask hs with
 | none=>rw[q] at h;cases h
 | some ow=>
  rw[q] at h;cases h;exact⟨rfl,rfl⟩
def Xjx(t)(es)(n)(hp:t.plain=false):(d0 t es n).2.1.led=t.led/\(d0 t es n).2.1.plain=false:=by
 unfold d0;split
 ·rename_i t' o e;obtain⟨e1,e2⟩:=Xjw e;dsimp only;split
  ·exact⟨e1,e2.trans hp⟩
  ·exact⟨rfl,rfl⟩
 ·exact⟨rfl,rfl⟩
def A6 (w:aw):Bool:=w.params.followText "set-order"
def SSet (P:ao) (w:aw) (h:am) (a:ae) (ks:Za):Prop:=
 ∃o es ep t ls,h.get? a=some o/\o.ExactSet/\o.data = .set es ep t/\eP (PySem.strKind P w) es.toList/\aC (es.toList.map (·.2)) ls/\ls.Perm ks/\es.size<aU/\t.fits es.size=true/\t.led = !A6 w/\(t.plain=true->es.size=0)
def Js{l1 l2:List (Int×aa)}(p:l1.Perm l2)(h:aC (l2.map (·.2)) ls):∃qi,aC (l1.map (·.2)) qi/\qi.Perm ls:=by
 refine⟨(l1.map (·.2)).map mX,y8 _ (λv hv=>?_),?_⟩
 ·exact h.all v ((p.map (·.2)).mem_iff.mp hv)
 ·rw[<-h.strs];exact(p.map (·.2)).map mX
def Xjy    (h:aC vs ls):aC (vs++[.str x t]) (ls++[x]):=by
 induction h with
 | nil=>exact .cons x t .nil
 | cons y u _ ih=>exact .cons y u ih
section
variable {P:ao}{w:aw}{A:av}{E:Zb}{s:af}{a:ae}{ks:Za}
def SSet.stay(S:SSet P w h a ks)(k:∀o,h.get? a=some o->h'.get? a=some o):SSet P w h' a ks:=by
 obtain⟨o,es,ep,t,ls,ho,r⟩:=S;exact⟨o,es,ep,t,ls,k o ho,r⟩
def Xca{vs:List (Int×aa)}  (h:aC (vs.map (·.2)) ls):x∈ls ↔ ∃e∈vs,(PySem.strKind P w).is x e.2=true:=by
 rw[<-h.strs];constructor
 ·intro hx;obtain⟨v,hv,rfl⟩:=Pa.mp hx;obtain⟨e,he,rfl⟩:=Pa.mp hv;obtain⟨y,t,q⟩:=h.all e.2 hv;refine⟨e,he,?_⟩;rw[q];exact gx P w y t
 ·rintro ⟨e,he,q⟩;obtain⟨t,e2⟩:=aa.isStrOf_shape q;exact Pa.mpr ⟨e.2,Pa.mpr ⟨e,he,rfl⟩,by rw[e2];rfl⟩
def Xcb     {h:am} (ho:h.get? a=some o) (hex:o.ExactSet) (hd:o.data = .set es ep t)   (er:eP (PySem.strKind P w) cA.toList) (hs:aC (cA.toList.map (·.2)) ls) (hp:ls.Perm ks) (hb:cA.size<aU) (hf:t'.fits cA.size=true) (hl:t'.led = !A6 w) (bL:t'.plain=false):
  (h.update a (aK.putSet cA t')).get? a=some {o with data:=.set cA (ep+1) t'}/\SSet P w (h.update a (aK.putSet cA t')) a ks:=by
 have g:=am.get?_update_self (aK.putSet cA t') ho (by rw[bR cA t' hd];rfl);rw[bR cA t' hd] at g;exact⟨g,_,cA,ep+1,t',ls,g,hex,rfl,er,hs,hp,hb,hf,hl,λz=>by rw[bL] at z;cases z⟩
def Xcc{g:Bool->fJ Unit}(hg:∀(b:Bool) (s1:af) (Q':Unit->af->Prop),Q' () s1->ai (ag P w) A (g b) Q' E s1)     (ho:s.heap.get? a=some o)(hex:o.ExactSet)(hd:o.data = .set es ep t)
    (er:eP (PySem.strKind P w) eZ.toList) (hs:aC (eZ.toList.map (·.2)) ls) (hp:ls.Perm ks) (hb:eZ.size<aU) (hf:t2.fits eZ.size=true) (hl:t2.led = !A6 w) (bL:t2.plain=false)  (h:∀h',am.SameBut a s.heap h'->SSet P w h' a ks->R (some true) {s with heap:=h'}):
    ai (ag P w) A (do
        gy a eZ t2
        if (!wd && t2.tooFull) = true then do g (d0 t2 eZ (ah.grown eZ.size)).2.2
                                              gy a (d0 t2 eZ (ah.grown eZ.size)).1 (d0 t2 eZ (ah.grown eZ.size)).2.1
                                              pure (some true)
        else pure (some true)) R E s:=by
  refine Te (bp ho hd ?_ (aX hb));obtain⟨g1,S1⟩:=Xcb (P:=P) (w:=w) ho hex hd er hs hp hb hf hl bL;have sb:=Tu s.heap a (aK.putSet eZ t2);split
  . have pp:=relayAll_perm t2 eZ (ah.grown eZ.size);have ff:=relayAll_fits t2 eZ (ah.grown eZ.size);obtain⟨vo,rE⟩:=Xjx t2 eZ (ah.grown eZ.size) bL;generalize d0 t2 eZ (ah.grown eZ.size)=R3 at pp ff vo rE ⊢;obtain⟨uk,t3,gv⟩:=R3;dsimp only at pp ff vo rE ⊢;obtain⟨JE,s3,p3⟩:=Js pp hs;have z:uk.size=eZ.size:=by rw[<-Os,pp.length_eq,Os]
    refine Te (hg _ _ _ ?_);refine Te (bp g1 rfl ?_ (aX (by rw[z];exact hb)));obtain⟨_,S3⟩:=Xcb (P:=P) (w:=w) (ks:=ks) g1 hex rfl (er.perm pp) s3 (p3.trans hp) (by rw[z];exact hb) ff (vo.trans hl) rE;exact Tf (h _ (sb.trans (Tu _ a _)) S3)
  . exact Tf (h _ sb S1)
def sset_add   (S:SSet P w s.heap a ks) (hr:ks.length+1<aU)
  (h:∀b h',am.SameBut a s.heap h'->SSet P w h' a (if x∈ks then ks else ks++[x])->Q b {s with heap:=h'}):
  ai (ag P w) A (cT a (.str x tk) ((PySem.strKind P w).hash x)) Q E s:=by
 obtain⟨o,es,ep,t,ls,ho,hex,hd,er,hs,hp,hb,hf,hl,bL⟩:=S;have aN:es.size=ks.length:=by
  have:=hs.length;rw[Od,Os] at this;rw[this,hp.length_eq]
 have fi:(PySem.strKind P w).is x (.str x tk)=true:=gx P w x tk;have dh:x∈ks ↔ ∃e∈es.toList,(PySem.strKind P w).is x e.2=true:=hp.mem_iff.symm.trans (Xca hs);unfold cT setAddHashedIn;refine az (Te (aB ho hd hf ?_));dsimp only;rw[JF (knd:=PySem.strKind P w) rfl hb er];simp only[↓reduceIte];unfold setAddByScan;refine Te (Te (aR (Te (oz fi ho hd hf er ?_))));cases o3:List.findIdx? (λe=>(PySem.strKind P w).is x e.2) es.toList with
 | some j=>
  dsimp only;obtain⟨hj,rF,_⟩:=R5.mp o3;have hx:x∈ks:=dh.mpr ⟨es.toList[j],Ph hj,rF⟩;refine Tf (Tf ?_);have:=h false s.heap (am.SameBut.refl a s.heap) (by rw[Tk hx];exact⟨o,es,ep,t,ls,ho,hex,hd,er,hs,hp,hb,hf,hl,bL⟩);exact this
 | none=>
  dsimp only;have hx:x∉ks:=λz=>by
   obtain⟨e,he,q⟩:=dh.mp z;have:=List.findIdx?_eq_none_iff.mp o3 e he;rw[q] at this;cases this
  have gw:∀(b:Bool) (s1:af) (Q':Unit->af->Prop),Q' () s1->ai (ag P w) A (match b with | true=>rule "set.scan.the-table-gave-way" | false=>pure ()) Q' E s1:=λb s1 Q' q=>by
   cases b with
   | true=>exact aR q
   | false=>exact Tf q
  have pp:=layNew_perm t es ((PySem.strKind P w).hash x) (.str x tk);have ff:=layNew_fits t es ((PySem.strKind P w).hash x) (.str x tk);have fl:=Xjv t es ((PySem.strKind P w).hash x) (.str x tk);generalize BC t es ((PySem.strKind P w).hash x) (.str x tk)=R at pp ff fl ⊢;obtain⟨eZ,t1,wd,gv⟩:=R;dsimp only at pp ff fl ⊢;rw[Array.toList_push] at pp;have y9:=(er.push fi rfl).perm pp;have cc:aC ((es.toList++[((PySem.strKind P w).hash x,aa.str x tk)]).map (·.2)) (ls++[x]):=by
   rw[Ot];exact Xjy hs
  obtain⟨BD,jY,p1⟩:=Js pp cc;have z1:eZ.size=ks.length+1:=by
   rw[<-Os,pp.length_eq,Oh,Os,aN];rfl
  have p2:BD.Perm (ks++[x]):=p1.trans (hp.append_right _);rw[Tj hx] at h;refine Te (gw _ _ _ ?_);split
  ·refine Te ?_;rw[hashByValue_scannable 8 (x:=aa.str x tk) rfl];refine Tf ?_;refine Xcc (ks:=ks++[x]) gw ho hex hd y9 jY p2 (by rw[z1];exact hr) (ah.fits_plain_off ff) (fl.trans hl) rfl (λh' sb S'=>?_);dsimp only;exact Tf (h true h' sb S')
  ·rename_i np;refine Te (Tf ?_);simp only[↓reduceIte];refine Xcc (ks:=ks++[x]) gw ho hex hd y9 jY p2 (by rw[z1];exact hr) ff (fl.trans hl) (by cases q:t1.plain with | false=>rfl | true=>exact absurd q np) (λh' sb S'=>?_);dsimp only;exact Tf (h true h' sb S')
end
def dd1 (acc:Za) (x:ak):Za:=if x∈acc then acc else acc++[x]
def ddup (ss:Za):Za:=ss.foldl dd1 []
def Xcd(ss)(x):ddup (ss++[x])=dd1 (ddup ss) x:=by
 unfold ddup;rw[List.foldl_append];rfl
def L8{p:Za->Za->Prop}(h0:p [] [])(h1:∀ss x,p ss (ddup ss)->p (ss++[x]) (dd1 (ddup ss) x))(ss):p ss (ddup ss):=by
 have go:∀n ss,ss.length=n->p ss (ddup ss):=by
  intro n
  induction n with
  | zero=>
   intro ss e;rw[Pr.mp e];exact h0
  | succ n ih=>
   intro ss e;have fo:ss≠[]:=λz=>by rw[z] at e;cases e
   have e2:=List.dropLast_concat_getLast fo;rw[<-e2,Xcd];exact h1 _ _ (ih _ (by rw[List.length_dropLast,e];rfl))
 exact go _ ss rfl
def L9(ss):∀x,x∈ddup ss↔x∈ss:=by
 refine L8 (p:=λss d=>∀x,x∈d↔x∈ss) (λx=>Iff.rfl) (λss y ih x=>?_) ss;unfold dd1;split
 ·rename_i hy;rw[ih,Oq,Oj];constructor
  ·exact .inl
  ·rintro (z | z)
   ·exact z
   ·rw[z];exact(ih y).mp hy
 ·rw[Oq,Oq,ih]
def Hr(ss):(ddup ss).Nodup:=by
 refine L8 (p:=λ_ d=>d.Nodup) List.nodup_nil (λss y ih=>?_) ss;unfold dd1;split
 ·exact ih
 ·rename_i hy;exact Qe.mpr ⟨ih,by simp,λa ha b hb=>by rw[Oj.mp hb];exact λz=>hy (z ▸ ha)⟩
def Hs(ss):(ddup ss).length<=ss.length:=by
 refine L8 (p:=λss d=>d.length<=ss.length) (Og _) (λss y ih=>?_) ss;unfold dd1;rw[Oh,Pn];split
 ·lia
 ·rw[Oh,Pn];lia
section
variable {P:ao}{w:aw}{A:av}{E:Zb}{s:af}
def Xce     {St} (ss) (W:WalksS P w A.in1 I fp wr G ss.length Pv St) (S) (nS:S∉fp)
  (lT:∀i v,Pv i v->∃t,v = .str (ss.getD i "") t) (hb:ss.length+1<aU):
  ∀k i s,ss.length - i=k->i<=ss.length->St i s->SSet P w s.heap S (ddup (ss.take i))->(∀s',yA (S::wr) G s s'->SSet P w s'.heap S (ddup ss)->R (.ok (.ret .none)) s') ->
   bw (ag P w) A (.builtin "set.update.loop" ⟨[.ref S,.ref I],[]⟩) R s:=by
 have nw:S∉wr:=λz=>nS (W.sub _ z);have up:∀b∈wr,b∈S::wr:=λb z=>Ol _ z;intro k
 induction k with
 | zero=>
  intro i s e hi st hS hR;have:i=ss.length:=by lia
  subst this;rw[P4] at hS;refine bN F.entry_set_update_loop ?_;rw[av.under_plainId F.plain_set_update_loop _];show ai _ A.in1 (dR (.ref I) >>= λ_=>_) _ _ s;refine Te (W.done s _ _ st λs' mv=>?_);show ai _ A.in1 (ret aa.none) _ _ s';exact Tf (hR s' (mv.mono up) (hS.stay λo z=>mv.heap S o nw z))
 | succ k ih=>
  intro i s e hi st hS hR;have lt:i<ss.length:=by lia
  refine bN F.entry_set_update_loop ?_;rw[av.under_plainId F.plain_set_update_loop _];show ai _ A.in1 (dR (.ref I) >>= λ_=>_) _ _ s;refine Te (W.item i s _ _ lt st λv s' hP a8 mv=>?_);obtain⟨t,rfl⟩:=lT i v hP;have o4:=hS.stay λo z=>mv.heap S o nw z;show ai _ A.in1 (holding [aa.str (ss.getD i "") t] (setAdd S (.str (ss.getD i "") t)) >>= λ_=>_) _ _ s';refine Te (az ?_);unfold setAdd;refine az (Te ((PySem.strKind P w).pyHash (k:=ss.getD i "") (gx P w _ t) ?_));have o5:(ddup (ss.take i)).length<=i:=Pj (Hs _) (by rw[O0];lia);refine sset_add (s:={s' with toks:=s'.toks+1}) o4 (by lia) λb h' sb S2=>?_;have e3:ddup (ss.take (i+1))=dd1 (ddup (ss.take i)) (ss.getD i ""):=by
   rw[O3 lt,Xcd];congr 1;simp[List.getD,lt]
  have S3:SSet P w h' S (ddup (ss.take (i+1))):=by rw[e3];exact S2
  refine Tf ⟨cH F.plain_set_update_loop _,ih (i+1) _ (by lia) lt (W.frame _ s' _ _ a8 (Qh _) λb hb o q=>?_) S3 λlC BE S4=>?_⟩
  ·rw[sb.2 b (λz=>nS (z ▸ hb))];exact q
  ·refine hR lC (yA.trans W.gtrans ((mv.mono up).then_heap (Qh _) λb o hb q=>?_) BE) S4;rw[sb.2 b (λz=>hb (z ▸ Op))];exact q
inductive Src (h:am) (l:ae) (ay:Array aa):Prop
 | lst:h.IsList l ay->Src h l ay
 | tup:h.IsTuple l ay->Src h l ay
def Xjz(a){Q}(h:Q (.ref s.heap.objs.size) {s with heap:=s.heap.push {cls:=.type "set",dict:=none,data:=.set #[] 0 (.fresh 0 0 (!A6 w))} }):
    bw (ag P w) A (.call (.builtin "set.__new__") ⟨[.type "set",a],[]⟩) (wants Q E) s:=by
  refine fM ?_
  show ai _ A.in1 (do    checkBuiltinCall "set.__new__" ⟨[.type "set",a],[]⟩
                         again (.builtin "set.__new__" ⟨[.type "set",a],[]⟩)) _ _ s
  refine Te (fD (PySem.F.newCall_set_1 a) (Tf ⟨cH PySem.F.plain_set_new _,bN PySem.F.entry_set_new ?_⟩));rw[av.under_plainId PySem.F.plain_set_new _];unfold aj.«set.__new__» aj.Frozenset.newClass;have q:=jb;obtain⟨hp,g,d,tk,os⟩:=s;dsimp only
  wp_walk
  refine aQ (Tf ?_);dsimp only;simp only[newObj];exact Te (jU (Tf (Tf h)))
end
end L2
set_option maxHeartbeats 3200000
namespace L2
open PySem.Calls
section
variable {P:ao}{w:aw}{A:av}{E:Zb}{s:af}
abbrev Ev (w:aw):aK:={cls:=.type "set",dict:=none,data:=.set #[] 0 (.fresh 0 0 (!A6 w))}
def Xj0  (g:h.get? a=some (Ev w)):SSet P w h a []:=
 ⟨_, #[],0,_,[],g,⟨rfl,rfl,rfl⟩,rfl,λe he=>by simp at he,.nil,.nil,by decide,rfl,rfl,λ_=>rfl⟩
def Xj1    (hh:A.handled=none) (o6:Src s.heap l ay) (hs:aC ay.toList ss) (hb:ss.length+1<aU) (hS:SSet P w s.heap S []) (yB:l≠S)
  (BF:∀(Q:Bool->af->Prop),Q false s->ai (ag P w) A (aj.Frozenset.isAnySet (.ref l)) Q E s)
  (h:∀(h':am) (tk:Nat),SSet P w h' S (ddup ss)->(∀b o,b≠S->s.heap.get? b=some o->h'.get? b=some o)->R () {s with heap:=h',toks:=tk}):
  ai (ag P w) A (aj.Frozenset.updateFrom "set.__init__" S (.ref l)) R E s:=by
 have aN:ay.size=ss.length:=by
  have:=hs.length
  rwa [Os] at this
 have lT:∀(i:Nat) (v:aa),ay[i]? = some v->∃t,v = .str (ss.getD i "") t:=λi v q=>by
  have q':ay.toList[i]? = some v:=by rw[Rs];exact q
  obtain⟨x,t,rfl⟩:=hs.all v (Qn q');refine⟨t,?_⟩;congr 1;rw[<-hs.strs];simp[List.getD,Ov,q,mX]
 obtain⟨oS,_,_,_,_,gS,_⟩:=id hS;have ltS:=Tr gS;unfold aj.Frozenset.updateFrom;refine Te (BF _ ?_);simp only[Pe,if_false];cases o6 with
 | lst hl=>
  have rG:l<s.heap.objs.size:=by obtain⟨o,g,_⟩:=hl;exact Tr g
  refine Te (bo (T := "list") hl.typeIs ?_);have ne:(aa.type "list" == aa.type "dict")=false:=by decide
  simp only[ne,Pe,if_false];refine Te (cD hl ?_);refine Te (gz ?_);have nI:S∉[s.heap.objs.size,l]:=by simp only[Ou,List.not_mem_nil,or_false,not_or];exact⟨Oo ltS,yB.symm⟩
  have W:=(mU.list (prog:=P) (w:=w) (A:=A.in1) (by simp[hh]) s.heap.objs.size l (Oo rG) ay).toS;rw[aN] at W;refine Xce ss W S nI lT hb _ 0 _ rfl (Pf _) ⟨⟨_,am.get?_push_size _ rfl,rfl,rfl⟩,hl.push _⟩ (hS.stay λo q=>Tt _ q) λs' mv S'=>?_;rw[yA.eq_with mv];refine Tf (h s'.heap s'.toks S' λb o nb q=>mv.heap b o (λz=>?_) (Tt _ q));rcases Ou.mp z with z | z
  ·exact nb z
  ·exact absurd (Tr q) (by rw[Oj.mp z];exact Pz _)
 | tup hl=>
  have rG:l<s.heap.objs.size:=by obtain⟨o,g,_⟩:=hl;exact Tr g
  refine Te (bo (T := "tuple") hl.typeIs ?_);have ne:(aa.type "tuple" == aa.type "dict")=false:=by decide
  simp only[ne,Pe,if_false];refine Te (lB hl ?_);refine Te (gz ?_);have nI:S∉[s.heap.objs.size,l]:=by simp only[Ou,List.not_mem_nil,or_false,not_or];exact⟨Oo ltS,yB.symm⟩
  have W:=(mU.tuple (prog:=P) (w:=w) (A:=A.in1) (by simp[hh]) s.heap.objs.size l (Oo rG) ay).toS;rw[aN] at W;refine Xce ss W S nI lT hb _ 0 _ rfl (Pf _) ⟨⟨_,am.get?_push_size _ rfl,rfl,rfl⟩,hl.push _⟩ (hS.stay λo q=>Tt _ q) λs' mv S'=>?_;rw[yA.eq_with mv];refine Tf (h s'.heap s'.toks S' λb o nb q=>mv.heap b o (λz=>?_) (Tt _ q));rcases Ou.mp z with z | z
  ·exact nb z
  ·exact absurd (Tr q) (by rw[Oj.mp z];exact Pz _)
def Src.push   (x:Src h l ay) (o):Src (h.push o) l ay:=by
 cases x with
 | lst y=>exact .lst (y.push o)
 | tup y=>exact .tup (y.push o)
def Src.any   (x:Src s.heap l ay) (q:Q false s):ai (ag P w) A (aj.Frozenset.isAnySet (.ref l)) Q E s:=by
 cases x with
 | lst y=>
  obtain⟨o,g,c,n,d⟩:=y;obtain⟨oc,od,BG,os⟩:=o;simp only at c d;subst c d;have h1:=PySem.F.sub_list_set;have h2:=PySem.F.sub_list_frozenset;unfold aj.Frozenset.isAnySet
  wp_walk
  exact q
 | tup y=>
  obtain⟨o,g,c,n,d⟩:=y;obtain⟨oc,od,BG,os⟩:=o;simp only at c d;subst c d;have h1:JG (.type "tuple") (.type "set")=pure false:=by rw[c8];kernel_rfl
  have h2:JG (.type "tuple") (.type "frozenset")=pure false:=by rw[c8];kernel_rfl
  unfold aj.Frozenset.isAnySet
  wp_walk
  exact q
def Src.lt   (x:Src h l ay):l<h.objs.size:=by
 cases x with
 | lst y=>obtain⟨o,g,_⟩:=y;exact Tr g
 | tup y=>obtain⟨o,g,_⟩:=y;exact Tr g
def Xj2    (hh:A.handled=none) (o6:Src s.heap l ay) (hs:aC ay.toList ss) (hb:ss.length+1<aU)
  (h:∀(h':am) (tk:Nat),SSet P w h' s.heap.objs.size (ddup ss)->(∀b o,s.heap.get? b=some o->h'.get? b=some o)->Q (.ref s.heap.objs.size) {s with heap:=h',toks:=tk}):
  ai (ag P w) A (call (.type "set") [.ref l]) Q E s:=by
 obtain⟨c,tl,BH⟩:=PySem.F.called_set.mro;have yC:=PySem.F.called_set.made;have BI:=PySem.F.called_set.sub;refine dS (fM ?_);show ai _ _ (callAny (.type "set") _) _ _ s;refine Tf ⟨Code.quiet_builtin _ (by decide +kernel),bN PySem.F.entry_type_call ?_⟩;rw[av.under_plain (weight_type_call_type "set" [.ref l] []) rfl];have f1:=PySem.F.called_set.notType;have f2:=PySem.F.called_set.canCreate;have f3:=PySem.F.typeCall_set_1 (.ref l)
 repeat (any_goals (first | assumption | wp_step))
 refine bi (Xjz (.ref l) (E:=E) (Q:=λobj s1=>obj = .ref s.heap.objs.size/\s1 = {s with heap:=s.heap.push (Ev w)}) ⟨rfl,rfl⟩) λr s1 hr=>?_;cases r with
 | error e=>exact hr
 | ok fl=>
  cases fl with
  | ret obj=>
   obtain⟨rfl,rfl⟩:=hr;have gS:(s.heap.push (Ev w)).get? s.heap.objs.size=some (Ev w):=am.get?_push_size _ rfl;have hT:af.TypeIs {s with heap:=s.heap.push (Ev w)} (.ref s.heap.objs.size) "set" := ⟨_,gS,rfl⟩;have f4:=PySem.F.called_set.init.lookup;have f5:=PySem.F.called_set.init.bind (.ref s.heap.objs.size)
   repeat (any_goals (first | assumption | wp_step))
   refine bi (codeAny_call_builtin (R:=wants (λr s2=>r = .none/\∃h' tk,s2 = {s with heap:=h',toks:=tk}/\SSet P w h' s.heap.objs.size (ddup ss)/\∀b o,s.heap.get? b=some o->h'.get? b=some o) E)
    PySem.F.called_set.init.plain PySem.F.entry_set_init (check_set_init_1 hT ?_)) λr2 s2 fc=>?_
   ·have rH:=o6.push (Ev w);have lt:=o6.lt;unfold aj.«set.__init__» noKeywords;generalize hU:aj.Frozenset.updateFrom=U
    wp_walk
    subst hU;refine Xj1 (s:={s with heap:=s.heap.push (Ev w)}) (by simp[hh]) rH hs hb (Xj0 gS) (Oo lt) (λQ q=>Src.any (s:={s with heap:=s.heap.push (Ev w)}) rH q) λh' tk S' kk=>?_;exact Tf ⟨rfl,h',tk,rfl,S',λb o q=>kk b o (Oo (Tr q)) (Tt _ q)⟩
   ·cases r2 with
    | error e=>exact fc
    | ok rE=>
     cases rE with
     | ret r=>
      obtain⟨rfl,h',tk,rfl,S',kk⟩:=fc
      repeat (any_goals (first | assumption | wp_step))
      exact h _ _ S' kk
     | _=>exact fc.elim
  | _=>exact hr.elim
end
namespace SF
def sIter:Slot "set" "__iter__" "set.__iter__" := PySem.F.slot_set_iter
def eIter:jZ table "set.__iter__" = some aj.«frozenset.__iter__»:=g7 (id' := "frozenset.__iter__") (by kernel_rfl) rfl (by decide +kernel) (by kernel_rfl)
def sNext:Slot "set_iterator" "__next__" "set_iterator.__next__" := .of (owner := "set_iterator") (n := "__next__") (by rw[qj,j7];kernel_rfl) (by decide +kernel) (by decide +kernel) (by decide +kernel) (by first | exact .inl (by decide +kernel) | exact .inr (by decide +kernel)) (by rw[c8];kernel_rfl)
def eNext:jZ table "set_iterator.__next__" = some aj.«set_iterator.__next__»:=entryFor_of_tree (by kernel_rfl)
def aNext(a):rJ "set_iterator.__next__" ⟨[a],[]⟩:=by unfold rJ;kernel_rfl
end SF
theorem Ma{α : Type}:∀(xs:List α) (i:Nat) (hi:i<xs.length),(xs[i]::xs.eraseIdx i).Perm xs
 | x::xs,0,_=>Qd _
 | x::xs,i+1,hi=>by
  have ih:=Ma xs i (by simpa using hi);rw[List.eraseIdx_cons_succ,List.getElem_cons_succ];exact(List.Perm.swap x _ _).trans (ih.cons x)
def Xj3{α : Type}(next):∀(n k:Nat) (left:List α) (out:Array α),left.length=n->(bS.go next n k left out).toList.Perm (out.toList++left):=by
 intro n
 induction n with
 | zero=>
  intro k left out e;rw[Pr.mp e,Pm];exact Qd _
 | succ n ih=>
  intro k left out e;have aZ:next k % left.length<left.length:=S7 _ (by lia);unfold bS.go;rw[Oe aZ];dsimp only;refine(ih _ _ _ (by rw[Q7 aZ,e];rfl)).trans ?_;rw[Array.toList_push,O7];exact(Ma left _ aZ).append_left _
def Xcf{α : Type}(next)(xs:Array α):(bS next xs).toList.Perm xs.toList:=by
 have:=Xj3 next xs.size 0 xs.toList #[] (by simp);simpa [bS] using this
section
variable {P:ao}{w:aw}{A:av}{E:Zb}{s:af}
def Xj4   (hn:n≠0) (h:∀i d,i<n->Q i {s with drawn:=d}):ai (ag P w) A (choose o6 n) Q E s:=by
 intro Γ p hΓ;exact⟨hn,h _ _ (S7 _ (Nat.pos_of_ne_zero hn))⟩
def Xcg{α : Type}:∀(n:Nat) (xs:List α) (s:af) (Q:List α->af->Prop),xs.length=n->(∀os d,os.Perm xs->Q os {s with drawn:=d})->ai (ag P w) A (iP n xs) Q E s:=by
 intro n
 induction n with
 | zero=>
  intro xs s Q e h;rw[Pr.mp e] at h ⊢;unfold iP;exact Tf (h [] s.drawn (Qd _))
 | succ n ih=>
  intro xs s Q e h;cases xs with
  | nil=>cases e
  | cons y ys=>
   unfold iP;refine Te (Xj4 (by simp) λi d hi=>?_);rw[Oe hi];dsimp only;refine Te (ih _ _ _ (by rw[Q7 hi,e];rfl) λos d' hp=>?_);exact Tf (h _ d' ((hp.cons _).trans (Ma _ i hi)))
def SAt (h:am) (a:ae) (es:Array (Int×aa)) (ep:Nat) (t:ah):Prop:=∃o,h.get? a=some o/\o.ExactSet/\o.data = .set es ep t/\t.fits es.size=true
def Xj5     (hs:SAt s.heap a es ep t) (h:Q (!A6 w&&(!t.plain&&decide (es.size > 1))) s):ai (ag P w) A (setDrawn a) Q E s:=by
 obtain⟨o,ho,hex,hd,hf⟩:=hs;unfold setDrawn ce;refine Te (aB ho hd hf ?_);dsimp only;refine Te (Te (aQ (Tf ?_)));exact Tf h
abbrev itO (f0:aa) (i:Nat) (a:ae) (n ep:Nat):aK:={cls:=.type "set_iterator",data:=.fields #[f0,.int i 0,.ref a,.int n 0,.int ep 0]}
inductive Ord (w:aw) (h:am) (a:ae) (es:Array (Int×aa)) (ep:Nat) (t:ah) (f0:aa) (i:Nat):List aa->Prop
 | txt:A6 w=true->f0 = .int 0 0->Ord w h a es ep t f0 i ((bS (w.params.setOrder a ep) es).toList.map (·.2))
 | drw (p:ae) (os:List Nat):A6 w=false->os.Perm (List.range es.size)->f0 = .ref p->(∃n,h.get? p=some ⟨.type "tuple",none,.seq (os.map λj=>aa.int (j:Nat) 0).toArray n, #[]⟩)->Ord w h a es ep t f0 i (os.map λj=>((es[j]?).map (·.2)).getD .none)
 | one (sl:Nat):A6 w=false->t.led=true->es.size<=1->f0 = .int sl 0->(i=0->sl=0)->(∀j,i=1->t.place[0]? = some j->sl=j+1)->Ord w h a es ep t f0 i (es.toList.map (·.2))
def Xj6     (hs:SAt s.heap a es ep t) (hb:es.size<aU) (hl:t.led = !A6 w) (hp:t.plain=true->es.size=0)
    (h:∀(f0:aa) (vs:List aa) (h1:am) (d:rD),(∀b o,s.heap.get? b=some o->h1.get? b=some o)->h1.objs.size<=s.heap.objs.size+1->s.heap.objs.size<=h1.objs.size->(∀p,f0 = .ref p->p<h1.objs.size)->Ord w (h1.push (itO f0 0 a es.size ep)) a es ep t f0 0 vs ->
      vs.Perm (es.toList.map (·.2))->Q (.ref h1.objs.size) {s with heap:=h1.push (itO f0 0 a es.size ep),drawn:=d}):
    ai (ag P w) A (gf (.ref a)) Q E s:=by
  obtain⟨o,ho,hex,hd,hf⟩:=id hs;have hT:s.TypeIs (.ref a) "set" := ⟨o,ho,hex.1⟩;refine eM hT SF.sIter (aP SF.sIter hT SF.eIter ?_ (PySem.F.args_set_iter_1 _));unfold aj.«frozenset.__iter__» aj.Frozenset.slot0 rK;simp only[List.isEmpty_nil,R6,Pe, ↓reduceIte,bind_assoc,Qr,bne_self_eq_false];unfold aj.Frozenset.addrOf aj.Frozenset.sizeOf;refine Te (Tf ?_);dsimp only;refine Te (Tf ?_);refine Te (Te (cz ho hd hf (Tf ?_)));refine Te (Xj5 hs ?_);have fin:∀(f0:aa) (vs:List aa) (h1:am) (d:rD),(∀b o,s.heap.get? b=some o->h1.get? b=some o)->h1.objs.size<=s.heap.objs.size+1->s.heap.objs.size<=h1.objs.size->(∀p,f0 = .ref p->p<h1.objs.size)->Ord w (h1.push (itO f0 0 a es.size ep)) a es ep t f0 0 vs->vs.Perm (es.toList.map (·.2)) ->
      ai (ag P w) A.in1 (do       let r <-newFields "set_iterator" [f0,aW 0,.ref a,aW es.size,aW ep]
                                  ret r) (λfin s'=>∃r,fin = .done (.ret r)/\∃T v,s'.TypeIs r T/\lE (.type T) (ak.ofString "__next__")=pure (some v)/\Q r s') E {s with heap:=h1,drawn:=d}:=λf0 vs h1 d k1 k2 k3 k4 k5 k6=>
    Te (aD (Tf ⟨_,rfl, "set_iterator",_,⟨_,am.get?_push_size _ rfl,rfl⟩,SF.sNext.lookup,h f0 vs h1 d k1 k2 k3 k4 k5 k6⟩))
  by_cases hc:(!A6 w&&(!t.plain&&decide (es.size > 1)))=true
  . rw[Tk hc];simp only[Oy,S6,decide_eq_true_eq] at hc;obtain⟨c1,c2,c3⟩:=hc;refine Te (Xcg _ _ _ _ Qf λos d po=>?_);have ul:os.length=es.size:=by rw[po.length_eq,Qf]
    refine Te (d9 ?_ (by rw[Od,ul];exact aX hb));refine Te (bW (Tt _ ho) hd hf ?_);refine fin _ _ _ d (λb o q=>Tt _ q) (by rw[bq];exact Og _) (by rw[bq];exact Qh _) (λp e=>by cases e;rw[bq];exact Nat.lt_succ_self _) (.drw s.heap.objs.size os c1 po rfl ⟨0,Tt _ (am.get?_push_size _ rfl)⟩) ?_;have e:(os.map λj=>((es[j]?).map (·.2)).getD aa.none).Perm ((List.range es.size).map λj=>((es[j]?).map (·.2)).getD aa.none):=po.map _;refine e.trans ?_;have e2:((List.range es.size).map λj=>((es[j]?).map (·.2)).getD aa.none)=es.toList.map (·.2):=by
      apply List.ext_getElem?;intro i;have q:es.toList[i]? = es[i]?:=Rs;rw[Ov,Ov,q];by_cases hi:i<es.size
      . rw[List.getElem?_range hi,Qy,getElem?_pos es i hi];rfl
      . rw[Rr (by simpa using hi),getElem?_neg es i hi];rfl
    rw[e2]
  . rw[Tj hc];refine Te (Tf ?_);refine Te (bW ho hd hf ?_);cases hw:A6 w with
    | true=>exact fin _ _ _ s.drawn (λb o q=>q) (Qh _) (Og _) (λp e=>by cases e) (.txt hw rfl) ((Xcf _ es).map _)
    | false=>
      have h1:es.size<=1:=by
        cases bL:t.plain with
        | true=>rw[hp bL];exact Pf _
        | false=>
          simp only[hw,bL,Bool.not_false,P8,decide_eq_true_eq] at hc
          lia
      exact fin _ _ _ s.drawn (λb o q=>q) (Qh _) (Og _) (λp e=>by cases e) (.one 0 hw (by rw[hl,hw];rfl) h1 rfl (λ_=>rfl) (λj e=>by cases e)) (Qd _)
end
end L2
namespace L2
open PySem.Calls
section
variable {P:ao}{w:aw}{A:av}{E:Zb}{s:af}{I a:ae}{es:Array (Int×aa)}{ep:Nat}{t:ah}
def ItS (w:aw) (I a:ae) (es:Array (Int×aa)) (ep:Nat) (t:ah) (vs:List aa) (fp:Option ae) (i:Nat) (h:am):Prop:=
 ∃f0,h.get? I=some (itO f0 i a es.size ep)/\Ord w h a es ep t f0 i vs/\SAt h a es ep t/\(∀p,f0 = .ref p->fp=some p)
def Xch   (hI:s.heap.get? I=some (itO f0 i a es.size ep)) (hS:SAt s.heap a es ep t)
  (h1:∀sl,f0 = .int sl 0->ai (ag P w) A (do
   match <-jc a sl.toNat i ep with
   | some (x,next)=>cn (.ref I) 0 (aW next);cn (.ref I) 1 (aW ((i:Int)+1));ret x
   | none=>cn (.ref I) 2 .none;g9 (<-lU (.type "StopIteration") [])) Q E s)
  (h2:∀p,f0 = .ref p->ai (ag P w) A (do
   let some o7 <-seqItems? (.ref p) | unsupported "internal:set_iterator"
   match o7[i]? with
   | some (.int place _)=>let x <-vp a place.toNat ep;cn (.ref I) 1 (aW ((i:Int)+1));ret x
   | some _=>unsupported "internal:set_iterator"
   | none=>cn (.ref I) 0 (aW 0);cn (.ref I) 2 .none;g9 (<-lU (.type "StopIteration") [])) Q E s)
  (hf:(∃sl,f0 = .int sl 0) \/ ∃p,f0 = .ref p):ai (ag P w) A (aj.«set_iterator.__next__» ⟨[.ref I],[]⟩) Q E s:=by
 obtain⟨o,ho,hex,hd,lm⟩:=id hS;unfold aj.«set_iterator.__next__» rK;simp only[List.isEmpty_nil,R6,Pe, ↓reduceIte,bind_assoc,Qr,bne_self_eq_false];refine Te (Tf ?_);dsimp only;refine Te (wpAny_fieldsOf hI rfl ?_);dsimp only;refine Te (cz ho hd lm ?_);rw[Tj (by simp)];rcases hf with ⟨sl,rfl⟩ | ⟨p,rfl⟩
 ·exact h1 sl rfl
 ·exact h2 p rfl
def Jt{h:am}{f0 x:aa}{i j n:Nat}(hI:h.get? I=some (itO f0 i a n ep))(k)(v):
  (h.update I (aK.mapFields (·.setIfInBounds k v))).get? I=some {cls:=.type "set_iterator",data:=.fields ((#[f0,.int i 0,.ref a,.int n 0,.int ep 0]:Array aa).setIfInBounds k v)}:=
 am.get?_update_self _ hI rfl
def SAt.at(x:SAt h a es ep t)(k:∀o,h.get? a=some o->h'.get? a=some o):SAt h' a es ep t:=by
 obtain⟨o,ho,r⟩:=x;exact⟨o,k o ho,r⟩
def Xci  (hw:A6 w=true) (hS:SAt s.heap a es ep t) (h:Q (((bS (w.params.setOrder a ep) es)[i]?).map λe=>(e.2,sl)) s):ai (ag P w) A (jc a sl i ep) Q E s:=by
 obtain⟨o,ho,hex,hd,hf⟩:=id hS;unfold jc ce;refine Te (aB ho hd hf ?_);dsimp only;refine Te (Te (aQ (Tf ?_)));rw[Tk (show (ag P w).w.params.followText "set-order" = true from hw),Tj (by simp)];unfold mY ce;refine Te (Te (aB ho hd hf ?_));dsimp only;refine Te (Te (aQ (Tf ?_)));rw[Tk (show (ag P w).w.params.followText "set-order" = true from hw)];exact Te (aQ (Tf (Tf h)))
def Xcj  (hw:A6 w=false) (hl:t.led=true) (h1:es.size<=1) (hS:SAt s.heap a es ep t)
  (h:Q (match es[ah.below t.place sl]?,t.place[ah.below t.place sl]? with | some (_,x),some j=>some (x,j+1) | _,_=>none) s):ai (ag P w) A (jc a sl i ep) Q E s:=by
 obtain⟨o,ho,hex,hd,hf⟩:=id hS;unfold jc ce;refine Te (aB ho hd hf ?_);dsimp only;refine Te (Te (aQ (Tf ?_)));rw[Tj (show ¬(ag P w).w.params.followText "set-order" = true from by show ¬A6 w=true;rw[hw];decide)];have d1:(!t.plain&&decide (es.size > 1))=false:=by rw[Tn (by lia),Sz]
 refine cy (λz=>?_) (λ_=>?_)
 ·have z':(!t.plain&&decide (es.size > 1))=true:=z;rw[d1] at z';cases z'
 refine Te ?_;have m1:(!t.led && !es.isEmpty)=false:=by rw[hl];rfl
 refine cy (λz=>?_) (λ_=>Tf (Tf h));have z':(!t.led && !es.isEmpty)=true:=z;rw[m1] at z';cases z'
def Xj7(h:t.place.size<=1):ah.below t.place 0=0:=by
 generalize t.place=pl at *;obtain⟨l⟩:=pl
 match l,h with
 | [],_=>rfl
 | [x],_=>simp[ah.below,ah.below.go]
def Xj8  (h:t.place.size<=1) (hj:t.place[0]? = some j):ah.below t.place (j+1)=1:=by
 generalize t.place=pl at *;obtain⟨l⟩:=pl
 match l,h,hj with
 | [x],_,hj=>
  have:x=j:=by simpa using hj
  subst this;simp[ah.below,ah.below.go]
def Xck(h:t.fits n=true):t.place.size=n:=by
 unfold ah.fits at h;simp only[Oy,beq_iff_eq] at h;exact h.1
end
section
variable {P:ao}{w:aw}{A:av}{E:Zb}{s:af}{I a:ae}{es:Array (Int×aa)}{ep:Nat}{t:ah}{vs:List aa}{fp:Option ae}
def Ord.cases0   (x:Ord w h a es ep t f0 i vs):(∃sl:Int,f0 = .int sl 0) \/ ∃p,f0 = .ref p:=by
 cases x with
 | txt _ e=>exact .inl ⟨0,e⟩
 | drw p os _ _ e _=>exact .inr ⟨p,e⟩
 | one sl _ _ _ e _ _=>exact .inl ⟨sl,e⟩
def Xj9  (st:ItS w I a es ep t vs fp i s.heap) (hi:i<vs.length) (hl:vs.length=es.size) (um:a≠I) (vq:∀p,fp=some p->p≠I)
  (hQ:∀h',ItS w I a es ep t vs fp (i+1) h'->am.SameBut I s.heap h'->Q (some vs[i]) {s with heap:=h'}):ai (ag P w) A (dR (.ref I)) Q E s:=by
 obtain⟨f0,hI,hO,hS,hp⟩:=st;have hT:s.TypeIs (.ref I) "set_iterator" := ⟨_,hI,rfl⟩;unfold dR;refine Te (cI (bz (name:=ak.ofString "__next__") hT SF.sNext (aP SF.sNext hT SF.eNext ?_ (SF.aNext _))));have e1:((i:Int)+1)=((i+1:Nat):Int):=by lia
 have fin:∀(E':Zb) (nx:Nat),Ord w ((s.heap.update I (aK.mapFields (·.setIfInBounds 0 (aW nx)))).update I (aK.mapFields (·.setIfInBounds 1 (aW ((i:Int)+1))))) a es ep t (.int nx 0) (i+1) vs ->
   ai (ag P w) A.in1 (do
    cn (.ref I) 0 (aW nx)
    cn (.ref I) 1 (aW ((i:Int)+1))
    ret vs[i]) (λfin s'=>∃r,fin = .done (.ret r)/\ai (ag P w) A (pure (some r)) Q E s') E' s:=λE' nx O=>by
  refine Te (bH hI rfl (by simp) ?_);refine Te (bH (Jt (x:=.none) (j:=0) hI 0 (aW nx)) rfl (by simp) ?_);have g:=am.get?_update_self (aK.mapFields (·.setIfInBounds 1 (aW ((i:Int)+1)))) (Jt (x:=.none) (j:=0) hI 0 (aW nx)) rfl;refine Tf ⟨_,rfl,Tf (hQ _ ⟨_,g.trans ?_,O,hS.at λo q=>?_,λp z=>by cases z⟩ ((Tu ..).trans (Tu ..)))⟩
  ·rw[e1];rfl
  ·rw[((Tu s.heap I _).trans (Tu _ I _)).2 a um];exact q
 refine Xch hI hS (λsl e=>?_) (λp e=>?_) hO.cases0
 ·subst e;cases hO with
  | txt hw e=>
   cases e;have eQ:i<(bS (w.params.setOrder a ep) es).size:=by simpa using hi
   refine Te (Xci hw hS ?_);rw[getElem?_pos _ i eQ];have ev:((bS (w.params.setOrder a ep) es).toList.map (·.2))[i]=((bS (w.params.setOrder a ep) es)[i]).2:=by simp
   have f:=λE'=>fin E' 0 (.txt hw rfl);rw[ev] at f;exact f _
  | drw p os _ _ e _=>cases e
  | one iF hw qk h1 e hz ho=>
   cases e;obtain⟨_,_,_,_,lm⟩:=id hS;have jd:=Xck lm;have i0:i=0:=by
    have:i<es.size:=by rw[<-hl];exact hi
    lia
   subst i0;have z0:=hz rfl;subst z0;have he:0<es.size:=by rw[<-hl];exact hi
   have bL:0<t.place.size:=by rw[jd];exact he
   refine Te (Xcj hw qk h1 hS ?_);have b0:ah.below t.place ((0:Nat):Int).toNat=0:=Xj7 (by rw[jd];exact h1);rw[b0,getElem?_pos es 0 he,getElem?_pos t.place 0 bL];have ev:(es.toList.map (·.2))[0]=(es[0]).2:=by simp
   have f:=λE'=>fin E' (t.place[0]+1) (.one (t.place[0]+1) hw qk h1 rfl (λz=>by cases z) (λj _ q=>by rw[getElem?_pos t.place 0 bL] at q;cases q;rfl));rw[ev] at f;exact f _
 ·subst e;cases hO with
  | txt hw e=>cases e
  | one iF hw qk h1 e hz ho=>cases e
  | drw p' os hw lK e mZ=>
   cases e;obtain⟨n,mZ⟩:=mZ;have fE:i<os.length:=by simpa using hi
   have fC:os[i]<es.size:=Ps.mp (lK.mem_iff.mp (Ph fE));refine Te (rL mZ rfl ?_);have g:((os.map λj=>aa.int (j:Nat) 0).toArray)[i]? = some (.int ((os[i]:Nat):Int) 0):=by simp[fE]
   dsimp only;rw[g];dsimp only;obtain⟨o,ho,hex,hd,lm⟩:=id hS;unfold vp;refine Te (Te (aB ho hd lm ?_));dsimp only;rw[Tj (by simp),show ((os[i]:Nat):Int).toNat=os[i] from Ru _,getElem?_pos es _ fC];refine Tf ?_;refine Te (bH hI rfl (by simp) ?_);have ev:(os.map λj=>((es[j]?).map (·.2)).getD aa.none)[i]=(es[os[i]]).2:=by simp[fC]
   have g2:=Jt (x:=.none) (j:=0) hI 1 (aW ((i:Int)+1));have BJ:p≠I:=vq p (hp p rfl);have q:=hQ (s.heap.update I (aK.mapFields (·.setIfInBounds 1 (aW ((i:Int)+1))))) ⟨_,g2.trans (by rw[e1];rfl),.drw p os hw lK rfl ⟨n,?_⟩,hS.at λo q=>?_,λp' z=>hp p' z⟩ (Tu ..)
   ·rw[ev] at q;exact Tf ⟨_,rfl,Tf q⟩
   ·rw[(Tu s.heap I _).2 p BJ];exact mZ
   ·rw[(Tu s.heap I _).2 a um];exact q
end
section
variable {P:ao}{w:aw}{A:av}{E:Zb}{s:af}{I a:ae}{es:Array (Int×aa)}{ep:Nat}{t:ah}{vs:List aa}{fp:Option ae}
def Xcl{α : Type}{h0:am}{Q}{E'}(hh:A.handled=none)
  (k:∀e h',(∀b o,s.heap.get? b=some o->h'.get? b=some o)->af.TypeIs {s with heap:=h'} e "StopIteration" -> E' e {s with heap:=h'}):
  ai (ag P w) A (do       g9 (<-lU (.type "StopIteration") []):fJ α) Q E' s:=by
 refine Te ?_;simp only[lU,newTuple];refine Te (aD ?_ (by size_fits));refine Te (m:=rM _ _) (fD (a:=aa.none) (by first | rfl | (simp only[rM];rfl)) ?_);refine aD ?_ (by size_fits);simp only[g9];refine Te (wpAny_handled ?_);rw[hh];refine Te (Tf (wpAny_throw ?_));exact k _ _ (λb o q=>Tt _ (Tt _ q)) ⟨_,am.get?_push_size _ rfl,rfl⟩
def Xka(hh:A.handled=none)(st:ItS w I a es ep t vs fp vs.length s.heap)(hl:vs.length=es.size)
    (hQ:∀h',(∀b o,b≠I->s.heap.get? b=some o->h'.get? b=some o)->Q none {s with heap:=h'}):ai (ag P w) A (dR (.ref I)) Q E s:=by
  obtain⟨f0,hI,hO,hS,hp⟩:=st;have hT:s.TypeIs (.ref I) "set_iterator" := ⟨_,hI,rfl⟩;unfold dR;refine Te (cI (bz (name:=ak.ofString "__next__") hT SF.sNext (aP SF.sNext hT SF.eNext ?_ (SF.aNext _))));have yD:A.in1.handled=none:=hh;have nh:∀(e:aa) (h':am),(∀b o,b≠I->s.heap.get? b=some o->h'.get? b=some o)->af.TypeIs {s with heap:=h'} e "StopIteration" ->
      ai (ag P w) A (do       if <-lV e (.type "StopIteration") then pure none else throw e) Q E {s with heap:=h'}:=λe h' k ty=>
    Te (cN (T := "StopIteration") (b:=true) ty isSubtype_stop (Tf (hQ h' k)))
  have ni:∀(f:aK->aK) b o,b≠I->s.heap.get? b=some o->(s.heap.update I f).get? b=some o:=λf b o nb q=>by
    rw[(Tu s.heap I f).2 b nb];exact q
  have fin:∀(Q':PySem.Fin->af->Prop),ai (ag P w) A.in1 (do
        cn (.ref I) 2 .none
        g9 (<-lU (.type "StopIteration") [])) Q' (λe s'=>ai (ag P w) A (do                 if <-lV e (.type "StopIteration") then pure none else throw e) Q E s') s:=λQ'=>by
    refine Te (bH hI rfl (by simp) ?_);refine Xcl (h0:=s.heap) (s:={s with heap:=s.heap.update I (aK.mapFields (·.setIfInBounds 2 aa.none))}) yD λe h' k ty=>?_;exact nh e h' (λb o nb q=>k b o (ni _ b o nb q)) ty
  refine Xch hI hS (λsl e=>?_) (λp e=>?_) hO.cases0
  . subst e;cases hO with
    | txt hw e=>
      cases e;refine Te (Xci hw hS ?_);rw[getElem?_neg _ _ (by simp)];exact fin _
    | drw p os _ _ e _=>cases e
    | one iF hw qk h1 e hz ho=>
      cases e;obtain⟨_,_,_,_,lm⟩:=id hS;have jd:=Xck lm;refine Te (Xcj hw qk h1 hS ?_);have hn:es[ah.below t.place ((iF:Nat):Int).toNat]? = none:=by
        rw[Ru];by_cases h0:es.size=0
        . exact getElem?_neg _ _ (by lia)
        . have e1:es.size=1:=by lia
          have bL:0<t.place.size:=by rw[jd,e1];decide
          have:=ho t.place[0] (by rw[hl,e1]) (getElem?_pos t.place 0 bL);rw[this,Xj8 (by rw[jd];exact h1) (getElem?_pos t.place 0 bL)];exact getElem?_neg _ _ (by lia)
      rw[hn];exact fin _
  . subst e;cases hO with
    | txt hw e=>cases e
    | one iF hw qk h1 e hz ho=>cases e
    | drw p' os hw lK e mZ=>
      cases e;obtain⟨n,mZ⟩:=mZ;refine Te (rL mZ rfl ?_);dsimp only;rw[getElem?_neg _ _ (by simp)];dsimp only;refine Te (bH hI rfl (by simp) ?_);refine Te (bH (Jt (x:=.none) (j:=0) hI 0 (aW 0)) rfl (by simp) ?_);refine Xcl (h0:=s.heap) (s:={s with heap:=(s.heap.update I (aK.mapFields (·.setIfInBounds 0 (aW 0)))).update I (aK.mapFields (·.setIfInBounds 2 aa.none))}) yD λe h' k ty=>?_;refine nh e h' (λb o nb q=>k b o ?_) ty;show ((s.heap.update I _).update I _).get? b=some o;rw[(Tu _ I _).2 b nb];exact ni _ b o nb q
end
namespace SF
def sSelf:Slot "set_iterator" "__iter__" "set_iterator.__iter__" := .of (owner := "set_iterator") (n := "__iter__") (by rw[qj,j7];kernel_rfl) (by decide +kernel) (by decide +kernel) (by decide +kernel) (by first | exact .inl (by decide +kernel) | exact .inr (by decide +kernel)) (by rw[c8];kernel_rfl)
def eSelf:jZ table "set_iterator.__iter__" = some aj.«dict_keyiterator.__iter__»:=g7 (id' := "dict_keyiterator.__iter__") (by kernel_rfl) rfl (by decide +kernel) (by kernel_rfl)
def aSelf(a):rJ "set_iterator.__iter__" ⟨[a],[]⟩:=by unfold rJ;kernel_rfl
end SF
section
variable {P:ao}{w:aw}{A:av}{E:Zb}{s:af}{I a:ae}{es:Array (Int×aa)}{ep:Nat}{t:ah}{vs:List aa}{fp:Option ae}{ks:Za}
def ItS.at{i}(x:ItS w I a es ep t vs fp i h)(k:∀b∈I::a::fp.toList,∀o,h.get? b=some o->h'.get? b=some o):ItS w I a es ep t vs fp i h':=by
 obtain⟨f0,h1,h2,h3,h4⟩:=x;refine⟨f0,k I (by simp) _ h1,?_,h3.at λo q=>k a (by simp) o q,h4⟩;cases h2 with
 | txt e1 e2=>exact .txt e1 e2
 | drw p os e1 e2 e3 e4=>
  obtain⟨n,e4⟩:=e4;exact .drw p os e1 e2 e3 ⟨n,k p (by rw[h4 p e3];simp) _ e4⟩
 | one sl e1 e2 e3 e4 e5 e6=>exact .one sl e1 e2 e3 e4 e5 e6
def Xkb(hh:A.handled=none)(hl:vs.length=es.size)(um:a≠I)(vq:∀p,fp=some p->p≠I):mU P w A I (I::a::fp.toList) [I] vs.length (λi v=>vs[i]? = some v) (ItS w I a es ep t vs fp) where
 sub:=λb hb=>by simp at hb;simp[hb]
 frame:=λ_ _ _ st hk=>st.at hk
 item:=λi s Q E hi st hQ=>by
  refine Xj9 st hi hl um vq λh' a8 sb=>?_;exact hQ vs[i] h' s.toks (by simp[hi]) a8 λb o hb e=>by rw[sb.2 b (λz=>hb (by simp[z]))];exact e
 done:=λs Q E st hQ=>Xka hh st hl λh' k=>hQ h' s.toks λb o hb e=>k b o (λz=>hb (by simp[z])) e
 self:=λi s Q E st hQ=>by
  obtain⟨f0,h1,_⟩:=st;have hT:s.TypeIs (.ref I) "set_iterator" := ⟨_,h1,rfl⟩;refine eM hT SF.sSelf (aP SF.sSelf hT SF.eSelf ?_ (SF.aSelf _));show ai _ _ (ret (.ref I)) _ _ s;exact Tf ⟨_,rfl, "set_iterator",_,hT,SF.sNext.lookup,hQ⟩
def Xkc  (hT:s.TypeIs (.ref r) "set") (h:Q false s):ai (ag P w) A (aj.List.listLengthHint (.ref r)) Q E s:=by
 unfold aj.List.listLengthHint;refine Te (qg hT PySem.F.slot_set_len.lookup ?_);generalize hid:("set.__len__" : String)=BK
 wp_delta
 rw[show splitId BK=some ("set", "__len__") from by subst hid;decide +kernel];subst hid;refine Te (cN (T := "set") (b:=true) hT (by rw[c8];kernel_rfl) ?_);refine cy (λz=>absurd z (by decide)) (λ_=>?_);refine cy (λ_=>?_) (λz=>absurd (by decide +kernel) z);exact Te (bo hT (Tf h))
end
end L2
namespace L2
open PySem.Calls
section
variable {P:ao}{w:aw}{A:av}{E:Zb}{s:af}{a:ae}{ks:Za}
def Xkd  {S:ae} {res:aa} (hh:A.handled=none) (hs:SSet P w s.heap a ks) (nS:S≠a) (gS:s.heap.get? S=some {cls:=.type "list",data:=.seq #[] c0})
  (hR:∀s' acc c vs ls,(∀b o,b≠S->s.heap.get? b=some o->s'.heap.get? b=some o)->s'.os=s.os->s'.gens=s.gens->s'.heap.get? S=some {cls:=.type "list",dict:=none,data:=.seq acc c,slots := #[]}->acc.toList=vs->aC vs ls->ls.Perm ks->R (.ok (.ret res)) s'):
  ai (ag P w) A.in1 (aj.List.listExtendWith (.ref S) (.ref a) res)
   (λfin s'=>match fin with | .done f=>R (.ok f) s' | .again c'=>c'.quiet=true/\bw (ag P w) A c' R s') (λe s'=>R (.error e) s') s:=by
 obtain⟨o,es,ep,t,yE,ho,hex,hd,er,bD,nj,hb,hf,hl,bL⟩:=id hs;have hT:s.TypeIs (.ref a) "set" := ⟨o,ho,hex.1⟩;have la:=Tr ho;have lS:=Tr gS;unfold aj.List.listExtendWith;refine Te (bo (T := "set") hT ?_);have n1:aj.List.listSameRef (.ref S) (.ref a)=false:=by simp[aj.List.listSameRef,nS]
 have n2:(aa.type "set" == aa.type "list")=false:=by decide
 have n3:(aa.type "set" == aa.type "tuple")=false:=by decide
 simp only[n1,n2,n3,Ta,Pe,if_false];refine Te (Xj6 ⟨o,ho,hex,hd,hf⟩ hb hl bL λf0 vs h1 d k1 z1 z2 kp O pv=>?_);have j8:vs.length=es.size:=by rw[pv.length_eq,Od,Os]
 have nI:∀b,b<h1.objs.size->b≠h1.objs.size:=λb q=>Oo q;have kI:∀b o,s.heap.get? b=some o->(h1.push (itO f0 0 a es.size ep)).get? b=some o:=λb o q=>Tt _ (k1 b o q);obtain⟨fp,vt⟩:∃fp:Option ae,(∀p,f0 = .ref p->fp=some p)/\∀p,fp=some p->p≠h1.objs.size/\p≠S:=by
  cases f0 with
  | ref p=>
   refine⟨some p,⟨λq e=>(by cases e;rfl),λq e=>?_⟩⟩;cases e;refine⟨Oo (kp p rfl),λz=>?_⟩;subst z;cases O with
   | drw p' os _ _ e ht=>
    cases e;obtain⟨n,ht⟩:=ht;rw[kI _ _ gS] at ht;have hc:=congrArg aK.cls (Ox ht);exact absurd hc (by simp)
   | txt _ e=>cases e
   | one _ _ _ _ e _ _=>cases e
  | _=>exact⟨none,⟨λq e=>(by cases e),λq e=>(by cases e)⟩⟩
 have cc:ItS w h1.objs.size a es ep t vs fp 0 (h1.push (itO f0 0 a es.size ep)):=⟨f0,am.get?_push_size _ rfl,O,⟨o,kI _ _ ho,hex,hd,hf⟩,vt.1⟩;have W:=Xkb (P:=P) (w:=w) (A:=A.in1) (I:=h1.objs.size) (a:=a) (es:=es) (ep:=ep) (t:=t) (vs:=vs) (fp:=fp) hh j8 (Oo (O4 la z2)) (λp e=>(vt.2 p e).1);have yF:S∉h1.objs.size::a::fp.toList:=by
  simp only[Ou,not_or];refine⟨Oo (O4 lS z2),nS,λz=>?_⟩;cases vw:fp with
  | none=>rw[vw] at z;simp at z
  | some p=>
   rw[vw] at z;have:S=p:=by simpa using z
   exact(vt.2 p vw).2 this.symm
 have dm:∀(h:am) (c1:Nat),ItS w h1.objs.size a es ep t vs fp 0 h->(∀b o,b≠S->s.heap.get? b=some o->h.get? b=some o)->h.get? S=some {cls:=.type "list",data:=.seq #[] c1} ->
   bw (ag P w) A (.builtin "list.extend.loop" ⟨[.ref S,.ref h1.objs.size,res],[]⟩) R {s with heap:=h,drawn:=d}:=by
  intro h c1 lW hk rN;refine codeAny_extend_loopS W.toS (by rw[j8];exact aX hb) S yF res vs.length 0 _ #[] c1 rfl (Pf _) lW rN (ItemsOf.nil _) λs' acc c hm BL dI=>?_;have BM:acc.toList=vs:=by
   apply List.ext_getElem?;intro i;by_cases hi:i<vs.length
   ·have eQ:i<acc.size:=by rw[dI.1];exact hi
    have:=dI.2 i acc[i] (getElem?_pos acc i eQ);rw[this];simp[eQ]
   ·rw[Rr (by rw[Os,dI.1];lia),Rr (by lia)]
  have BN:aC vs (vs.map mX):=y8 vs λv hv=>bD.all v (pv.mem_iff.mp hv);refine hR s' acc c vs (vs.map mX) (λb o nb q=>hm.heap b o (λz=>?_) (hk b o nb q)) hm.os hm.gens BL BM BN ?_
  ·rcases Ou.mp z with z | z
   ·exact nb z
   ·exact absurd (O4 (Tr q) z2) (by rw[Oj.mp z];exact Pz _)
  ·have:=pv.map mX;rw[bD.strs] at this;exact this.trans nj
 have rN:=kI _ _ gS;have vy:af.TypeIs {s with heap:=h1.push (itO f0 0 a es.size ep),drawn:=d} (.ref a) "set" := ⟨o,kI _ _ ho,hex.1⟩;refine Te (az (Xkc vy ?_));refine cy (λ_=>?_) (λ_=>Tf ⟨cH PySem.F.plain_extend_loop _,dm _ c0 cc (λb o _ q=>kI b o q) rN⟩);refine Te (aR (Te ?_));show ai _ _ (JH S (·.push .none) >>= λ_=>JH S (·.pop)) _ _ _;refine Te (qm rN rfl ?_);have yG:=am.get?_update_self (aK.mapSeq (·.push aa.none)) rN rfl;refine qm (hz:=by seq_fits) yG rfl ?_;have BO:=am.get?_update_self (aK.mapSeq (·.pop)) yG rfl;have gA:∀b,b≠S->(((h1.push (itO f0 0 a es.size ep)).update S (aK.mapSeq (·.push aa.none))).update S (aK.mapSeq (·.pop))).get? b=(h1.push (itO f0 0 a es.size ep)).get? b:=λb nb=>
  (am.get?_update_other _ _ (Ne.symm nb)).trans (am.get?_update_other _ _ (Ne.symm nb))
 refine Tf ⟨cH PySem.F.plain_extend_loop _,dm _ _ (cc.at λb vz o q=>?_) (λb o nb q=>?_) BO⟩
 ·rw[gA b (λz=>yF (z ▸ vz))];exact q
 ·rw[gA b nb];exact kI b o q
def Xke(hh:A.handled=none)(hs:SSet P w s.heap a ks)
    (h:∀s' vs ls,(∀b o,s.heap.get? b=some o->s'.heap.get? b=some o)->s'.os=s.os->s'.gens=s.gens->aC vs ls->ls.Perm ks->R vs s'):ai (ag P w) A (collect (.ref a)) R E s:=by
  have la:a<s.heap.objs.size:=by obtain⟨o,_,_,_,_,g,_⟩:=hs;exact Tr g
  unfold collect;refine Te (gz (bN entry_proto_collect' ?_));rw[av.under_plainId PySem.F.plain_proto_collect _];show ai _ A.in1 (newList [] >>= λl=>again (.builtin "list.__iadd__" ⟨[l,aa.ref a],[]⟩)) _ _ s;refine Te (aD ?_);refine Tf ⟨cH PySem.F.plain_list_iadd _,bN entry_list_iadd' ?_⟩;rw[av.under_plainId PySem.F.plain_list_iadd _];have gS:(s.heap.push {cls:=.type "list",data:=.seq ([]:List aa).toArray}).get? s.heap.objs.size=some {cls:=.type "list",data:=.seq #[] 0}:=am.get?_push_size _ rfl;show ai _ A.in1 (aj.List.listExtendWith (.ref s.heap.objs.size) (.ref a) (.ref s.heap.objs.size)) _ _ _;have dm:=Xkd (A:=A) (s:={s with heap:=s.heap.push {cls:=.type "list",data:=.seq ([]:List aa).toArray} }) (S:=s.heap.objs.size) (res:=.ref s.heap.objs.size)
    (R:=λq s'=>∃acc c vs ls,q = .ok (.ret (.ref s.heap.objs.size))/\(∀b o,s.heap.get? b=some o->s'.heap.get? b=some o)/\s'.os=s.os/\s'.gens=s.gens/\s'.heap.get? s.heap.objs.size=some {cls:=.type "list",dict:=none,data:=.seq acc c,slots := #[]}/\acc.toList=vs/\aC vs ls/\ls.Perm ks)
    hh (hs.stay λo q=>Tt _ q) (Sf la) gS (λs' acc c vs ls k e1 e2 g e3 e4 e5=>⟨acc,c,vs,ls,rfl,λb o q=>k b o (Oo (Tr q)) (Tt _ q),e1,e2,g,e3,e4,e5⟩)
  have done:∀(q:qW) (s':af),(∃acc c vs ls,q = .ok (.ret (.ref s.heap.objs.size))/\(∀b o,s.heap.get? b=some o->s'.heap.get? b=some o)/\s'.os=s.os/\s'.gens=s.gens/\s'.heap.get? s.heap.objs.size=some {cls:=.type "list",dict:=none,data:=.seq acc c,slots := #[]}/\acc.toList=vs/\aC vs ls/\ls.Perm ks) ->
      wants (λv s2=>ai (ag P w) A (match v with
        | .ref l=>(do match (<-load l).data with
                        | .seq xs _=>pure xs.toList
                        | _=>unsupported "internal:collect")
        | _=>unsupported "internal:collect") R E s2) E q s':=λq s' ⟨acc,c,vs,ls,e0,k,e1,e2,g,e3,e4,e5⟩=>by
    subst e0;show ai _ A (load s.heap.objs.size >>= _) _ _ s';refine Te (lA g ?_);refine Tf ?_;rw[e3];exact h s' vs ls k e1 e2 e4 e5
  refine aI dm (λfin s' x=>?_) λe s' x=>?_
  . cases fin with
    | done f=>exact done _ _ x
    | again c1=>exact⟨x.1,bi x.2 λq s2 y=>done q s2 y⟩
  . obtain⟨_,_,_,_,e',_⟩:=x;cases e'
end
section
variable {X:Cx}{pins:List (ae×aK)}{Z:St}{H:Hp}{s s':af}
def Inv.moved(I:Inv X pins Z H s)(k:∀b u,s.heap.get? b=some u->s'.heap.get? b=some u)(ho:s'.os=s.os)(hg:s'.gens=s.gens):Inv X pins Z H s':=by
 have J:=I.kept (h':=s'.heap) (t':=s'.toks) k;exact⟨J.ok,ho.trans I.os,by rw[hg];exact I.bare,J.base,J.loc,J.cell,J.free,J.freeC,J.pin,J.hok,J.len⟩
def Inv.laidM  (I:Inv X pins Z H s) (k:∀b u,s.heap.get? b=some u->s'.heap.get? b=some u) (ho:s'.os=s.os) (hg:s'.gens=s.gens) (hp:s.heap.objs.size<=a) (new:A4 X.prog X.w (upd H a o) s'.heap a o):Inv X pins Z (upd H a o) s':=by
 have J:=I.laid (h':=s'.heap) (t':=s'.toks) k hp new;exact⟨J.ok,ho.trans I.os,by rw[hg];exact I.bare,J.base,J.loc,J.cell,J.free,J.freeC,J.pin,J.hok,J.len⟩
end
section
variable {P:ao}{w:aw}{A:av}{E:Zb}{s:af}{ks:Za}
def Mb  (cq:ks.length<64)
  (hc:∀(R:List aa->af->Prop),(∀s' vs ls,(∀b o,s.heap.get? b=some o->s'.heap.get? b=some o)->s'.os=s.os->s'.gens=s.gens->aC vs ls->ls.Perm ks->R vs s')->ai (ag P w) A.in1 (collect (.ref r)) R E s)
  (h:∀(s1 s':af) (vs:List aa) (ls:Za) (e:Nat),(∀b o,s.heap.get? b=some o->s1.heap.get? b=some o)->s1.os=s.os->s1.gens=s.gens->(∀b o,s1.heap.get? b=some o->s'.heap.get? b=some o)->s'.os=s1.os->s'.gens=s1.gens->s'.heap.get? s1.heap.objs.size=some (aq "list" vs.toArray e)->aC vs ls->ls.Perm ks->fW ls=true->Q (.ref s1.heap.objs.size) s'):
  ai (ag P w) A (call (.builtin "sorted") [.ref r]) Q E s:=by
 refine Calls.call_function_entry fF eR eS (vA _) ?_;unfold aj.«sorted»;refine Te (m:=gB "sorted" 1 1 _) (Tf ?_);refine Te (hc _ λs1 vs ls k1 o1 g1 st p=>?_);have hl:vs.length<64:=by rw[st.length,p.length_eq];exact cq
 refine Te (bM ?_ (by rw[Ti];lia));have gL:(s1.heap.push (aq "list" vs.toArray 0)).get? s1.heap.objs.size=some (aq "list" vs.toArray 0):=am.get?_push_size _ rfl;refine Te (az (aP (s:={s1 with heap:=s1.heap.push (aq "list" vs.toArray 0)}) dA ⟨_,gL,rfl⟩ cZ (list_sort_treeK strKind_oneLt gL st.keysOf (λa b rest e=>keyKind_strs (by rw[<-e];exact st)) hl λa8 pp so=>⟨_,rfl,?_⟩) (rO _)));obtain⟨qi,a1,a2,a3⟩:=sorted_out_str st pp so;obtain⟨e,he⟩:=sortedHeap_at (out:=(be a8).map (·.2)) gL;refine Tf ⟨_,rfl,h s1 _ ((be a8).map (·.2)).toList qi e k1 o1 g1 (λb o q=>?_) rfl rfl he a1 (a2.trans p) a3⟩;have lt:=Tr q;show (BP (s1.heap.push (aq "list" vs.toArray 0)) s1.heap.objs.size vs ((be a8).map (·.2))).get? b=some o;rw[sortedHeap_old (Oo lt) (by rw[bq];exact Pu lt)];exact Tt _ q
end
def Ew (P:ao) (w:aw) (a:ae) (ks:Za):HO:=.ext λh=>SSet P w h a ks
def Xcm  (h:aC vs ss):Vals (ss.map V.str) vs:=by
 induction h with
 | nil=>exact .nil
 | cons x t _ ih=>exact .cons ⟨t,rfl⟩ ih
theorem F9:∀{ss:Za} {vs:List aa},Vals (ss.map V.str) vs->aC vs ss
 | [],_,r=>by cases r;exact .nil
 | x::ss,_,r=>by
  cases r with
  | cons r1 r2=>
   obtain⟨t,rfl⟩:=r1;exact .cons x t (F9 r2)
section
variable {X:Cx}
def Ht:X.calm=true->Bv X (.type "set") (λxs H Q=>∃p ss,xs=[.ref p]/\(SqL X.K H p (ss.map V.str)\/SqT X.K H p (ss.map V.str))/\ss.length+1<aU/\∀a,H a=none->Q (.ref a) (upd H a (Ew X.prog X.w a (ddup ss)))):=by
 intro bv pins s Z H xs us Q I r h;obtain⟨p,ss,rfl,hq,hb,q⟩:=h;obtain⟨u,rfl,rx⟩:=Bw r;cases rx;obtain⟨a7,r',o6⟩:∃a7:List aa,Vals (ss.map V.str) a7/\Src s.heap p a7.toArray:=by
  rcases hq with hq | hq
  ·obtain⟨a7,r',pl,_⟩:=I.list hq;exact⟨a7,r',.lst pl.isList⟩
  ·obtain⟨a7,r',pl,_⟩:=I.tuple hq;exact⟨a7,r',.tup pl⟩
 refine Xj2 (I.ok.hd bv) o6 (F9 r') hb λh' tk S k=>?_;refine⟨.ref s.heap.objs.size,_,I.laidM (s':={s with heap:=h',toks:=tk}) k rfl rfl (Og _) ?_,rfl,q _ (I.hok.fresh (Og _))⟩;exact⟨S,by obtain⟨o,_,_,_,_,g,_⟩:=S;exact⟨o,g⟩,λh1 h2 S1 kk=>S1.stay kk⟩
def Mc    {s s1 s':af}    (I:Inv X pins Z H s) (cq:ks.length<64) (k1:∀b o,s.heap.get? b=some o->s1.heap.get? b=some o) (o1:s1.os=s.os) (g1:s1.gens=s.gens)
  (k2:∀b o,s1.heap.get? b=some o->s'.heap.get? b=some o) (o2:s'.os=s1.os) (g2:s'.gens=s1.gens) (he:s'.heap.get? s1.heap.objs.size=some (aq "list" vs.toArray e)) (st:aC vs ls) (p:ls.Perm ks)
  (q:∀l,H l=none->Q (.ref l) (upd H l (.lst (ls.map V.str)))):EP X pins Z Q (.ref s1.heap.objs.size) s':=by
 have I1:=I.moved k1 o1 g1;refine⟨.ref s1.heap.objs.size,_,I1.laidM k2 o2 g2 (Og _) (show A4 X.prog X.w _ s'.heap _ (.lst (ls.map V.str)) from ⟨?_,vs,e,Xcm st,he⟩),rfl,q _ (I1.hok.fresh (Og _))⟩;rw[Od,p.length_eq,Ti]
 lia
def Ju:X.calm=true->Bv X (.builtin "sorted") (λxs H Q=>∃a ks,xs=[.ref a]/\H a=some (Ew X.prog X.w a ks)/\ks.length<64/\∀l ls,H l=none->ls.Perm ks->fW ls=true->Q (.ref l) (upd H l (.lst (ls.map V.str)))):=by
 intro bv pins s Z H xs us Q I r h;obtain⟨a,ks,rfl,ha,cq,q⟩:=h;obtain⟨u,rfl,rx⟩:=Bw r;cases rx;obtain⟨S,_⟩:=(show A4 X.prog X.w H s.heap a (.ext λh=>SSet X.prog X.w h a ks) from I.hok a _ ha);refine Mb cq (λR k=>Xke (by show X.A.in1.handled=none;simp[I.ok.hd bv]) S k) λs1 s' vs ls e k1 o1 g1 k2 o2 g2 he st p so=>?_;exact Mc I cq k1 o1 g1 k2 o2 g2 he st p λl hl=>q l ls hl p so
end
def Inv.turned2        (I:Inv X pins Z H s) (k:∀b o,b≠e1->b≠e2->s.heap.get? b=some o->h'.get? b=some o) (f1:FpOk X pins H e1) (f2:FpOk X pins H e2):Inv X pins Z H {s with heap:=h',toks:=t'}:=by
 have no:∀b u,H b=some u->b≠e1/\b≠e2:=λb u q=>⟨λz=>(by rw[z,f1.1] at q;cases q),λz=>(by rw[z,f2.1] at q;cases q)⟩;have nn:∀b,b∉[e1,e2]->b≠e1/\b≠e2:=λb hb=>by simpa using hb
 refine I.step (g':=s.gens) (d':=s.drawn) (ch:=[e1,e2]) (λb hb=>?_) (λb o _ _ hc q _=>k b o (nn b hc).1 (nn b hc).2 q) (λb o _ _ hc q _=>⟨o.slots,k b o (nn b hc).1 (nn b hc).2 q⟩) (λ_ _ _ _ n=>n) (λb o hc q=>⟨o,k b o (nn b hc).1 (nn b hc).2 q⟩) (λ_ _ q=>q) (λ_ _ _ q=>q) (λb ps q=>⟨#[],by rw[q];simp⟩) (λm hm=>?_) (λb u q=>?_) I.bare
 ·have dF:b=e1\/b=e2:=by simpa using hb
  rcases dF with z | z
  ·subst z;exact⟨f1.2.2.2.1,f1.2.1,f1.2.2.2.2.1,f1.2.2.2.2.2⟩
  ·subst z;exact⟨f2.2.2.2.1,f2.2.1,f2.2.2.2.2.1,f2.2.2.2.2.2⟩
 ·obtain⟨o,es,ep,ho,r⟩:=hm;exact⟨o,es,ep,k _ o (Ne.symm f1.2.1) (Ne.symm f2.2.1) ho,r⟩
 ·refine(I.hok b u q).stay (λc v hc z=>k c v ?_ ?_ z) (λ_ z=>z) λ_ _ z=>z
  ·rcases hc with y | y
   ·rw[y];exact(no b u q).1
   ·exact(no c _ y).1
  ·rcases hc with y | y
   ·rw[y];exact(no b u q).2
   ·exact(no c _ y).2
def Ite (K:LD) (a:ae):It:=
 ⟨λi H=>∃xs x,SqL K H a xs/\xs[i]? = some x,λi H x H'=>∃tp,x = .ref tp/\H tp=none/\∀xs,SqL K H a xs->∃y,xs[i]? = some y/\H'=upd H tp (.tup [.int i,y]),λi H=>∃xs,SqL K H a xs/\xs.length<=i⟩
def Xkf{P:ao}{w:aw}{K:LD}{es:List aE}{k:Nat}{p:bI}(a e it:ae)(ne:e≠it):Turn P w K (.Tuple es k p) (Ite K a) [e,it] e (λi h=>(∃iq,IsEnum h e it i iq)/\h.IsListIter it a i) where
 mem:=by simp
 obj:=λi h st b hb=>by
  have dF:b=e\/b=it:=by simpa using hb
  rcases dF with z | z
  ·subst z;obtain⟨⟨iq,q⟩,_⟩:=st;exact⟨_,q,λv z=>by
    have z':vb.fields _=vb.cell v:=z;cases z'⟩
  ·subst z;obtain⟨o,q,c,d⟩:=st.2;exact⟨o,q,λv z=>by rw[d] at z;cases z⟩
 keep:=λi h h' st k=>by
  obtain⟨⟨iq,q⟩,l⟩:=st;exact⟨⟨iq,k e (by simp) _ q⟩,l.at λo z=>k it (by simp) o z⟩
 item:=by
  intro X hP hw hK hc i pins s Z H E I hf st hg;subst hP hw hK;obtain⟨xs,x,hq,hx⟩:=hg;obtain⟨a7,rv,pl,hz⟩:=I.list hq;obtain⟨u,hu,ru⟩:=rv.get hx;have f1:=hf e (by simp);have f2:=hf it (by simp);obtain⟨⟨iq,q⟩,l⟩:=st;refine wpAny_pyNext_enum_item q l pl.isList (x:=u) (by simpa using hu) ne λh' qo l' tp sz kk=>?_;have I1:Inv X pins Z H {s with heap:=h',toks:=s.toks+1}:=I.turned2 kk f1 f2;refine⟨_,rfl,?_⟩;have le:e<s.heap.objs.size:=Tr q;obtain⟨ol,ul,_⟩:=id l;have lit:it<s.heap.objs.size:=Tr ul;unfold cw;refine Te (lA qo ?_);dsimp only;rw[Tk (by simp[aW])];refine Te (aR ?_);show ai _ _ (cn (.ref e) 0 .none) _ _ _;refine bH qo rfl (by simp) ?_;have g:=am.get?_update_self (aK.mapFields (·.setIfInBounds 0 aa.none)) qo rfl;have sb:=Tu h' e (aK.mapFields (·.setIfInBounds 0 aa.none));have I2:Inv X pins Z (upd H s.heap.objs.size (.tup [.int i,x])) {s with heap:=h'.update e (aK.mapFields (·.setIfInBounds 0 aa.none)),toks:=s.toks+1}:=by
   have J:=I.laid (a:=s.heap.objs.size) (o:=.tup [.int i,x]) (h':=s.heap.push {cls:=.type "tuple",data:=.seq #[.int i s.toks,u]}) (t':=s.toks+1) (λb o z=>Tt _ z) (Og _) (show A4 X.prog X.w _ _ _ (.tup [.int i,x]) from ⟨by show 2<=sizeLine;decide,[.int i s.toks,u],.cons ⟨_,rfl⟩ (.cons ru .nil),cW.new _ _⟩);have g1:FpOk X pins (upd H s.heap.objs.size (.tup [.int i,x])) e:=⟨by rw[Ae (Oo le)];exact f1.1,f1.2⟩;have g2:FpOk X pins (upd H s.heap.objs.size (.tup [.int i,x])) it:=⟨by rw[Ae (Oo lit)];exact f2.1,f2.2⟩;refine J.turned2 (λb o n1 n2 z=>?_) g1 g2;show (h'.update e _).get? b=some o;rw[sb.2 b n1];by_cases hb:b=s.heap.objs.size
   ·subst hb;have z':(s.heap.push {cls:=.type "tuple",data:=.seq #[.int i s.toks,u]}).get? s.heap.objs.size=some o:=z;rw[am.get?_push_size _ rfl] at z';cases z';exact tp
   ·have z':(s.heap.push {cls:=.type "tuple",data:=.seq #[.int i s.toks,u]}).get? b=some o:=z;rw[am.get?_push_ne _ _ _ hb] at z';exact kk b o n1 n2 z'
  refine⟨.ref s.heap.objs.size,_,I2,rfl,⟨_,rfl,I.hok.fresh (Og _),λys hy=>⟨x,by rw[I.list_inj hy hq];exact hx,rfl⟩⟩,⟨⟨u,g.trans ?_⟩,l'.at λo z=>?_⟩,λb hb=>?_⟩
  ·rfl
  ·rw[sb.2 it (Ne.symm ne)];exact z
  ·have dF:b=e\/b=it:=by simpa using hb
   rcases dF with z | z
   ·subst z;rw[Ae (Oo le)];exact f1.1
   ·subst z;rw[Ae (Oo lit)];exact f2.1
 done:=by
  intro X hP hw hK hc i pins s Z H E I hf st hg;subst hP hw hK;obtain⟨xs,hq,hx⟩:=hg;obtain⟨a7,rv,pl,hz⟩:=I.list hq;have hl:=rv.length;have f2:=hf it (by simp);obtain⟨⟨iq,q⟩,l⟩:=st;exact wpAny_pyNext_enum_end (I.ok.hd hc) q l pl.isList (by simp;lia) λh' eb=>⟨rfl,I.turned (t':=s.toks) (λb o hb z=>eb b o hb z) f2.1 f2.2.1 f2.2.2.2.1 f2.2.2.2.2.1 f2.2.2.2.2.2⟩
 self:=λ_ _ _ _ _ st h=>by
  obtain⟨⟨iq,q⟩,_⟩:=st;exact ny q h
def Xkg (K:LD) (ta:TA):TI:=fun Z H R=>ta Z H λvs H1=>∃a,vs=[.ref a]/\(∃xs,SqL K H1 a xs)/\R (Ite K a) H1
def Xkh       (hg:Gl X "enumerate") (hm:X.mg "enumerate" = none) (ha:PA X [l] ta) (hs:aA [l] X.env=[(false,eval l X.env)]:=by rfl):PI X (.Tuple es k p2) (.Call (.Name "enumerate" p) [l] [] pos) (Xkg X.K ta):=by
 intro pins s Z H R I h;refine Call_ (E9 I hg hm (show bA "enumerate" = some (.type "enumerate") by decide +kernel) (PyProof.Rows.callWith_type1 (thn (ha pos pins s Z H _ I h) λus s1 ⟨vs,H1,I1,r1,q1⟩=>?_) hs rfl));obtain⟨a,e,⟨xs,hq⟩,q⟩:=q1;subst e;cases r1 with
 | cons r rr=>
  cases rr;cases r;obtain⟨a7,rv,pl,hz⟩:=I1.list hq;refine call_enumerate_list pl.isList λh' qe ql sz kk=>?_;refine ny qe ?_;have I2:Inv X pins Z H1 {s1 with heap:=h'}:=I1.kept (t':=s1.toks) kk;refine⟨_,[s1.heap.objs.size+1,s1.heap.objs.size],_,_,H1,rfl,I2,Xkf a _ _ (Nat.succ_ne_self _),⟨⟨_,qe⟩,ql⟩,λb hb=>?_,q⟩;have dF:b=s1.heap.objs.size+1\/b=s1.heap.objs.size:=by simpa using hb
  rcases dF with z | z
  ·subst z;exact I1.fpOk (Qh _) (I1.hok.fresh (Qh _))
  ·subst z;exact I1.fpOk (Og _) (I1.hok.fresh (Og _))
section
variable {X:Cx}{es:List aE}{t:St->Hp->(Hp->Prop)->Prop}{e:aE}{te:TE}{pos:bI}
def Xki (te:TE) (t:St->Hp->(Hp->Prop)->Prop):St->Hp->(Hp->Prop)->Prop:=fun Z H Q=>te Z H λx H1=>∃z,x = .str z/\z.length<=400/\(∀c∈z.cps.toList,c<16 ^ 8)/\t Z H1 Q
def Xkj(ha:PE X e te)(h:PJ X es t)(he:c7 (.FormattedValue e 114 none p::es) X.env=eval (.FormattedValue e 114 none p) X.env::c7 es X.env:=by rfl):PJ X (.FormattedValue e 114 none p::es) (Xki te t):=by
 intro out pins s Z H Q I hw hl;rw[he];rw[O2] at hl;refine gt (gZ (thn (ha pins s Z H _ I hw) λv s1 ⟨x,H1,I1,r1,q1⟩=>?_));obtain⟨z,ez,h1,h2,q⟩:=q1;subst ez;obtain⟨tk,rfl⟩:=r1;have hz:=StrLaws.reprText_len z h2;have vB:(eT z).length<=sizeLine:=by rw[Ti];lia
 refine wpAny_pyReprObj_str ?_ vB;refine qp (λt' k=>⟨by rw[Fl];lia,?_⟩) vB;exact h _ pins _ Z H1 Q ((I1.tok _).tok _) q (by rw[Fl];lia)
theorem Xcn:∀ss l,l.length=ss.length->(∀i (hi:i<ss.length),∃t,l[i]? = some (.str ss[i] t))->aC l ss
 | [],l,e,_=>by rw[Pr.mp e];exact .nil
 | y::ys,[],e,_=>by cases e
 | y::ys,v::vs,e,iw=>by
  obtain⟨t,q⟩:=iw 0 (by simp);have:v = .str y t:=by simpa using q
  subst this;refine .cons y t (Xcn ys vs (by simpa using e) λi hi=>?_);obtain⟨t',e'⟩:=iw (i+1) (by simpa using hi);exact⟨t',by simpa using e'⟩
def Xco:X.calm=true->Bv X (.builtin "sorted") (λxs H Q=>∃d kvs ss,xs=[.ref d]/\Rd H d (.dK kvs)/\kvs.map (·.1)=ss.map (λx=>(Sum.inr x:Key))/\ss.length<64/\∀l ls,H l=none->ls.Perm ss->fW ls=true->Q (.ref l) (upd H l (.lst (ls.map V.str)))):=by
 intro bv pins s Z H xs us Q I r h;obtain⟨d,kvs,ss,rfl,hd,hk,cq,q⟩:=h;obtain⟨u,rfl,rx⟩:=Bw r;cases rx;obtain⟨hz,hm,vs,rv,o,es,ep,ho,hex,BQ,hr⟩:=Eu I.hok hd;have je:kvs.length=ss.length:=by have:=congrArg List.length hk;simpa using this
 have j8:vs.length=ss.length:=by rw[<-je];exact(Paired.length rv).symm
 have BR:vs.map (·.1)=ss.map (λx=>(Sum.inr x:Key)):=by rw[<-hk];exact rv.keys.symm
 have iw:∀acc:Array aa,ItemsOf (λi v=>∃k x,vs[i]? = some (k,x)/\(Be X.prog X.w).is k v=true) acc vs.length->aC acc.toList ss:=λacc dI=>by
  refine Xcn ss _ (by rw[Os,dI.1,j8]) λi hi=>?_;have eQ:i<acc.size:=by rw[dI.1,j8];exact hi
  obtain⟨k',x,hx,BS⟩:=dI.2 i acc[i] (getElem?_pos acc i eQ);have j4:k'=Sum.inr ss[i]:=by
   have:=congrArg (λl=>l[i]?) BR;simp only[Ov,hx,Qy,Oe hi] at this;exact Ox this
  subst j4;obtain⟨t,e⟩:=aa.isStrOf_shape BS;exact⟨t,by rw[Rs,getElem?_pos acc i eQ,e]⟩
 refine Mb cq (λR kR=>PySem.W.kdu_collect (PySem.W.kdl_dict (knd:=Be X.prog X.w) (kvs:=vs) (ep:=ep) hm) (by show X.A.in1.handled=none;simp[I.ok.hd bv]) ⟨o,es,ho,hex,BQ,hr⟩ (by rw[j8,Ti];lia) (λh' tk acc kk dI=>kR {s with heap:=h',toks:=tk} acc.toList ss kk rfl rfl (iw acc dI) (Qd _)))
  λs1 s' vs ls e k1 o1 g1 k2 o2 g2 he st p so=>Mc I cq k1 o1 g1 k2 o2 g2 he st p λl hl=>q l ls hl p so
def rSlS:V->Option Int->Option Int->Hp->VK->Prop:=λx lo hi H Q=>∃z,x = .str z/\lo=none/\(∃j,hi=some j)/\z.length<=1000/\Q (.str (Txt.slice z lo hi)) H
def Xkk:SlR X rSlS:=by
 intro pins s Z H x v vl vu lo hi sl Q I rx hs pl pu h;obtain⟨z,rfl,rfl,⟨j,rfl⟩,hz,q⟩:=h;obtain⟨tz,rfl⟩:=rx;cases pl;cases pu;rename_i tu;refine⟨"str",_,PySem.F.slot_str_getitem.lookup,lF _ _ _,wpAny_getItem_str_slice (l:=none) (u:=some (j,tu)) (st:=none) hs rfl (post_val_or_str ⟨?_,λt' k=>?_⟩)⟩
 ·exact Pj (Txt.slice_le z none (some j)) (by rw[Ti];lia)
 ·exact⟨.str (Txt.slice z none (some j)),H,I.tok _,⟨t',rfl⟩,q⟩
end
end L2
set_option maxHeartbeats 4000000
namespace L2
def leS (x y:ak):Prop:=x.cps.toList<=y.cps.toList
def Xkl{x y:ak}(h:x.cps.toList=y.cps.toList):x=y:=by
 obtain⟨⟨a⟩⟩:=x;obtain⟨⟨b⟩⟩:=y;have:a=b:=h;rw[this]
def Xcp(h:leS x y)(g:leS y x):x=y:=Xkl (List.le_antisymm h g)
def Xcq(h:leS x y)(g:leS y z):leS x z:=List.le_trans h g
def Md(x y):leS x y\/leS y x:=List.le_total _ _
def ltS (x y:ak):Prop:=x.cps.toList<y.cps.toList
instance (x y:ak):Decidable (ltS x y):=inferInstanceAs (Decidable (x.cps.toList<y.cps.toList))
instance (x y:ak):Decidable (leS x y):=inferInstanceAs (Decidable (x.cps.toList<=y.cps.toList))
def Jv(x):¬ltS x x:=List.lt_irrefl _
def Jw(h:ltS x y)(g:ltS y z):ltS x z:=List.lt_trans h g
def Me:¬ltS x y↔leS y x:=List.not_lt
def ltS_of(h:leS x y)(n:x≠y):ltS x y:=by
 by_cases q:ltS x y
 ·exact q
 ·exact absurd (Xcp h (Me.mp q)) n
def Xcr(h:ltS x y):leS x y:=List.le_of_lt h
def Hu(h:ltS x y):x≠y:=λe=>Jv y (e ▸ h)
theorem Xcs:∀l p,risingS p l=true->(p::l).Pairwise leS
 | [],p,_=>by simp
 | x::r,p,h=>by
  have h':(!ltCps x.cps.toList p.cps.toList&&risingS x r)=true:=h;rw[Oy,ltCps_eq] at h';have ih:=Xcs r x h'.2;have yH:leS p x:=by
   have:=h'.1;simp only[S6,decide_eq_false_iff_not] at this;exact this
  refine Q9.mpr ⟨λy hy=>?_,ih⟩;rcases Ou.mp hy with e | e
  ·rw[e];exact yH
  ·exact Xcq yH ((Q9.mp ih).1 y e)
theorem Xct:∀l,fW l=true->l.Pairwise leS
 | [],_=>by simp
 | x::r,h=>Xcs r x h
theorem Ex:∀{a b:Za},a.Perm b->a.Pairwise leS->b.Pairwise leS->a=b
 | [],b,p,_,_=>by rw[List.nil_perm.mp p]
 | x::a,[],p,_,_=>by have:=p.length_eq;simp at this
 | x::a,y::b,p,ha,hb=>by
  obtain⟨a1,a2⟩:=Q9.mp ha;obtain⟨b1,b2⟩:=Q9.mp hb;have e:x=y:=by
   have hx:x∈y::b:=p.mem_iff.mp Op;have hy:y∈x::a:=p.mem_iff.mpr Op;rcases Ou.mp hx with e | hx
   ·exact e
   ·rcases Ou.mp hy with e | hy
    ·exact e.symm
    ·exact Xcp (a1 y hy) (b1 x hx)
  subst e;rw[Ex (List.Perm.cons_inv p) a2 b2]
def srt (l:Za):Za:=l.mergeSort λx y=>decide (leS x y)
def Cu(l):(srt l).Perm l:=List.mergeSort_perm ..
def Dx(l):(srt l).Pairwise leS:=by
 have h:=List.pairwise_mergeSort (le:=λx y=>decide (leS x y)) (λa b c h1 h2=>Tl (Xcq (Tp h1) (Tp h2)))
  (λa b=>by rcases Md a b with h | h<;>simp[h]) l
 exact h.imp λh=>Tp h
def Ga(p:ls.Perm ks)(h:fW ls=true):ls=srt ks:=Ex (p.trans (Cu ks).symm) (Xct _ h) (Dx _)
def Mf(p:a.Perm b):srt a=srt b:=Ex ((Cu a).trans (p.trans (Cu b).symm)) (Dx _) (Dx _)
def Fm  : x∈srt l↔x∈l:=(Cu l).mem_iff
def dit (row:Za):Za:=srt (ddup row)
def An  : x∈dit row↔x∈row:=Fm.trans (L9 row x)
def Gb(row):(dit row).Nodup:=(Cu _).nodup_iff.mpr (Hr row)
def Dm(row):(dit row).Pairwise ltS:=by
 have h1:=Dx (ddup row);have h2:(dit row).Pairwise (· ≠ ·):=Gb row;exact(h1.and h2).imp λh=>ltS_of h.1 h.2
def Fo(row):(dit row).length<=row.length:=by
 have:=(Cu (ddup row)).length_eq;have h:=Hs row;unfold dit
 lia
def Hv{a b:Za}(ha:a.Nodup)(hb:b.Nodup)(h:∀x,x∈a↔x∈b):a.Perm b:=(List.perm_ext_iff_of_nodup ha hb).mpr h
def Xcu(p:ls.Perm ks)(h:fW ls=true)(nd:ks.Nodup)(m:∀x,x∈ks↔x∈row):ls=dit row:=
 Ex (p.trans ((Hv nd (Hr row) λx=>(m x).trans (L9 row x).symm).trans (Cu _).symm)) (Xct _ h) (Dx _)
structure Fn (P:ao) (w:aw) (K:LD) (mg:ak->Option aa) (base:am) (CX:CXT) (k:Nat) (x:ak) (ps:Za) (sp:Sp):Prop where
 ex:∃f fd,mg x=some (.ref f)/\LL K (.ref f)=true/\Binds K fd ps []/\FnOk P w K mg base CX k f fd ps sp
section
variable {X:Cx}{CX:CXT}{k:Nat}{ps:Za}{sp:Sp}{E:XK}{x:ak}{p pos:bI}{e:aE}{es:List aE}{t:TA}
def Ak(F:Fn X.prog X.w X.K X.mg X.base CX k x ps sp)(hr:Room k X.A)(hg:Gl X x)(hx:Passes CX X E)
  (ha:PA X (e::es) t) (gj:(x==("__debug__" : ak))=false:=by decide) (he:aA (e::es) X.env=(false,eval e X.env)::aA es X.env:=by rfl) (bL:(bx pos (aA es X.env)).any (·.1)=false:=by rfl):
  PE X (.Call (.Name x p) (e::es) [] pos) (Lm sp [] E t):=by
 obtain⟨f,fd,hm,hk,hb,hF⟩:=F.ex;exact Xh4 hF hr hg hm hk hb .nil hx ha gj he bL
def Xkm{st}{rest}   (P:St->Hp->Prop)(h2:∃u,PSs X rest u/\∀Z' H',P Z' H'->u D Z' H')
  (h1:∀nx,(∀Z' H',P Z' H'->nx Z' H')->∃t,PS X st t/\t {D with nx:=nx} Z H):∃t,PSs X (st::rest) t/\t D Z H:=by
 obtain⟨u,hu,ru⟩:=h2;obtain⟨t,ht,rt⟩:=h1 (u D) ru;exact⟨Fc t u,Ag ht hu,rt⟩
end
def A2{A B:Prop}(h1:c=true->A)(h2:c=false->B):if c=true then A else B:=by
 cases c with
 | true=>exact B3 (h1 rfl)
 | false=>exact Bn (h2 rfl)
def Same.upd{H H':Hp}{a:ae}{o:HO}(s:Same H H')(h:H a=none):Same H (upd H' a o):=λb u e=>by
 rw[Ae (Av e h)];exact s b u e
def Same.upd0   (h:H a=none):Same H (L2.upd H a o):=(Same.refl H).upd h
def ku  {o u} (h:H b=some o) (hp:H p=none):upd H p u b=some o:=by
 rw[Ae (Av h hp)];exact h
def Same.step  {o} (s:Same H H1) (hp:H1 p=none):Same H (L2.upd H1 p o):=s.upd (s.free hp)
def Same.go{p q}{o}(s:Same H H1)(hp:H1 p=none)(hq:L2.upd H1 p o q=none):Same H (L2.upd H1 p o):=s.step hp
def Gc{α : Type}(f)(xs:List α)(b)(hb:b<=xs.length):Bx (xs.map f) none (some (b:Int))=(xs.take b).map f:=by
 unfold Bx;rw[HT.sIx_none,Rc,HT.sIx_nat,Od,List.map_take,Su,Qz hb]
def Ge{α : Type}(f)(xs:List α)(a)(ha:a<=xs.length):Bx (xs.map f) (some (a:Int)) none=(xs.drop a).map f:=by
 unfold Bx;rw[HT.sIx_none,HT.sIx_nat,Od,Qz ha,List.map_drop];exact Pk (by rw[Pw,Od];lia)
def Xkn{α : Type}(f)(xs:List α)(a b)(eU:a<=b)(hb:b<=xs.length):Bx (xs.map f) (some (a:Int)) (some (b:Int))=((xs.drop a).take (b - a)).map f:=by
 unfold Bx;rw[HT.sIx_nat,HT.sIx_nat,Od,Qz hb,Qz (Pj eU hb),List.map_take,List.map_drop]
def Xcv (rP:bE) (fN N:Za) (cap:List (Option Nat)) (scope:bE):Bool:=
 (scope.names.all λy=>decide (scope.names.lookup y.1=some y.2)) &&
 (scope.names.all λy=>decide (y.2 ≠ .free)||decide (rP.names.lookup y.1=some .cell)||decide (rP.names.lookup y.1=some .free))&&decide (cap.length=N.length) &&
 ((List.range N.length).all λi=>match cap[i]?,N[i]? with
  | some (some j),some x=>decide (fN[j]? = some x)&&decide (scope.names.lookup x=some .free)
  | _,_=>true)
def CompScope.of   {cap} (rP) (fN) (h1:X.env.scope=rP) (h2:X.N=fN) (hk:scope.kind = .function) (h:Xcv rP fN N cap scope=true):CompScope X N cap scope:=by
 unfold Xcv at h;simp only[Oy,O8,Q3,decide_eq_true_eq] at h;obtain⟨⟨⟨a1,a3⟩,a4⟩,a5⟩:=h;refine⟨hk,a1,λy hy e=>?_,a4,λi x j hN hc=>?_⟩
 ·show X.env.scope.names.lookup y.1=some .cell\/X.env.scope.names.lookup y.1=some .free;rw[h1];rcases a3 y hy with (z | z) | z
  ·exact absurd e z
  ·exact .inl z
  ·exact .inr z
 ·have hi:i<N.length:=(Oz.mp hN).1;have q:=a5 i (Ps.mpr hi);rw[hc,hN] at q;simp only[Oy,decide_eq_true_eq] at q;rw[h2];exact q
section
variable {X:Cx}
def Xko(K)(h:X.K=K):Bv X (.builtin "isinstance") (λxs H Q=>∃x c t cv b,xs=[x,c]/\TyOf K H x t/\L7 c=some cv/\LI K t cv=some b/\Q (.bl b) H):=by subst h;exact Xb9
def Xkp       (n:Nat) (vs:Nat->V) (Pv:ae->Nat->St->Hp->Prop)
  (h0:∀D,H1 D=none->Pv D 0 (Bs cap Z) (upd H1 D (.lst [])))
  (gu:∀D i Z2 H2,H1 D=none->i<n->Pv D i Z2 H2->J.go i H2/\∀x H3,J.yld i H2 x H3->H3=H2/\x=vs i)
  (bD:∀D Z2 H2,H1 D=none->Pv D n Z2 H2->J.stop n H2)
  (step:∀D i Z1 H2,H1 D=none->i<n->Pv D i Z1 H2->te (Z1.set j (some (vs i))) H2 λy H6=>∃ys,H6 D=some (.lst ys)/\ys.length<sizeLine/\∃m',m'<n - i/\wN n (Pv D) (i+1) m' (Z1.set j (some (vs i))) (upd H6 D (.lst (ys++[y]))))
  (hd:∀D Z2 H2,H1 D=none->Pv D n Z2 H2->F D H2):Ee cap (A7 j) Ed te J Z H1 F:=
 F8 n vs Pv h0 gu bD (λD i Z1 H2 a b c=>by
  show if true=true then te (Z1.set j (some (vs i))) H2 (λy H6=>∃ys,H6 D=some (.lst ys)/\ys.length<sizeLine/\∃m',m'<n - i/\wN n (Pv D) (i+1) m' (Z1.set j (some (vs i))) (upd H6 D (.lst (ys++[y])))) else ∃m',m'<n - i/\wN n (Pv D) (i+1) m' (Z1.set j (some (vs i))) H2
  rw[Tk rfl];exact step D i Z1 H2 a b c) hd
def Dy(K)(h:X.K=K):IxR X (Lr K):=by subst h;exact G6
def Jx(K)(h:X.K=K):OpR X (aF .In) (rIn K false):=by subst h;exact Ls
def Xcw(K)(h:X.K=K):OpR X (aF .NotIn) (rIn K true):=by subst h;exact Jm
end
def Ey       {j} (n:Nat) (hn:n<sizeLine) (vs:Nat->V) (ok:Nat->Bool) (ys:Nat->V)
  (gu:∀i H2,i<n->Same H1 H2->J.go i H2/\∀x H3,J.yld i H2 x H3->H3=H2/\x=vs i)
  (bD:∀H2,Same H1 H2->J.stop n H2)
  (rQ:∀i H2 Q,i<n->Same H1 H2->(∀H',Same H2 H'->Q (ok i) H')->tt ((Bs cap Z).set j (some (vs i))) H2 Q)
  (step:∀i H2 Q,i<n->ok i=true->Same H1 H2->(∀H',Same H2 H'->Q (ys i) H')->te ((Bs cap Z).set j (some (vs i))) H2 Q)
  (hd:∀D H2,H1 D=none->Same H1 H2->H2 D=some (.lst (((List.range n).filter ok).map ys))->F D H2):Ee cap (A7 j) tt te J Z H1 F:=by
 refine F8 n vs (λD i Z2 H2=>(∀v, Z2.set j v=(Bs cap Z).set j v)/\Same H1 H2/\H2 D=some (.lst (((List.range i).filter ok).map ys))) ?_ ?_ ?_ ?_ ?_
 ·intro D hD;exact⟨λ_=>rfl,(Same.refl H1).step hD,Ab⟩
 ·rintro D i Z2 H2 hD hi ⟨_,s2,_⟩;exact gu i H2 hi s2
 ·rintro D Z2 H2 hD ⟨_,s2,_⟩;exact bD H2 s2
 ·rintro D i Z2 H2 hD hi ⟨e,s2,hb⟩;show tt (Z2.set j (some (vs i))) H2 _;rw[e];refine rQ i H2 _ hi s2 λH3 s3=>?_;have jf:=s2.trans s3;have uo:=s3 _ _ hb;have j9:∀v,((Bs cap Z).set j (some (vs i))).set j v=(Bs cap Z).set j v:=λv=>by rw[Tb]
  have hl:(((List.range i).filter ok).map ys).length<=i:=by
   rw[Od];exact Pj (Pl ..) (by rw[Qf];lia)
  refine A2 (λhk=>?_) (λhk=>?_)
  ·refine step i H3 _ hi hk jf λH4 s4=>?_;refine wput hi (s4 _ _ uo) (by lia) ⟨j9,λb u e'=>?_,?_⟩
   ·rw[Ae (Av e' hD)];exact s4 _ _ (jf b u e')
   ·rw[Ab,Pq,O1,Ot];simp[hk]
  ·refine wskip hi ⟨j9,jf,?_⟩;rw[uo,Pq,O1,Ot];simp[hk]
 ·rintro D Z2 H2 hD ⟨_,s2,hb⟩;exact hd D H2 hD s2 hb
def Xkq       (n:Nat) (hn:n<sizeLine) (vs:Nat->V) (ys:Nat->V)
  (gu:∀i H2,i<n->Same H1 H2->J.go i H2/\∀x H3,J.yld i H2 x H3->H3=H2/\x=vs i)
  (bD:∀H2,Same H1 H2->J.stop n H2)
  (step:∀i H2 Q,i<n->Same H1 H2->(∀H',Same H2 H'->Q (ys i) H')->te ((Bs cap Z).set j (some (vs i))) H2 Q)
  (hd:∀D H2,H1 D=none->Same H1 H2->H2 D=some (.lst ((List.range n).map ys))->F D H2):Ee cap (A7 j) Ed te J Z H1 F:=
 Ey n hn vs (λ_=>true) ys gu bD (λi H2 Q _ _ k=>k H2 (Same.refl _)) (λi H2 Q hi _ s k=>step i H2 Q hi s k) λD H2 hD s e=>hd D H2 hD s (by rw[e,Pd.mpr (λ_ _=>rfl)])
def Mg:Passes (CX1 X.prog X.w) X E0:=λ_ _ _ _ _ _ _ h=>by
 obtain⟨_,_,_,_,_,_,_,_,_,h⟩:=h;exact h.elim
structure DefAt (K:LD) (x:ak) (st:aM):Prop where
 ex:∃f fd,LJ K ap x=some (some (.ref f))/\LL K (.ref f)=true/\Fun K x x st f fd
def DefAt.of{K}{x}{st}{f}   {kV cX pm cdv ct}(a:LJ K ap x=some (some (.ref f)))
  (l:K.lookup f=some ⟨oc,od,.func (LS x x (Ec st) (Cs st) (defScope st) .none kV cX pm an cdv ct),iM⟩) (c:LV K cdv x=true) (k:LL K (.ref f)=true):DefAt K x st:=
 ⟨⟨f,_,a,k,Xbt l c k⟩⟩
def Fn.of   {K}     {k} {x} {st}  (X:K.In h) (G:h.Ns ap mg) (D:DefAt K x st)
  (hb:∀(kV cX pm:aa) (an:Option ae) (cdv ct:aa) (us:List aa),us.length=ps.length->cL (LS x x (Ec st) (Cs st) (defScope st) .none kV cX pm an cdv ct) ⟨us,[]⟩=pure (ps.zip us))
  (ok:∀f fd,Fun K x x st f fd->FnOk P w K mg base CX k f fd ps sp):Fn P w K mg base CX k x ps sp:=by
 obtain⟨f,fd,a,hk,F⟩:=D.ex;exact⟨⟨f,fd,LZ X G a,hk,F.binds hb,ok f fd F⟩⟩
structure ExcAt (K:LD) (x:ak) (C:ae):Prop where
 a:LJ K ap x=some (some (.ref C))
 e:LY K C bmV "ValueError.__new__" = true
 ga:LH K (.ref C) "__getattribute__" = some (some (.builtin "BaseException.__getattribute__"))
 gn:LH K (.ref C) "__getattr__" = some none
 cl:LH K (.ref C) "__class__" = some (some (.builtin "object.__class__"))
 sb:LQ K (.ref C) (.type "BaseException")=some true
 so:LQ K (.ref C) (.type "object")=some true
 sv:LQ K (.ref C) (.type "ValueError")=some true
 ss:LQ K (.ref C) (.ref C)=some true
 ic:M' K C=true
 ty:MB K (.ref C)=some (.type "type")
section
variable {K:LD}{x:ak}{C:ae}
def Xkr   (ic:M' K S=true) (ty:MB K (.ref S)=some (.type "type")) (h:LQ K t (.ref S)=some b):MV K t (.ref S)=some b:=by
 unfold MV;have BU:(ML K S).isSome=true:=ic;simp only[BU,ty];exact h
def ExcAt.self(E:ExcAt K x C):LG K (.ref C) (.ref C)=some true:=by
 unfold LG;rw[E.sb,Tk (by decide)];exact Xkr E.ic E.ty E.ss
end
structure ClsAt (K:LD) (x:ak) (C:ae):Prop where
 a:LJ K ap x=some (some (.ref C))
 ic:M' K C=true
 ty:MB K (.ref C)=some (.type "type")
def C8(x)(row:Za):inV (.str x) (row.map V.str)=decide (x∈row):=by
 unfold inV;rw[Qj,Rk,decide_eq_true_eq];constructor
 ·rintro ⟨y,hy,e⟩;obtain⟨z,hz,rfl⟩:=Pa.mp hy;have:z=x:=by simpa [eqV] using e
  rw[<-this];exact hz
 ·intro hx;exact⟨.str x,Pa.mpr ⟨x,hx,rfl⟩,by simp[eqV]⟩
def C9(row:Za):(row.map V.str).all Cq=true:=by
 rw[O8];intro v h;obtain⟨x,_,rfl⟩:=Pa.mp h;rfl
def Xks{K}        {p q}(vC:p≠q)(hS:SqL K H1 a xs)(hn:xs.length<sizeLine)(ok)(ys)
  (rQ:∀(i:Nat) x H2 Q,xs[i]? = some x->Same H1 H2->(∀H',Same H2 H'->Q (ok i) H')->tt (((Bs cap Z).set p (some (.int i))).set q (some x)) H2 Q)
  (step:∀(i:Nat) x H2 Q,xs[i]? = some x->ok i=true->Same H1 H2->(∀H',Same H2 H'->Q (ys i) H')->te (((Bs cap Z).set p (some (.int i))).set q (some x)) H2 Q)
  (hd:∀D H2,H1 D=none->Same H1 H2->H2 D=some (.lst (((List.range xs.length).filter ok).map ys))->F D H2):Ee cap (Lf K 2 (Ld (A7 p) (Ld (A7 q) Xag))) tt te (Ite K a) Z H1 F:=by
 intro D hD;refine⟨wN xs.length λi Z2 H2=>(∀u v,(Z2.set p u).set q v=((Bs cap Z).set p u).set q v)/\Same H1 H2/\H2 D=some (.lst (((List.range i).filter ok).map ys)),⟨xs.length,by simp,Pf _,λ_ _=>rfl,(Same.refl H1).step hD,Ab⟩,?_⟩;rintro i m Z1 H2 ⟨rfl,hi,e,s2,hb⟩;have vD:SqL K H2 a xs:=s2.seq hS;by_cases aZ:i<xs.length
 ·have hx:xs[i]? = some xs[i]:=Oe aZ;refine .inr ⟨⟨xs,xs[i],vD,hx⟩,?_⟩;rintro x H3 ⟨tp,rfl,ht,hy⟩;obtain⟨y,ka,rfl⟩:=hy xs vD;rw[hx] at ka;cases ka;refine⟨tp,_,rfl,SqT.of Ab,rfl,_,_,rfl,_,_,rfl,rfl,?_⟩;have s3:Same H1 (upd H2 tp (.tup [.int i,xs[i]])):=s2.step ht;have uo:upd H2 tp (.tup [.int i,xs[i]]) D=some (.lst (((List.range i).filter ok).map ys)):=ku hb ht;rw[e];refine rQ i _ _ _ hx s3 λH4 s4=>?_;have vE:=s3.trans s4;have nA:=s4 _ _ uo;have j9:∀u v,(((((Bs cap Z).set p (some (.int i))).set q (some xs[i])).set p u).set q v)=((Bs cap Z).set p u).set q v:=λu v=>by
   rw[List.set_comm _ _ (Ne.symm vC),Tb,Tb]
  have hl:(((List.range i).filter ok).map ys).length<=i:=by
   rw[Od];exact Pj (Pl ..) (by rw[Qf];lia)
  refine A2 (λhk=>?_) (λhk=>?_)
  ·refine step i _ H4 _ hx hk vE λH5 s5=>?_;refine wput aZ (s5 _ _ nA) (by lia) ⟨j9,λb u e'=>?_,?_⟩
   ·rw[Ae (Av e' hD)];exact s5 _ _ (vE b u e')
   ·rw[Ab,Pq,O1,Ot];simp[hk]
  ·refine wskip aZ ⟨j9,vE,?_⟩;rw[nA,Pq,O1,Ot];simp[hk]
 ·have ei:i=xs.length:=by lia
  subst ei;exact .inl ⟨⟨xs,vD,Og _⟩,hd D H2 hD s2 hb⟩
def Jy     (K:LD) (n:Nat) (hK:X.K=K) (hc:X.calm=true) (h:PGs X es t)
  (hn:(bB es X.env).length=n:=by rfl) (bD:(bB es X.env).findIdx? (·.1)=none:=by rfl):PG X (.Tuple es k pos) (Lf K n t):=by
 subst hK;exact Xah hc h hn bD
def Cg{α : Type}(d)(p):∀(xs:List α),((List.range xs.length).filter λi=>p (xs.getD i d)).map (λi=>xs.getD i d)=xs.filter p:=by
 intro xs;have go:∀n,n<=xs.length->((List.range n).filter λi=>p (xs.getD i d)).map (λi=>xs.getD i d)=(xs.take n).filter p:=by
  intro n
  induction n with
  | zero=>intro _;rfl
  | succ n ih=>
   intro h;have hn:n<xs.length:=by lia
   have e:xs.getD n d=xs[n]:=by simp[List.getD,hn]
   rw[Pq,O1,Ot,ih (by lia),O3 hn,O1,Pi,Pi,e];split
   ·simp[hn]
   ·simp
 rw[go _ (Og _),P4]
abbrev TM:=St->Hp->(St->Hp->Prop)->Prop
def PM (X:Cx) (m:fJ Unit) (t:TM):Prop:=∀pins s Z H (Q:St->Hp->Prop),Inv X pins Z H s->t Z H Q ->
 ai (ag X.prog X.w) X.A m (λ_ s'=>∃Z' H',Inv X pins Z' H' s'/\Q Z' H') X.xe s
def Eh (e:aE) (d:Nat) (tg iter:aE) (cx:List aE) (act:fJ Unit) (it acc:aa) (env:dt):fJ Fin:=do
 cQ iter.pos
 match <-dR it with
 | none=>pure (.done .next)
 | some v=>
  cw tg it v
  assign tg env v
  let mut ok:=true
  for c in cx do
   if ok then ok <-isTrue c env (eval c env)
  if ok then act
  again (.compLoop e d it acc env)
structure Cm (e:aE):Prop where
 den1 : ∀ (P : ao) (w : aw) (d : Nat) (it acc : aa) (env : dt), (ag P w).den (.compLoop e d it acc env) = (c9 e d it acc env).onRaise (fun x => do                      JI x env; theTreesLotGoes x)
 den2 : ∀ (P : ao) (w : aw) (d : Nat) (it acc : aa) (env : dt), (ag P w).den (.compStart e d it acc env) = (JJ e d it acc env).onRaise (fun x => do                       JI x env; cQ theWindowsPlace)
 und1:∀(A:av) (d:Nat) (it acc:aa) (env:dt),A.under (.compLoop e d it acc env)=A
 und2:∀(A:av) (d:Nat) (it acc:aa) (env:dt),A.under (.compStart e d it acc env)=A
def Hw    : Cm (.ListComp eu gs sc p):=⟨λ_ _ _ _ _ _=>rfl,λ_ _ _ _ _ _=>rfl,λ_ _ _ _ _=>rfl,λ_ _ _ _ _=>rfl⟩
def Xkt    : Cm (.DictComp k v gs sc p):=⟨λ_ _ _ _ _ _=>rfl,λ_ _ _ _ _ _=>rfl,λ_ _ _ _ _=>rfl,λ_ _ _ _ _=>rfl⟩
def tLp (g:TG) (tt:TT) (tm:TM) (J:It) (Z:St) (H1:Hp) (F:St->Hp->Prop):Prop:=
 ∃W:Nat->Nat->St->Hp->Prop,(∃m,W 0 m Z H1)/\∀i m Z1 H2,W i m Z1 H2 ->
  (J.stop i H2/\F Z1 H2)\/(J.go i H2/\∀x H3,J.yld i H2 x H3->g x Z1 H3 fun Z2 H4=>tt Z2 H4 λb H5=>
   if b=true then tm Z2 H5 fun Z3 H6=>∃m',m'<m/\W (i+1) m' Z3 H6 else ∃m',m'<m/\W (i+1) m' Z2 H5)
section
variable {Y:Cx}{e tg iter:aE}{d:Nat}{cx:List aE}{act:fJ Unit}{acc:aa}{g:TG}{tt:TT}{tm:TM}{pins:List (ae×aK)}{Z:St}{H:Hp}{s:af}{J:It}{fp:List ae}{it:ae}{tn:Nat->am->Prop}{F:St->Hp->Prop}{R:qW->af->Prop}
def Xcx(cm:Cm e)(hx:Y.xe=λ_ _=>False)(hc:Y.calm=true)(eq:c9 e d (.ref it) acc Y.env=Eh e d tg iter cx act (.ref it) acc Y.env)(hg:PG Y tg g)(ht:PIfs Y cx tt)(hm:PM Y act tm)
  (I:Inv Y pins Z H s) (T:Turn Y.prog Y.w Y.K tg J fp it tn) (h0:tn 0 s.heap) (hf:∀b∈fp,FpOk Y pins H b) (hb:tLp g tt tm J Z H F) (fin:∀Z' H' s',Inv Y pins Z' H' s'->F Z' H'->R (.ok .next) s'):
  bw (ag Y.prog Y.w) Y.A (.compLoop e d (.ref it) acc Y.env) R s:=by
 obtain⟨W,⟨m0,w0⟩,turn⟩:=hb;have ie:∀{H':Hp},(∀b∈fp,H' b=none)->∀b∈fp,FpOk Y pins H' b:=λhn b hb=>⟨hn b hb,(hf b hb).2⟩;refine codeAny_loop rfl (λn s'=>∃i Z1 H2,Inv Y pins Z1 H2 s'/\tn i s'.heap/\(∀b∈fp,H2 b=none)/\W i n Z1 H2) (λn s' hI=>?_) m0 ⟨0, Z,H,I,h0,λb hb=>(hf b hb).1,w0⟩;obtain⟨i, Z1,H2,I',a8,yI,w'⟩:=hI;rw[cm.den1,cm.und1];refine wpAny_noted ?_;rw[eq];have no:∀{α : Type} {t:fJ α} {Q : α->af->Prop} {E':Zb} {s₁ : af},ai (ag Y.prog Y.w) Y.A t Q Y.xe s₁->ai (ag Y.prog Y.w) Y.A t Q E' s₁:=λh=>aI h (λ_ _ q=>q) λ_ _ z=>by rw[hx] at z;exact z.elim
 unfold Eh;rcases turn i n Z1 H2 w' with ⟨stop,q⟩ | ⟨go,step⟩
 ·refine Te (bd (Te (thn (T.done Y rfl rfl rfl hc i pins s' Z1 H2 _ I' (ie yI) a8 stop) λr s1 ⟨hr,I1⟩=>?_)));subst hr;exact Tf (fin Z1 H2 s1 I1 q)
 ·refine Te (bd (Te (thn (T.item Y rfl rfl rfl hc i pins s' Z1 H2 _ I' (ie yI) a8 go) λr s1 ⟨u,hr,h4⟩=>?_)));subst hr;refine Te (thn h4 λ_ s5 ⟨x,H5,I5,r5,y5,on,vc⟩=>?_);have vd:=I5.pinned (ie vc) (T.obj _ _ on);refine Te (thn (no (hg _ s5 Z1 H5 x u _ vd r5 (step x H5 y5))) λ_ s6 ⟨Z6,H6,I6,q6⟩=>?_);refine Te (thn (no (ht _ s6 Z6 H6 _ I6 q6)) λb s7 ⟨H7,I7,q7⟩=>?_);have again:∀{s8:af} {Z8:St} {H8:Hp},Inv Y (pins++G4 fp s5.heap) Z8 H8 s8->(∃m',m'<n/\W (i+1) m' Z8 H8)->∃m,m<n/\∃i Z1 H2,Inv Y pins Z1 H2 s8/\tn i s8.heap/\(∀b∈fp,H2 b=none)/\W i m Z1 H2:=λ{s8 Z8 H8} I8 ⟨m',hm,w8⟩=>by
   refine⟨m',hm,i+1, Z8,H8,I8.unpinned,T.keep _ _ _ on λb hb o e=>(I8.pin (b,o) (O9 _ (O9 _ (Ji hb e)))).1,λb hb=>?_,w8⟩;obtain⟨o,e,d⟩:=T.obj _ _ on b hb;exact(I8.pin (b,o) (O9 _ (O9 _ (Ji hb e)))).2.1
  cases b with
  | false=>
   rw[Tj Ow] at q7;exact Tf ⟨rfl,again I7 q7⟩
  | true=>
   rw[Tk rfl] at q7;exact Te (thn (no (hm _ s7 Z6 H7 _ I7 q7)) λ_ s8 ⟨Z8,H8,I8,q8⟩=>Tf ⟨rfl,again I8 q8⟩)
def Xcy      (cm:Cm e) (fK:(dG e)[d]? = some cl) (has:cl.is_async=0)
  (h0:bw (ag prog w) A (.compLoop e d mT acc env) R s)
  (h:ai (ag prog w) A (gf mT) (λvF s'=>bw (ag prog w) A (.compLoop e d vF acc env) R s') (notedBy (ag prog w) A env λx s'=>R (.error x) s') s):
  bw (ag prog w) A (.compStart e d mT acc env) R s:=by
 refine fM ?_;rw[cm.den2,cm.und2];refine wpAny_notedAt ?_;unfold JJ;rw[fK];have e1:(Option.elim (some cl) false λx=>x.is_async != 0)=false:=by
  show (cl.is_async != 0)=false;rw[has];rfl
 rw[e1,Tj Ow];show ai _ A (ask >>= _) _ _ s;refine Te (aQ (wpAny_ite ?_));split
 ·first
   | exact Te (Tf (Tf (And.intro rfl h0)))
   | exact Tf (And.intro rfl h0)
 ·first
   | exact Te (aR (Te (bd (Te (aI h (λvF s' h'=>Tf (And.intro rfl h')) λ_ _ x=>x)))))
   | (refine Te (aR ?_);show ai _ _ (cQ cl.iter.pos >>= _) _ _ s;exact Te (bd (Te (aI h (λvF s' h'=>Tf (And.intro rfl h')) λ_ _ x=>x))))
end
def Hy (te:TE) (D:ae):TM:=fun Z H Q=>te Z H λy H6=>∃ys,H6 D=some (.lst ys)/\ys.length<sizeLine/\Q Z (upd H6 D (.lst (ys++[y])))
def Jz    (he:PE Y eu te):PM Y (do  let _ <-call (.builtin "list.append") [.ref D,<-eval eu Y.env]) (Hy te D):=by
 intro pins s Z H Q I h;refine Te (thn (he pins s Z H _ I h) λyv s8 ⟨y,H8,I8,r8,ys,hD,aZ,q8⟩=>?_);exact Te (thn (F7 (X:=Y) _ s8 Z H8 (.ref D) [y] (.ref D) [yv] (λ_ H9=>Q Z H9) I8 rfl (.cons r8 .nil) ⟨_,ys,y,rfl,rfl,hD,aZ,q8⟩) λ_ s9 ⟨_,H9,I9,_,q9⟩=>Tf ⟨Z,H9,I9,q9⟩)
def Xcz (tk tv:TE) (D:ae):TM:=fun Z H Q=>tk Z H λk H1=>tv Z H1 λv H2=>∃kvs ky,k=kV ky/\H2 D=some (.dK kvs)/\kvs.length<sizeLine/\Q Z (upd H2 D (.dK (Bh kvs ky v)))
def Xku    (hk:PE Y kx tk) (hv:PE Y vx tv):PM Y (do
  let kv <-eval kx Y.env
  let vv <-holding [kv] (eval vx Y.env)
  cQ {kx.pos with endLine:=vx.pos.endLine,endCol:=vx.pos.endCol}
  holding [kv,vv] (dictSet D kv vv)) (Xcz tk tv D):=by
 intro pins s Z H Q I h;refine Te (thn (hk pins s Z H _ I h) λkv s1 ⟨k,H1,I1,rk,q1⟩=>Te (az (thn (hv pins s1 Z H1 _ I1 q1) λvv s2 ⟨v,H2,I2,rv,kvs,ky,ek,hD,hl,q⟩=>Te (bd (az ?_)))));subst ek;obtain⟨z,hd,vs,cK,dd⟩:=Xbl I2.hok hD;have hz:vs.length<=sizeLine:=by rw[<-cK.length];exact z
 have o8:(Bh kvs ky v).length<=sizeLine:=by have:=Jo kvs ky v;lia
 refine wpAny_dictSet_pairs (knd:=Be Y.prog Y.w) (hsz:=hz) (Fh rk) dd λh' lL hs=>⟨Z,_,?_,q⟩;have he:∃q,h'.get? D=some q:=let ⟨q,_,_,hq,_⟩:=lL; ⟨q,hq⟩;exact Jp I2 (by rw[hD];exact True.intro) hs he (Xbn o8 hd (cK.put ky rv) lL)
def Xc0 (wi:TI) (g:TG) (tt:TT) (tm:TM):TM:=fun Z H Q=>wi Z H λJ H1=>tLp g tt tm J Z H1 Q
def Xkv{Y:Cx}{e tg iter:aE}  {d:Nat}      (cm:Cm e)(hx:Y.xe=λ_ _=>False)(hc:Y.calm=true)(fK:(dG e)[d]? = some ⟨tg,iter,cx,0⟩)
  (eq:∀it,c9 e d it (.ref D) Y.env=Eh e d tg iter cx act it (.ref D) Y.env) (hi:PI Y tg iter wi) (hg:PG Y tg g) (ht:PIfs Y cx tt) (hm:PM Y act tm)
  (hs:∀x,aG iter Y.env x=pure x:=by intro _;rfl):PM Y (do
   let x <-eval iter Y.env
   cQ iter.pos
   let x <-aG iter Y.env x
   let _ <-runOwn (.compStart e d (<-holding [x] (gf x)) (.ref D) Y.env) Y.env) (Xc0 wi g tt tm):=by
 intro pins s Z H Q I h;refine Te (thn (hi pins s Z H _ I h) λv s1 h1=>Te (bd (Te (fD (hs v) (Te (az (thn h1 λmT s2 h2=>?_)))))));obtain⟨it,fp,tn,J,H2,ei,I2,T,du,f2,lp⟩:=h2;subst ei;refine Te (wpAny_runOwn ?_);have go:∀s3,s3=s2->bw (ag Y.prog Y.w) Y.A (.compLoop e d (.ref it) (.ref D) Y.env) (λr s'=>match r with | .ok _=>∃Z' H',Inv Y pins Z' H' s'/\Q Z' H' | .error e=>False) s3:=by
  rintro s3 rfl;exact Xcx cm hx hc (eq _) hg ht hm I2 T du f2 lp fun Z' H' s' I' q=>⟨Z',H',I',q⟩
 have st:=Xcy (s:=s2) (R:=λr s'=>match r with | .ok _=>∃Z' H',Inv Y pins Z' H' s'/\Q Z' H' | .error e=>False) cm fK rfl (go s2 rfl) (T.self Y.A 0 s2 _ _ du (go s2 rfl));refine bi st λr s' hr=>?_;cases r with
 | ok f=>exact Tf hr
 | error e=>exact hr.elim
def Xc1 (cap:List (Option Nat)) (o0:ae->HO) (g:TG) (tt:TT) (tm:ae->TM) (J:It) (Z:St) (H1:Hp) (F:ae->Hp->Prop):Prop:=
 ∀D,H1 D=none->tLp g tt (tm D) J (Bs cap Z) (upd H1 D (o0 D)) λ_ H2=>F D H2
def Xc2 (cap:List (Option Nat)) (o0:HO) (g:TG) (tt:TT) (tm:ae->TM) (J:It) (Z:St) (H1:Hp) (F:ae->Hp->Prop):Prop:=
 ∀D,H1 D=none->tLp g tt (tm D) J (Bs cap Z) (upd H1 D o0) λ_ H2=>F D H2
section
variable {X:Cx}{N:Za}{cap:List (Option Nat)}{scope:bE}{e tg iter:aE}{cx:List aE}{g:TG}{tt:TT}{tm:ae->TM}{E:Zb}{cb:fJ aa}{ob:aK}{o0:HO}{o1:ae->HO}{act:ae->dt->fJ Unit}
def Xc3(C:CompScope X N cap scope)(bv:X.calm=true)(cm:Cm e)(fK:(dG e)[0]? = some ⟨tg,iter,cx,0⟩)
  (jS:∀(s:af) (Q:Zb) (E':Zb),Q (.ref s.heap.objs.size) {s with heap:=s.heap.push ob}->ai (ag X.prog X.w) X.A cb Q E' s)
  (rp:∀pins Z H s,Inv X pins Z H s->Inv X pins Z (upd H s.heap.objs.size (o1 s.heap.objs.size)) {s with heap:=s.heap.push ob})
  (o9:∀it D env,c9 e 0 it (.ref D) env=Eh e 0 tg iter cx (act D env) it (.ref D) env)
  (hg:∀s0 H0 ex,PG (X.comp N scope s0 H0 ex) tg g) (ht:∀s0 H0 ex,PIfs (X.comp N scope s0 H0 ex) cx tt) (hm:∀D s0 H0 ex,PM (X.comp N scope s0 H0 ex) (act D (X.comp N scope s0 H0 ex).env) (tm D))         {RR:aa->ae->qW->af->Prop}
  (I:Inv X pins Z H s) (T:Turn X.prog X.w X.K tg J fp it tn) (h0:tn 0 s.heap) (hf:∀b∈fp,FpOk X pins H b) (hb:Xc1 cap o1 g tt tm J Z H F)
  (fin:∀D L H' s' m,Inv X pins Z H' s'->FpOk X pins H' L->s'.heap.Ns L m->F D H'->RR (.ref D) L (.ok .next) s'):
  ai (ag X.prog X.w) X.A cb (λacc s₃=>ai (ag X.prog X.w) X.A (gr scope X.env.globals (Cf X.env scope.names []) [] X.env.qual none .none (some X.env)) (λrR s₄=>
   bw (ag X.prog X.w) X.A (.compStart e 0 (.ref it) acc {rR with scope:=relabel scope X.env}) (RR acc rR.locals) s₄) E s₃) E s:=by
 have jg:H s.heap.objs.size=none:=I.hok.fresh (Og _);have lp:=hb s.heap.objs.size jg;have flt:∀b∈fp,b<s.heap.objs.size:=λb hb=>by
  obtain⟨o,e,_⟩:=T.obj _ _ h0 b hb;exact Tr e
 refine jS s _ _ (Xja ?_);have I3:Inv X pins Z (upd H s.heap.objs.size (o1 s.heap.objs.size)) {s with heap:=s.heap.push ob}:=rp pins Z H s I;generalize e3:({s with heap:=s.heap.push ob}:af)=s3 at I3;have uk:s3.heap=s.heap.push ob:=by rw[<-e3]
 have hsz:s3.heap.objs.size=s.heap.objs.size+1:=by rw[uk,am.size_push]
 have uq:∀b∈fp,FpOk X pins (upd H s.heap.objs.size (o1 s.heap.objs.size)) b:=λb hb=>by
  obtain⟨f0,f⟩:=hf b hb;exact⟨by rw[Ae (Oo (flt b hb))];exact f0,f⟩
 have oA:∀b∈fp,b<s3.heap.objs.size:=λb hb=>by rw[hsz];exact Pu (flt b hb)
 have hk:∀b o,s3.heap.get? b=some o->(bQ (s3.heap.push {cls:=.type "dict",data:=.dict #[]}) scope.names).get? b=some o:=λb o e=>cY _ _ b o (Tt _ e);have IY:=Xjb (tk:=s3.toks) C I3 uq oA;generalize eY:X.comp N scope s3 (upd H s.heap.objs.size (o1 s.heap.objs.size)) fp=Y at IY;have yJ:(s3.heap.push {cls:=.type "dict",data:=.dict #[]}).objs.size=s3.heap.objs.size+1:=am.size_push ..;have lW:tn 0 (bQ (s3.heap.push {cls:=.type "dict",data:=.dict #[]}) scope.names):=T.keep _ _ _ h0 λb hb o e=>hk b o (by rw[uk];exact Tt _ e);have fY:∀{H':Hp},(∀b∈fp,H' b=none)->∀b∈fp,FpOk Y [] H' b:=λ{H'} hn b hb=>by
  subst eY;obtain⟨_,f1,f2,_,f4,_⟩:=uq b hb;refine⟨hn b hb,Oo (oA b hb),λz=>?_,.inl hb,λx c h=>?_,λp hp=>absurd (show p∈([]:List (ae×aK)) from hp) (by simp)⟩
  ·rcases Ou.mp (I3.stkSub b z) with e | e
   ·exact f1 e
   ·exact f2 e
  ·rcases Xby (s:=s3) C I3.ok yJ h with ⟨a,_⟩ | ⟨_,a⟩
   ·exact λz=>Pz _ (Qs a (by rw[z];exact oA b hb))
   ·exact f4 x c a
 have vG:∀s4:af,s4 = {s3 with heap:=bQ (s3.heap.push {cls:=.type "dict",data:=.dict #[]}) scope.names} ->
   bw (ag X.prog X.w) X.A (.compLoop e 0 (.ref it) (.ref s.heap.objs.size) (r0 scope (Hk X scope s3) s3.heap.objs.size X.env))
    (RR (.ref s.heap.objs.size) s3.heap.objs.size) s4:=by
  rintro s4 rfl;have pP:Y.prog=X.prog:=by subst eY;rfl
  have pW:Y.w=X.w:=by subst eY;rfl
  have pK:Y.K=X.K:=by subst eY;rfl
  have pC:Y.calm=true:=by subst eY;exact bv
  have pA:Y.A=X.A:=by subst eY;rfl
  have pE:Y.env=r0 scope (Hk X scope s3) s3.heap.objs.size X.env:=by subst eY;rfl
  have pX:Y.xe=λ_ _=>False:=by subst eY;rfl
  have T':Turn Y.prog Y.w Y.K tg J fp it tn:=by rw[pP,pW,pK];exact T
  have go:=Xcx (Y:=Y) (acc:=.ref s.heap.objs.size) (pins:=[]) (R:=RR (.ref s.heap.objs.size) s3.heap.objs.size) cm pX pC (o9 _ _ _) (by subst eY;exact hg _ _ _) (by subst eY;exact ht _ _ _) (show PM Y (act s.heap.objs.size Y.env) (tm s.heap.objs.size) by subst eY;exact hm _ _ _ _)
   IY T' lW (fY λb hb=>(uq b hb).1) lp ?_
  ·rw[pP,pW,pA,pE] at go;exact go
  ·intro Z' H2 s1 I1 q;have IX:Inv X pins Z H2 s1:=by
    subst eY;refine I3.call' (ch:=fp) I1.os I1.base I1.hok I1.bare λb hb=>?_;obtain⟨_,f1,_,f3,f4,f5⟩:=uq b hb;exact⟨f3,f1,f4,f5⟩
   have hL:H2 s3.heap.objs.size=none:=by
    have z:=I1.free;rw[pE] at z;exact z
   obtain⟨m,hm,_⟩:=I1.loc;rw[pE] at hm;exact fin s.heap.objs.size s3.heap.objs.size H2 s1 m IX (I3.fpOk (Og _) hL) hm q
 have lp:=vG _ rfl;have T1:=T.self;subst e3;exact Xcy cm fK rfl lp (T1 X.A 0 _ _ _ lW lp)
structure AccA (X:Cx) (cb:fJ aa) (ob:aK) (o1:ae->HO):Prop where
 new:∀(s:af) (Q:Zb) (E':Zb),Q (.ref s.heap.objs.size) {s with heap:=s.heap.push ob}->ai (ag X.prog X.w) X.A cb Q E' s
 lay:∀pins Z H s,Inv X pins Z H s->Inv X pins Z (upd H s.heap.objs.size (o1 s.heap.objs.size)) {s with heap:=s.heap.push ob}
structure Acc (X:Cx) (cb:fJ aa) (ob:aK) (o0:HO):Prop where
 new:∀(s:af) (Q:Zb) (E':Zb),Q (.ref s.heap.objs.size) {s with heap:=s.heap.push ob}->ai (ag X.prog X.w) X.A cb Q E' s
 lay:∀pins Z H s,Inv X pins Z H s->Inv X pins Z (upd H s.heap.objs.size o0) {s with heap:=s.heap.push ob}
def J3:Acc X (newList []) {cls:=.type "list",data:=.seq ([]:List aa).toArray} (.lst []):=⟨λs Q E' h=>aD h,λpins Z H s I=>I.lnew (t':=s.toks) .nil (Pf _)⟩
def Xkw:Acc X newDict {cls:=.type "dict",data:=.dict #[]} (.dK []):=⟨λs Q E' h=>aD h,λpins Z H s I=>I.laid (a:=s.heap.objs.size) (o:=.dK []) (t':=s.toks) (λ_ _ q=>Tt _ q) (Og _) (Xbq s.heap I.big)⟩
def Xkx (cap:List (Option Nat)) (o0:ae->HO) (wi:TI) (g:TG) (tt:TT) (tm:ae->TM):TE:=fun Z H Q=>wi Z H λJ H1=>Xc1 cap o0 g tt tm J Z H1 λD H2=>Q (.ref D) H2
def Xky   (ac:AccA X cb ob o1) (he:eval e X.env=comprehension e scope X.env pos cb false (eval iter X.env)) (fH:dG e=⟨tg,iter,cx,0⟩::gens)
  (C:CompScope X N cap scope) (bv:X.calm=true) (cm:Cm e) (hi:PI X tg iter wi)
  (o9:∀it D env,c9 e 0 it (.ref D) env=Eh e 0 tg iter cx (act D env) it (.ref D) env)
  (hg:∀s0 H0 ex,PG (X.comp N scope s0 H0 ex) tg g) (ht:∀s0 H0 ex,PIfs (X.comp N scope s0 H0 ex) cx tt) (hm:∀D s0 H0 ex,PM (X.comp N scope s0 H0 ex) (act D (X.comp N scope s0 H0 ex).env) (tm D))
  (hs:∀x,aG iter X.env x=pure x):PE X e (Xkx cap o1 wi g tt tm):=by
 intro pins s Z H Q I h;rw[he];refine iz (use:=none) fH hs (Xbu (L3 C I.ok)) C.kind (λx hx hl=>by rw[C.uniq x hx,hl]) (thn (hi pins s Z H _ I h) λv s1 h1=>thn h1 λmT s2 h2=>?_);obtain⟨it,fp,tn,J,H2,ei,I2,T,du,f2,R⟩:=h2;subst ei;refine Xc3 (RR:=λacc L=>compPost (ag X.prog X.w) X.A X.xe none (EP X pins Z Q) acc L) C bv cm (by rw[fH];rfl) ac.new ac.lay o9 hg ht hm I2 T du f2 R ?_;intro D L H' s' m I' fL hm q;refine⟨m,hm,λh' vH=>?_⟩;obtain⟨f0,f1,_,f3,f4,f5⟩:=fL;exact⟨.ref D,H',I'.turned (t':=s'.toks) (λb o hb e=>(vH.2 b hb).trans e) f0 f1 f3 f4 f5,rfl,q⟩
def Mh (cap:List (Option Nat)) (o0:HO) (wi:TI) (g:TG) (tt:TT) (tm:ae->TM):TE:=fun Z H Q=>wi Z H λJ H1=>Xc2 cap o0 g tt tm J Z H1 λD H2=>Q (.ref D) H2
def Mi   (ac:Acc X cb ob o0) (he:eval e X.env=comprehension e scope X.env pos cb false (eval iter X.env)) (fH:dG e=⟨tg,iter,cx,0⟩::gens)
  (C:CompScope X N cap scope) (bv:X.calm=true) (cm:Cm e) (hi:PI X tg iter wi)
  (o9:∀it D env,c9 e 0 it (.ref D) env=Eh e 0 tg iter cx (act D env) it (.ref D) env)
  (hg:∀s0 H0 ex,PG (X.comp N scope s0 H0 ex) tg g) (ht:∀s0 H0 ex,PIfs (X.comp N scope s0 H0 ex) cx tt) (hm:∀D s0 H0 ex,PM (X.comp N scope s0 H0 ex) (act D (X.comp N scope s0 H0 ex).env) (tm D))
  (hs:∀x,aG iter X.env x=pure x):PE X e (Mh cap o0 wi g tt tm):=
 Xky (o1:=λ_=>o0) ⟨ac.new,ac.lay⟩ he fH C bv cm hi o9 hg ht hm hs
def Xc4 (i:Nat) (cap:List (Option Nat)) (o0:HO) (wi:TI) (g:TG) (tt:TT) (tm:ae->TM):TS:=λD Z H=>wi Z H λJ H1=>Xc2 cap o0 g tt tm J Z H1 λl H2=>D.nx (Z.set i (some (.ref l))) H2
def Xc5     (ac:Acc X cb ob o0) (he:∀use,evalThenUse e X.env use=(do     let _ <-comprehension e scope X.env ca cb false (eval iter X.env) (some use))) (fH:dG e=⟨tg,iter,cx,0⟩::gens)
  (C:CompScope X N cap scope) (bv:X.calm=true) (cm:Cm e) (hN:X.N.Nodup) (rS:X.N[i]? = some y) (hy:X.env.scope.names.lookup y=some .local) (hi:PI X tg iter wi)
  (o9:∀it D env,c9 e 0 it (.ref D) env=Eh e 0 tg iter cx (act D env) it (.ref D) env)
  (hg:∀s0 H0 ex,PG (X.comp N scope s0 H0 ex) tg g) (ht:∀s0 H0 ex,PIfs (X.comp N scope s0 H0 ex) cx tt) (hm:∀D s0 H0 ex,PM (X.comp N scope s0 H0 ex) (act D (X.comp N scope s0 H0 ex).env) (tm D))
  (rT:dE e (some (.Name y py)) kg.line X.env=pure true) (hs:∀x,aG iter X.env x=pure x):PS X (.Assign [.Name y py] e kg) (Xc4 i cap o0 wi g tt tm):=by
 intro pins s Z H D I h;rw[exec_Assign_Name_used _ _ _ _ rT];refine Te (bd (Te ?_));rw[he];refine Te (thn (iz (use:=some (assign (.Name y py) X.env)) (Q:=λ_ s'=>SP X pins D .next s') fH hs (Xbu (L3 C I.ok)) C.kind (λx hx hl=>by rw[C.uniq x hx,hl])
  (thn (hi pins s Z H _ I h) λv s1 h1=>thn h1 λmT s2 h2=>?_)) (λ_ s' hq=>Tf (Tf hq)))
 obtain⟨it,fp,tn,J,H2,ei,I2,T,du,f2,R⟩:=h2;subst ei;refine Xc3 (o1:=λ_=>o0) (RR:=λacc L=>compPost (ag X.prog X.w) X.A X.xe (some (assign (.Name y py) X.env)) (λ_ s'=>SP X pins D .next s') acc L) C bv cm (by rw[fH];rfl) ac.new ac.lay o9 hg ht hm I2 T du f2 R ?_;intro l L H' s' m I' fL hm q;obtain⟨f0,f1,_,f3,f4,f5⟩:=fL;show ai _ X.A (assign (.Name y py) X.env (.ref l)) _ _ s';refine mS (Xab I' hN rS (.inl hy) (show Aj (.ref l) (.ref l) from rfl) (λs3 I3 ⟨a,sb,ha⟩=>?_) (.inr hy));have BV:L≠a:=by
  rcases ha with rfl | ha
  ·exact f1
  ·exact λz=>f4 y a ha z.symm
 refine⟨m,hm.sameBut sb BV,λh' vH=>?_⟩;exact⟨_,H',I3.turned (t':=s3.toks) (λb o hb e=>(vH.2 b hb).trans e) f0 f1 f3 f4 f5,q⟩
end
def act2 (eu tg iter kh c5:aE) (cx fq:List aE) (scope:bE) (pos:bI) (D:ae) (env:dt):fJ Unit:=do
      let x <-eval c5 env
      cQ c5.pos
      let x <-aG c5 env x
      let _ <-runOwn (.compStart (.ListComp eu [⟨tg,iter,cx,0⟩,⟨kh,c5,fq,0⟩] scope pos) 1 (<-holding [x] (gf x)) (.ref D) env) env
def Xkz(eu tg iter kh c5)(cx fq)(scope)(pos)(it)(D)(env):
  c9 (.ListComp eu [⟨tg,iter,cx,0⟩,⟨kh,c5,fq,0⟩] scope pos) 0 it (.ref D) env=Eh (.ListComp eu [⟨tg,iter,cx,0⟩,⟨kh,c5,fq,0⟩] scope pos) 0 tg iter cx (act2 eu tg iter kh c5 cx fq scope pos D env) it (.ref D) env:=by
 unfold c9 Eh act2;dsimp only;simp only[List.getElem?_cons_zero,List.getElem?_cons_succ,bind_assoc,pure_bind];simp;rfl
section
variable {X:Cx}{N:Za}{cap:List (Option Nat)}{scope:bE}{tg iter kh c5 eu kx vx:aE}{cx fq:List aE}{g g2:TG}{tt yK:TT}{te tk tv:TE}{wi yL:TI}{pos:bI}
def Ei(C:CompScope X N cap scope)(bv:X.calm=true)(hi:PI X tg iter wi)
  (hg:∀s0 H0 ex,PG (X.comp N scope s0 H0 ex) tg g) (ht:∀s0 H0 ex,PIfs (X.comp N scope s0 H0 ex) cx tt) (he:∀s0 H0 ex,PE (X.comp N scope s0 H0 ex) eu te)
  (hs:∀x,aG iter X.env x=pure x:=by intro _;rfl):PE X (.ListComp eu [⟨tg,iter,cx,0⟩] scope pos) (Xjc cap wi g tt te):=
 Mi (act := fun D env => do let _ <- call (.builtin "list.append") [.ref D, <- eval eu env]) J3 rfl rfl C bv Hw hi (fun it D env => rfl) hg ht (fun D s0 H0 ex => Jz (he s0 H0 ex)) hs
def Hz{i:Nat}  (C:CompScope X N cap scope)(bv:X.calm=true)(hN:X.N.Nodup)(rS:X.N[i]? = some y)(hy:X.env.scope.names.lookup y=some .local)(hi:PI X tg iter wi)
  (hg:∀s0 H0 ex,PG (X.comp N scope s0 H0 ex) tg g) (ht:∀s0 H0 ex,PIfs (X.comp N scope s0 H0 ex) cx tt) (he:∀s0 H0 ex,PE (X.comp N scope s0 H0 ex) eu te)
  (rT:dE (.ListComp eu [⟨tg,iter,cx,0⟩] scope pos) (some (.Name y py)) kg.line X.env=pure true:=by rfl)
  (hs:∀x,aG iter X.env x=pure x:=by intro _;rfl):PS X (.Assign [.Name y py] (.ListComp eu [⟨tg,iter,cx,0⟩] scope pos) kg) (Xjd i cap wi g tt te):=
 Xc5 (act := fun D env => do let _ <- call (.builtin "list.append") [.ref D, <- eval eu env]) J3 (fun use => rfl) rfl C bv Hw hN rS hy hi (fun it D env => rfl) hg ht (fun D s0 H0 ex => Jz (he s0 H0 ex)) rT hs
def Xc6(C:CompScope X N cap scope)(bv:X.calm=true)(hi:PI X tg iter wi)
  (hg:∀s0 H0 ex,PG (X.comp N scope s0 H0 ex) tg g) (ht:∀s0 H0 ex,PIfs (X.comp N scope s0 H0 ex) cx tt) (hk:∀s0 H0 ex,PE (X.comp N scope s0 H0 ex) kx tk) (hv:∀s0 H0 ex,PE (X.comp N scope s0 H0 ex) vx tv)
  (hs:∀x,aG iter X.env x=pure x:=by intro _;rfl):PE X (.DictComp kx vx [⟨tg,iter,cx,0⟩] scope pos) (Mh cap (.dK []) wi g tt (Xcz tk tv)):=
 Mi Xkw rfl rfl C bv Xkt hi (λit D env=>compTurn_dict kx vx tg iter cx scope pos it D env) hg ht (λD s0 H0 ex=>Xku (hk s0 H0 ex) (hv s0 H0 ex)) hs
def Xc7(C:CompScope X N cap scope)(bv:X.calm=true)(hi:PI X tg iter wi)
  (hg:∀s0 H0 ex,PG (X.comp N scope s0 H0 ex) tg g) (ht:∀s0 H0 ex,PIfs (X.comp N scope s0 H0 ex) cx tt)
  (eQ:∀s0 H0 ex,PI (X.comp N scope s0 H0 ex) kh c5 yL) (rV:∀s0 H0 ex,PG (X.comp N scope s0 H0 ex) kh g2) (oB:∀s0 H0 ex,PIfs (X.comp N scope s0 H0 ex) fq yK) (he:∀s0 H0 ex,PE (X.comp N scope s0 H0 ex) eu te)
  (hs:∀x,aG iter X.env x=pure x:=by intro _;rfl) (vI:∀s0 H0 ex x,aG c5 (X.comp N scope s0 H0 ex).env x=pure x:=by intro _ _ _ _;rfl):
  PE X (.ListComp eu [⟨tg,iter,cx,0⟩,⟨kh,c5,fq,0⟩] scope pos) (Mh cap (.lst []) wi g tt λD=>Xc0 yL g2 yK (Hy te D)):=
 Mi (act:=λD env=>act2 eu tg iter kh c5 cx fq scope pos D env) J3 rfl rfl C bv Hw hi (λit D env=>Xkz ..) hg ht (λD s0 H0 ex=>Xkv (Y:=X.comp N scope s0 H0 ex) (e:=.ListComp eu [⟨tg,iter,cx,0⟩,⟨kh,c5,fq,0⟩] scope pos) (d:=1) Hw rfl bv rfl (λit=>rfl) (eQ s0 H0 ex) (rV s0 H0 ex) (oB s0 H0 ex) (Jz (he s0 H0 ex)) (vI s0 H0 ex)) hs
end
mutual
def DAt (H:Hp):ar->V->Prop
 | .none,v=>v = .non
 | .bool b,v=>v = .bl b
 | .int i,v=>v = .int i
 | .str x,v=>v = .str x
 | .list ds,v=>∃p xs,v = .ref p/\H p=some (.lst xs)/\DAll H ds xs
 | .tuple ds,v=>∃p xs,v = .ref p/\H p=some (.tup xs)/\DAll H ds xs
 | .dict _,_=>False
def DAll (H:Hp):List ar->List V->Prop
 | [],vs=>vs=[]
 | d::ds,vs=>∃v r,vs=v::r/\DAt H d v/\DAll H ds r
end
mutual
theorem DAt.same{H H':Hp}(s:Same H H'):∀(d:ar) (v:V),DAt H d v->DAt H' d v
 | .none,v,h=>by unfold DAt at h ⊢; exact h
 | .bool b,v,h=>by unfold DAt at h ⊢; exact h
 | .int i,v,h=>by unfold DAt at h ⊢; exact h
 | .str x,v,h=>by unfold DAt at h ⊢; exact h
 | .list ds,v,h=>by
  unfold DAt at h ⊢;obtain⟨p,xs,h1,h2,h3⟩:=h;exact⟨p,xs,h1,s _ _ h2,DAll.same s ds xs h3⟩
 | .tuple ds,v,h=>by
  unfold DAt at h ⊢;obtain⟨p,xs,h1,h2,h3⟩:=h;exact⟨p,xs,h1,s _ _ h2,DAll.same s ds xs h3⟩
 | .dict _,v,h=>by unfold DAt at h;exact h.elim
theorem DAll.same{H H':Hp}(s:Same H H'):∀(ds:List ar) (vs:List V),DAll H ds vs->DAll H' ds vs
 | [],vs,h=>by unfold DAll at h ⊢; exact h
 | d::ds,vs,h=>by
  unfold DAll at h ⊢;obtain⟨v,r,h1,h2,h3⟩:=h;exact⟨v,r,h1,DAt.same s d v h2,DAll.same s ds r h3⟩
end
def Dn:DAll H [] []:=by unfold DAll;rfl
def Ez     (h:DAt H d v) (hs:DAll H ds vs):DAll H (d::ds) (v::vs):=by unfold DAll;exact⟨v,vs,rfl,h,hs⟩
theorem J4   : ∀{ds:List ar} {vs:List V},DAll H ds vs->DAt H d v->DAll H (ds++[d]) (vs++[v])
 | [],vs,h,hd=>by
  unfold DAll at h;subst h;exact Ez hd Dn
 | e::ds,vs,h,hd=>by
  unfold DAll at h;obtain⟨u,r,rfl,h2,h3⟩:=h;exact Ez h2 (J4 h3 hd)
theorem Gf:∀{ds:List ar} {vs:List V},DAll H ds vs->vs.length=ds.length
 | [],vs,h=>by unfold DAll at h;subst h;rfl
 | e::ds,vs,h=>by
  unfold DAll at h;obtain⟨u,r,rfl,h2,h3⟩:=h;rw[O2,O2,Gf h3]
theorem Mj:∀{ds:List ar} {vs:List V} {i:Nat} {d:ar},DAll H ds vs->ds[i]? = some d->∃v,vs[i]? = some v/\DAt H d v
 | [],vs,i,d,h,e=>by simp at e
 | c::ds,vs,0,d,h,e=>by
  unfold DAll at h;obtain⟨u,r,rfl,h2,h3⟩:=h;simp at e;subst e;exact⟨u,rfl,h2⟩
 | c::ds,vs,i+1,d,h,e=>by
  unfold DAll at h;obtain⟨u,r,rfl,h2,h3⟩:=h;simpa using Mj h3 (by simpa using e)
def Ml(row:Za):DAll H (row.map ar.str) (row.map V.str):=by
 induction row with
 | nil=>exact Dn
 | cons x r ih=>exact Ez (by unfold DAt;rfl) ih
def Xk0(row:List Int):DAll H (row.map ar.int) (row.map V.int):=by
 induction row with
 | nil=>exact Dn
 | cons x r ih=>exact Ez (by unfold DAt;rfl) ih
def Mm    (h:H p=some (.tup xs)) (hs:DAll H ds xs):DAt H (.tuple ds) (.ref p):=by unfold DAt;exact⟨p,xs,rfl,h,hs⟩
def Mn    (h:H p=some (.lst xs)) (hs:DAll H ds xs):DAt H (.list ds) (.ref p):=by unfold DAt;exact⟨p,xs,rfl,h,hs⟩
def Mo   (h:DAt H (.tuple ds) v):∃p xs,v = .ref p/\H p=some (.tup xs)/\DAll H ds xs:=by unfold DAt at h;exact h
section
variable {X:Cx}{pins:List (ae×aK)}{Z:St}{H:Hp}{s:af}
mutual
theorem Fp(I:Inv X pins Z H s):∀(d:ar) (v:V) (u:aa),DAt H d v->Aj v u->∃as,Reads s.heap u d as
 | .none,v,u,h,r=>by unfold DAt at h;subst h;cases r;exact⟨_,.none⟩
 | .bool b,v,u,h,r=>by unfold DAt at h;subst h;cases r;exact⟨_,.bool b⟩
 | .int i,v,u,h,r=>by unfold DAt at h;subst h;obtain⟨t,rfl⟩:=r;exact⟨_,.int i t⟩
 | .str x,v,u,h,r=>by unfold DAt at h;subst h;obtain⟨t,rfl⟩:=r;exact⟨_,.str x t⟩
 | .list ds,v,u,h,r=>by
  unfold DAt at h;obtain⟨p,xs,rfl,hp,hs⟩:=h;cases r;obtain⟨a7,rv,pl,hz⟩:=I.list (SqL.of (K:=X.K) hp);obtain⟨as,ra⟩:=Mp I ds xs a7 hs rv;obtain⟨o,ho,hc,n,hd⟩:=pl.isList;exact⟨_,.list ho hc hd (by simpa using ra)⟩
 | .tuple ds,v,u,h,r=>by
  unfold DAt at h;obtain⟨p,xs,rfl,hp,hs⟩:=h;cases r;obtain⟨a7,rv,pl,hz⟩:=I.tuple (SqT.of (K:=X.K) hp);obtain⟨as,ra⟩:=Mp I ds xs a7 hs rv;obtain⟨o,ho,hc,n,hd⟩:=pl;exact⟨_,.tuple ho hc hd (by simpa using ra)⟩
 | .dict _,v,u,h,r=>by unfold DAt at h;exact h.elim
theorem Mp(I:Inv X pins Z H s):∀(ds:List ar) (vs:List V) (us:List aa),DAll H ds vs->Vals vs us->∃as,ReadsAll s.heap us ds as
 | [],vs,us,h,r=>by unfold DAll at h;subst h;cases r;exact⟨_,.nil⟩
 | d::ds,vs,us,h,r=>by
  unfold DAll at h;obtain⟨v,vr,rfl,h1,h2⟩:=h;cases r with
  | cons r1 r2=>
   obtain⟨a1,q1⟩:=Fp I d v _ h1 r1;obtain⟨a2,q2⟩:=Mp I ds vr _ h2 r2;exact⟨_,.cons q1 q2⟩
end
def Mq(hu:X.A.units+3<bu):OpR X (aF .Eq) (λx y H Q=>∃d d',DAt H d x/\DAt H d' y/\d.canLay0=true/\d'.canLay0=true/\min d.depth d'.depth<=3/\Q (.bl (ar.eqv d d')) H):=by
 intro pins s Z H x y v u Q I rx ry h;obtain⟨d,d',h1,h2,c1,c2,hd,q⟩:=h;obtain⟨as,ra⟩:=Fp I d x v h1 rx;obtain⟨bs,rb⟩:=Fp I d' y u h2 ry;exact SeqAt.compareEq_reads ra rb c1 c2 (by lia) ⟨.bl _,H,I,rfl,q⟩
def Mr(hu:X.A.units+3<bu):OpR X (aF .NotEq) (λx y H Q=>∃d d',DAt H d x/\DAt H d' y/\d.canLay0=true/\d'.canLay0=true/\min d.depth d'.depth<=3/\Q (.bl (!ar.eqv d d')) H):=by
 intro pins s Z H x y v u Q I rx ry h;obtain⟨d,d',h1,h2,c1,c2,hd,q⟩:=h;obtain⟨as,ra⟩:=Fp I d x v h1 rx;obtain⟨bs,rb⟩:=Fp I d' y u h2 ry;exact SeqAt.compareNe_reads ra rb c1 c2 (by lia) ⟨.bl _,H,I,rfl,q⟩
end
mutual
def Bo:ar->Bool
 | .none | .int _=>true
 | .str x=>ar.strOk x
 | .list xs | .tuple xs=>Dp xs
 | .bool _ | .dict _=>false
def Dp:List ar->Bool
 | []=>true
 | x::xs=>Bo x&&Dp xs
end
mutual
theorem Da:∀d:ar,Bo d=true->d.canLay0=true
 | .none,_=>rfl
 | .int _,_=>rfl
 | .str x,h=>h
 | .list xs,h=>J5 xs h
 | .tuple xs,h=>J5 xs h
 | .bool _,h=>nomatch h
 | .dict _,h=>nomatch h
theorem J5:∀ds:List ar,Dp ds=true->ar.canLayAll0 ds=true
 | [],_=>rfl
 | d::ds,h=>by
  have h':(Bo d&&Dp ds)=true:=h;rw[Oy] at h';show (d.canLay0&&ar.canLayAll0 ds)=true;rw[Da d h'.1,J5 ds h'.2];rfl
end
mutual
theorem J6:∀(d d':ar),Bo d=true->Bo d'=true->(ar.eqv d d'=true↔d=d')
 | .none,d',_,h=>by cases d'<;>simp[ar.eqv]
 | .int i,d',_,h=>by cases d'<;>simp_all [ar.eqv,Bo]
 | .str x,d',_,h=>by cases d'<;>simp_all [ar.eqv,Bo]
 | .list xs,d',g,h=>by
  cases d' with
  | list ys=>
   have:=Ms xs ys g h;simp only[ar.eqv,this,ar.list.injEq]
  | _=>simp[ar.eqv]
 | .tuple xs,d',g,h=>by
  cases d' with
  | tuple ys=>
   have:=Ms xs ys g h;simp only[ar.eqv,this,ar.tuple.injEq]
  | _=>simp[ar.eqv]
 | .bool _,_,g,_=>nomatch g
 | .dict _,_,g,_=>nomatch g
theorem Ms:∀(xs ys:List ar),Dp xs=true->Dp ys=true->(ar.eqvAll xs ys=true↔xs=ys)
 | [],[],_,_=>by simp[ar.eqvAll]
 | [],_::_,_,_=>by simp[ar.eqvAll]
 | _::_,[],_,_=>by simp[ar.eqvAll]
 | x::xs,y::ys,g,h=>by
  have g':(Bo x&&Dp xs)=true:=g;have h':(Bo y&&Dp ys)=true:=h;rw[Oy] at g' h';have e1:=J6 x y g'.1 h'.1;have e2:=Ms xs ys g'.2 h'.2;simp only[ar.eqvAll,Oy,e1,e2,List.cons.injEq]
end
def Xk1{α : Type}[DecidableEq α](f : α->ar)(inj:∀a b,f a=f b->a=b)(a b)(ha:Bo (f a)=true)(hb:Bo (f b)=true):ar.eqv (f a) (f b)=decide (a=b):=by
 rw[Qj,J6 _ _ ha hb,decide_eq_true_eq];exact⟨inj a b,λe=>by rw[e]⟩
theorem plainAll_map{α : Type}(f):∀(xs:List α),(∀x∈xs,Bo (f x)=true)->Dp (xs.map f)=true
 | [],_=>rfl
 | x::xs,h=>by
  show (Bo (f x)&&Dp (xs.map f))=true;rw[h x Op,plainAll_map f xs λy hy=>h y (Ol _ hy)];rfl
section
variable {X:Cx}{tg:aE}
def Xk2 (tl:TE):TI:=fun Z H R=>tl Z H λx H1=>∃d kvs,x = .ref d/\((H1 d=some (.dK kvs)/\∀o,R (Itd d o kvs) (upd H1 d (.frz o (.dK kvs)))) \/ ∃o,H1 d=some (.frz o (.dK kvs))/\R (Itd d o kvs) H1)
def Gg  (hl:PE X l tl):PI X tg l (Xk2 tl):=by
 intro pins s Z H R I h;refine thn (hl pins s Z H _ I h) λv s1 ⟨x,H1,I1,r1,q1⟩=>?_;obtain⟨d,kvs,e,q⟩:=q1;subst e;cases r1;rcases q with ⟨hH,q⟩ | ⟨o,hH,q⟩
 ·obtain⟨hz,hm,vs,rv,o,es,ep,ho,hex,hd,r⟩:=I1.hok d _ hH;have aN:kvs.length=vs.length:=Paired.length rv;refine eO (knd:=Be X.prog X.w) hm ⟨o,es,ho,hex,hd,r⟩ ?_;have I2:=I1.freeze hH ho;refine⟨s1.heap.objs.size,[s1.heap.objs.size],_,_,_,rfl,I2.kept (t':=s1.toks) λb o e=>Tt _ e,L6 d _ o es ep hd kvs (Oo (Tr ho)),⟨_,am.get?_push_size _ rfl,rfl,by rw[aN];rfl⟩,λb hb=>?_,q o⟩;have e:b=s1.heap.objs.size:=by simpa using hb
  subst e;exact I2.fpOk (Og _) (I2.hok.fresh (Og _))
 ·obtain⟨fh,hok⟩:=(show A4 X.prog X.w H1 s1.heap d (.frz o (.dK kvs)) from I1.hok d _ hH);obtain⟨hz,hm,vs,rv,o',es,ep,ho,hex,hd,r⟩:=hok;have eo:o'=o:=by rw[fh] at ho;exact(Ox ho).symm
  subst eo;have aN:kvs.length=vs.length:=Paired.length rv;refine eO (knd:=Be X.prog X.w) hm ⟨o',es,ho,hex,hd,r⟩ ?_;refine⟨s1.heap.objs.size,[s1.heap.objs.size],_,_,_,rfl,I1.kept (t':=s1.toks) λb o e=>Tt _ e,L6 d _ o' es ep hd kvs (Oo (Tr ho)),⟨_,am.get?_push_size _ rfl,rfl,by rw[aN];rfl⟩,λb hb=>?_,q⟩;have e:b=s1.heap.objs.size:=by simpa using hb
  subst e;exact I1.fpOk (Og _) (I1.hok.fresh (Og _))
end
def hid (D:ae) (H:Hp):Hp:=λb=>if b=D then none else H b
def Fq(D)(H):Same (hid D H) H:=λb o e=>by
 unfold hid at e;split at e
 ·cases e
 ·exact e
def Xc8(D)(H)(o):hid D (upd H D o)=hid D H:=by
 funext b;unfold hid;split
 ·rfl
 ·rename_i h;rw[Ae h]
def Ia{D}(s:Same H H'):Same (hid D H) (hid D H'):=λb o e=>by
 unfold hid at e ⊢;split at e
 ·cases e
 ·rename_i h;rw[Tj h];exact s b o e
def Cz   (h:H b=some o) (n:b≠D):hid D H b=some o:=by
 unfold hid;rw[Tj n];exact h
def Xc9     (hD:H D=some o) (np:H p=none) (h:DAll (hid D (upd H p (.tup xs))) ds xs):DAt (hid D (upd H p (.tup xs))) (.tuple ds) (.ref p):=
 Mm (Cz Ab (Av hD np).symm) h
section
variable {tt:TT}{te:TE}{J:It}{Z:St}{H0 H1:Hp}{D:ae}{F:St->Hp->Prop}{j:Nat}{xs0:List V}
def Mt(n)(vs:Nat->V)(ok)(vJ)(acc)(hH:H0 D=none)(s0:Same H0 H1)(iQ:H1 D=some (.lst xs0))(bT:DAll (hid D H1) acc xs0)(yM:acc.length+n<sizeLine)
  (gu:∀i H2,i<n->Same H0 H2->J.go i H2/\∀x H3,J.yld i H2 x H3->H3=H2/\x=vs i)
  (bD:∀H2,Same H0 H2->J.stop n H2)
  (rQ:∀(i:Nat) H2 Q,i<n->Same H0 H2->(∀H',Same H2 H'->Q (ok i) H')->tt (Z.set j (some (vs i))) H2 Q)
  (step:∀(i:Nat) xs H2 Q,i<n->ok i=true->Same H0 H2->H2 D=some (.lst xs)->(∀v H',Same H2 H'->DAt (hid D H') (vJ i) v->Q v H')->te (Z.set j (some (vs i))) H2 Q)
  (fin:∀Z' H2 xs,(∀v, Z'.set j v = Z.set j v)->Same H0 H2->H2 D=some (.lst xs)->DAll (hid D H2) (acc++((List.range n).filter ok).map vJ) xs->F Z' H2):
  tLp (A7 j) tt (Hy te D) J Z H1 F:=by
 refine⟨wN n λi Z2 H2=>(∀v, Z2.set j v = Z.set j v)/\Same H0 H2/\∃xs,H2 D=some (.lst xs)/\DAll (hid D H2) (acc++((List.range i).filter ok).map vJ) xs,⟨n,by simp,Pf _,λ_=>rfl,s0,xs0,iQ,by simpa using bT⟩,?_⟩;rintro i m Z1 H2 ⟨rfl,hi,e,s2,xs,hD,cU⟩;by_cases aZ:i<n
 ·obtain⟨h1,h2⟩:=gu i H2 aZ s2;refine .inr ⟨h1,λx H3 y=>?_⟩;obtain⟨e1,e2⟩:=h2 x H3 y;subst e1 e2;show tt (Z1.set j (some (vs i))) H3 _;rw[e];refine rQ i H3 _ aZ s2 λH4 s4=>?_;have rW:=s2.trans s4;have dq:=s4 _ _ hD;have lX:=DAll.same (Ia (D:=D) s4) _ _ cU;have j9:∀v,(Z.set j (some (vs i))).set j v = Z.set j v:=λv=>by rw[Tb]
  have hl:xs.length<=acc.length+i:=by
   rw[Gf cU,Oh,Od];have:((List.range i).filter ok).length<=i:=Pj (Pl ..) (by rw[Qf];lia)
   lia
  refine A2 (λhk=>?_) (λhk=>?_)
  ·show te (Z.set j (some (vs i))) H4 _;refine step i xs H4 _ aZ hk rW dq λv H5 s5 hv=>?_;refine⟨xs,s5 _ _ dq,by lia,?_⟩;refine wskip aZ ⟨j9,λb u e'=>?_,xs++[v],Ab,?_⟩
   ·rw[Ae (Av e' hH)];exact s5 _ _ (rW b u e')
   ·rw[Xc8,Pq,O1,Ot,<-O7];simp only[Pi,hk,if_true,Rt,O5,R0];exact J4 (DAll.same (Ia (D:=D) s5) _ _ lX) hv
  ·refine wskip aZ ⟨j9,rW,xs,dq,?_⟩;rw[Pq,O1];simpa [hk] using lX
 ·have ei:i=n:=by lia
  subst ei;exact .inl ⟨bD H2 s2,fin Z1 H2 xs e s2 hD cU⟩
def Xk3(n:Nat)(vs:Nat->V)(acc:Nat->List ar)(hH:H0 D=none)(s0:Same H0 H1)(iQ:H1 D=some (.lst xs0))(bT:DAll (hid D H1) (acc 0) xs0)(EZ:St->Prop)(hE:EZ Z)
  (gu:∀i H2,i<n->Same H0 H2->J.go i H2/\∀x H3,J.yld i H2 x H3->H3=H2/\x=vs i)
  (bD:∀H2,Same H0 H2->J.stop n H2)
  (step:∀(i:Nat) Z1 xs H2 (Q:St->Hp->Prop),i<n->EZ Z1->Same H0 H2->H2 D=some (.lst xs)->DAll (hid D H2) (acc i) xs->(∀Z' H' i4,EZ Z'->Same H0 H'->H' D=some (.lst i4)->DAll (hid D H') (acc (i+1)) i4->Q Z' H')->tm (Z1.set j (some (vs i))) H2 Q)
  (fin:∀Z' H2 xs,Same H0 H2->H2 D=some (.lst xs)->DAll (hid D H2) (acc n) xs->F Z' H2):
  tLp (A7 j) Ed tm J Z H1 F:=by
 refine⟨wN n λi Z2 H2=>EZ Z2/\Same H0 H2/\∃xs,H2 D=some (.lst xs)/\DAll (hid D H2) (acc i) xs,⟨n,by simp,Pf _,hE,s0,xs0,iQ,bT⟩,?_⟩;rintro i m Z1 H2 ⟨rfl,hi,e,s2,xs,hD,cU⟩;by_cases aZ:i<n
 ·obtain⟨h1,h2⟩:=gu i H2 aZ s2;refine .inr ⟨h1,λx H3 y=>?_⟩;obtain⟨e1,e2⟩:=h2 x H3 y;subst e1 e2;unfold A7 Ed;dsimp only;rw[Tk rfl];exact step i Z1 xs H3 _ aZ e s2 hD cU fun Z' H' i4 e' s' eA oC=>wskip aZ ⟨e',s',i4,eA,oC⟩
 ·have ei:i=n:=by lia
  subst ei;exact .inl ⟨bD H2 s2,fin Z1 H2 xs s2 hD cU⟩
def Xk4(n:Nat)(vs:Nat->V)(acc:Nat->List ar)(G:Hp->Prop)(hH:H0 D=none)(s0:Same H0 H1)(g0:G H1)(iQ:H1 D=some (.lst xs0))(bT:DAll (hid D H1) (acc 0) xs0)(EZ:St->Prop)(hE:EZ Z)
  (gu:∀i H2,i<n->Same H0 H2->J.go i H2/\∀x H3,J.yld i H2 x H3->H3=H2/\x=vs i)
  (bD:∀H2,Same H0 H2->J.stop n H2)
  (step:∀(i:Nat) Z1 xs H2 (Q:St->Hp->Prop),i<n->EZ Z1->Same H0 H2->G H2->H2 D=some (.lst xs)->DAll (hid D H2) (acc i) xs->(∀Z' H' i4,EZ Z'->Same H0 H'->G H'->H' D=some (.lst i4)->DAll (hid D H') (acc (i+1)) i4->Q Z' H')->tm (Z1.set j (some (vs i))) H2 Q)
  (fin:∀Z' H2 xs,Same H0 H2->G H2->H2 D=some (.lst xs)->DAll (hid D H2) (acc n) xs->F Z' H2):
  tLp (A7 j) Ed tm J Z H1 F:=by
 refine⟨wN n λi Z2 H2=>EZ Z2/\Same H0 H2/\G H2/\∃xs,H2 D=some (.lst xs)/\DAll (hid D H2) (acc i) xs,⟨n,by simp,Pf _,hE,s0,g0,xs0,iQ,bT⟩,?_⟩;rintro i m Z1 H2 ⟨rfl,hi,e,s2,g2,xs,hD,cU⟩;by_cases aZ:i<n
 ·obtain⟨h1,h2⟩:=gu i H2 aZ s2;refine .inr ⟨h1,λx H3 y=>?_⟩;obtain⟨e1,e2⟩:=h2 x H3 y;subst e1 e2;unfold A7 Ed;dsimp only;rw[Tk rfl];exact step i Z1 xs H3 _ aZ e s2 g2 hD cU fun Z' H' i4 e' s' g' eA oC=>wskip aZ ⟨e',s',g',i4,eA,oC⟩
 ·have ei:i=n:=by lia
  subst ei;exact .inl ⟨bD H2 s2,fin Z1 H2 xs s2 g2 hD cU⟩
end
section
variable {X:Cx}{pos np jW:bI}{body:List aM}{b0:aM}{suite:List aM}{x:ak}{Cc:ae}{tb:(ae->St->Hp->Prop)->TS}{th:TS}
def Xk5 (K:LD) (Cc:ae) (tb:(ae->St->Hp->Prop)->TS) (th:TS):TS:=λD Z H=>∃R:ae->St->Hp->Prop,tb R D Z H/\∀C Z1 H1,R C Z1 H1->LG K (.ref C) (.ref Cc)=some true/\th D Z1 H1
def Xk6(bD:X.stack=X.env::X.outer)(j5:X.env.frame=some X.env.locals)(hg:Gl X x)(hm:X.mg x=some (.ref Cc))
  (hb:∀pn R,PSs (X.tryC pn R) body (tb R)) (hh:∀pn ex,PSs (X.suite pn ex) (b0::suite) th) (gj:(x==("__debug__" : ak))=false:=by decide):
  PS X (.Try body [.ExceptHandler (some (.Name x np)) none (b0::suite) jW] [] [] pos) (Xk5 X.K Cc tb th):=by
 intro pins s Z H D I h;obtain⟨R,yM,BW⟩:=h;have rX:∀p∈X.pn++pins++[],p∈X.pn++pins:=λp hp=>by simpa using hp
 have kj:∀p∈X.pn++pins,p∈X.pn++pins++[]:=λp hp=>by simpa using hp
 have I0:Inv (X.tryC (X.pn++pins) R) [] Z H s:=I.as I.ok.hd I.ok.frames rX;refine wpAny_Try_except (aI (hb (X.pn++pins) R [] s Z H D I0 yM) (λfl s1 q=>?_) λe s1 q=>?_)
 ·have ur:∀{Z':St} {H':Hp},Inv (X.tryC (X.pn++pins) R) [] Z' H' s1->Inv X pins Z' H' s1:=λJ=>J.back I.ok kj;cases fl with
  | next=>
   obtain⟨Z',H',J,q⟩:=q;exact cu ⟨Z',H',ur J,q⟩
  | brk=>
   obtain⟨Z',H',J,q⟩:=q;exact⟨Z',H',ur J,q⟩
  | cont=>
   obtain⟨Z',H',J,q⟩:=q;exact⟨Z',H',ur J,q⟩
  | ret u=>
   obtain⟨v, Z',H',J,r,q⟩:=q;exact⟨v, Z',H',ur J,r,q⟩
 ·obtain⟨Z1,Hc,sc,Ic,ex,c,H1,B,a0,rfl,fC,jV,F,C,hC,hR⟩:=q;cases hC;obtain⟨hx,BX⟩:=BW c Z1 H1 hR;have F':Flown X.prog X.w (X.env::X.outer) Hc sc.heap H1 ex c B a0 s1.heap:=by rw[<-bD];exact F
  have vK:X.A.frames=some (X.env::X.outer):=by rw[<-bD];exact I.ok.frames
  have step:∀(h5:am) (tk:Nat),B.StaysIn h5->s1.heap.UpToSlots h5->Inv (X.re (X.pn++pins) X.A X.calm λ_ _=>True) [] Z1 H1 {s1 with heap:=h5,toks:=tk}:=λh5 tk st up=>by
   obtain⟨un,hok,_⟩:=F'.move st up;refine Ic.call' (ch:=[]) fC ?_ hok jV (λb z=>absurd z (by simp));show Un (frs X.stack) [] Hc H1 sc.heap h5;rw[bD];exact un
  refine wpAny_looks_onW (L:=X.env.locals) vK j5 F'.fly λh4 vL yN=>?_;refine wpAny_landsW vL λh5 vM yO=>?_;have I5:=step h5 s1.toks vM.1 (yN.trans yO);have yP:Inv (X.suite (X.pn++pins) ex) [] Z1 H1 {s1 with heap:=h5}:=Inv.as (X:=X.re (X.pn++pins) X.A X.calm λ_ _=>True) I5 (λz=>absurd z (by decide)) I.ok.frames (λp hp=>hp);have LT:MX (ag X.prog X.w) h5 (typeOf (.ref ex)) (.ref c):=by
   obtain⟨ob,ut,vN⟩:=vM.there;rw[<-vN];exact(MX.ld ut).andThen .now
  refine wpAny_handleBy_cons (codeAny_handlers_test ?_) (by intro q;cases q);refine Jc (X:=X.suite (X.pn++pins) ex) yP (show Gl (X.suite (X.pn++pins) ex) x from hg) hm ?_ gj;refine(PySem.W.exm_one (yP.kIn) LT hx).here ?_;refine codeAny_handlers_suite (lands_againW vM λh6 BY BZ=>?_);have vO:=(yN.trans yO).trans BZ;have I6:=step h6 s1.toks BY.1 vO;have Ch:Inv (X.suite (X.pn++pins) ex) [] Z1 H1 {s1 with heap:=h6}:=Inv.as (X:=X.re (X.pn++pins) X.A X.calm λ_ _=>True) I6 (λz=>absurd z (by decide)) I.ok.frames (λp hp=>hp);refine aI (hh (X.pn++pins) ex [] _ _ _ _ Ch BX) (λfl s9 q9=>?_) λ_ _ z=>z.elim;have lY:∀{Z':St} {H':Hp},Inv (X.suite (X.pn++pins) ex) [] Z' H' s9->Inv X pins Z' H' s9:=λJ=>J.back I.ok kj;cases fl with
  | next=>
   obtain⟨Z',H',J,q⟩:=q9;exact⟨Z',H',lY J,q⟩
  | brk=>
   obtain⟨Z',H',J,q⟩:=q9;exact⟨Z',H',lY J,q⟩
  | cont=>
   obtain⟨Z',H',J,q⟩:=q9;exact⟨Z',H',lY J,q⟩
  | ret u=>
   obtain⟨v, Z',H',J,r,q⟩:=q9;exact⟨v, Z',H',lY J,r,q⟩
end
section
variable {X:Cx}
def Xk7:X.calm=true->Bv X (.builtin "any") (λxs H Q=>∃(a:ae) (bs:List Bool),xs=[.ref a]/\H a=some (.lst (bs.map V.bl))/\Q (.bl (bs.any id)) H):=by
 intro hc pins s Z H xs us Q I r h;obtain⟨a,bs,rfl,ha,q⟩:=h;obtain⟨u,rfl,ru⟩:=Bw r;cases ru;obtain⟨a7,rv,p,hz⟩:=I.list (SqL.of ha);have hl:=rv.length;rw[Od] at hl;refine call_any_walk (cD p.isList ?_);have aZ:a≠s.heap.objs.size:=by
  obtain⟨o,ho,_⟩:=p.isList;exact Oo (Tr ho)
 refine⟨s.heap.objs.size,_,_,_,_,_,λj=>bs.getD j false,rfl,mU.list (A:=X.A.in1) (show X.A.in1.handled=none from I.ok.hd hc) s.heap.objs.size a aZ a7.toArray,⟨⟨_,am.get?_push_size _ rfl,rfl,rfl⟩,p.isList.push _⟩,λi v s' Q' E' hP hQ=>?_,λh' tk k=>?_⟩
 ·have hv:a7[i]? = some v:=by simpa using hP
  have hi:i<a7.length:=(Oz.mp hv).1;have g:(bs.map V.bl)[i]? = some (.bl (bs[i]'(by lia))):=by
   rw[Ov,Oe (by lia)];rfl
  obtain⟨u,hu,ru⟩:=rv.get g;rw[hv] at hu;cases hu;cases ru;have e:bs.getD i false=bs[i]'(by lia):=by simp[List.getD,(by lia:i<bs.length)]
  have rB:Q' (bs.getD i false) s':=hQ;rw[e] at rB;exact aL rB
 ·refine⟨.bl (bs.any id),H,I.kept (t':=tk) λb o e=>k b o (λz=>?_) (Tt _ e),?_,q⟩
  ·have z':b=s.heap.objs.size:=by simpa using z
   exact absurd (Tr e) (by rw[z'];exact Pz _)
  ·show aa.bool _=aa.bool _;congr 1;rw[Oi,<-hl];rw[Qj,Rk,Rk];constructor
   ·rintro ⟨j,hj,e⟩;have fV:=Ps.mp hj;refine⟨_,Ph fV,?_⟩;simpa [List.getD,fV] using e
   ·rintro ⟨b,hb,e⟩;obtain⟨j,hj,rfl⟩:=P0.mp hb;exact⟨j,Ps.mpr hj,by simpa [List.getD,hj] using e⟩
def Mu:Bv X (.builtin "sorted") (λxs H Q=>∃a ks,xs=[.ref a]/\H a=some (.lst (ks.map V.str))/\ks.length<64/\∀l,H l=none->Q (.ref l) (upd H l (.lst ((srt ks).map V.str)))):=by
 intro pins s Z H xs us Q I r h;obtain⟨a,ks,rfl,ha,cq,q⟩:=h;obtain⟨u,rfl,rx⟩:=Bw r;cases rx;obtain⟨a7,rv,pl,hz⟩:=I.list (SqL.of ha);have hl:=rv.length;rw[Od] at hl;refine sorted_strs pl.isList (F9 rv) (by lia) λout qr h1 h2 h3=>?_;obtain⟨e,he⟩:=vP s.heap a7 out;have es:qr=srt ks:=Ga h2 h3;subst es;have hf:H (s.heap.objs.size+1)=none:=I.hok.fresh (Qh _);refine⟨.ref (s.heap.objs.size+1),_,I.laid (t':=s.toks) (h':=oD s.heap a7 out) (o:=.lst ((srt ks).map V.str)) (λb ob q=>uu q) (Qh _) ?_,rfl,q _ hf⟩;refine⟨by rw[Od,h2.length_eq,Ti];lia,out.toList,e,Xcm h1,?_⟩;rw[he]
def Mv:R2:=λx y H Q=>∃a b xs ys,x = .ref a/\y = .ref b/\H a=some (.tup xs)/\H b=some (.tup ys)/\xs.length+ys.length<=sizeLine/\∀p H',Same H H'->H' p=some (.tup (xs++ys))->Q (.ref p) H'
def Ib:OpR X (bh .Add) Mv:=by
 intro pins s Z H x y v u Q I rx ry h;obtain⟨a,b,xs,ys,rfl,rfl,ha,hb,hz,q⟩:=h;by_cases hx:xs=[]
 ·subst hx;cases rx;cases ry;obtain⟨a7,r1,p1,_⟩:=I.tuple (SqT.of (K:=X.K) ha);obtain⟨il,r2,p2,_⟩:=I.tuple (SqT.of (K:=X.K) hb);cases r1;obtain⟨⟨cls,dd,data,sl⟩,ho,hc,n,hd⟩:=id p1;obtain⟨⟨qY,mV,data2,mW⟩,jz,gl,n2,cE⟩:=id p2;simp only at hc hd gl cE;subst hc hd gl cE;exact iX ⟨_,ho,rfl⟩ ⟨_,jz,rfl⟩ fk ig PySem.F.slot_tuple_add PySem.F.entry_tuple_add (PySem.F.args_tuple_add_2 _ _)
   (tuple_addW0 a b _ _ n n2 dd mV sl mW (by simp)) ⟨ho,jz,⟨.ref b,H,I,rfl,q b H (Same.refl H) hb⟩⟩
 ·refine Xic pins s Z H (.ref a) (.ref b) v u Q I rx ry ⟨a,b,xs,ys,rfl,rfl,SqT.of ha,SqT.of hb,hx,hz,λhy=>?_,λhy p np=>?_⟩
  ·subst hy;exact q a H (Same.refl H) (by rw[Pm];exact ha)
  ·exact q p _ ((Same.refl H).step np) Ab
end
end L2
namespace HT
open PySem.Calls L2
section
variable {prog:ao}{w:aw}{A:av}{E:Zb}{s:af}
def getItem_tuple_whole    {lo hi} (ht:cW s.heap t ay) (hs:s.heap.IsSliceOf sl vl vu .none) (pl:dw vl lo) (pu:dw vu hi)
  (hw:sIx ay.size 0 lo=0/\sIx ay.size ay.size hi=ay.size) (h:Q (.ref t) s):ai (ag prog w) A (bU (.ref t) (.ref sl)) Q E s:=by
 obtain⟨os,fC,oo,lh⟩:=id hs;have li:s.TypeIs (.ref sl) "slice" := ⟨os,fC,oo⟩;unfold bU
 try with_reducible refine az ?_
 first | refine Te (Tf ?_) | skip
 refine Te (eF ht.typeIs (by decide) ?_);refine Te (bz (name:=ak.ofString "__getitem__") ht.typeIs PyProof.Rows.slot_tuple_getitem
  (aP PyProof.Rows.slot_tuple_getitem ht.typeIs dH ?_ (dU _ _)))
 show ai _ _ (aj.Tuple.tupleItemsOf (.ref t) >>= _) _ _ s;refine Te (ii ht ?_);refine Te (bo li ?_);rw[Tk (by decide)];refine Te (Xa6 hs pl pu ?_);have vQ:((((sIx ay.size 0 lo:Nat):Int)==0&&(1:Int)==1&&(sIx ay.size ay.size hi - sIx ay.size 0 lo)==ay.size)=true):=by
  rw[hw.1,hw.2];simp
 show ai _ _ (if (((sIx ay.size 0 lo:Nat):Int)==0&&(1:Int)==1&&(sIx ay.size ay.size hi - sIx ay.size 0 lo)==ay.size)=true then _ else _) _ _ s;rw[Tk vQ];have hx:∀{Q':Bool->af->Prop},Q' true s->ai (ag prog w) A.in1 (aj.Tuple.tupleIsExact (.ref t)) Q' E s:=λ{Q'} q=>by
  unfold aj.Tuple.tupleIsExact;obtain⟨o,ho,hc,n,hd⟩:=ht
  repeat (first | exact Tf q | refine Te (bo ⟨o,ho,hc⟩ ?_) | refine bo ⟨o,ho,hc⟩ ?_ | wp_step)
 refine Te (hx ?_);rw[Tk rfl];exact Te (aR (Te (Tf (Tf ⟨_,rfl,Tf h⟩))))
def Xk8(n:Nat):aj.Slice.sliceAdjust none none (-1) (n:Int)=((n:Int) - 1, -1):=by
 unfold aj.Slice.sliceAdjust;simp
def Xk9(n:Nat):aj.Slice.slicePlaces ((n:Int) - 1) (-1) (-1)=n:=by
 unfold aj.Slice.slicePlaces;rw[Tj (by decide)];by_cases h:(n:Int) - 1 > -1
 ·rw[Tk h,show (- -1:Int)=1 from rfl,Int.ediv_one]
  lia
 ·rw[Tj h]
  lia
def Xla  {n:Nat}  (hs:s.heap.IsSliceOf sl .none .none (.int (-1) tk))
  (h:Q ((n:Int) - 1, -1,n) s):ai (ag prog w) A (aj.Slice.sliceApplied (.ref sl) (pure (n:Int))) Q E s:=by
 obtain⟨os,fC,oo,lh⟩:=id hs;unfold aj.Slice.sliceApplied aj.Slice.sliceFields;refine Te (Te (cF fC lh (x:=.none) rfl (Te (cF fC lh (x:=.none) rfl (Te (cF fC lh (x:=.int (-1) tk) rfl (Tf ?_)))))));refine Te (uh ?_);show ai _ _ (if ((-1:Int)==0)=true then _ else _) _ _ s;rw[Tj (by decide)];refine Te (dy (Te (dy (Te (Tf ?_)))));show ai _ _ (match aj.Slice.sliceAdjust none none (-1) (n:Int) with | (lo,hi)=>pure (lo,(-1:Int),aj.Slice.slicePlaces lo hi (-1))) _ _ s;rw[Xk8];show ai _ _ (pure ((n:Int) - 1,(-1:Int),aj.Slice.slicePlaces ((n:Int) - 1) (-1) (-1))) _ _ s;rw[Xk9];exact Tf h
def Xlb(xs:Array aa):((List.range xs.size).filterMap λ(m:Nat)=>xs[((xs.size:Int) - 1+(m:Int) * -1).toNat]?).toArray=xs.toList.reverse.toArray:=by
 have e:(List.range xs.size).filterMap (λ(m:Nat)=>xs[((xs.size:Int) - 1+(m:Int) * -1).toNat]?)=((List.range xs.size).map λk=>xs.size - 1 - k).filterMap (xs[·]?):=by
  rw[Sr];have dm:∀(l:List Nat),(∀m∈l,m<xs.size)->l.filterMap (λ(m:Nat)=>xs[((xs.size:Int) - 1+(m:Int) * -1).toNat]?)=l.filterMap ((λx=>xs[x]?) ∘ λk=>xs.size - 1 - k):=by
   intro l
   induction l with
   | nil=>intro _;rfl
   | cons m l ih=>
    intro hm;have h1:=hm m Op;have e1:((xs.size:Int) - 1+(m:Int) * -1).toNat=xs.size - 1 - m:=by lia
    rw[Qb,Qb,ih λx hx=>hm x (Ol _ hx),e1];rfl
  exact dm _ λm hm=>Ps.mp hm
 rw[e,PySem.W.krv_range,List.filterMap_reverse,PySem.W.krv_all]
def getItem_tuple_rev    (ht:cW s.heap t ay) (hs:s.heap.IsSliceOf sl .none .none (.int (-1) tk))
  (h:Q (.ref s.heap.objs.size) {s with heap:=s.heap.push {cls:=.type "tuple",data:=.seq ay.toList.reverse.toArray} })
  (hsz:ay.size<=sizeLine):ai (ag prog w) A (bU (.ref t) (.ref sl)) Q E s:=by
 have dz:sizeOk (.seq ay.toList.reverse.toArray):=by
  show ay.toList.reverse.toArray.size<=sizeLine;rw[Oi,Rz,Os];exact hsz
 obtain⟨os,fC,oo,lh⟩:=id hs;have li:s.TypeIs (.ref sl) "slice" := ⟨os,fC,oo⟩;unfold bU
 try with_reducible refine az ?_
 first | refine Te (Tf ?_) | skip
 refine Te (eF ht.typeIs (by decide) ?_);refine Te (bz (name:=ak.ofString "__getitem__") ht.typeIs PyProof.Rows.slot_tuple_getitem
  (aP PyProof.Rows.slot_tuple_getitem ht.typeIs dH ?_ (dU _ _)))
 show ai _ _ (aj.Tuple.tupleItemsOf (.ref t) >>= _) _ _ s;refine Te (ii ht ?_);refine Te (bo li ?_);rw[Tk (by decide)];refine Te (Xla hs ?_);have fm:¬((((ay.size:Int) - 1)==0&&(-1:Int)==1&&ay.size==ay.size)=true):=by
  intro q;rw[Oy,Oy] at q;exact absurd (eq_of_beq q.1.2) (by decide)
 show ai _ _ (if (((ay.size:Int) - 1)==0&&(-1:Int)==1&&ay.size==ay.size)=true then _ else _) _ _ s;rw[Tj fm,Xlb]
 first
  | exact Te (m:=aj.Tuple.tupleExact _) (aD (Tf ⟨_,rfl,Tf h⟩) dz)
  | exact Te (m:=aj.Tuple.tupleExact _) (aD (Te (Tf (Tf ⟨_,rfl,Tf h⟩))) dz)
  | exact Te (Te (m:=aj.Tuple.tupleExact _) (aD (Tf (Tf ⟨_,rfl,Tf h⟩)) dz))
  | exact Te (Te (m:=aj.Tuple.tupleExact _) (aD (Tf ⟨_,rfl,Tf h⟩) dz))
end
end HT
namespace L2
section
variable {X:Cx}{pos p2:bI}{e:aE}{te:TE}
def Mw:V->Option Int->Option Int->Hp->VK->Prop:=λx lo hi H Q=>∃a xs,x = .ref a/\H a=some (.tup xs)/\∀p H',Same H H'->H' p=some (.tup (Bx xs lo hi))->Q (.ref p) H'
def Ie:SlR X Mw:=by
 intro pins s Z H x v vl vu lo hi sl Q I rx hs pl pu h;obtain⟨a,xs,rfl,hx,q⟩:=h;by_cases hw:HT.sIx xs.length 0 lo=0/\HT.sIx xs.length xs.length hi=xs.length
 ·cases rx;obtain⟨a7,r,ht,hz⟩:=I.tuple (SqT.of (K:=X.K) hx);have aN:a7.toArray.size=xs.length:=by rw[Oi];exact r.length.symm
  refine⟨"tuple",_,PyProof.Rows.slot_tuple_getitem.lookup,ht.typeIs,?_⟩;refine HT.getItem_tuple_whole ht hs pl pu (by rw[aN];exact hw) ⟨.ref a,H,I,rfl,q a H (Same.refl H) ?_⟩;unfold Bx;rw[hw.1,hw.2,Rc,Su,P4];exact hx
 ·exact Xia pins s Z H (.ref a) v vl vu lo hi sl Q I rx hs pl pu ⟨a,xs,rfl,SqT.of hx,hw,λp np=>q p _ ((Same.refl H).step np) Ab⟩
def Xlc (te:TE):TE:=fun Z H Q=>te Z H λx H1=>∃a xs,x = .ref a/\H1 a=some (.tup xs)/\∀p,H1 p=none->Q (.ref p) (upd H1 p (.tup xs.reverse))
def Xld  (he:PE X e te):PE X (.Subscript e (.Slice none none (some (.UnaryOp .USub (.Constant (.int 1) k p3) p4)) p2) pos) (Xlc te):=by
 intro pins s Z H Q I h;refine dW (thn (he pins s Z H _ I h) λv s1 ⟨x,H1,I1,r1,q1⟩=>?_);have jX:PE X (.UnaryOp .USub (.Constant (.int 1) k p3) p4) (tUn (rU λi=>.int (-i)) (tC (.int 1))):=Xai Xan Ai;refine jO ?_;rw[dP];refine Tf (Tf ?_);rw[ij];refine thn (jX pins s1 Z H1 (λy H2=>y = .int (-1)/\H2=H1) I1 ⟨1,rfl,rfl,rfl⟩) λu s2 ⟨y,H2,I2,r2,ey,eH⟩=>?_;subst ey eH;obtain⟨t,rfl⟩:=r2;obtain⟨a,xs,ex,hx,q⟩:=q1;subst ex;cases r1;have I4:Inv X pins Z H2 {s2 with heap:=s2.heap.push {cls:=.type "slice",data:=.fields #[.none,.none,.int (-1) t]} }:=I2.kept (t':=s2.toks) λb ob q=>Tt _ q;obtain⟨vm,r4,ja,qh⟩:=I4.tuple (SqT.of (K:=X.K) hx);have aN:=r4.length;refine jP (ops:=[.ref a,.ref s2.heap.objs.size]) ja.typeIs PyProof.Rows.slot_tuple_getitem.lookup (HT.getItem_tuple_rev ja (am.IsSliceOf.new ..) ?_ (by rw[Oi];lia)) (by with_unfolding_all rfl);refine⟨.ref _,_,I4.laid (t':=s2.toks) (o:=.tup xs.reverse) (λb ob q=>Tt _ q) (Og _) ?_,rfl,q _ (I4.hok.fresh (Og _))⟩;exact⟨by rw[Rz];exact qh,_,Vals.reverse r4,cW.new _ _⟩
end
section
variable {X:Cx}{es:List aE}{t:L2.St->Hp->(Hp->Prop)->Prop}{e:aE}{te:TE}{pos:bI}
def Xle (te:TE) (t:L2.St->Hp->(Hp->Prop)->Prop):L2.St->Hp->(Hp->Prop)->Prop:=fun Z H Q=>te Z H λx H1=>∃(a:ae) (ss:Za),x = .ref a/\H1 a=some (.tup (ss.map V.str))/\ss.length<=24/\(∀z∈ss,z.length<=20/\∀c∈z.cps.toList,c<16 ^ 8)/\t Z H1 Q
theorem Xda:∀(ss:Za),(∀z∈ss,z.length<=20/\∀c∈z.cps.toList,c<16 ^ 8)->piled (ss.map eT)<=204 * ss.length
 | [],_=>by simp[piled]
 | z::ss,h=>by
  obtain⟨h1,h2⟩:=h z Op;have:=StrLaws.reprText_len z h2;have ih:=Xda ss λy hy=>h y (Ol _ hy);rw[O5,piled_cons,O2]
  lia
def Xlf(ts):(iR ts).length<=piled ts+3:=by
 unfold iR;rw[iu,iu];have e1:((("(" : String):ak)).length=1:=rfl;have e3:(((if ts.length==1 then ",)" else ")" : String):ak)).length<=2:=by split<;>decide
 rw[e1];by_cases h:ts=[]
 ·subst h;have:(ak.join ", " []).length=0:=rfl
  lia
 ·have:=join_length_add ts h
  lia
theorem Xdb  : ∀{ss:Za} {us:List aa},(∀z∈ss,z.length<=20/\∀c∈z.cps.toList,c<16 ^ 8)->Vals (ss.map V.str) us->ReprAll P w us (ss.map eT)
 | [],_,_,r=>by cases r;exact .nil
 | z::ss,_,h,r=>by
  cases r with
  | cons r1 r2=>
   obtain⟨tk,rfl⟩:=r1;obtain⟨h1,h2⟩:=h z Op;have:=StrLaws.reprText_len z h2;exact .cons (ReprIs.str z tk (by rw[Ti];lia)) (Xdb (λy hy=>h y (Ol _ hy)) r2)
def Xlg  (hr:Room k X.A) (ha:PE X e te) (h:PJ X es t) (he:c7 (.FormattedValue e 114 none p::es) X.env=eval (.FormattedValue e 114 none p) X.env::c7 es X.env:=by rfl):PJ X (.FormattedValue e 114 none p::es) (Xle te t):=by
 intro out pins s Z H Q I hw hl;rw[he];rw[O2] at hl;refine gt (gZ (thn (ha pins s Z H _ I hw) λv s1 ⟨x,H1,I1,r1,q1⟩=>?_));obtain⟨a,ss,ez,hp,h1,h2,q⟩:=q1;subst ez;cases r1;obtain⟨a7,rv,pl,hz⟩:=I1.tuple (SqT.of (K:=X.K) hp);obtain⟨o,ho,hc,n,hd⟩:=pl;have y7:=Xlf (ss.map eT);have vB:=Xda ss h2;have yJ:(iR (ss.map eT)).length<=5000:=by lia
 have qh:(iR (ss.map eT)).length<=sizeLine:=by rw[Ti];lia
 refine wpAny_pyReprObj_tuple (g:=[]) ⟨o,ho,hc⟩ hr.gd (by simp) hr.units0 ho hd (Xdb h2 (by simpa using rv)) (λu tk=>?_) qh;refine qp (λt' k=>⟨by rw[Fl];lia,?_⟩) qh;exact h _ pins _ Z H1 Q ((I1.tok _).tok _) q (by rw[Fl];lia)
end
end L2
namespace SH
open L2
structure Bl (mg:ak->Option aa):Prop where
 len:mg "len" = none
 range:mg "range" = none
 list:mg "list" = none
 min:mg "min" = none
 isi:mg "isinstance" = none
 all:mg "all" = none
 str:mg "str" = none
 val:mg "ValueError" = none
 sorted:mg "sorted" = none
 set:mg "set" = none
 enum:mg "enumerate" = none
 int:mg "int" = none
 bool:mg "bool" = none
 tuple:mg "tuple" = none
 any:mg "any" = none
 dict:mg "dict" = none
 sum:mg "sum" = none
 max:mg "max" = none
structure DrawOk (H:Hp) (dr sc:ae):Prop where
 ex:∃(ns:List Int) (p:Nat) (c m k:Int),H dr=some (.lst [.ref sc,.int p,.int c,.int m,.int k])/\H sc=some (.lst (ns.map V.int))/\p<=ns.length/\ns.length<=63/\0<=m/\m<1000000007
def Xdc (K:LD):Sp:=λvs H Q _=>∃(a:ae) (ns:List Int),vs=[.ref a]/\SqL K H a (ns.map V.int)/\ns.length<=63/\∀dr sc H',H dr=none->H sc=none->DrawOk H' dr sc->Same H H'->Q (.ref dr) H'
def Xdd:Sp:=λvs H Q _=>∃(dr sc:ae) (n:Int),vs=[.ref dr,.int n]/\0<n/\n<=1000/\DrawOk H dr sc /\
 ∀r H',0<=r->r<n->DrawOk H' dr sc->(∀b o,H b=some o->b≠dr->H' b=some o)->Q (.int r) H'
abbrev NP:Za:=["_law_draw", "_law_many", "_law_cell", "_law_got"]
def D5 (H:Hp) (dr sc:ae) (ns:List Int) (p:Nat) (c m k:Int):Prop:=H dr=some (.lst [.ref sc,.int p,.int c,.int m,.int k])/\H sc=some (.lst (ns.map V.int))
def cpow3(h0:0<=m)(h1:m<1000000007):CPow m 3:=⟨by decide,by decide,by lia⟩
def Dz (row:Za) (x:ak) (a b:Nat):Za:=row.take a++[x]++(row.drop a).take (b - a)++[x]++row.drop b
def Xde(row)(x)(a b)(eU:a<=b):(Dz row x a b).Perm (x::x::row):=by
 unfold Dz;have e:row=row.take a++((row.drop a).take (b - a)++row.drop b):=by
  have e1:row.drop b=(row.drop a).drop (b - a):=by rw[List.drop_drop];congr 1;lia
  rw[e1,Pb,Pb]
 generalize hA:row.take a=A at *;generalize hB:(row.drop a).take (b - a)=B at *;generalize hC:row.drop b=C at *;rw[e];have p1:(A++[x]++B++[x]++C).Perm (x::(A++B++[x]++C)):=by
  have:A++[x]++B++[x]++C=A++x::(B++[x]++C):=by simp
  rw[this];refine Rl.trans ?_;simp
 refine p1.trans (List.Perm.cons x ?_);have:A++B++[x]++C=(A++B)++x::C:=by simp
 rw[this];refine Rl.trans ?_;simp
def Xdf:Sp:=λvs H Q _=>∃(r:ae) (row:Za) (x:ak) (a b:Nat),vs=[.ref r,.str x,.int a,.int b]/\H r=some (.lst (row.map V.str))/\row.length<=1000/\a<=b/\b<=row.length /\
 ∀l H',H l=none->H' l=some (.lst ((Dz row x a b).map V.str))->Same H H'->Q (.ref l) H'
abbrev NPut:Za:=["_law_row_here", "_law_name", "_law_at", "_law_to", "_law_told"]
def A5 (x:ak):Nat->Za->List Int
 | _,[]=>[]
 | n,y::r=>if y=x then (n:Int)::A5 x (n+1) r else A5 x (n+1) r
def plc (row:Za) (x:ak):List Int:=A5 x 0 row
theorem Xdg(x y):∀n r,A5 x n (r++[y])=A5 x n r++(if y=x then [((n+r.length:Nat):Int)] else [])
 | n,[]=>by
  show (if y=x then ((n:Nat):Int)::A5 x (n+1) [] else A5 x (n+1) [])=_;split<;>simp[A5]
 | n,z::r=>by
  have ih:=Xdg x y (n+1) r;show (if z=x then (n:Int)::A5 x (n+1) (r++[y]) else A5 x (n+1) (r++[y]))=(if z=x then (n:Int)::A5 x (n+1) r else A5 x (n+1) r)++_;rw[ih,O2,show n+1+r.length=n+(r.length+1) by lia];split<;>simp
theorem J7(x):∀n r,(A5 x n r).length=r.count x
 | _,[]=>rfl
 | n,z::r=>by
  show (if z=x then (n:Int)::A5 x (n+1) r else A5 x (n+1) r).length=_;rw[List.count_cons];split
  ·rename_i e;rw[O2,J7,Tk (by simpa using e)]
  ·rename_i e;rw[J7,Tj (by simpa using e)];rfl
def Mx(row)(x):(plc row x).length=row.count x:=J7 x 0 row
def My(r)(x y):plc (r++[y]) x=plc r x++(if y=x then [(r.length:Int)] else []):=by
 have e:=Xdg x y 0 r;rw[Qc] at e;exact e
structure Wh (H:Hp) (kvs:List (Key×V)) (row:Za):Prop where
 keys:∀k∈kvs.map (·.1),∃x,k=Sum.inr x/\x∈row
 val:∀x∈row,∃l,Ay kvs (Sum.inr x:Key)=some (.ref l)/\H l=some (.lst ((plc row x).map V.int))
 none:∀x,x∉row->Ay kvs (Sum.inr x:Key)=none
 nd:(kvs.map (·.1)).Nodup
 len:kvs.length<=row.length
def Xdh  {k:Key}  (h:Ay kvs k=some l):(Bh kvs k v).map (·.1)=kvs.map (·.1):=by
 unfold Bh;rw[Et,h,Tk Ss,Pg];refine Py λp _=>?_;show (if p.1=k then (p.1,v) else p).1=p.1;split<;>rfl
def Wh.snoc   (w:Wh H kvs row) (y) (l) (hl:H' l=some (.lst ((plc (row++[y]) y).map V.int)))
  (s:∀b xs,H b=some (.lst xs)->H' b=some (.lst xs)):Wh H' (Bh kvs (Sum.inr y) (.ref l)) (row++[y]):=by
 refine⟨λk hk=>?_,λx hx=>?_,λx hx=>?_,?_,?_⟩
 ·by_cases hy:y∈row
  ·obtain⟨l0,e,_⟩:=w.val y hy;rw[Xdh e] at hk;obtain⟨x,e1,e2⟩:=w.keys k hk;exact⟨x,e1,Qa _ e2⟩
  ·rw[Hi _ (w.none y hy),Ot] at hk;rcases Oq.mp hk with hk | hk
   ·obtain⟨x,e1,e2⟩:=w.keys k hk;exact⟨x,e1,Qa _ e2⟩
   ·exact⟨y,by simpa using hk,by simp⟩
 ·rw[Jn];by_cases e:x=y
  ·subst e;exact⟨l,Tk rfl,hl⟩
  ·have iZ:x∈row:=by
    rcases Oq.mp hx with z | z
    ·exact z
    ·exact absurd (Oj.mp z) e
   obtain⟨l0,e1,e2⟩:=w.val x iZ;refine⟨l0,by rw[Tj (λz=>e (Qx z))];exact e1,?_⟩;rw[My,Tj (λz=>e z.symm),Pm];exact s _ _ e2
 ·rw[Jn];have h1:x∉row:=λz=>hx (Qa _ z);have h2:x≠y:=λz=>hx (by rw[z];simp);rw[Tj (λz=>h2 (Qx z))];exact w.none x h1
 ·by_cases hy:y∈row
  ·obtain⟨l0,e,_⟩:=w.val y hy;rw[Xdh e];exact w.nd
  ·exact Xi9 _ w.nd (w.none y hy)
 ·have:=Jo kvs (Sum.inr y:Key) (.ref l);have:=w.len;rw[Oh,Pn]
  lia
def Mz:Sp:=λvs H Q _=>∃(r:ae) (row:Za),vs=[.ref r]/\H r=some (.lst (row.map V.str))/\row.length<=1000 /\
 ∀d kvs H',H d=none->H' d=some (.dK kvs)->Wh H' kvs row->Same H H'->Q (.ref d) H'
abbrev NWh:Za:=["_law_row_here", "_law_told", "_law_at"]
def inn (a b:Int) (ys:List Int):List Int:=ys.filter λt=>decide (a<t)&&decide (t<b)
def M0(a b)(ys):(inn a b ys).length<=ys.length:=Pl ..
def words3:Za:=["same", "cross", "around"]
def D0 (a b c e:Int) (same:Bool):ak:=
 if (same||decide (0<(inn a b [c,e]).length))=true then words3.getD (inn a b [c,e]).length "apart" else if c<a/\b<e then "within" else "apart"
def spWord:Sp:=λvs H Q _=>∃(d l1 l2:ae) (kvs:List (Key×V)) (x y:ak) (a b c e:Int),vs=[.ref d,.str x,.str y]/\Rd H d (.dK kvs)/\Ay kvs (Sum.inr x:Key)=some (.ref l1)/\Ay kvs (Sum.inr y:Key)=some (.ref l2) /\
 H l1=some (.lst [.int a,.int b])/\H l2=some (.lst [.int c,.int e])/\∀H',Same H H'->Q (.str (D0 a b c e (decide (x=y)))) H'
abbrev NWo:Za:=["_law_where_here", "_law_one", "_law_other", "_law_low", "_law_high", "_law_inner"]
def Rd.same   (r:Rd H d o) (s:Same H H'):Rd H' d o:=by
 rcases r with r | ⟨u,r⟩
 ·exact .inl (s _ _ r)
 ·exact .inr ⟨u,s _ _ r⟩
def DGet.rd     (e:Rd H a (.dK kvs)) (h:Ay kvs (Sum.inr x:Key)=some v):DGet H a (.str x) (some v):=.inl ⟨kvs,Sum.inr x,e,rfl,h.symm⟩
def Xlh  (h:row.count x=2):∃a b,plc row x=[a,b]:=by
 have e:=Mx row x;rw[h] at e
 match q:plc row x,e with
 | [a,b],_=>exact⟨a,b,rfl⟩
abbrev NBa:Za:=["_law_row_here", "_law_name", "_law_where_here", "_law_met", "_law_at", "_law_other"]
abbrev NBc:Za:=["_law_one", "_law_name", "_law_where_here"]
abbrev Fs:ak := "kqvzbdgmprtxhnjfwlycsaeiou"
def signOf (i:Nat):ak:=⟨#[(Fs.cps.toList).getD i 0]⟩
def Ig (st:Nat) (aV:Bool) (k:Nat):ak:=
 if aV=true then (repS "m" ((st+k * k) % 7)++signOf ((st+k) % 26)) ++ "y" else signOf ((st+k) % 26)++repS "m" ((st+k * k) % 7)
def Bd (st:Nat) (aV:Bool) (n:Nat):Za:=(List.range n).map (Ig st aV)
def Xli:∀st<26,∀aV:Bool,(Bd st aV 14).Nodup:=by decide +kernel
def M3{st}  (hs:st<26)(hn:n<=14):(Bd st aV n).Nodup:=by
 refine(Xli st hs aV).sublist ?_;unfold Bd;refine List.Sublist.map _ ?_;have e:List.range 14=List.range n++(List.range (14 - n)).map (n + ·):=by
  rw[<-List.range_add];congr 1
  lia
 rw[e];exact List.sublist_append_left ..
def But (dr:ae) (H H':Hp):Prop:=∀b o,H b=some o->b≠dr->H' b=some o
def But.refl(dr)(H):But dr H H:=λ_ _ e _=>e
def But.trans  (a:But dr H H1) (b:But dr H1 H2):But dr H H2:=λc o e h=>b c o (a c o e h) h
def But.same  (a:But dr H H1) (b:Same H1 H2):But dr H H2:=λc o e h=>b c o (a c o e h)
def But.free   (a:But dr H H') (hd:H' dr=some o) (h:H' b=none):H b=none:=by
 cases q:H b with
 | none=>rfl
 | some u=>
  by_cases e:b=dr
  ·rw[e,hd] at h;cases h
  ·rw[a b u q e] at h;cases h
def But.upd{dr a}{H H'}{o}(x:But dr H H')(h:H a=none):But dr H (L2.upd H' a o):=λb u e hb=>by
 rw[Ae (Av e h)];exact x b u e hb
def DrawOk.at{H}(d:DrawOk H dr sc):∃xs,H dr=some (.lst xs):=let ⟨_,_,_,_,_,h,_⟩:=d.ex; ⟨_,h⟩
def DrawOk.same  (d:DrawOk H dr sc) (s:Same H H'):DrawOk H' dr sc:=
 let ⟨ns,p,c,m,k,h1,h2,r⟩:=d.ex; ⟨ns,p,c,m,k,s _ _ h1,s _ _ h2,r⟩
def DrawOk.upd{H}{dr sc a}{o}(d:DrawOk H dr sc)(h1:a≠dr)(h2:a≠sc):DrawOk (L2.upd H a o) dr sc:=
 let ⟨ns,p,c,m,k,e1,e2,r⟩:=d.ex; ⟨ns,p,c,m,k,by rw[Ae h1.symm];exact e1,by rw[Ae h2.symm];exact e2,r⟩
def DrawOk.ne  (d:DrawOk H dr sc) (h:H a=none):a≠dr/\a≠sc:=by
 obtain⟨ns,p,c,m,k,e1,e2,r⟩:=d.ex;exact⟨(Av e1 h).symm,(Av e2 h).symm⟩
def Xdi:Sp:=λvs H Q _=>∃(dr sc:ae) (n:Nat),vs=[.ref dr,.int n]/\n<=14/\DrawOk H dr sc /\
 ∀l st aV H',H l=none->st<26->H' l=some (.lst ((Bd st aV n).map V.str))->l≠sc->DrawOk H' dr sc->But dr H H'->Q (.ref l) H'
abbrev FnPick (P:ao) (w:aw) (K:LD) (mg:ak->Option aa) (base:am):Prop:=Fn P w K mg base CX0 1 "_law_pick" ["_law_draw", "_law_many"] Xdd
abbrev NNa:Za:=["_law_draw", "_law_many", "_law_base", "_law_start", "_law_late", "_law_told", "_law_k", "_law_sign", "_law_hum"]
def Xlj{i:Nat}(h:i<26):atI Fs.cps.toList (i:Int)=some ((Fs.cps.toList).getD i 0):=by
 have hl:i<Fs.cps.toList.length:=h;refine Ff ?_;rw[Oe hl];simp[List.getD,Oe hl]
def Gh(h:l.Nodup){row:Za}(p:row.Perm (l++l)):∀y∈row,row.count y=2:=λy hy=>by
 rw[p.count_eq,Rh];have jA:y∈l:=by
  rcases Oq.mp (p.mem_iff.mp hy) with z | z
  ·exact z
  ·exact z
 have e1:l.count y<=1:=List.nodup_iff_count.mp h y;have e2:0<l.count y:=Sv.mpr jA
 lia
def Xdj{A row bZ:Za}(p:row.Perm (A++A))(q:bZ.Perm (x::x::row)):bZ.Perm ((A++[x])++(A++[x])):=by
 refine q.trans (((p.cons x).cons x).trans ?_);have e:(A++[x])++(A++[x])=A++x::(A++x::[]):=by simp
 rw[e];refine List.Perm.trans ?_ Rl.symm;refine List.Perm.cons x ?_;have e2:A++(A++x::[])=(A++A)++x::[]:=by simp
 rw[e2];refine List.Perm.trans ?_ Rl.symm;simp
abbrev NRo:Za:=["_law_draw", "_law_names_here", "_law_cut", "_law_row_here", "_law_name", "_law_at", "_law_to", "_law_more"]
def Xr4:Sp:=λvs H Q _=>∃(dr sc:ae) (m:Nat),vs=[.ref dr,.int m]/\m<=14/\DrawOk H dr sc /\
 ∀(l:ae) (row:Za) (n st:Nat) (aV:Bool) (H':Hp),H l=none->n<=m->st<26->H' l=some (.lst (row.map V.str))->row.Perm (Bd st aV n++Bd st aV n)->DrawOk H' dr sc->But dr H H'->Q (.ref l) H'
abbrev NIs:Za:=["_law_draw", "_law_most", "_law_few", "_law_many"]
def spTexts:Sp:=λvs H Q _=>∃(a:ae) (row:Za),vs=[.ref a]/\H a=some (.lst (row.map V.str))/\row.length<=1000/\∀H',Same H H'->Q (.bl true) H'
def Xdk(K)(T):LI K (.type T) (.type T)=some true:=by
 unfold LI;rw[Tk (beq_self_eq_true _)]
def M4(row)(x):((List.range row.length).filter λi=>decide (row.getD i ak.empty=x)).map (λi:Nat=>(i:Int))=plc row x:=by
 have go:∀n,n<=row.length->((List.range n).filter λi=>decide (row.getD i ak.empty=x)).map (λi:Nat=>(i:Int))=plc (row.take n) x:=by
  intro n
  induction n with
  | zero=>intro _;rfl
  | succ n ih=>
   intro h;have hn:n<row.length:=by lia
   have e:row.getD n ak.empty=row[n]:=by simp[List.getD,hn]
   rw[Pq,O1,Ot,ih (by lia),O3 hn,My,Pi,e,O0,Qz (by lia)];by_cases q:row[n]=x
   ·rw[Tk q,Tk (Tl q)];rfl
   ·rw[Tj q,Tj (by simpa using q)];rfl
 rw[go _ (Og _),P4]
def okN (x:ak):Prop:=x.length<=20/\∀c∈x.cps.toList,c<0x110000
def Xdl (C:ae):Sp:=λvs H Q E=>∃(r:ae) (row:Za) (x:ak),vs=[.ref r,.str x]/\H r=some (.lst (row.map V.str))/\okN x /\
 (x∈row->∀H',Same H H'->Q .non H')/\(x∉row->∀H',Same H H'->E (.ref C) none H')
def spDitches:Sp:=λvs H Q _=>∃(r:ae) (row:Za),vs=[.ref r]/\H r=some (.lst (row.map V.str))/\row.length<=60 /\
 ∀l H',H l=none->H' l=some (.lst ((dit row).map V.str))->Same H H'->Q (.ref l) H'
def Xdm (C:ae):Sp:=λvs H Q E=>∃(r:ae) (row:Za) (x:ak),vs=[.ref r,.str x]/\H r=some (.lst (row.map V.str))/\okN x/\row.length<=1000 /\
 (x∈row->∃a b,plc row x=[a,b]/\∀l H',H l=none->H' l=some (.tup [.int a,.int b])->Same H H'->Q (.ref l) H')/\(x∉row->∀H',Same H H'->E (.ref C) none H')
abbrev NEn:Za:=["row", "name", "found"]
abbrev NEc:Za:=["at", "end", "name"]
end SH
namespace L2
def Ft(x y):decide (V.str x=V.str y)=decide (x=y):=by
 by_cases z:x=y
 ·rw[z];simp
 ·rw[Tn z,Tn (λq=>z (by injection q))]
def E1(row:Za):∀v∈row.map V.str,Cq v=true:=λv h=>by
 obtain⟨x,_,rfl⟩:=Pa.mp h;rfl
def Bt{α : Type}(f : α->V)(d : α)(xs:List α)(hi:i<xs.length):(xs.map f).getD i .non=f (xs.getD i d):=by simp[List.getD,hi]
def Xlk{α : Type}(f : α->V)(d : α)(xs:List α)(hi:i<xs.length):atI (xs.map f) (i:Int)=some (f (xs.getD i d)):=by
 refine Ff ?_;rw[Ov,Oe hi];simp[List.getD,hi]
end L2
namespace SH
open L2
def Wh.names   (w:Wh H kvs row):∃ss:Za,kvs.map (·.1)=ss.map (λx=>(Sum.inr x:Key))/\ss.Nodup/\∀x,x∈ss↔x∈row:=by
 have e:∀ks:List Key,(∀k∈ks,∃x,k=Sum.inr x)->∃ss:Za,ks=ss.map (λx=>(Sum.inr x:Key)):=by
  intro ks
  induction ks with
  | nil=>intro _;exact⟨[],rfl⟩
  | cons k r ih=>
   intro h;obtain⟨x,rfl⟩:=h k Op;obtain⟨ss,rfl⟩:=ih λk hk=>h k (Ol _ hk);exact⟨x::ss,rfl⟩
 obtain⟨ss,hs⟩:=e (kvs.map (·.1)) λk hk=>let ⟨x,h,_⟩:=w.keys k hk; ⟨x,h⟩;have inj:∀x,x∈ss↔(Sum.inr x:Key)∈kvs.map (·.1):=λx=>by
  rw[hs,Pa];constructor
  ·exact λh=>⟨x,h,rfl⟩
  ·rintro ⟨y,hy,e⟩;rw[<-Qx e];exact hy
 refine⟨ss,hs,?_,λx=>?_⟩
 ·have:=w.nd;rw[hs] at this;exact List.Pairwise.of_map _ (λa b eU e=>eU (congrArg _ e)) this
 ·rw[inj];constructor
  ·intro h;obtain⟨y,e,hy⟩:=w.keys _ h;rw[Qx e];exact hy
  ·intro h;obtain⟨l,e,_⟩:=w.val x h;exact Hj e
structure Isl (row:Za):Prop where
 ex:∃n st aV,n<=14/\st<26/\row.Perm (Bd st aV n++Bd st aV n)
def Xdn{st n}  (hn:n<=14)(h:x∈Bd st aV n):x∈Bd st aV 14:=by
 unfold Bd at h ⊢;obtain⟨i,hi,rfl⟩:=Pa.mp h;exact Pa.mpr ⟨i,Ps.mpr (by have:=Ps.mp hi;lia),rfl⟩
instance (x:ak):Decidable (okN x):=inferInstanceAs (Decidable (_/\_))
def Xll:∀st<26,∀aV:Bool,∀x∈Bd st aV 14,okN x:=by decide +kernel
def Isl.two(h:Isl row):∀y∈row,row.count y=2:=by
 obtain⟨n,st,aV,hn,hs,p⟩:=h.ex;exact Gh (M3 hs hn) p
def Isl.len(h:Isl row):row.length<=28:=by
 obtain⟨n,st,aV,hn,hs,p⟩:=h.ex;have:=p.length_eq;unfold Bd at this;simp at this
 lia
def Isl.ok(h:Isl row):∀y∈row,okN y:=λy hy=>by
 obtain⟨n,st,aV,hn,hs,p⟩:=h.ex;refine Xll st hs aV y (Xdn hn ?_);rcases Oq.mp (p.mem_iff.mp hy) with z | z<;>exact z
def Gi:Za->ak
 | [] => "noneatal"
 | y::_=>Txt.slice y none (some 7)++ak.ofString "q"
def stranger14:∀st<26,∀aV:Bool,∀y∈Bd st aV 14,okN (Txt.slice y none (some 7)++ak.ofString "q")/\Txt.slice y none (some 7)++ak.ofString "q" ∉ Bd st aV 14:=by decide +kernel
def Isl.stranger(h:Isl row):okN (Gi row)/\Gi row∉row:=by
 cases row with
 | nil=>exact⟨by decide +kernel,by simp⟩
 | cons y r=>
  obtain⟨n,st,aV,hn,hs,p⟩:=h.ex;have sub:∀z∈y::r,z∈Bd st aV 14:=λz hz=>Xdn hn (by rcases Oq.mp (p.mem_iff.mp hz) with q | q<;>exact q);obtain⟨h1,h2⟩:=stranger14 st hs aV y (sub y Op);exact⟨h1,λz=>h2 (sub _ z)⟩
def Xlm(h:okN x):Bo (.str x)=true:=by
 show ar.strOk x=true;unfold ar.strOk;rw[<-Array.all_toList,O8];intro c hc;exact Tl (h.2 c hc)
def Xdo   : i∈plc row x ↔ ∃k:Nat,i=k/\row[k]? = some x:=by
 rw[<-M4,Pa];constructor
 ·rintro ⟨k,hk,rfl⟩;obtain⟨h1,h2⟩:=Om.mp hk;have j4:=Ps.mp h1;refine⟨k,rfl,?_⟩;have:=Tp h2;rw[Oe j4];simpa [List.getD,j4] using this
 ·rintro ⟨k,rfl,hk⟩;have j4:k<row.length:=(Oz.mp hk).1;refine⟨k,Om.mpr ⟨Ps.mpr j4,Tl ?_⟩,rfl⟩;simp[List.getD,hk]
def Xln(row)(x):(plc row x).Pairwise (· < ·):=by
 rw[<-M4,Qw];refine List.Pairwise.imp ?_ (List.Pairwise.filter _ (List.pairwise_lt_range (n:=row.length)));intro a b h
 lia
def pl (row:Za) (x:ak):Int×Int:=((plc row x).getD 0 0,(plc row x).getD 1 0)
def Xdp   (h:plc row x=[a,b]):pl row x=(a,b):=by
 unfold pl;rw[h];rfl
def Fu  (h:row.count x=2):plc row x=[(pl row x).1,(pl row x).2]:=by
 obtain⟨a,b,e⟩:=Xlh h;rw[Xdp e,e]
def B7  (h:row.count x=2):(pl row x).1<(pl row x).2:=by
 have h1:=Xln row x;rw[Fu h] at h1;simpa using h1
def Fv  (hx:row.count x=2) (hy:row.count y=2) (n:x≠y):(pl row x).1≠(pl row y).1/\(pl row x).1≠(pl row y).2/\(pl row x).2≠(pl row y).1/\(pl row x).2≠(pl row y).2:=by
 have dm:∀i,i∈plc row x->i∈plc row y->False:=λi h1 h2=>by
  obtain⟨k,e1,g1⟩:=Xdo.mp h1;obtain⟨m,e2,g2⟩:=Xdo.mp h2;have:k=m:=by lia
  subst this;rw[g1] at g2;exact n (Ox g2)
 rw[Fu hx,Fu hy] at dm;refine⟨λe=>dm (pl row x).1 (by simp) (by rw[e];simp),λe=>dm (pl row x).1 (by simp) (by rw[e];simp),λe=>dm (pl row x).2 (by simp) (by rw[e];simp),λe=>dm (pl row x).2 (by simp) (by rw[e];simp)⟩
def nIn (a b:Int) (ys:List Int):Nat:=(inn a b ys).length
def B8(a b c e):nIn a b [c,e]=(if a<c/\c<b then 1 else 0)+(if a<e/\e<b then 1 else 0):=by
 unfold nIn inn;simp only[Pi,Rt,Oy,decide_eq_true_eq];split<;>split<;>rfl
def lieT (a b c e:Int):ak:=if a=c/\b=e then "same" else if nIn c e [a,b]=1 then "cross" else if nIn c e [a,b]=2 then "within" else if nIn a b [c,e]=2 then "around" else "apart"
def Xlo(h1:a<b)(h2:c<e)(n1:a≠c)(n2:a≠e)(n3:b≠c)(n4:b≠e):lieT a b c e=D0 a b c e false:=by
  unfold lieT D0;rw[Tj (λz=>n1 z.1)];have e1:=B8 a b c e;have e2:=B8 c e a b;have e3:(inn a b [c,e]).length=nIn a b [c,e]:=rfl;rw[e3];generalize nIn a b [c,e]=p at *;generalize nIn c e [a,b]=q at *;by_cases p1:a<c/\c<b<;>by_cases p2:a<e/\e<b<;>by_cases q1:c<a/\a<e<;>by_cases q2:c<b/\b<e <;>
    (first | rw[Tk p1] at e1 | rw[Tj p1] at e1)<;>(first | rw[Tk p2] at e1 | rw[Tj p2] at e1) <;>
    (first | rw[Tk q1] at e2 | rw[Tj q1] at e2)<;>(first | rw[Tk q2] at e2 | rw[Tj q2] at e2)<;>subst e1 e2<;>first
    | (exfalso;lia)
    | rfl
    | (have hw:(c<a/\b<e):=by lia
       rw[Tk hw];rfl)
    | (have hw:¬(c<a/\b<e):=by lia
       rw[Tj hw];rfl)
def Xlp:lieT a b a b=D0 a b a b true:=by
 unfold lieT D0;rw[Tk ⟨rfl,rfl⟩,Bool.true_or,Tk rfl];have e1:=B8 a b a b;have e3:(inn a b [a,b]).length=nIn a b [a,b]:=rfl;rw[e3,e1,Tj (by lia),Tj (by lia)];rfl
def lieR (row:Za) (x y:ak):ak:=lieT (pl row x).1 (pl row x).2 (pl row y).1 (pl row y).2
def Gj  (hx:row.count x=2) (hy:row.count y=2):lieR row x y=D0 (pl row x).1 (pl row x).2 (pl row y).1 (pl row y).2 (decide (x=y)):=by
 unfold lieR;by_cases n:x=y
 ·subst n;rw[Tl rfl];exact Xlp
 ·rw[Tn n];obtain⟨n1,n2,n3,n4⟩:=Fv hx hy n;exact Xlo (B7 hx) (B7 hy) n1 n2 n3 n4
def crs (row:Za):List (ak×ak):=(dit row).flatMap λx=>((dit row).filter λy=>decide (ltS x y)&&decide (lieR row x y = "cross")).map λy=>(x,y)
def prD (p:ak×ak):ar:=.tuple [.str p.1,.str p.2]
structure Spn (H:Hp) (kvs:List (Key×V)) (row:Za) (ns:Za):Prop where
 keys:kvs.map (·.1)=ns.map (λx=>(Sum.inr x:Key))
 val:∀x∈ns,∃l,Ay kvs (Sum.inr x:Key)=some (.ref l)/\H l=some (.tup [.int (pl row x).1,.int (pl row x).2])
def Spn.mono   (s:Spn H kvs row ns) (h:Same H H'):Spn H' kvs row ns:=⟨s.keys,λx hx=>let ⟨l,h1,h2⟩:=s.val x hx; ⟨l,h1,h _ _ h2⟩⟩
end SH
namespace L2
open PySem
def hu3  (hr:Room k A):A.units+3<bu:=by have:=hr.units;lia
end L2
namespace SH
open L2
structure Row2 (row:Za):Prop where
 two:∀y∈row,row.count y=2
 ok:∀y∈row,okN y
 len:row.length<=60
def Isl.row2(h:Isl row):Row2 row:=⟨h.two,h.ok,by have:=h.len;lia⟩
def spSpans:Sp:=λvs H Q _=>∃(r:ae) (row:Za),vs=[.ref r]/\H r=some (.lst (row.map V.str))/\Row2 row /\
 ∀d kvs H',H d=none->H' d=some (.dK kvs)->Spn H' kvs row (dit row)->Same H H'->Q (.ref d) H'
def Lie4 (a b c e:Int):Prop:=c<=e/\(b=e->a=c)
def lie4  (hx:row.count x=2) (hy:row.count y=2):Lie4 (pl row x).1 (pl row x).2 (pl row y).1 (pl row y).2:=
 ⟨Int.le_of_lt (B7 hy),λe=>by
  by_cases n:x=y
  ·rw[n]
  ·exact absurd e (Fv hx hy n).2.2.2⟩
def Xlq(n:¬(a=c/\b=e))(h:((decide (c<a)&&decide (a<e))==(decide (c<b)&&decide (b<e)))=false):lieT a b c e = "cross" := by
 unfold lieT;rw[Tj n,Tk];rw[B8];rw[<-Bool.decide_and,<-Bool.decide_and] at h;by_cases q1:c<a/\a<e<;>by_cases q2:c<b/\b<e<;>simp[q1,q2] at h ⊢
def Xlr(n:¬(a=c/\b=e))(h:((decide (c<a)&&decide (a<e))==(decide (c<b)&&decide (b<e)))=true)(h2:(decide (c<a)&&decide (a<e))=true):lieT a b c e = "within" := by
 unfold lieT;rw[h2,beq_iff_eq] at h;simp only[Oy,decide_eq_true_eq] at h2;have h3:c<b/\b<e:=by simpa using h.symm
 rw[Tj n,B8,Tk h2,Tk h3,Tj (by decide),Tk rfl]
def Xls(l:Lie4 a b c e)(n:¬(a=c/\b=e))(h:((decide (c<a)&&decide (a<e))==(decide (c<b)&&decide (b<e)))=true)(h2:(decide (c<a)&&decide (a<e))=false):lieT a b c e=if (decide (a<c)&&decide (c<b))=true then "around" else "apart" := by
 unfold lieT;rw[h2,beq_iff_eq] at h;have h2:¬(c<a/\a<e):=λz=>by rw[Tl z.1,Tl z.2] at h2;cases h2
 have h3:¬(c<b/\b<e):=λz=>by rw[Tl z.1,Tl z.2] at h;cases h
 rw[Tj n,B8,Tj h2,Tj h3,Tj (by decide),Tj (by decide),B8];obtain⟨l1,l2⟩:=l;have dm:a<c/\c<b->a<e/\e<b:=λz=>by
  have:b≠e:=λq=>n ⟨l2 q,q⟩
  lia
 by_cases q:a<c/\c<b
 ·rw[Tk q,Tk (dm q),Tk rfl,Tk (by simp[q])]
 ·rw[Tj q,Tj (by split<;>decide),Tj (by simpa using q)]
def spLieOf:Sp:=λvs H Q _=>∃(p q:ae) (a b c e:Int),vs=[.ref p,.ref q]/\H p=some (.tup [.int a,.int b])/\H q=some (.tup [.int c,.int e])/\Lie4 a b c e/\∀H',Same H H'->Q (.str (lieT a b c e)) H'
def M5    {x y z} (ha:∀Q':VK,Q' (.int x) H->ta Z H Q') (hb:∀Q':VK,Q' (.int y) H->tb Z H Q') (hc:∀Q':VK,Q' (.int z) H->tc Z H Q') (h:Q (.bl (decide (x<y)&&decide (y<z))) H):
  Li (rI0 λi j=>.bl (decide (i<j))) (rI0 λi j=>.bl (decide (i<j))) ta tb tc Z H Q:=by
 refine ha _ (hb _ ⟨x,y,rfl,rfl,_,rfl,?_⟩);refine A2 (λq=>hc _ ⟨y,z,rfl,rfl,?_⟩) (λq=>?_)
 ·rw[q,P8] at h;exact h
 ·rw[q,P6] at h;exact h
def Xdq:Sp:=λvs H Q _=>∃(r:ae) (row:Za),vs=[.ref r]/\H r=some (.lst (row.map V.str))/\Row2 row /\
 ∀l xs H',H l=none->H' l=some (.lst xs)->DAll (hid l H') ((crs row).map prD) xs->Same H H'->Q (.ref l) H'
abbrev NSp:Za:=["name", "row"]
abbrev NLo:Za:=["here", "there", "first", "last"]
abbrev NCr:Za:=["row", "span"]
abbrev NCc:Za:=["one", "other", "span"]
def Spn.snoc     (s:Spn H kvs row ns) (nx:x∉ns) (h:H' l=some (.tup [.int (pl row x).1,.int (pl row x).2])) (k:∀b xs,H b=some (.tup xs)->H' b=some (.tup xs)):
  Spn H' (Bh kvs (Sum.inr x) (.ref l)) row (ns++[x]):=by
 have hn:Ay kvs (Sum.inr x:Key)=none:=by
  cases e:Ay kvs (Sum.inr x:Key) with
  | none=>rfl
  | some v=>
   exfalso;have:=Hj e;rw[s.keys] at this;obtain⟨y,hy,e2⟩:=Pa.mp this;rw[Qx e2] at hy;exact nx hy
 refine⟨by rw[Hi _ hn,Ot,Ot,s.keys];rfl,λy hy=>?_⟩;rw[Jn];by_cases e:y=x
 ·subst e;exact⟨l,Tk rfl,h⟩
 ·have jA:y∈ns:=by
   rcases Oq.mp hy with z | z
   ·exact z
   ·exact absurd (Oj.mp z) e
  obtain⟨l0,h1,h2⟩:=s.val y jA;exact⟨l0,by rw[Tj (λz=>e (Qx z))];exact h1,k _ _ h2⟩
def Spn.get    {x} (s:Spn H kvs row ns) (hd:Rd H d (.dK kvs)) (hx:x∈ns):∃l,DGet H d (.str x) (some (.ref l))/\H l=some (.tup [.int (pl row x).1,.int (pl row x).2]):=by
 obtain⟨l,h1,h2⟩:=s.val x hx;exact⟨l,DGet.rd hd h1,h2⟩
def Spn.at{H}{kvs}{row ns}(s:Spn H kvs row ns)(i)(hi:i<ns.length):(kvs.map λp=>kV p.1).getD i .non = .str (ns.getD i ak.empty):=by
 have e:(kvs.map λp=>kV p.1)=ns.map V.str:=by
  have:(kvs.map λp=>kV p.1)=(kvs.map (·.1)).map kV:=by rw[Pg];rfl
  rw[this,s.keys,Pg];rfl
 rw[e];exact Bt V.str ak.empty ns hi
def Spn.len   (s:Spn H kvs row ns):kvs.length=ns.length:=by
 have:=congrArg List.length s.keys;simpa using this
def Cv{ns:Za}(hi:i<ns.length):ns.getD i ak.empty∈ns:=by
 have:ns.getD i ak.empty=ns[i]:=by simp[List.getD,hi]
 rw[this];exact Ph hi
def Wh.two'    (w:Wh H kvs row) (hx:x∈row) (h:row.count x=2):∃l,Ay kvs (Sum.inr x:Key)=some (.ref l)/\H l=some (.lst [.int (pl row x).1,.int (pl row x).2]):=by
 obtain⟨l,h1,h2⟩:=w.val x hx;rw[Fu h] at h2;exact⟨l,h1,h2⟩
theorem Ih:∀{ss:Za} {xs:List V},DAll H (ss.map ar.str) xs->xs=ss.map V.str
 | [],xs,h=>by unfold List.map DAll at h;exact h
 | s::ss,xs,h=>by
  rw[O5] at h;unfold DAll at h;obtain⟨v,r,rfl,h1,h2⟩:=h;unfold DAt at h1;rw[h1,Ih h2];rfl
def M6:Sp:=λvs H Q _=>∃(r:ae) (row:Za),vs=[.ref r]/\H r=some (.lst (row.map V.str))/\(∀y∈row,y.length<=20)/\∀H',Same H H'->Q (.str (Gi row)) H'
def Bz (h8:ak) (ln:Bool):Bool:=if h8 = "within" then ln else (!decide (h8 = "apart") || !ln)
def told (ss:Za):Za:=srt (ddup ss)
def Ad (row plot:Za):Bool:=decide (plot=told plot)&&plot.all (λx=>decide (x∈row))&&plot.all λx=>(dit row).all λy=>Bz (lieR row x y) (decide (y∈plot))
def trD (t:ak×ak×ak):ar:=.tuple [.str t.1,.str t.2.1,.str t.2.2]
def Cw (row:Za) (x y:ak):Bool:=decide (lieR row x y = "within")||(decide (lieR row x y = "apart")&&decide (ltS x y))
def bars (row:Za):List (ak×ak×ak):=(dit row).flatMap λx=>((dit row).filter (Cw row x)).map λy=>(x,y,lieR row x y)
def C0 (bs:List (ak×ak×ak)) (plot:Za):Bool:=bs.all λt => !(decide (t.1∈plot) && !decide (decide (t.2.1∈plot)=decide (t.2.2 = "within")))
def E2 (row plot:Za):Bool:=decide (plot=(dit row).filter λy=>decide (y∈plot))&&C0 (bars row) plot
def Xlt(h1:a<b)(h2:c<e)(n1:a≠c)(n2:a≠e)(n3:b≠c)(n4:b≠e)(h:lieT a b c e = "apart"):lieT c e a b = "apart" := by
 unfold lieT at h ⊢;rw[Tj (λz=>n1 z.1)] at h;rw[Tj (λz=>n1 z.1.symm)];have e1:=B8 a b c e;have e2:=B8 c e a b;generalize nIn a b [c,e]=p at *;generalize nIn c e [a,b]=q at *;by_cases p1:a<c/\c<b<;>by_cases p2:a<e/\e<b<;>by_cases q1:c<a/\a<e<;>by_cases q2:c<b/\b<e <;>
  (first | rw[Tk p1] at e1 | rw[Tj p1] at e1)<;>(first | rw[Tk p2] at e1 | rw[Tj p2] at e1) <;>
  (first | rw[Tk q1] at e2 | rw[Tj q1] at e2)<;>(first | rw[Tk q2] at e2 | rw[Tj q2] at e2)<;>subst e1 e2<;>first
  | (exfalso;lia)
  | rfl
  | (exfalso;revert h;decide +kernel)
def Xlu  (hx:row.count x=2) (hy:row.count y=2) (h:lieR row x y = "apart"):lieR row y x = "apart" := by
 by_cases n:x=y
 ·subst n;exact h
 ·obtain⟨n1,n2,n3,n4⟩:=Fv hx hy n;exact Xlt (B7 hx) (B7 hy) n1 n2 n3 n4 h
def J8(row)(x):lieR row x x = "same" := by
 unfold lieR lieT;rw[Tk ⟨rfl,rfl⟩]
def M7{l:Za}(h:l.Pairwise ltS):l.Pairwise leS:=h.imp λh=>Xcr h
def Db{l:Za}(h:l.Pairwise ltS):l.Nodup:=h.imp λh=>Hu h
def J9(h:l.Nodup):(ddup l).Perm l:=Hv (Hr l) h (L9 l)
def Ka(h:l.Pairwise ltS):told l=l:=Ex ((Cu _).trans (J9 (Db h))) (Dx _) (M7 h)
def M8(l):(told l).Pairwise ltS:=Dm l
def Xdr  : x∈told l↔x∈l:=An
def M9:(plot=(dit row).filter λy=>decide (y∈plot))↔(plot=told plot/\∀x∈plot,x∈row):=by
 constructor
 ·intro h;have hp:plot.Pairwise ltS:=by
   rw[h];exact(Dm row).filter _
  refine⟨(Ka hp).symm,λx hx=>?_⟩;rw[h] at hx;exact An.mp (Om.mp hx).1
 ·rintro ⟨h1,h2⟩;have hp:plot.Pairwise ltS:=by rw[h1];exact M8 plot
  have hq:((dit row).filter λy=>decide (y∈plot)).Pairwise ltS:=(Dm row).filter _;refine Ex (Hv (Db hp) (Db hq) λx=>?_) (M7 hp) (M7 hq);rw[Om,decide_eq_true_eq,An];exact⟨λh=>⟨h2 x h,h⟩,λh=>h.2⟩
def Kb  : t∈bars row↔t.1∈row/\t.2.1∈row/\Cw row t.1 t.2.1=true/\t.2.2=lieR row t.1 t.2.1:=by
 unfold bars;rw[List.mem_flatMap];constructor
 ·rintro ⟨x,hx,h⟩;obtain⟨y,hy,rfl⟩:=Pa.mp h;obtain⟨h1,h2⟩:=Om.mp hy;exact⟨An.mp hx,An.mp h1,h2,rfl⟩
 ·rintro ⟨h1,h2,h3,h4⟩;refine⟨t.1,An.mpr h1,Pa.mpr ⟨t.2.1,Om.mpr ⟨An.mpr h2,h3⟩,?_⟩⟩;rw[<-h4]
def Kc(h:∀y∈row,row.count y=2):E2 row plot=Ad row plot:=by
 unfold E2 Ad;by_cases hp:plot=(dit row).filter λy=>decide (y∈plot)
 ·obtain⟨p1,p2⟩:=M9.mp hp;have e1:plot.all (λx=>decide (x∈row))=true:=O8.mpr λx hx=>Tl (p2 x hx);rw[Tl hp,Tl p1,e1,P8,P8];show C0 (bars row) plot=(true&&_);rw[P8,Qj];unfold C0;rw[O8,O8];constructor
  ·intro hf x hx;rw[O8];intro y hy;have oE:=An.mp hy;unfold Bz;by_cases hw:lieR row x y = "within"
   ·rw[Tk hw];have:=hf (x,y,lieR row x y) (Kb.mpr ⟨p2 x hx,oE,by unfold Cw;rw[Tl hw];rfl,rfl⟩);simpa [hx,hw] using this
   ·rw[Tj hw];by_cases ha:lieR row x y = "apart"
    ·have fo:x≠y:=λz=>by
      rw[z,J8] at ha
      revert ha
      decide
     have yQ:=Xlu (h x (p2 x hx)) (h y oE) ha;have dm:y∉plot:=λkm=>by
      rcases Md x y with hle | hle
      ·have aZ:=ltS_of hle fo;have:=hf (x,y,lieR row x y) (Kb.mpr ⟨p2 x hx,oE,by unfold Cw;rw[Tl ha,Tl aZ,R7,Tc],rfl⟩);rw[ha] at this;simp[hx,km] at this
       revert this
       decide
      ·have aZ:=ltS_of hle (λz=>fo z.symm);have:=hf (y,x,lieR row y x) (Kb.mpr ⟨oE,p2 x hx,by unfold Cw;rw[Tl yQ,Tl aZ,R7,Tc],rfl⟩);rw[yQ] at this;simp[hx,km] at this
       revert this
       decide
     rw[Tn dm];simp
    ·rw[Tn ha];rfl
  ·intro hf t ht;obtain⟨h1,h2,h3,h4⟩:=Kb.mp ht;by_cases hx:t.1∈plot
   ·have:=hf t.1 hx;rw[O8] at this;have:=this t.2.1 (An.mpr h2);rw[h4];unfold Bz at this;by_cases hw:lieR row t.1 t.2.1 = "within"
    ·rw[Tk hw] at this;simp[hw,Tp this]
    ·rw[Tj hw] at this;have ha:lieR row t.1 t.2.1 = "apart" := by
      unfold Cw at h3;rw[Tn hw,Bool.false_or,Oy] at h3;exact Tp h3.1
     rw[ha] at this;have hn:t.2.1∉plot:=by simpa using this
     have fo:¬(("apart" : ak) = "within"):=by decide
     simp[hn,ha,fo]
   ·simp[hx]
 ·rw[Tn hp,P6];by_cases p1:plot=told plot
  ·have:¬ ∀x∈plot,x∈row:=λp2=>hp (M9.mpr ⟨p1,p2⟩);have e1:plot.all (λx=>decide (x∈row))=false:=by
    rw[Rv];intro z;rw[O8] at z;exact this λx hx=>Tp (z x hx)
   rw[e1,Sz,P6]
  ·rw[Tn p1,P6,P6]
theorem Na:∀{bs:List Bool} {xs:List V},DAll H (bs.map ar.bool) xs->xs=bs.map V.bl
 | [],xs,h=>by unfold List.map DAll at h;exact h
 | s::ss,xs,h=>by
  rw[O5] at h;unfold DAll at h;obtain⟨v,r,rfl,h1,h2⟩:=h;unfold DAt at h1;rw[h1,Na h2];rfl
def Xlv(a b:Za)(h:ar.tuple (a.map ar.str)=ar.tuple (b.map ar.str)):a=b:=by
 injection h with h
 exact(Sw (λx y e=>by injection e)).mp h
def Xds{ss:Za}(h:∀y∈ss,okN y):Dp (ss.map ar.str)=true:=plainAll_map ar.str ss λx hx=>Xlm (h x hx)
def C2{ss:Za}(h:∀y∈ss,okN y):Bo (.tuple (ss.map ar.str))=true:=Xds h
def Xlw{ss:Za}(h:∀y∈ss,okN y):Bo (.list (ss.map ar.str))=true:=Xds h
theorem Xdt:∀(ss:Za),ar.depthAll (ss.map ar.str)=0
 | []=>rfl
 | s::ss=>by
  rw[O5];unfold ar.depthAll;rw[Xdt ss];rfl
def Ii(a b:Za):min (ar.depth (.tuple (a.map ar.str))) (ar.depth (.tuple (b.map ar.str)))<=3:=by
 have e:ar.depth (.tuple (a.map ar.str))=ar.depthAll (a.map ar.str)+1:=rfl;rw[e,Xdt]
 lia
def Ij{a b:Za}(ha:∀y∈a,okN y)(hb:∀y∈b,okN y):ar.eqv (.tuple (a.map ar.str)) (.tuple (b.map ar.str))=decide (a=b):=
 Xk1 (λl:Za=>ar.tuple (l.map ar.str)) Xlv a b (C2 ha) (C2 hb)
def Dc  {ss:Za} (h:H p=some (.tup (ss.map V.str))):DAt H (.tuple (ss.map ar.str)) (.ref p):=Mm h (Ml ss)
def spTold (K:LD):Sp:=λvs H Q _=>∃(p:ae) (ss:Za),vs=[.ref p]/\(SqL K H p (ss.map V.str)\/SqT K H p (ss.map V.str))/\ss.length<=60 /\
 ∀l H',H l=none->H' l=some (.tup ((told ss).map V.str))->Same H H'->Q (.ref l) H'
def spAllows:Sp:=λvs H Q _=>∃(h8:ak) (ln:Bool),vs=[.str h8,.bl ln]/\Q (.bl (Bz h8 ln)) H
def Xdu:Sp:=λvs H Q _=>∃(r p:ae) (row ss:Za),vs=[.ref r,.ref p]/\H r=some (.lst (row.map V.str))/\Row2 row/\H p=some (.tup (ss.map V.str))/\(∀y∈ss,okN y)/\ss.length<=60 /\
 ∀H',Same H H'->Q (.bl (Ad row ss)) H'
abbrev NIp:Za:=["row", "plot", "span"]
abbrev NI1:Za:=["name", "span"]
abbrev NI2:Za:=["name", "other", "plot", "span"]
def Spn.has    (s:Spn H kvs row (dit row)):(Ay kvs (Sum.inr x:Key)).isSome=decide (x∈row):=by
 by_cases hx:x∈row
 ·obtain⟨l,h1,_⟩:=s.val x (An.mpr hx);rw[h1,Tl hx];rfl
 ·rw[Tn hx];cases e:Ay kvs (Sum.inr x:Key) with
  | none=>rfl
  | some v=>
   exfalso;have:=Hj e;rw[s.keys] at this;obtain⟨y,hy,e2⟩:=Pa.mp this;rw[Qx e2] at hy;exact hx (An.mp hy)
def Xdv(h:∀y∈ss,okN y):∀y∈told ss,okN y:=λy hy=>h y (Xdr.mp hy)
def Xlx{α : Type}(d)(p)(xs:List α):((List.range xs.length).map λi=>p (xs.getD i d)).any id=xs.any p:=by
 have e:(List.range xs.length).map (λi=>p (xs.getD i d))=xs.map p:=by
  have:=Cg d (λ_=>true) xs;rw[Pd.mpr (λ_ _=>rfl),Pd.mpr (λ_ _=>rfl)] at this
  conv=>rhs;rw[<-this]
  rw[Pg];rfl
 rw[e,List.any_map];rfl
theorem Xdw{α : Type}(f):∀(xs:List α),(xs.flatMap f).all id=xs.all λx=>(f x).all id
 | []=>rfl
 | x::xs=>by
  rw[Ri,List.all_append,List.all_cons,Xdw f xs]
def Xly{α β : Type}(d)(f : α->List β)(xs:List α):(List.range xs.length).flatMap (λi=>f (xs.getD i d))=xs.flatMap f:=by
 have this:=Cg d (λ_=>true) xs;rw[Pd.mpr (λ_ _=>rfl),Pd.mpr (λ_ _=>rfl)] at this
 conv=>rhs;rw[<-this]
 rw[List.flatMap_map]
end SH
namespace L2
def Xlz (K:LD) (i:Nat):TE:=fun Z H Q=>∃v, Z[i]? = some (some v)/\∃p ss,v = .ref p/\(SqL K H p (ss.map V.str)\/SqT K H p (ss.map V.str))/\ss.length<=60/\∀l H',H l=none->H' l=some (.lst ((dit ss).map V.str))->Same H H'->Q (.ref l) H'
def Nb  {i:Nat}  (hc:X.calm=true) (CA:Gl X "sorted") (oF:X.mg "sorted" = none) (rV:Gl X "set") (uv:X.mg "set" = none) (hv:PE X (.Name x pos) (C7 i))
  (h1:aA [.Call (.Name "set" p2) [.Name x pos] [] q2] X.env=[(false,eval (.Call (.Name "set" p2) [.Name x pos] [] q2) X.env)]:=by rfl) (h2:aA [.Name x pos] X.env=[(false,eval (.Name x pos) X.env)]:=by rfl):
  PE X (.Call (.Name "sorted" p1) [.Call (.Name "set" p2) [.Name x pos] [] q2] [] q1) (Xlz X.K i):=by
 intro pins s Z H Q I h;obtain⟨v,CB,p,ss,ev,hq,hl,k⟩:=h;refine(A8 (Ju hc) CA oF (by rfl) (Aa (B1 (Ht hc) rV uv (by rfl) (Aa hv Ac) (by decide) (by decide) h2) Ac) (by decide) (by decide) h1) pins s Z H Q I ?_;refine⟨v,CB,p,ss,by rw[ev],hq,by unfold aU;lia,λa na=>?_⟩;have fr:=Hs ss;refine⟨a,ddup ss,rfl,Ab,by lia,λl ls nl hp hs=>?_⟩;rw[Ga hp hs];have s1:Same H (upd H a (Ew X.prog X.w a (ddup ss))):=(Same.refl H).step na;exact k l _ (s1.free nl) Ab (s1.step nl)
end L2
namespace SH
open L2
def Isl.dlen(h:Isl row):(dit row).length<=14:=by
 obtain⟨n,st,aV,hn,hs,p⟩:=h.ex;have hp:(dit row).Perm (Bd st aV n):=Hv (Gb row) (M3 hs hn) λx=>by
  rw[An,p.mem_iff,Oq,or_self]
 rw[hp.length_eq];unfold Bd;rw[Od,Qf];exact hn
def Ao (ss:Za) (x:ak):Za:=srt (ss.filter (λy=>decide (y≠x))++(if x∈ss then [] else [x]))
def spFlip:Sp:=λvs H Q _=>∃(p:ae) (ss:Za) (x:ak),vs=[.ref p,.str x]/\H p=some (.tup (ss.map V.str))/\ss.length<=60 /\
 ∀q H',H q=none->H' q=some (.tup ((Ao ss x).map V.str))->Same H H'->Q (.ref q) H'
def Xl0  (h:y∈Ao ss x):y∈ss\/y=x:=by
 unfold Ao at h;rw[Fm,Oq] at h;rcases h with h | h
 ·exact .inl (Om.mp h).1
 ·split at h
  ·simp at h
  ·exact .inr (Oj.mp h)
def Xl1(ss)(x):(Ao ss x).length<=ss.length+1:=by
 unfold Ao;rw[(Cu _).length_eq,Oh];have:=Pl (λy=>decide (y≠x)) ss;generalize (ss.filter λy=>decide (y≠x)).length=n at *;split
 ·rw[Qr];lia
 ·rw[Pn];lia
def spOdd:Sp:=λvs H Q _=>∃(dr sc r p:ae) (row ss:Za),vs=[.ref dr,.ref r,.ref p]/\DrawOk H dr sc/\H r=some (.lst (row.map V.str))/\r≠dr/\Isl row/\H p=some (.tup (ss.map V.str))/\(∀y∈ss,okN y)/\ss.length<=50 /\
 ∀(q:ae) (qr:Za) (H':Hp),H' q=some (.tup (qr.map V.str))->(∀y∈qr,okN y)->qr.length<=ss.length+1->DrawOk H' dr sc->But dr H H'->Q (.ref q) H'
def spFits:Sp:=λvs H Q _=>∃(b p:ae) (xs:List V) (bs:List (ak×ak×ak)) (ss:Za),vs=[.ref b,.ref p]/\H b=some (.lst xs)/\DAll H (bs.map trD) xs/\H p=some (.tup (ss.map V.str)) /\
 ∀H',Same H H'->Q (.bl (C0 bs ss)) H'
def spBars:Sp:=λvs H Q _=>∃(r:ae) (row:Za),vs=[.ref r]/\H r=some (.lst (row.map V.str))/\Row2 row /\
 ∀l xs H',H l=none->H' l=some (.lst xs)->DAll H' ((bars row).map trD) xs->Same H H'->Q (.ref l) H'
def spGood:Sp:=λvs H Q _=>∃(r p:ae) (row ss:Za),vs=[.ref r,.ref p]/\H r=some (.lst (row.map V.str))/\Row2 row/\H p=some (.tup (ss.map V.str))/\(∀y∈ss,okN y)/\ss.length<=60 /\
 ∀H',Same H H'->Q (.bl (E2 row ss)) H'
def Xl2   (h:DAt H (trD t) v):∃p,v = .ref p/\H p=some (.tup [.str t.1,.str t.2.1,.str t.2.2]):=by
 obtain⟨p,xs,rfl,hp,hs⟩:=Mo h;have:=Ih (ss:=[t.1,t.2.1,t.2.2]) hs;rw[this] at hp;exact⟨p,rfl,hp⟩
def C3 (row:Za) (x:ak) (ys:Za):List (ak×ak×ak):=(ys.filter (Cw row x)).map λy=>(x,y,lieR row x y)
def Dd (row:Za) (i:Nat):List (ak×ak×ak):=((dit row).take i).flatMap λx=>C3 row x (dit row)
def Xl3(row):Dd row (dit row).length=bars row:=by
 unfold Dd;rw[P4];rfl
def Xl4(row)(hi:i<(dit row).length):Dd row (i+1)=Dd row i++C3 row ((dit row).getD i ak.empty) (dit row):=by
 unfold Dd;rw[O3 hi,Rj,Ri,Ry,Pm];simp[List.getD,hi]
def Xl5(row)(x)(hj:j<(dit row).length):C3 row x ((dit row).take (j+1))=C3 row x ((dit row).take j)++(if Cw row x ((dit row).getD j ak.empty)=true then [(x,(dit row).getD j ak.empty,lieR row x ((dit row).getD j ak.empty))] else []):=by
 unfold C3;have e:(dit row).getD j ak.empty=(dit row)[j]:=by simp[List.getD,hj]
 rw[O3 hj,O1,Ot,e,Pi];split<;>rfl
def Xdx(row)(x)(ys):(C3 row x ys).length<=ys.length:=by
 unfold C3;rw[Od];exact Pl ..
def Xl6(row)(i):(Dd row i).length<=i * (dit row).length:=by
 unfold Dd;rw[List.length_flatMap];have h:∀l:Za,(l.map λx=>(C3 row x (dit row)).length).sum<=l.length * (dit row).length:=by
  intro l
  induction l with
  | nil=>simp
  | cons x l ih=>
   rw[O5,Qg,O2,Nat.succ_mul];have:=Xdx row x (dit row)
   lia
 refine Pj (h _) (Nat.mul_le_mul_right _ ?_);rw[O0]
 lia
abbrev NFl:Za:=["_law_plot", "_law_name"]
abbrev NFl1:Za:=["_law_one", "_law_name"]
abbrev NOd:Za:=["_law_draw", "_law_row_here", "_law_plot", "_law_way", "_law_at", "_law_name"]
abbrev NFi:Za:=["_law_bars_here", "_law_plot", "_law_one", "_law_other", "_law_word_here"]
abbrev NBr:Za:=["_law_row_here", "_law_where_here", "_law_told", "_law_one", "_law_other", "_law_word_here"]
abbrev NGo:Za:=["_law_row_here", "_law_plot"]
abbrev NGo1:Za:=["_law_name", "_law_plot"]
def Xl7{α : Type}(f)(xs:List α)(b:Nat):Bx (xs.map f) none (some (b:Int))=(xs.take b).map f:=by
 by_cases hb:b<=xs.length
 ·exact Gc f xs b hb
 ·unfold Bx;rw[HT.sIx_none,Rc,HT.sIx_nat,Od,Nat.min_eq_right (by lia),Su,Pk (by rw[Od];lia),Pk (by lia)]
def spAskPlot (C:ae):Sp:=λvs H Q E=>∃(r p:ae) (row ss:Za),vs=[.ref r,.ref p]/\H r=some (.lst (row.map V.str))/\Row2 row/\H p=some (.tup (ss.map V.str))/\(∀y∈ss,okN y)/\ss.length<=24 /\
 (Ad row ss=true->∀H',Same H H'->Q .non H')/\(Ad row ss=false->∀H',Same H H'->E (.ref C) none H')
def Xl8{ss:Za}(h:∀y∈ss,okN y):∀z∈ss,z.length<=20/\∀c∈z.cps.toList,c<16 ^ 8:=λz hz=>⟨(h z hz).1,λc hc=>Qs ((h z hz).2 c hc) (by decide)⟩
def DrawOk.ntup  (d:DrawOk H dr sc):∀q ys,H q=some (.tup ys)->q≠dr:=λq ys e z=>by
 obtain⟨xs,h⟩:=d.at;rw[z,h] at e;cases e
def mid (row:Za) (x:ak):Za:=((row.dropWhile λy=>decide (y≠x)).tail).takeWhile λy=>decide (y≠x)
def Xdy{x y:ak}(h:x∉y::r):decide (y≠x)=true:=by
 have:y≠x:=λe=>h (by rw[e];exact Op);simpa using this
def drop_split{x:ak}(h:x∉A):(A++x::R).dropWhile (λy=>decide (y≠x))=x::R:=by
 induction A with
 | nil=>rw[Rf,Q4,Tj (by simp)]
 | cons y r ih=>
  rw[List.cons_append,Q4,Tk (Xdy h)];exact ih λz=>h (Ol _ z)
def take_split{x:ak}(h:x∉A):(A++x::R).takeWhile (λy=>decide (y≠x))=A:=by
 induction A with
 | nil=>rw[Rf,Q5,Tj (by simp)]
 | cons y r ih=>
  rw[List.cons_append,Q5,Tk (Xdy h)];rw[ih λz=>h (Ol _ z)]
def Nc  (hA:x∉A) (hB:x∉B):mid (A++x::(B++x::C)) x=B:=by
 unfold mid;rw[drop_split hA,List.tail_cons,take_split hB]
def split1:∀{row:Za},x∈row->∃A R,row=A++x::R/\x∉A:=by
 intro row
 induction row with
 | nil=>intro h;cases h
 | cons y r ih=>
  intro h;by_cases e:x=y
  ·exact⟨[],r,by rw[e];rfl,by simp⟩
  ·obtain⟨A,R,h1,h2⟩:=ih ((Ou.mp h).resolve_left e);exact⟨y::A,R,by rw[h1];rfl,λz=>(Ou.mp z).elim e h2⟩
def split2{x:ak}(h:row.count x=2):∃A B C,row=A++x::(B++x::C)/\x∉A/\x∉B/\x∉C:=by
 obtain⟨A,R,h1,h2⟩:=split1 (Sv.mp (by lia:0<row.count x));rw[h1,Rh,Rm.mpr h2,Rx] at h;have hR:R.count x=1:=by lia
 obtain⟨B,C,h3,h4⟩:=split1 (Sv.mp (by lia:0<R.count x));rw[h3,Rh,Rm.mpr h4,Rx] at hR;exact⟨A,B,C,by rw[h1,h3],h2,h4,Rm.mp (by lia)⟩
theorem Ik(x):∀n l r,A5 x n (l++r)=A5 x n l++A5 x (n+l.length) r
 | n,[],r=>rfl
 | n,y::l,r=>by
  have ih:=Ik x (n+1) l r;have e:n+(y::l).length=n+1+l.length:=by rw[O2];lia
  rw[e];show (if y=x then (n:Int)::A5 x (n+1) (l++r) else A5 x (n+1) (l++r))=(if y=x then (n:Int)::A5 x (n+1) l else A5 x (n+1) l)++_;rw[ih];split<;>rfl
theorem Kd(x):∀n l,∀i∈A5 x n l,(n:Int)<=i/\i<n+l.length
 | n,[]=>λi h=>by cases h
 | n,y::l=>λi h=>by
  have ih:=Kd x (n+1) l;have h':i=n\/i∈A5 x (n+1) l:=by
   change i∈(if y=x then (n:Int)::A5 x (n+1) l else A5 x (n+1) l) at h;split at h
   ·exact Ou.mp h
   ·exact .inr h
  rw[O2];rcases h' with rfl | h'
  ·lia
  ·have:=ih i h'
   lia
theorem Ke:∀n l,x∉l->A5 x n l=[]
 | _,[],_=>rfl
 | n,y::l,h=>by
  show (if y=x then (n:Int)::A5 x (n+1) l else A5 x (n+1) l)=[];rw[Tj (λe=>h (by rw[e];exact Op))];exact Ke _ _ λz=>h (Ol _ z)
def Xl9  (hx:row.count x=2) (n:x≠y):nIn (pl row x).1 (pl row x).2 (plc row y)=(mid row x).count y:=by
 obtain⟨A,B,C,e,hA,hB,hC⟩:=split2 hx;have ex:plc row x=[(A.length:Int),((A.length+1+B.length:Nat):Int)]:=by
  unfold plc;rw[e,Ik,Ke _ _ hA];show []++(if x=x then _ else _)=_;rw[Tk rfl,Ik,Ke _ _ hB];show []++(_::([]++(if x=x then _ else _)))=_;rw[Tk rfl,Ke _ _ hC];simp
 have ey:plc row y=A5 y 0 A++(A5 y (A.length+1) B++A5 y (A.length+1+B.length+1) C):=by
  unfold plc;rw[e,Ik];show _++(if x=y then _ else _)=_;rw[Tj n,Ik];show _++(_++(if x=y then _ else _))=_;rw[Tj n];simp
 rw[Xdp ex,ey];unfold nIn inn;rw[O1,O1];have e1:(A5 y 0 A).filter (λt=>decide ((A.length:Int)<t)&&decide (t<((A.length+1+B.length:Nat):Int)))=[]:=by
  rw[Q6];intro i hi;have:=Kd y 0 A i hi;simp;intro
  lia
 have e2:(A5 y (A.length+1) B).filter (λt=>decide ((A.length:Int)<t)&&decide (t<((A.length+1+B.length:Nat):Int)))=A5 y (A.length+1) B:=by
  rw[Pd];intro i hi;have:=Kd y (A.length+1) B i hi;simp
  lia
 have e3:(A5 y (A.length+1+B.length+1) C).filter (λt=>decide ((A.length:Int)<t)&&decide (t<((A.length+1+B.length:Nat):Int)))=[]:=by
  rw[Q6];intro i hi;have:=Kd y _ C i hi;simp;intro
  lia
 rw[e1,e2,e3,Rf,Pm,J7];rw[e,Nc hA hB]
def A3 (row:Za) (x y:ak):Prop:=lieR row x y = "cross"
instance (row:Za) (x y:ak):Decidable (A3 row x y):=inferInstanceAs (Decidable (_=_))
def Nd:D0 a b c e false = "cross" ↔ nIn a b [c,e]=1:=by
 unfold D0;have e3:(inn a b [c,e]).length=nIn a b [c,e]:=rfl;have h2:(inn a b [c,e]).length<=2:=M0 a b [c,e];rw[e3] at *;generalize nIn a b [c,e]=q at *
 match q,h2 with
 | 0,_=>
  rw[Tj (by decide)];split<;>decide
 | 1,_=>rw[Tk (by decide)];decide
 | 2,_=>rw[Tk (by decide)];decide
def Kf  (hx:row.count x=2) (hy:row.count y=2) (n:x≠y):A3 row x y↔(mid row x).count y=1:=by
 unfold A3;rw[Gj hx hy,Tn n,Nd,<-Fu hy,Xl9 hx n]
def Ej  (hx:row.count x=2):¬A3 row x x:=by
 unfold A3 lieR lieT;rw[Tk ⟨rfl,rfl⟩];decide
def De  (hx:row.count x=2) (hy:row.count y=2) (h:A3 row x y):A3 row y x:=by
 by_cases n:x=y
 ·subst n;exact h
 ·obtain⟨n1,n2,n3,n4⟩:=Fv hx hy n;unfold A3 at *;rw[Gj hx hy,Tn n,Nd,B8] at h;rw[Gj hy hx,Tn (λe=>n e.symm),Nd,B8];have l1:=B7 hx;have l2:=B7 hy;generalize (pl row x).1=a at *;generalize (pl row x).2=b at *;generalize (pl row y).1=c at *;generalize (pl row y).2=e at *;by_cases p1:a<c/\c<b<;>by_cases p2:a<e/\e<b<;>by_cases q1:c<a/\a<e<;>by_cases q2:c<b/\b<e <;>
  (first | rw[Tk p1] at h | rw[Tj p1] at h)<;>(first | rw[Tk p2] at h | rw[Tj p2] at h) <;>
  (first | rw[Tk q1] | rw[Tj q1])<;>(first | rw[Tk q2] | rw[Tj q2])<;>lia
def Xdz  (h:p x=true):∀row:Za,mid (row.filter p) x=(mid row x).filter p:=by
 have tk:∀l:Za,(l.filter p).takeWhile (λy=>decide (y≠x))=(l.takeWhile λy=>decide (y≠x)).filter p:=by
  intro l
  induction l with
  | nil=>rfl
  | cons y r ih=>
   by_cases e:y=x
   ·subst e;rw[Pi,Tk h,Q5,Tj (by simp),Q5,Tj (by simp)];rfl
   ·rw[Q5,Tk (Tl e),Pi,Pi];by_cases q:p y=true
    ·rw[Tk q,Tk q,Q5,Tk (Tl e),ih]
    ·rw[Tj q,Tj q,ih]
 intro row;unfold mid;rw[<-tk];congr 1
 induction row with
 | nil=>rfl
 | cons y r ih=>
  by_cases e:y=x
  ·subst e;rw[Pi,Tk h,Q4,Tj (by simp),Q4,Tj (by simp)];rfl
  ·rw[Q4,Tk (Tl e),<-ih,Pi];by_cases q:p y=true
   ·rw[Tk q,Q4,Tk (Tl e)]
   ·rw[Tj q]
def Xma  (hx:row.count x=2) (hy:row.count y=2) (iZ:lZ.count x=2) (jA:lZ.count y=2)
  (e:row.filter (λz=>decide (z=x\/z=y))=lZ.filter (λz=>decide (z=x\/z=y))):A3 row x y↔A3 lZ x y:=by
 by_cases n:x=y
 ·subst n;exact⟨λh=>absurd h (Ej hx),λh=>absurd h (Ej iZ)⟩
 ·rw[Kf hx hy n,Kf iZ jA n];have h1:∀r:Za,(mid r x).count y=(mid (r.filter λz=>decide (z=x\/z=y)) x).count y:=λr=>by
   rw[Xdz (by simp),List.count_filter (by simp)]
  rw[h1 row,h1 lZ,e]
def Bk (row:Za):Prop:=∀x∈row,∀y∈row,∀z∈row,A3 row x y->A3 row x z->¬A3 row y z
def Xmb:Bk []:=λx h=>by cases h
def Xd0{x}(h:Bk row)(h2:∀y∈row,row.count y=2)(ip:∀y∈bZ,bZ.count y=2)(dh:∀y∈bZ,y=x\/y∈row)
  (hf:∀p:ak->Bool,p x=false->bZ.filter p=row.filter p) (hb:∀y∈bZ,∀z∈bZ,A3 bZ x y->A3 bZ x z->¬A3 bZ y z):Bk bZ:=by
 intro a ha b dF c hc k1 k2 k3;have fe:=De (ip a ha) (ip b dF) k1;have jf:=De (ip a ha) (ip c hc) k2;have CC:=De (ip b dF) (ip c hc) k3;by_cases ea:a=x
 ·subst ea;exact hb b dF c hc k1 k2 k3
 by_cases eb:b=x
 ·subst eb;exact hb a ha c hc fe k3 k2
 by_cases ec:c=x
 ·subst ec;exact hb a ha b dF jf CC k1
 have ra:=(dh a ha).resolve_left ea;have rb:=(dh b dF).resolve_left eb;have rc:=(dh c hc).resolve_left ec;have go:∀u v:ak,u≠x->v≠x->u∈row->v∈row->u∈bZ->v∈bZ->A3 bZ u v->A3 row u v:=λu v nu nv hu hv mu mv k=>
  (Xma (ip u mu) (ip v mv) (h2 u hu) (h2 v hv) (hf _ (by
   rw[decide_eq_false_iff_not];rintro (e | e)
   ·exact nu e.symm
   ·exact nv e.symm))).mp k
 exact h a ra b rb c rc (go a b ea eb ra rb ha dF k1) (go a c ea ec ra rc ha hc k2) (go b c eb ec rb rc dF hc k3)
def Xmc    (eU:a<=b) (h:p x=false):(Dz row x a b).filter p=row.filter p:=by
 unfold Dz;have e:row=row.take a++((row.drop a).take (b - a)++row.drop b):=by
  have e1:row.drop b=(row.drop a).drop (b - a):=by rw[List.drop_drop];congr 1;lia
  rw[e1,Pb,Pb]
 conv=>rhs;rw[e]
 simp[O1,Pi,h]
def Xmd  (hx:(A++[x,x]++C).count x=2) (hy:(A++[x,x]++C).count y=2):¬A3 (A++[x,x]++C) x y:=by
 by_cases n:x=y
 ·subst n;exact Ej hx
 ·rw[Kf hx hy n];have hA:x∉A:=by
   rw[<-Rm];rw[Rh,Rh,Rx,Rx] at hx
   lia
  have e:A++[x,x]++C=A++x::([]++x::C):=by simp
  rw[e,Nc hA (by simp)];simp
def Xme{row:Za}   (h:p x=false):(row.take a++[x,x]++row.drop a).filter p=row.filter p:=by
 simp[O1,Pi,h];rw[<-O1,Pb]
def Xd1  (hF:F.Nodup) (hx:x∈F) (n:x≠y):(mid (F++F.reverse) x).count y≠1:=by
 obtain⟨A,B,rfl,hA⟩:=split1 hx;have hB:x∉B:=by
  have h1:=(Qe.mp hF).2.1;exact(P5.mp h1).1
 have e:(A++x::B)++(A++x::B).reverse=A++x::((B++B.reverse)++x::A.reverse):=by simp
 rw[e,Nc hA (by simp[hB]),Rh,List.count_reverse]
 lia
def E3  (hn:ns.Nodup) (c) (h2:∀z∈ns,(ns++(ns.take c).reverse++(ns.drop c).reverse).count z=2)
  (h:(x∈ns.take c/\y∈ns.take c)\/(x∈ns.drop c/\y∈ns.drop c)):¬A3 (ns++(ns.take c).reverse++(ns.drop c).reverse) x y:=by
 have sub:(∀z,z∈ns.take c->z∈ns)/\∀z,z∈ns.drop c->z∈ns:=⟨λz=>Pp,λz=>P1⟩;have hx:x∈ns:=h.elim (λz=>sub.1 _ z.1) λz=>sub.2 _ z.1;have hy:y∈ns:=h.elim (λz=>sub.1 _ z.2) λz=>sub.2 _ z.2;by_cases n:x=y
 ·subst n;exact Ej (h2 x hx)
 rw[Kf (h2 x hx) (h2 y hy) n];have dm:(mid (ns++(ns.take c).reverse++(ns.drop c).reverse) x).count y=(mid ((ns++(ns.take c).reverse++(ns.drop c).reverse).filter λz=>decide (z=x\/z=y)) x).count y:=by
  rw[Xdz (by simp),List.count_filter (by simp)]
 rw[dm];have dj:∀z,z∈ns.take c->z∈ns.drop c->False:=by
  have:=hn;rw[<-Pb c ns] at this;intro z h1 h2;exact(Qe.mp this).2.2 z h1 z h2 rfl
 have e0:ns.filter (λz=>decide (z=x\/z=y))=(ns.take c).filter (λz=>decide (z=x\/z=y))++(ns.drop c).filter (λz=>decide (z=x\/z=y)):=by
  rw[<-O1,Pb]
 rw[O1,O1,e0,List.filter_reverse,List.filter_reverse];rcases h with ⟨h1,h2⟩ | ⟨h1,h2⟩
 ·have e:(ns.drop c).filter (λz=>decide (z=x\/z=y))=[]:=by
   rw[Q6];intro z hz q;rcases Tp q with q | q
   ·exact dj x h1 (q ▸ hz)
   ·exact dj y h2 (q ▸ hz)
  rw[e,Pm,List.reverse_nil,Pm];exact Xd1 ((hn.sublist (P2 ..)).filter _) (Om.mpr ⟨h1,by simp⟩) n
 ·have e:(ns.take c).filter (λz=>decide (z=x\/z=y))=[]:=by
   rw[Q6];intro z hz q;rcases Tp q with q | q
   ·exact dj x (q ▸ hz) h1
   ·exact dj y (q ▸ hz) h2
  rw[e,Rf,List.reverse_nil,Pm];exact Xd1 ((hn.sublist (Qq ..)).filter _) (Om.mpr ⟨h1,by simp⟩) n
def noThree_grid(hn:ns.Nodup)(c)(h2:∀z∈ns,(ns++(ns.take c).reverse++(ns.drop c).reverse).count z=2):Bk (ns++(ns.take c).reverse++(ns.drop c).reverse):=by
 have mem:∀z,z∈ns++(ns.take c).reverse++(ns.drop c).reverse->z∈ns.take c\/z∈ns.drop c:=by
  intro z hz;rw[<-Oq,Pb];simp only[Oq,List.mem_reverse] at hz;rcases hz with (h | h) | h
  ·exact h
  ·exact Pp h
  ·exact P1 h
 intro x hx y hy z hz k1 k2 k3;rcases mem x hx with a | a<;>rcases mem y hy with b | b<;>rcases mem z hz with d | d
 ·exact E3 hn c h2 (.inl ⟨a,b⟩) k1
 ·exact E3 hn c h2 (.inl ⟨a,b⟩) k1
 ·exact E3 hn c h2 (.inl ⟨a,d⟩) k2
 ·exact E3 hn c h2 (.inr ⟨b,d⟩) k3
 ·exact E3 hn c h2 (.inl ⟨b,d⟩) k3
 ·exact E3 hn c h2 (.inr ⟨a,d⟩) k2
 ·exact E3 hn c h2 (.inr ⟨a,b⟩) k1
 ·exact E3 hn c h2 (.inr ⟨a,b⟩) k1
def spBarredN:Sp:=λvs H Q _=>∃(r:ae) (row:Za) (x:ak),vs=[.ref r,.str x]/\H r=some (.lst (row.map V.str))/\row.length<=1000/\(∀y∈row,row.count y=2)/\x∈row /\
 ∀b H',(b=false->∀y∈row,∀z∈row,A3 row x y->A3 row x z->¬A3 row y z)->Same H H'->Q (.bl b) H'
def spRowN:Sp:=λvs H Q _=>∃(dr sc nl:ae) (ns:Za),vs=[.ref dr,.ref nl]/\DrawOk H dr sc/\H nl=some (.lst (ns.map V.str))/\nl≠dr/\ns.Nodup/\ns.length<=14 /\
 ∀(l:ae) (row:Za) (H':Hp),H l=none->H' l=some (.lst (row.map V.str))->row.Perm (ns++ns)->Bk row->DrawOk H' dr sc->But dr H H'->Q (.ref l) H'
def spIslandN:Sp:=λvs H Q _=>∃(dr sc:ae) (m:Nat),vs=[.ref dr,.int m]/\m<=14/\DrawOk H dr sc /\
 ∀(l:ae) (row:Za) (n st:Nat) (aV:Bool) (H':Hp),H l=none->n<=m->st<26->H' l=some (.lst (row.map V.str))->row.Perm (Bd st aV n++Bd st aV n)->Bk row->DrawOk H' dr sc->But dr H H'->Q (.ref l) H'
def Xd2{_:Decidable p}(h:decide p=false):¬p:=Tq h
def Wh.pl{H:Hp}{kvs:List (Key×V)}{row:Za}{x:ak}(w:Wh H kvs row)(hx:x∈row)(h:row.count x=2):∃l,Ay kvs (Sum.inr x:Key)=some (.ref l)/\H l=some (.lst [.int (pl row x).1,.int (pl row x).2]):=by
 obtain⟨l,h1,h2⟩:=w.val x hx;rw[Fu h] at h2;exact⟨l,h1,h2⟩
def deg2 {α : Type} (R : α -> α->Bool) (l:List α):Nat:=(l.map λx=>l.countP (R x)).sum
def Xmf{a b:List Nat}(p:a.Perm b):a.sum=b.sum:=by
 induction p with
 | nil=>rfl
 | cons x _ ih=>simp[ih]
 | swap x y l=>simp;lia
 | trans _ _ h1 h2=>exact h1.trans h2
def Xmg{α : Type}{R}{a b:List α}(p:a.Perm b):deg2 R a=deg2 R b:=by
 unfold deg2;have e:(a.map λx=>a.countP (R x))=a.map λx=>b.countP (R x):=Py λx _=>p.countP_eq _;rw[e];exact Xmf (p.map _)
theorem Fw{α : Type}(f g : α->Nat):∀l:List α,(l.map λx=>f x+g x).sum=(l.map f).sum+(l.map g).sum
 | []=>rfl
 | x::r=>by simp[Fw f g r];lia
theorem Ek{α : Type}(p):∀l:List α,(l.map λx=>if p x=true then 1 else 0).sum=l.countP p
 | []=>rfl
 | x::r=>by
  rw[O5,Qg,Ek p r,Qv]
  lia
theorem Xd3{α : Type}:∀l:List α,(l.map λ_=>0).sum=0
 | []=>rfl
 | _::r=>by rw[O5,Qg,Xd3 r]
def mantel{α : Type}[DecidableEq α]{R}:∀(n:Nat) (l:List α),l.length=n->l.Nodup->(∀x∈l,R x x=false)->(∀x∈l,∀y∈l,R x y=R y x) ->
  (∀x∈l,∀y∈l,∀z∈l,R x y=true->R x z=true->R y z=false)->2 * deg2 R l<=n * n:=by
 intro n
 induction n using Nat.strongRecOn with
 | ind n ih=>
  intro l hl nd irr sy yR;by_cases h:∃u∈l,∃v∈l,R u v=true
  ·obtain⟨u,hu,v,hv,me⟩:=h;have CD:u≠v:=λe=>by subst e;rw[irr u hu] at me;cases me
   have p1:l.Perm (u::l.erase u):=Si hu;have CF:v∈l.erase u:=(List.mem_erase_of_ne CD.symm).mpr hv;have p2:l.Perm (u::v::(l.erase u).erase v):=p1.trans (List.Perm.cons u (Si CF));generalize (l.erase u).erase v=r at p2;have aN:=p2.length_eq;simp only[O2] at aN;have CG:=p2.nodup_iff.mp nd;have mr:∀x∈r,x∈l:=λx hx=>p2.mem_iff.mpr (Ol _ (Ol _ hx));have yS:r.Nodup:=(P5.mp (P5.mp CG).2).2;have JK:=ih r.length (by lia) r rfl yS (λx hx=>irr x (mr x hx)) (λx hx y hy=>sy x (mr x hx) y (mr y hy)) (λx hx y hy z hz=>yR x (mr x hx) y (mr y hy) z (mr z hz));have e:deg2 R l=2+2 * (r.countP (R u)+r.countP (R v))+deg2 R r:=by
    rw[Xmg p2];unfold deg2;rw[O5,O5,Qg,Qg];have ef:(r.map λx=>(u::v::r).countP (R x))=r.map λx=>((if R u x=true then 1 else 0)+(if R v x=true then 1 else 0))+r.countP (R x):=by
     refine Py λx hx=>?_;rw[Qv,Qv,sy x (mr x hx) u hu,sy x (mr x hx) v hv]
     lia
    rw[ef,Fw,Fw,Ek,Ek,Qv,Qv,Qv,Qv,irr u hu,irr v hv,me,sy v hv u hu,me];simp
    lia
   have le:r.countP (R u)+r.countP (R v)<=r.length:=by
    rw[<-Ek (R u),<-Ek (R v),<-Fw];have:∀m:List α,(∀x∈m,x∈l)->(m.map λx=>(if R u x=true then 1 else 0)+(if R v x=true then 1 else 0)).sum<=m.length:=by
     intro m
     induction m with
     | nil=>intro _;exact Og _
     | cons x t CH=>
      intro hm;have h1:=CH λy hy=>hm y (Ol _ hy);have hx:=hm x Op;have h2:(if R u x=true then 1 else 0)+(if R v x=true then 1 else 0)<=1:=by
       by_cases a:R u x=true
       ·have:=yR u hu v hv x hx me a;rw[this,Tk a];decide
       ·rw[Tj a];split<;>decide
      rw[O5,Qg,O2]
      lia
    exact this r mr
   have hn:n=r.length+2:=by lia
   rw[e,hn];have:(r.length+2) * (r.length+2)=r.length * r.length+4 * r.length+4:=by
    rw[Nat.add_mul,Nat.mul_add];lia
   rw[this]
   lia
  ·have z:deg2 R l=0:=by
    unfold deg2;have:(l.map λx=>l.countP (R x))=l.map λ_=>0:=by
     refine Py λx hx=>?_;rw[List.countP_eq_zero];intro y hy q;exact h ⟨x,hx,y,hy,q⟩
    rw[this];exact Xd3 l
   rw[z];exact Pf _
theorem Xd4{α β : Type}(p : α -> β->Bool)(m:List β):∀l:List α,(l.map λx=>m.countP (p x)).sum=(m.map λy=>l.countP λx=>p x y).sum
 | []=>by
  show 0=_
  induction m with
  | nil=>rfl
  | cons y r ih=>rw[O5,Qg,<-ih];rfl
 | x::l=>by
  rw[O5,Qg,Xd4 p m l];have e:(m.map λy=>(x::l).countP λx=>p x y)=m.map λy=>(if p x y=true then 1 else 0)+l.countP λx=>p x y:=by
   refine Py λy _=>?_;rw[Qv]
   lia
  rw[e,Fw,Ek]
def Xd5(h2:∀y∈row,row.count y=2):2 * (crs row).length=deg2 (λx y=>decide (A3 row x y)) (dit row):=by
 have e:(crs row).length=((dit row).map λx=>(dit row).countP λy=>decide (ltS x y)&&decide (A3 row x y)).sum:=by
  unfold crs;rw[List.length_flatMap];congr 1;refine Py λx _=>?_;rw[Od,List.countP_eq_length_filter];rfl
 have e2:=Xd4 (λx y=>decide (ltS x y)&&decide (A3 row x y)) (dit row) (dit row);have e3:2 * (crs row).length=((dit row).map λx=>(dit row).countP λy=>decide (ltS x y)&&decide (A3 row x y)).sum+((dit row).map λy=>(dit row).countP λx=>decide (ltS x y)&&decide (A3 row x y)).sum:=by
  rw[<-e2,e];lia
 rw[e3,<-Fw];unfold deg2;congr 1;refine Py λx hx=>?_;rw[<-Ek,<-Ek,<-Ek,<-Fw];congr 1;refine Py λy hy=>?_;have iZ:=An.mp hx;have jA:=An.mp hy;by_cases c:A3 row x y
 ·have c':=De (h2 x iZ) (h2 y jA) c;have n:x≠y:=λe=>by subst e;exact Ej (h2 x iZ) c
  by_cases l:ltS x y
  ·have l':¬ltS y x:=λq=>Jv x (Jw l q);simp[c,c',l,l']
  ·have l':ltS y x:=ltS_of (Me.mp l) n.symm;simp[c,c',l,l']
 ·have c':¬A3 row y x:=λq=>c (De (h2 y jA) (h2 x iZ) q);simp[c,c']
def Xd6(h2:∀y∈row,row.count y=2)(h3:Bk row)(hl:(dit row).length<=14):(crs row).length<=49:=by
 have m:=mantel (R:=λx y=>decide (A3 row x y)) (dit row).length (dit row) rfl (Gb row) (λx hx=>Tn (Ej (h2 x (An.mp hx))))
  (λx hx y hy=>by
   by_cases c:A3 row x y
   ·rw[Tl c,Tl (De (h2 x (An.mp hx)) (h2 y (An.mp hy)) c)]
   ·rw[Tn c,Tn λq=>c (De (h2 y (An.mp hy)) (h2 x (An.mp hx)) q)])
  (λx hx y hy z hz a b=>Tn (h3 x (An.mp hx) y (An.mp hy) z (An.mp hz) (Tp a) (Tp b)))
 rw[<-Xd5 h2] at m;have:(dit row).length * (dit row).length<=14 * 14:=Sy hl hl
 lia
def upB (row:Za) (x y:ak):Bool:=decide (y=x)||decide (lieR row x y = "within")
def span (row:Za) (x:ak):Nat:=((pl row x).2 - (pl row x).1).toNat
def Xmh(a b c e):lieT a b c e = "same" \/ lieT a b c e = "cross" \/ lieT a b c e = "within" \/ lieT a b c e = "around" \/ lieT a b c e = "apart" := by
 unfold lieT;split
 ·exact .inl rfl
 ·split
  ·exact .inr (.inl rfl)
  ·split
   ·exact .inr (.inr (.inl rfl))
   ·split
    ·exact .inr (.inr (.inr (.inl rfl)))
    ·exact .inr (.inr (.inr (.inr rfl)))
def Xmi  (hx:row.count x=2) (hy:row.count y=2) (n:x≠y) (h:lieR row x y = "around"):span row y<span row x:=by
 obtain⟨n1,n2,n3,n4⟩:=Fv hx hy n;have l1:=B7 hx;have l2:=B7 hy;unfold span;unfold lieR lieT at h;rw[Tj (λz=>n1 z.1)] at h;split at h
 ·exact absurd h (by decide)
 ·split at h
  ·exact absurd h (by decide)
  ·split at h
   ·rename_i q;rw[B8] at q;generalize (pl row x).1=a at *;generalize (pl row x).2=b at *;generalize (pl row y).1=c at *;generalize (pl row y).2=e at *;by_cases p1:a<c/\c<b
    ·by_cases p2:a<e/\e<b
     ·lia
     ·rw[Tk p1,Tj p2] at q;lia
    ·rw[Tj p1] at q;split at q<;>lia
   ·exact absurd h (by decide)
def Xd7  (hx:row.count x=2) (hy:row.count y=2) (h:lieR row x y = "same"):x=y:=by
 refine Classical.byContradiction λn=>?_;obtain⟨n1,n2,n3,n4⟩:=Fv hx hy n;unfold lieR lieT at h;rw[Tj (λz=>n1 z.1)] at h;split at h
 ·exact absurd h (by decide)
 ·split at h
  ·exact absurd h (by decide)
  ·split at h
   ·exact absurd h (by decide)
   ·exact absurd h (by decide)
theorem least{α : Type}(f : α->Nat):∀l:List α,l≠[]->∃a∈l,∀b∈l,f a<=f b
 | [],h=>absurd rfl h
 | [a],_=>⟨a,Op,λb hb=>by rw[Oj.mp hb];exact Og _⟩
 | a::c::r,_=>by
  obtain⟨m,hm,hl⟩:=least f (c::r) (by simp);by_cases q:f a<=f m
  ·exact⟨a,Op,λb hb=>by
    rcases Ou.mp hb with e | e
    ·rw[e];exact Og _
    ·exact Pj q (hl b e)⟩
  ·exact⟨m,Ol _ hm,λb hb=>by
    rcases Ou.mp hb with e | e
    ·rw[e];lia
    ·exact hl b e⟩
def cands (row:Za):List (Za):=(dit row).map (λa=>(dit row).filter (upB row a))++(crs row).map λp=>(dit row).filter λy=>upB row p.1 y||upB row p.2 y
def Xd8(h2:∀y∈row,row.count y=2)(h3:Bk row)(fo:S≠[])(hg:Ad row S=true):S∈cands row:=by
 have uw:=hg;rw[<-Kc h2] at uw;unfold E2 at uw;rw[Oy] at uw;have hS:=Tp uw.1;unfold Ad at hg;rw[Oy,Oy] at hg;obtain⟨⟨_,vR⟩,cU⟩:=hg;have inr:∀x∈S,x∈row:=λx hx=>Tp (O8.mp vR x hx);have al:∀x∈S,∀y∈row,Bz (lieR row x y) (decide (y∈S))=true:=λx hx y hy=>O8.mp (O8.mp cU x hx) y (An.mpr hy);have within:∀x∈S,∀y∈row,lieR row x y = "within" -> y∈S:=λx hx y hy e=>by
  have:=al x hx y hy;unfold Bz at this;rw[Tk e] at this;exact Tp this
 have apart:∀x∈S,∀y∈S,lieR row x y ≠ "apart" := λx hx y hy e=>by
  have:=al x hx y (inr y hy);unfold Bz at this;rw[Tj (by rw[e];decide),e,Tl hy] at this;exact absurd this (by decide)
 have h8:∀a∈S,∀c∈S,upB row a c=false->¬span row c<span row a->A3 row a c:=λa ha c hc hu hs=>by
  have yT:=Bool.or_eq_false_iff.mp hu;have n1:c≠a:=Tq yT.1;have n2:=Tq yT.2;rcases Xmh (pl row a).1 (pl row a).2 (pl row c).1 (pl row c).2 with q | q | q | q | q
  ·exact absurd (Xd7 (h2 a (inr a ha)) (h2 c (inr c hc)) q).symm n1
  ·exact q
  ·exact absurd q n2
  ·exact absurd (Xmi (h2 a (inr a ha)) (h2 c (inr c hc)) (λe=>n1 e.symm) q) hs
  ·exact absurd q (apart a ha c hc)
 have oG:∀a∈S,∀y∈row,upB row a y=true->y∈S:=λa ha y hy q=>by
  rcases Sl.mp q with q | q
  ·rw[Tp q];exact ha
  ·exact within a ha y hy (Tp q)
 obtain⟨a,ha,la⟩:=least (span row) S fo;unfold cands;rw[Oq];by_cases bT:∀c∈S,upB row a c=true
 ·left;rw[Pa];refine⟨a,An.mpr (inr a ha),?_⟩;rw[hS];refine S8 λy hy=>?_;by_cases q:y∈S
  ·rw[bT y q,Tl q]
  ·rw[Tn q,Rv];exact λz=>q (oG a ha y (An.mp hy) z)
 ·right;have vS:S.filter (λc => !upB row a c)≠[]:=λe=>bT λc hc=>by
   rw[Q6] at e;have:=e c hc;simpa using this
  obtain⟨b,hb,lb⟩:=least (span row) _ vS;obtain⟨mf,vT⟩:=Om.mp hb;have vT:upB row a b=false:=by simpa using vT
  have cab:=h8 a ha b mf vT (by have:=la b mf;lia);have all2:∀c∈S,upB row a c=true\/upB row b c=true:=λc hc=>by
   refine Classical.byContradiction λz=>?_;have z1:upB row a c=false:=by
    cases q:upB row a c with
    | false=>rfl
    | true=>exact absurd (.inl q) z
   have z2:upB row b c=false:=by
    cases q:upB row b c with
    | false=>rfl
    | true=>exact absurd (.inr q) z
   have k1:=h8 a ha c hc z1 (by have:=la c hc;lia);have k2:=h8 b mf c hc z2 (by have:=lb c (Om.mpr ⟨hc,by simp[z1]⟩);lia);exact h3 a (inr a ha) b (inr b mf) c (inr c hc) cab k1 k2
  have dm:∀p q:ak,p∈S->q∈S->(∀c∈S,upB row p c=true\/upB row q c=true)->(dit row).filter (λy=>upB row p y||upB row q y)=S:=λp q hp hq h=>by
   conv=>rhs;rw[hS]
   refine S8 λy hy=>?_;by_cases m:y∈S
   ·rw[Tl m,Sl];exact h y m
   ·rw[Tn m,Bool.or_eq_false_iff];exact⟨Rv.mpr λz=>m (oG p hp y (An.mp hy) z),Rv.mpr λz=>m (oG q hq y (An.mp hy) z)⟩
  have CI:a≠b:=λe=>by subst e;exact Ej (h2 a (inr a ha)) cab
  have mk:∀p q:ak,p∈S->q∈S->ltS p q->A3 row p q->(p,q)∈crs row:=λp q hp hq l c=>by
   unfold crs;rw[List.mem_flatMap];refine⟨p,An.mpr (inr p hp),Pa.mpr ⟨q,Om.mpr ⟨An.mpr (inr q hq),?_⟩,rfl⟩⟩;rw[Oy];exact⟨Tl l,Tl c⟩
  rw[Pa];by_cases l:ltS a b
  ·exact⟨(a,b),mk a b ha mf l cab,dm a b ha mf all2⟩
  ·have l':=ltS_of (Me.mp l) CI.symm;exact⟨(b,a),mk b a mf ha l' (De (h2 a (inr a ha)) (h2 b (inr b mf)) cab),dm b a mf ha λc hc=>(all2 c hc).symm⟩
theorem Nf{α : Type}[DecidableEq α]:∀{a b:List α},a.Nodup->(∀x∈a,x∈b)->a.length<=b.length
 | [],_,_,_=>Pf _
 | x::r,b,h,s=>by
  obtain⟨h1,h2⟩:=P5.mp h;have hx:=s x Op;have:=Nf (a:=r) (b:=b.erase x) h2 λy hy=>(List.mem_erase_of_ne (show y≠x from λe=>h1 (e ▸ hy))).mpr (s y (Ol _ hy));rw[List.length_erase_of_mem hx] at this;have:0<b.length:=List.length_pos_of_mem hx;rw[O2]
  lia
def Xd9{L:List (Za)}(h2:∀y∈row,row.count y=2)(h3:Bk row)(hl:(dit row).length<=14)(nd:L.Nodup)(h:∀S∈L,S≠[]/\Ad row S=true):L.length<64:=by
 have l1:=Nf nd λS hS=>Xd8 h2 h3 (h S hS).1 (h S hS).2;have l2:=Xd6 h2 h3 hl;unfold cands at l1;rw[Oh,Od,Od] at l1
 lia
end SH
namespace L2
open PySem.W (KasT kas_asc kas_desc kas_rev kas_tail3 kas_descPart kas_count kas_place kas_bin kas_sort kas_ask kas_item kat_run kat_snds kat_kind kat_lt KatLex kat_cons kat_go kat_yes kat_no kat_one kat_nil KatTups)
def KAll {α : Type} (n:Nat) (P : α->Prop):KasT α->Prop
 | .ret a=>P a
 | .ask i j k=>i<n/\j<n/\∀b,KAll n P (k b)
theorem KAll.bind{α β : Type}{P}{Q : β->Prop}{f}(hf:∀a,P a->KAll n Q (f a)):∀{t:KasT α},KAll n P t->KAll n Q (t.bind f)
 | .ret a,h=>hf a h
 | .ask i j k,h=>⟨h.1,h.2.1,λb=>KAll.bind hf (h.2.2 b)⟩
theorem KAll.wp{α : Type}{n}{G}  (hc:∀i j C,i<n->j<n->(∀b,C b s)->vU i j C s):
  ∀{t:KasT α},KAll n (λa=>G a s) t->t.kasWp vU G s
 | .ret a,h=>h
 | .ask i j k,h=>hc i j _ h.1 h.2.1 λb=>KAll.wp hc (h.2.2 b)
def Gd (n:Nat) (p:Array Nat):Prop:=p.Perm (List.toArray (List.range n))
def Gd.lt{n}{p}(h:Gd n p)(hn:0<n)(i):p.getD i 0<n:=by
 by_cases hi:i<p.size
 ·have e:p.getD i 0=p[i]:=by simp[Array.getD,hi]
  rw[e];have:p[i]∈p:=Array.getElem_mem hi;have:=h.mem_iff.mp this;simpa using this
 ·have e:p.getD i 0=0:=by simp[Array.getD,hi]
  rw[e];exact hn
def Gd.rev  (h:Gd n p) (i j):Gd n (kas_rev p i j):=(yU p i j _).trans h
theorem Ng  (hn:0<n) (h:Gd n p):∀f m,KAll n (λ_=>True) (kas_asc p f m)
 | 0,_=>trivial
 | f+1,m=>⟨h.lt hn _,h.lt hn _,λb=>by
  cases b with
  | true=>exact trivial
  | false=>exact Ng hn h f (m+1)⟩
theorem Kg(hn:0<n):∀f (p:Array Nat) m q,Gd n p->KAll n (λr=>Gd n r.1) (kas_desc f p m q)
 | 0,p,m,q,h=>h
 | f+1,p,m,q,h=>⟨h.lt hn _,h.lt hn _,λb=>by
  cases b with
  | true=>
   show KAll n _ (if q > 0 then kas_desc f (kas_rev p (m - (q+1)) m) (m+1) 0 else kas_desc f p (m+1) 0);split
   ·exact Kg hn f _ _ _ (h.rev _ _)
   ·exact Kg hn f _ _ _ h
  | false=>
   refine⟨h.lt hn _,h.lt hn _,λd=>?_⟩;cases d with
   | true=>exact h
   | false=>exact Kg hn f _ _ _ h⟩
def Xea  (hn:0<n) (h:Gd n p) (m r):KAll n (λr=>Gd n r.2) (kas_tail3 m r p):=by
 unfold kas_tail3;refine KAll.bind (P:=λ_=>True) (Q:=λ(r:Nat×Array Nat)=>Gd n r.2) (λa _=>?_) (Ng hn (h.rev 0 m) _ _);exact h.rev 0 m
def Xeb  (hn:0<n) (h:Gd n p) (m r):KAll n (λr=>Gd n r.2) (kas_descPart m r p):=by
 refine KAll.bind (P:=λr=>Gd n r.1) (λa ha=>?_) (Kg hn _ _ _ _ h);split
 ·exact Xea hn (ha.rev _ _) _ _
 ·exact Xea hn ha _ _
def Xmj  (hn:0<n) (h:Gd n p) (r):KAll n (λr=>Gd n r.2) (kas_count r p):=by
 refine KAll.bind (P:=λ_=>True) (λa _=>?_) (Ng hn h _ _);split
 ·exact h
 ·split
  ·refine⟨h.lt hn _,h.lt hn _,λb=>?_⟩;cases b with
   | true=>exact h
   | false=>exact Xeb hn (h.rev _ _) _ _
  ·exact Xeb hn h _ _
theorem Nh  (hn:0<n) (h:Gd n p) (k):∀f l r,KAll n (λ_=>True) (kas_place p k f l r)
 | 0,_,_=>trivial
 | f+1,l,r=>by
  show KAll n _ (if l ≥ r then _ else _);split
  ·exact trivial
  ·refine⟨h.lt hn _,h.lt hn _,λb=>?_⟩;cases b with
   | true=>exact Nh hn h k f _ _
   | false=>exact Nh hn h k f _ _
theorem Xec(hn:0<n):∀f (p:Array Nat) k,Gd n p->KAll n (Gd n) (kas_bin f p k)
 | 0,p,_,h=>h
 | f+1,p,k,h=>KAll.bind (P:=λ_=>True) (λl _=>Xec hn f _ _ ((kr p k _).trans h)) (Nh hn h k _ _ _)
def Ni{n}(hn:0<n):KAll n (Gd n) (kas_sort n):=by
 refine KAll.bind (P:=λr=>Gd n r.2) (λa ha=>?_) (Xmj hn (Sm _) n);split
 ·exact Xec hn _ _ _ ha
 ·exact ha
section
variable {prog:ao}{w:aw}{A:av}{E:Zb}{s:af}
def Gk (h:am) (v:aa):Prop:=∃a o xs n ss,v = .ref a/\h.get? a=some o/\o.cls = .type "tuple" /\ o.data = .seq xs n/\aC xs.toList ss/\ss≠[]
theorem Xed  (h:∀c,C c s):∀{us vs:List aa} {as bs:Za} (i:Nat),aC us as->aC vs bs->KatLex prog w A b fin C (us.zip vs) i s
 | _,_,_,_,_,.nil,_=>kat_nil (h _)
 | _,_,_,_,_,.cons _ _ _,.nil=>kat_nil (h _)
 | _,_,_,_,i,.cons x t r,.cons y u r'=>by
  refine kat_cons (eqBool_str ?_);refine kat_go (λ_=>kat_yes (Xed h (i+1) r r')) (λ_=>kat_no ?_);cases (b&&i==0) with
  | true=>exact oneLt_str (h _)
  | false=>exact kat_one _ _ (PyProof.Rows.lt_str (h _))
def Xmk  (hx:Gk s.heap x) (hy:Gk s.heap y) (h:∀c,C c s):ai (ag prog w) A (mh (tuples' true) x y) C E s:=by
 obtain⟨a,o,xs,n,ss,rfl,h1,_,h2,h3,_⟩:=hx;obtain⟨b,o',ys,n',qr,rfl,g1,_,g2,g3,_⟩:=hy;exact kat_lt h1 h2 g1 g2 (Xed h 0 h3 g3)
theorem Xee:∀{vs:List aa},(∀v∈vs,Gk s.heap v)->∃fs,KatTups s.heap vs fs/\fs.length=vs.length/\∀f∈fs,∃x t,f = .str x t
 | [],_=>⟨[],KatTups.nil,rfl,λ_ h=>by cases h⟩
 | v::vs,h=>by
  obtain⟨fs,h1,h2,h3⟩:=Xee (vs:=vs) λu hu=>h u (Ol _ hu);obtain⟨a,o,xs,n,ss,rfl,g1,g2,g3,g4,g5⟩:=h v Op;obtain⟨f,x,t,hf,rfl⟩:∃f x t,xs[0]? = some f/\f = .str x t:=by
   have e:xs[0]? = xs.toList[0]?:=by simp
   rw[e];generalize xs.toList=l at g4;cases g4 with
   | nil=>exact absurd rfl g5
   | cons x t r=>exact⟨_,x,t,rfl,rfl⟩
  exact⟨_::fs,KatTups.cons g1 g2 g3 hf h1,by simp[h2],λf hf=>by
   rcases Ou.mp hf with e | e
   ·exact⟨x,t,e⟩
   ·exact h3 f e⟩
def Xml{n}  (hn:vs.length=n)(h:Gd n p):(p.toList.map λi=>vs.getD i aa.none).Perm vs:=by
 have e:((List.range n).map λi=>vs.getD i aa.none)=vs:=by
  refine Q8 (by simp[hn]) λi h1 h2=>?_;simp[Qo,List.getElem_range,List.getD,h2]
 have q:p.toList.Perm (List.range n):=by
  have:=h.toList;simpa using this
 have:=q.map λi=>vs.getD i aa.none;rw[e] at this;exact this
def Xmm    (ho:s.heap.get? a=some (aq "list" vs.toArray n)) (hv:∀v∈vs,Gk s.heap v) (cq:vs.length<64)
  (h:∀out:Array aa,out.toList.Perm vs->P (.done (.ret .none)) {s with heap:=BP s.heap a vs out}):ai (ag prog w) A (aj.«list.sort» ⟨[.ref a],[]⟩) P E s:=by
 rw[list_sort_plain];have ha:a<s.heap.objs.size:=Tr ho;refine Te (cV ho rfl ?_);refine Te (br ho rfl ?_);obtain⟨e1,fX⟩:∃e1,(s.heap.update a (aK.mapSeq λ_ => #[])).get? a=some (aq "list" #[] e1):=⟨_,dc ho (λ_ => #[])⟩;refine Te (cG fX rfl ?_);refine Te (d9 ?_);refine Te (bM ?_);refine az ?_;have nB:(((s.heap.update a (aK.mapSeq λ_ => #[])).push (aq "tuple" vs.toArray 0)).push (aq "list" #[] 0)).get? a=some (aq "list" #[] e1):=by
  rw[am.get?_push_ne _ _ _ (by rw[bq,am.size_update];exact Oo (Pu ha)),am.get?_push_ne _ _ _ (by rw[am.size_update];exact Oo ha)];exact fX
 have vV:∀v∈vs,Gk (((s.heap.update a (aK.mapSeq λ_ => #[])).push (aq "tuple" vs.toArray 0)).push (aq "list" #[] 0)) v:=λv hm=>by
  obtain⟨b,o,xs,k,ss,rfl,g1,g2,g3,g4,g5⟩:=hv v hm;refine⟨b,o,xs,k,ss,rfl,?_,g2,g3,g4,g5⟩;have fo:b≠a:=λe=>by
   rw[e,ho] at g1;have e1:=Ox g1;rw[<-e1] at g2;exact absurd (show aa.type "list" = aa.type "tuple" from g2) (by decide)
  exact Tt _ (Tt _ (by rw[am.get?_update_ne _ _ _ _ fo];exact g1))
 show ai (ag prog w) A _ P E {s with heap:=((s.heap.update a (aK.mapSeq λ_ => #[])).push (aq "tuple" vs.toArray 0)).push (aq "list" #[] 0)};dsimp only;have hsz:vs.toArray.size=vs.length:=by simp
 by_cases h2:vs.toArray.size<2
 ·rw[Tk h2,Tk h2];refine Te (Tf ?_);rw[StateT.run_pure];refine Te (Tf ?_);dsimp only;refine Te (cG nB rfl ?_);refine Te (br nB rfl ?_ (hsz2:=by rw[Array.size_map];show (pairsOf vs).size<=_;rw[pairsOf_size,Ti];lia));simp only[bne_self_eq_false,Pe,if_false];refine Tf (h _ ?_);have e:((be (aS.mk' general' (vs.toArray.zip vs.toArray) #[] 7 none)).map (·.2)).toList=vs:=by
   show ((vs.toArray.zip vs.toArray).map (·.2)).toList=vs;simp only[Array.toList_map,List.zip_toArray];exact Sh (Og _)
  rw[e]
 ·rw[Tj h2,Tj h2];obtain⟨fs,t1,t2,t3⟩:=Xee (s:={s with heap:=((s.heap.update a (aK.mapSeq λ_ => #[])).push (aq "tuple" vs.toArray 0)).push (aq "list" #[] 0)}) vV;refine Te (kat_kind (T:=.type "str") t1 (by lia) (λv hm=>?_) (by decide) ?_)
  ·obtain⟨x,t,rfl⟩:=t3 v hm;exact .now
  have eb:((aa.type "str") != aa.type "tuple")=true:=by decide
  rw[eb];refine Te (aI (kat_run (κ:=tuples' true) (ks:=vs) (vs:=vs) (Q:=λa8 s'=>s' = {s with heap:=((s.heap.update a (aK.mapSeq λ_ => #[])).push (aq "tuple" vs.toArray 0)).push (aq "list" #[] 0)}/\bg a8=none/\((be a8).map (·.2)).toList.Perm vs)
   (G:=λp s'=>s' = {s with heap:=((s.heap.update a (aK.mapSeq λ_ => #[])).push (aq "tuple" vs.toArray 0)).push (aq "list" #[] 0)}/\Gd vs.length p) rfl (by lia) cq (λp a8 s' a1 a2 a3 a4=>⟨a4.1,a3,?_⟩) ?_) ?_ λ_ _ e=>e)
  ·rw[kat_snds rfl a2];exact Xml rfl a4.2
  ·refine KAll.wp (n:=vs.length) (λi j C hi hj hC=>?_) ?_
   ·show ai _ _ (mh (tuples' true) (vs.getD i aa.none) (vs.getD j aa.none)) C _ _;have m:∀i,i<vs.length->vs.getD i aa.none∈vs:=λi hi=>by
     have:vs.getD i aa.none=vs[i]:=by simp[List.getD,hi]
     rw[this];exact Ph hi
    exact Xmk (vV _ (m i hi)) (vV _ (m j hj)) hC
   ·have q:=Ni (n:=vs.length) (by lia);have imp:∀{t:KasT (Array Nat)},KAll vs.length (Gd vs.length) t->KAll vs.length (λp=>({s with heap:=((s.heap.update a (aK.mapSeq λ_ => #[])).push (aq "tuple" vs.toArray 0)).push (aq "list" #[] 0)}:af) = {s with heap:=((s.heap.update a (aK.mapSeq λ_ => #[])).push (aq "tuple" vs.toArray 0)).push (aq "list" #[] 0)}/\Gd vs.length p) t:=by
     intro t
     induction t with
     | ret a=>exact λh=>⟨rfl,h⟩
     | ask i j k ih=>exact λh=>⟨h.1,h.2.1,λb=>ih b (h.2.2 b)⟩
    exact imp q
  rintro ⟨⟨⟩,a8⟩ s' ⟨rfl,hf,hp⟩;dsimp only;refine Te (cG nB rfl ?_);refine Te (br nB rfl ?_ (hsz2:=by
   have:=hp.length_eq;rw[Os] at this;rw[this,Ti];lia))
  rw[hf];simp only[bne_self_eq_false,Pe,if_false];exact Tf (h _ hp)
def Xmn   (hl:s.heap.IsList l vs.toArray) (hv:∀v∈vs,Gk s.heap v) (cq:vs.length<64)
  (h:∀out:Array aa,out.toList.Perm vs->Q (.ref (s.heap.objs.size+1)) {s with heap:=oD s.heap vs out}):
  ai (ag prog w) A (call (.builtin "sorted") [.ref l]) Q E s:=by
 refine Calls.call_function_entry fF eR eS (vA _) ?_;unfold aj.«sorted»;refine Te (m:=gB "sorted" 1 1 _) (Tf ?_);refine Te (jh hl ?_);refine Te (bM ?_);have hsz:((s.heap.push (aq "list" #[] 0)).update s.heap.objs.size (aK.mapSeq (· ++ vs.toArray))).objs.size=s.heap.objs.size+1:=by
  rw[am.size_update,bq]
 have iI:(((s.heap.push (aq "list" #[] 0)).update s.heap.objs.size (aK.mapSeq (· ++ vs.toArray))).push (aq "list" vs.toArray 0)).get? (s.heap.objs.size+1)=some (aq "list" vs.toArray 0):=by
  rw[<-hsz];exact am.get?_push_size _ rfl
 have keep:∀b o,s.heap.get? b=some o->(((s.heap.push (aq "list" #[] 0)).update s.heap.objs.size (aK.mapSeq (· ++ vs.toArray))).push (aq "list" vs.toArray 0)).get? b=some o:=λb o q=>by
  have aZ:b<s.heap.objs.size:=Tr q;rw[am.get?_push_ne _ _ _ (by rw[hsz];exact Oo (Pu aZ)),am.get?_update_ne _ _ _ _ (Oo aZ),am.get?_push_ne _ _ _ (Oo aZ)];exact q
 show ai _ _ _ _ _ {s with heap:=((s.heap.push (aq "list" #[] 0)).update s.heap.objs.size (aK.mapSeq (· ++ vs.toArray))).push (aq "list" vs.toArray 0)};rw[hsz];refine Te (az (aP dA ⟨_,iI,rfl⟩ cZ (Xmm iI (λv hm=>?_) cq λout a1=>⟨_,rfl,?_⟩) (rO _)))
 ·obtain⟨b,o,xs,k,ss,rfl,g1,g⟩:=hv v hm;exact⟨b,o,xs,k,ss,rfl,keep _ _ g1,g⟩
 ·exact Tf ⟨_,rfl,h out a1⟩
end
section
variable {X:Cx}
def Xmo:Bv X (.builtin "sorted") (λxs H Q=>∃(a:ae) (ps:List ae),xs=[.ref a]/\H a=some (.lst (ps.map V.ref))/\(∀p∈ps,∃ss:Za,H p=some (.tup (ss.map V.str))/\ss≠[])/\ps.length<64/\∀(l:ae) (iS:List ae),H l=none->iS.Perm ps->Q (.ref l) (upd H l (.lst (iS.map V.ref)))):=by
 intro pins s Z H xs us Q I r h;obtain⟨a,ps,rfl,ha,ht,cq,q⟩:=h;obtain⟨u,rfl,rx⟩:=Bw r;cases rx;obtain⟨a7,rv,pl,hz⟩:=I.list (SqL.of ha);have kw:a7=ps.map aa.ref:=by
  clear ht cq q hz pl ha
  induction ps generalizing a7 with
  | nil=>cases rv;rfl
  | cons p t ih=>
   cases rv with
   | cons r t'=>cases r;rw[ih _ t'];rfl
 subst kw;refine Xmn pl.isList (λv hm=>?_) (by rw[Od];exact cq) λout h1=>?_
 ·obtain⟨p,hp,rfl⟩:=Pa.mp hm;obtain⟨ss,g1,g2⟩:=ht p hp;obtain⟨il,r2,p2,_⟩:=I.tuple (SqT.of (K:=X.K) g1);obtain⟨o,ho,hc,n,hd⟩:=id p2;exact⟨p,o,il.toArray,n,ss,rfl,ho,hc,hd,by simpa using F9 r2,g2⟩
 ·obtain⟨e,he⟩:=vP s.heap (ps.map aa.ref) out;have hf:H (s.heap.objs.size+1)=none:=I.hok.fresh (Qh _);obtain⟨iS,e1,e2⟩:∃iS:List ae,out.toList=iS.map aa.ref/\iS.Perm ps:=by
   have inj:∀{a b:List aa},a.Perm b->∀q:List ae,b=q.map aa.ref->∃q':List ae,a=q'.map aa.ref/\q'.Perm q:=by
    intro a b p
    induction p with
    | nil=>intro q e;exact⟨[],rfl,by cases q with | nil=>exact .nil | cons _ _=>cases e⟩
    | cons x _ ih=>
     intro q e;cases q with
     | nil=>cases e
     | cons y t=>
      injection e with e1 e2
      obtain⟨q',h1,h2⟩:=ih t e2;exact⟨y::q',by rw[h1,e1];rfl,.cons y h2⟩
    | swap x y l=>
     intro q e
     match q,e with
     | u::v::t,e=>
      injection e with e1 e2
      injection e2 with e2 e3
      exact⟨v::u::t,by rw[e1,e2,e3];rfl,.swap u v t⟩
     | [_],e=>injection e with _ e2;cases e2
     | [],e=>cases e
    | trans _ _ i1 i2=>
     intro q e;obtain⟨q1,g1,g2⟩:=i2 q e;obtain⟨q2,g3,g4⟩:=i1 q1 g1;exact⟨q2,g3,g4.trans g2⟩
   exact inj h1 ps rfl
  refine⟨.ref (s.heap.objs.size+1),_,I.laid (t':=s.toks) (h':=oD s.heap (ps.map aa.ref) out) (o:=.lst (iS.map V.ref)) (λb ob q=>uu q) (Qh _) ?_,rfl,q _ iS hf e2⟩;refine⟨by rw[Od,e2.length_eq,Ti];lia,out.toList,e,?_,?_⟩
  ·rw[e1];clear e1 e2 he h1
   induction iS with
   | nil=>exact .nil
   | cons p t ih=>exact .cons rfl ih
  ·rw[he]
end
section
variable {X:Cx}
def Xmp:Bv X (.builtin "sorted") (λxs H Q=>∃(a:ae) (ks:Za),xs=[.ref a]/\H a=some (.tup (ks.map V.str))/\ks.length<64/\∀l,H l=none->Q (.ref l) (upd H l (.lst ((srt ks).map V.str)))):=by
 intro pins s Z H xs us Q I r h;obtain⟨a,ks,rfl,ha,cq,q⟩:=h;obtain⟨u,rfl,rx⟩:=Bw r;cases rx;obtain⟨a7,r2,p2,_⟩:=I.tuple (SqT.of (K:=X.K) ha);obtain⟨o,ho,hc,n,hd⟩:=id p2;have hl:a7.length=ks.length:=by
  have:=r2.length;rw[Od] at this;exact this.symm
 refine Mb cq (λR k=>wpAny_collect_seq a (.inr rfl) ho hc hd (λh' kk=>k _ _ ks kk rfl rfl (by simpa using F9 r2) (Qd _)) (by rw[Oi,hl,Ti];lia)) λs1 s' vs ls e k1 o1 g1 k2 o2 g2 he st p so=>?_;refine Mc I cq k1 o1 g1 k2 o2 g2 he st p λl hl=>?_;rw[Ga p so];exact q l hl
def Xmq(hu:X.A.units+4<bu):OpR X (aF .NotIn) (λx y H Q=>∃d ds,DAt H d x/\DAt H (.list ds) y/\d.canLay0=true/\ar.canLayAll0 ds=true/\d.depth<=3/\Q (.bl (!ds.any λe=>ar.eqv e d)) H):=by
 intro pins s Z H x y v u Q I rx ry h;obtain⟨d,ds,h1,h2,c1,c2,hd,q⟩:=h;obtain⟨as,ra⟩:=Fp I d x v h1 rx;obtain⟨bs,rb⟩:=Fp I (.list ds) y u h2 ry;exact SeqAt.notIn_list_reads rb ra c2 c1 (by lia) ⟨.bl _,H,I,rfl,q⟩
end
end L2
namespace SH
open L2
def tupD (ss:Za):ar:=.tuple (ss.map ar.str)
def Plts (row:Za) (H:Hp) (ps:List ae):Prop:=∀p∈ps,∃ss:Za,H p=some (.tup (ss.map V.str))/\Ad row ss=true
def Plts.same   (h:Plts row H ps) (s:Same H H'):Plts row H' ps:=λp hp=>let ⟨ss,h1,h2⟩:=h p hp; ⟨ss,s _ _ h1,h2⟩
theorem Xef:∀{Ts:List (Za)} {xs:List V},DAll H (Ts.map tupD) xs->∃ps:List ae,xs=ps.map V.ref/\ps.length=Ts.length/\∀p∈ps,∃T∈Ts,H p=some (.tup (T.map V.str))
 | [],xs,h=>by unfold List.map DAll at h;exact⟨[],h,rfl,λ_ q=>by cases q⟩
 | T::Ts,xs,h=>by
  rw[O5] at h;unfold DAll at h;obtain⟨v,vr,rfl,h1,h2⟩:=h;obtain⟨p,ys,rfl,hp,hy⟩:=Mo h1;rw[Ih hy] at hp;obtain⟨ps,rfl,hl,hq⟩:=Xef h2;exact⟨p::ps,rfl,by simp[hl],λq ji=>by
   rcases Ou.mp ji with e | e
   ·exact⟨T,Op,e ▸ hp⟩
   ·obtain⟨T',h1,h2⟩:=hq q e;exact⟨T',Ol _ h1,h2⟩⟩
def Bj(h:Ad row ss=true):(∀x∈ss,x∈row)/\ss.Pairwise ltS:=by
 unfold Ad at h;rw[Oy,Oy] at h;refine⟨λx hx=>Tp (O8.mp h.1.2 x hx),?_⟩;rw[Tp h.1.1];exact M8 ss
def El(h:Ad row ss=true):ss.length<=(dit row).length:=
 Nf (Db (Bj h).2) λx hx=>An.mpr ((Bj h).1 x hx)
def Nj(row):Ad row []=true:=by
 unfold Ad;rw[Ka .nil];rfl
def Xmr  (h2:∀y∈row,row.count y=2) (h:Ad row ss=true) (hx:x∈row) (n:x∉ss) (hf:C0 (bars row) (srt (ss++[x]))=true):Ad row (srt (ss++[x]))=true:=by
 rw[<-Kc h2];unfold E2;rw[hf,Bool.and_true];obtain⟨hr,hl⟩:=Bj h;have nd:(ss++[x]).Nodup:=by
  rw[Qe];exact⟨Db hl,by simp,λa ha b hb e=>n (by rw[Oj.mp hb] at e;exact e ▸ ha)⟩
 refine Tl (M9.mpr ⟨?_,λy hy=>?_⟩)
 ·unfold told;have e1:srt (ddup (srt (ss++[x])))=srt (srt (ss++[x])):=Mf (J9 ((Cu _).nodup_iff.mpr nd));have e2:srt (srt (ss++[x]))=srt (ss++[x]):=Ex (Cu _) (Dx _) (Dx _);exact(e1.trans e2).symm
 ·rcases Oq.mp (Fm.mp hy) with q | q
  ·exact hr y q
  ·rw[Oj.mp q];exact hx
def Xms  : srt (ss++[x])≠[]:=λe=>by
 have:x∈srt (ss++[x]):=Fm.mpr (by simp);rw[e] at this;cases this
structure Fresh (row:Za) (H:Hp) (f:ae) (xs:List V) (Ts:List (Za)):Prop where
 at':H f=some (.lst xs)
 all:DAll H (Ts.map tupD) xs
 nd:Ts.Nodup
 ok:∀T∈Ts,T≠[]/\Ad row T=true
def Fresh.same    {xs} (h:Fresh row H f xs Ts) (s:Same H H'):Fresh row H' f xs Ts:=⟨s _ _ h.at',DAll.same s _ _ h.all,h.nd,h.ok⟩
def spPlots:Sp:=λvs H Q _=>∃(r:ae) (row:Za),vs=[.ref r]/\H r=some (.lst (row.map V.str))/\Row2 row/\Bk row/\(dit row).length<=14 /\
 ∀(l:ae) (ps:List ae) (H':Hp),H l=none->H' l=some (.lst (ps.map V.ref))->ps≠[]->ps.length<=1000->Plts row H' ps->Same H H'->Q (.ref l) H'
abbrev NPl:Za:=["_law_row_here", "_law_bars_here", "_law_names_here", "_law_told", "_law_layer", "_law_k", "_law_fresh", "_law_plot", "_law_name", "_law_over"]
end SH
namespace L2
section
variable {prog:ao}{w:aw}{A:av}{E:Zb}{h:am}{g:Array rC}{d:rD}{t:Nat}{os:vn}
variable {nm q:ak}{C N:ae}{bs bm vk:List aa}{hdct:Bool}{sn:Za}{sub:List aa}{ab:Bool}{col:Option Bool}{dd:Option ae}{k0 k1 k2 k3 k5:Option aa}{B iO oH:String}
end
end L2
namespace L2
open PySem.W
open Builtin Builtin.ObjectAttr
def Xeg:List aa:=[.type "ValueError",.type "Exception",.type "BaseException",.type "object"]
section
variable {prog:ao}{w:aw}{A:av}{E:Zb}{K:Frag}{s:af}{x C:ae}{o:aK}{name:ak}{v:aa}{cd:JL}{rs:List ae}
end
end L2
namespace L2
def Xmt (h:am) (e:ae) (dd:Option ae):Prop:=∃oe,h.get? e=some oe/\oe.dict=dd
section
variable {M:yV}{A:av}{E:Zb}{s:af}
def Xeh (base:am) (l:List dt) (e:ae) (cls a0:aa) (dd:Option ae) (h:am):Prop:=am.FlyingW base l e cls a0 h/\Xmt h e dd
structure MadeD (h h':am) (e:ae) (cls:aa) (args:List aa) (dx:ae):Prop where
 keeps:∀b o,h.get? b=some o->h'.get? b=some o
 new:h.get? e=none
 CJ:h.get? dx=none
 there:∃t,h'.get? e=some {cls:=cls,dict:=some dx,data:=.fields #[.ref t,.none,.none,.none,.bool false,.none]}/\h.get? t=none/\h'.get? t=some {cls:=.type "tuple",data:=.seq args.toArray}
end
section
variable {M:yV}{A:av}{E:Zb}{s:af}
end
structure FlownD (P:ao) (w:aw) (outer:List dt) (H:Hp) (hc:am) (H':Hp) (ex C:ae) (dd:Option ae) (B:am) (a0:aa) (h:am):Prop where
 un:Un (frs outer) [] H H' hc h
 hok:HOk P w H' h
 fly:Xeh B outer ex (.ref C) a0 dd h
 inB:∀b o,h.get? b=some o->b∉frs outer->((∃o',hc.get? b=some o')\/H' b≠none)->B.get? b=some o
 frf:∀b∈frs outer,H' b=none
def CX2 (P:ao) (w:aw):CXT:=λouter H s E e s'=>
 ∃ex C dd H' B a0,e = .ref ex/\s'.os=s.os/\c6 s'.gens/\FlownD P w outer H s.heap H' ex C dd B a0 s'.heap/\E (.ref C) dd H'
section
variable {P:ao}{w:aw}{K:LD}{mg:ak->Option aa}{base:am}{N:Za}{qual:ak}{scope:bE}{f:ae}{cd:aa}{A:av}{outer:List dt}{s:af}{H:Hp}{E:XK}
def Xr5 (X:Cx) (E:XK):Prop:=∀(pins:List (ae×aK)) (Z:St) (H:Hp) (s:af) (h':am) (ex C:ae) (args:List aa),
 Inv X pins Z H s->am.MadeExcOf s.heap h' ex (.ref C) args->E (.ref C) none H->X.xe (.ref ex) {s with heap:=h'}
end
def made (t:ae):Array aa := #[.ref t,.none,.none,.none,.bool false,.none]
def excN (a C:ae) (h:am):Prop:=∃t sl,h.get? a=some ⟨.ref C,none,.fields (made t),sl⟩
def excW (a C dx:ae) (h:am):Prop:=∃t sl,h.get? a=some ⟨.ref C,some dx,.fields (made t),sl⟩
def xdP (dx:ae) (fs:List (ak×V)) (h:am):Prop:=∃mA,h.Ns1 dx mA/\∀f,Cj (fs.lookup f) (mA f)
structure ExK (K:LD) (C:ae) (f:ak):Prop where
 cls:∃(cd:JL) (rs:List ae),ML K C=some cd/\cd.mro=rs.map aa.ref++Xeg/\cd.hasDict=true
 sa:LH K (.ref C) "__setattr__" = some (some (.builtin "object.__setattr__"))
 no:LH K (.ref C) f=some none
section
variable {X:Cx}{pins:List (ae×aK)}{Z:St}{H:Hp}{s:af}{A:av}{E:Zb}
end
section
variable {M:yV}{A:av}{E:Zb}{s:af}{env:dt}
variable {nm q:ak}{C N:ae}{bs bm:List aa}{hdct:Bool}{sn:Za}{sub:List aa}{ab:Bool}{col:Option Bool}{dd:Option ae}{k0 k1 k2 k3 k5:Option aa}{iO:String}
end
section
variable {prog:ao}{w:aw}{A:av}{E:Zb}{s:af}{env:dt}
variable {nm q:ak}{C N:ae}{bs bm vk:List aa}{hdct:Bool}{sn:Za}{sub:List aa}{ab:Bool}{col:Option Bool}{dd:Option ae}{k0 k1 k2 k3 k5:Option aa}{B iO oH:String}
end
section
variable {P:ao}{w:aw}{K:LD}{mg:ak->Option aa}{base:am}{N:Za}{qual:ak}{scope:bE}{f:ae}{cd:aa}{A:av}{outer:List dt}{s:af}{H:Hp}{E:XK}
end
def Xmu (K:LD) (C fI:ae):Bool:=match K.lookup C with
 | some ⟨.type "type",_,.cls cd,sl⟩=>(match cd.mro,sl.toList with
  | .ref C'::bm,[_,_,_,_,some (.builtin n),_]=>C'==C&&n == "ValueError.__new__" && !cd.hasDel&&PySem.W.tailIn K bmV bm&&PySem.W.nsOkIn K cd.ns&&LJ K cd.ns "__init__" == some (some (.ref fI))&&(K.lookup fI).any (λo=>o.cls == .type "function")
  | _,_=>false)
 | _=>false
def Xr6 (C:ae) (f:ak) (E:XK) (t:TA):TS:=λ_ Z H=>t Z H λvs H1=>∃y,vs=[y]/\∀ex dx,H1 ex=none->H1 dx=none->dx≠ex->E (.ref C) (some dx) (hid ex (upd (upd (upd H1 ex (.ext (excN ex C))) ex (.ext (excW ex C dx))) dx (.ext (xdP dx [(f,y)]))))
section
variable {M:yV}{A:av}{E:Zb}{s:af}
end
def Xmv (ex C:ae) (dd:Option ae) (h:am):Prop:=∃o vs,h.get? ex=some o/\o.cls = .ref C/\o.data = .fields vs/\o.dict=dd
def Xei (ex C:ae) (dd:Option ae):HO:=.ext (Xmv ex C dd)
def Cx.tryD (X:Cx) (pn:List (ae×aK)) (R:ae->Option ae->St->Hp->Prop):Cx:=X.re pn X.A X.calm λe s1=>
 ∃Z Hc sc,Inv (X.re pn X.A X.calm λ_ _=>True) [] Z Hc sc/\CX2 X.prog X.w X.stack Hc sc (λc dd H1=>∃C,c = .ref C/\R C dd Z H1) e s1
section
variable {X:Cx}{pn:List (ae×aK)}{R:ae->Option ae->St->Hp->Prop}{k:Nat}{f:ae}{fd:au}{ps:Za}{sp:Sp}{fA:List V}{ds:List aa}{x:ak}{p pos:bI}{e:aE}{es:List aE}{t:TA}
end
abbrev THd:=ae->Option ae->Ends->St->Hp->Prop
structure Landed (X:Cx) (pins:List (ae×aK)) (ex c:ae) (dd:Option ae) (Z1:St) (H1:Hp) (B:am) (a0:aa) (s1 s5:af):Prop where
 step:∀(h5:am) (tk:Nat),B.StaysIn h5->s1.heap.UpToSlots h5->Inv (X.re (X.pn++pins) X.A X.calm λ_ _=>True) [] Z1 H1 {s1 with heap:=h5,toks:=tk}
 fly:Xeh B (X.env::X.outer) ex (.ref c) a0 dd s5.heap
 up:s1.heap.UpToSlots s5.heap
 as:s5 = {s1 with heap:=s5.heap}
 own:∀h5,B.StaysIn h5->s1.heap.UpToSlots h5->∀o,h5.get? ex=some o->ex∉frs (X.env::X.outer)->H1 ex=none/\X.s₀.heap.get? ex=none/\∀p∈(X.pn++pins)++[],p.1≠ex
section
variable {X:Cx}{pos np jW:bI}{b0:aM}{suite:List aM}{n x:ak}{i:Nat}{Cc:ae}{th:TS}{rest:THd}{hs:List dQ}
def tHd (K:LD) (i:Nat) (Cc:ae) (th:TS) (rest:THd):THd:=λC dd D Z H=>∃b,LG K (.ref C) (.ref Cc)=some b/\if b=true then
 ∀ex,H ex=none->th {nx:=fun Z2 H2=>D.nx (Z2.set i none) H2,rt:=D.rt,bk:=fun Z2 H2=>D.bk (Z2.set i none) H2,ct:=fun Z2 H2=>D.ct (Z2.set i none) H2} (Z.set i (some (.ref ex))) (upd H ex (Xei ex C dd))
 else rest C dd D Z H
end
section
variable {X:Cx}{pos:bI}{body:List aM}{h0:dQ}{hs:List dQ}{tb:(ae->Option ae->St->Hp->Prop)->TS}{th:THd}
def tTryD (tb:(ae->Option ae->St->Hp->Prop)->TS) (th:THd):TS:=λD Z H=>∃R:ae->Option ae->St->Hp->Prop,tb R D Z H/\∀C dd Z1 H1,R C dd Z1 H1->th C dd D Z1 H1
end
section
variable {prog:ao}{w:aw}{A:av}{E:Zb}{K:LD}{C a:ae}{h:am}{g:Array rC}{d:rD}{t:Nat}{os:vn}{ox:aK}{od:Option aK}{name:ak}{v:aa}
end
def tFldE (K:LD) (ta:TE) (f:ak):TE:=fun Z H Q=>ta Z H λx H1=>∃a C dx fs v,x = .ref a/\H1 a=some (Xei a C (some dx))/\H1 dx=some (.ext (xdP dx fs))/\ExcF K C/\ExK K C f/\fs.lookup f=some v/\Q v H1
section
variable {X:Cx}{e:aE}{f:ak}{pos:bI}{ta:TE}
end
section
variable {X:Cx}
end
section
variable {X:Cx}{a b c d:aE}{ta tb tc td:TE}{pos:bI}{es:List aE}{t:St->Hp->(Hp->Prop)->Prop}{e:aE}{te:TE}
def Xr7 (r r' vW:R2) (ta tb tc td:TE):TT:=fun Z H Q=>ta Z H λx H1=>tb Z H1 λy H2=>r x y H2 λz H3=>∃k,z = .bl k /\
 (if k=true then tc Z H3 λw H4=>r' y w H4 λz' H5=>∃k',z' = .bl k'/\(if k'=true then td Z H5 λu H6=>vW w u H6 λz2 H7=>∃k2,z2 = .bl k2/\Q k2 H7 else Q false H5) else Q false H3)
end
def Tups (H:Hp) (ps:List ae) (Ts:List (Za)):Prop:=ps.length=Ts.length/\∀i,i<ps.length->H (ps.getD i 0)=some (.tup ((Ts.getD i []).map V.str))
def Tups.same   (h:Tups H ps Ts) (s:Same H H'):Tups H' ps Ts:=⟨h.1,λi hi=>s _ _ (h.2 i hi)⟩
def Tups.nil(H):Tups H [] []:=⟨rfl,λi hi=>absurd hi (Qk _)⟩
def Tups.cons{H}{p}{T}{ps}{Ts}(h:H p=some (.tup (T.map V.str)))(r:Tups H ps Ts):Tups H (p::ps) (T::Ts):=by
 refine⟨by simp[r.1],λi hi=>?_⟩;cases i with
 | zero=>exact h
 | succ i=>exact r.2 i (by simpa using hi)
theorem Tups.app:∀{ps qs:List ae} {Ts Us:List (Za)},Tups H ps Ts->Tups H qs Us->Tups H (ps++qs) (Ts++Us)
 | [],qs,Ts,Us,h,g=>by
  have:Ts=[]:=Pr.mp h.1.symm;rw[this];exact g
 | p::ps,qs,[],Us,h,g=>by have:=h.1;simp at this
 | p::ps,qs,T::Ts,Us,h,g=>by
  have r:Tups H ps Ts:=⟨by simpa using h.1,λi hi=>by simpa using h.2 (i+1) (by simpa using hi)⟩;exact Tups.cons (h.2 0 (by simp)) (Tups.app r g)
end L2
namespace SH
open L2
def Nk  : Bz h8 ln=true↔(h8 = "within" -> ln=true)/\(h8 = "apart" -> ln=false):=by
 unfold Bz;by_cases h:h8 = "within"
 ·rw[Tk h];have n:h8 ≠ "apart" := by rw[h];decide
  exact⟨λz=>⟨λ_=>z,λz=>absurd z n⟩,λz=>z.1 h⟩
 ·rw[Tj h];by_cases g:h8 = "apart"
  ·rw[Tl g];constructor
   ·exact λz=>⟨λq=>absurd q h,λ_=>by simpa using z⟩
   ·intro z;rw[z.2 g];rfl
  ·rw[Tn g];exact⟨λ_=>⟨λq=>absurd q h,λq=>absurd q g⟩,λ_=>rfl⟩
def Il:Ad row S=true↔S.Pairwise ltS/\(∀x∈S,x∈row)/\(∀x∈S,∀y∈row,lieR row x y = "within" -> y∈S)/\(∀x∈S,∀y∈S,lieR row x y ≠ "apart"):=by
 constructor
 ·intro h;obtain⟨h1,h2⟩:=Bj h;unfold Ad at h;rw[Oy] at h;have al:∀x∈S,∀y∈row,Bz (lieR row x y) (decide (y∈S))=true:=λx hx y hy=>O8.mp (O8.mp h.2 x hx) y (An.mpr hy);refine⟨h2,h1,λx hx y hy e=>Tp ((Nk.mp (al x hx y hy)).1 e),λx hx y hy e=>?_⟩;have:=(Nk.mp (al x hx y (h1 y hy))).2 e;rw[Tl hy] at this;cases this
 ·rintro ⟨h1,h2,h3,h4⟩;unfold Ad;rw[Oy,Oy];refine⟨⟨Tl (Ka h1).symm,O8.mpr λx hx=>Tl (h2 x hx)⟩,O8.mpr λx hx=>O8.mpr λy hy=>Nk.mpr ⟨λe=>Tl (h3 x hx y (An.mp hy) e),λe=>Tn λz=>h4 x hx y z e⟩⟩
def Kh(h:lieT a b c e = "within"):c<a/\a<e/\c<b/\b<e:=by
 unfold lieT at h;split at h
 ·exact absurd h (by decide)
 ·split at h
  ·exact absurd h (by decide)
  ·split at h
   ·rename_i q;rw[B8] at q;by_cases p1:c<a/\a<e
    ·by_cases p2:c<b/\b<e
     ·exact⟨p1.1,p1.2,p2.1,p2.2⟩
     ·rw[Tk p1,Tj p2] at q;lia
    ·rw[Tj p1] at q;split at q<;>lia
   ·split at h
    ·exact absurd h (by decide)
    ·exact absurd h (by decide)
def Xej  (hx:row.count x=2) (h:lieR row x y = "within"):span row x<span row y:=by
 have l1:=B7 hx;obtain⟨h1,h2,h3,h4⟩:=Kh h;unfold span
 lia
def Xmw{S:Za}(h:S.Pairwise ltS):(S.filter p).Pairwise ltS:=h.filter p
theorem Xek:∀{Ts:List (Za)} {xs:List V},DAll H (Ts.map tupD) xs->∃ps:List ae,xs=ps.map V.ref/\Tups H ps Ts
 | [],xs,h=>by unfold List.map DAll at h;exact⟨[],h,Tups.nil H⟩
 | T::Ts,xs,h=>by
  rw[O5] at h;unfold DAll at h;obtain⟨v,vr,rfl,h1,h2⟩:=h;obtain⟨p,ys,rfl,hp,hy⟩:=Mo h1;rw[Ih hy] at hp;obtain⟨ps,rfl,hq⟩:=Xek h2;exact⟨p::ps,rfl,Tups.cons hp hq⟩
def Cov (row:Za) (Us:List (Za)) (j:Nat) (Ts:List (Za)):Prop:=∀i,i<j->∀x∈row,x∉Us.getD i []->Ad row (srt (Us.getD i []++[x]))=true->srt (Us.getD i []++[x])∈Ts
theorem Xel{α : Type}{R}(irr:∀a,¬R a a)(tr:∀a b c,R a b->R b c->R a c):∀{A B:List α},A.Pairwise R->B.Pairwise R->(∀x,x∈A↔x∈B)->A=B
 | [],[],_,_,_=>rfl
 | [],b::_,_,_,h=>absurd ((h b).mpr Op) (by simp)
 | a::_,[],_,_,h=>absurd ((h a).mp Op) (by simp)
 | a::A,b::B,hA,hB,h=>by
  obtain⟨a1,a2⟩:=Q9.mp hA;obtain⟨b1,b2⟩:=Q9.mp hB;have e:a=b:=by
   rcases Ou.mp ((h a).mp Op) with z | z
   ·exact z
   ·rcases Ou.mp ((h b).mpr Op) with u | u
    ·exact u.symm
    ·exact absurd (tr _ _ _ (a1 b u) (b1 a z)) (irr a)
  subst e;rw[Xel irr tr a2 b2 λx=>?_];constructor
  ·intro hx;rcases Ou.mp ((h x).mp (Ol _ hx)) with z | z
   ·exact absurd (z ▸ a1 x hx) (irr a)
   ·exact z
  ·intro hx;rcases Ou.mp ((h x).mpr (Ol _ hx)) with z | z
   ·exact absurd (z ▸ b1 x hx) (irr a)
   ·exact z
def LayC (row:Za) (n:Nat) (Us:List (Za)):Prop:=∀T,T∈Us↔Ad row T=true/\T.length=n
end SH
namespace L2
end L2
namespace SH
open L2
def Xem:Sp:=λvs H Q _=>∃(dr sc l:ae) (xs:List V),vs=[.ref dr,.ref l]/\DrawOk H dr sc/\H l=some (.lst xs)/\l≠dr/\0<xs.length/\xs.length<=1000 /\
 ∀(i:Nat) (H':Hp),i<xs.length->DrawOk H' dr sc->But dr H H'->Q (xs.getD i .non) H'
def mostL (a b c:Za):Za:=srt ((a.filter λx=>decide (x∈b)||decide (x∈c))++(b.filter λx=>decide (x∈c) && !decide (x∈a)))
def lt_uniq{a b:Za}(ha:a.Pairwise ltS)(hb:b.Pairwise ltS)(h:∀x,x∈a↔x∈b):a=b:=Xel Jv (λ_ _ _=>Jw) ha hb h
end SH
set_option maxHeartbeats 3200000
namespace L2
open PySem.Calls
def it5 (mask:Nat):Nat->Nat->Nat
 | 0,i=>i
 | m+1,i=>it5 mask m ((i * 5+1) % (mask+1))
def Xmx:∀i<8,∀j<8,∃m<8,it5 7 m i=j:=by decide +kernel
def Xmy:∀i<16,∀j<16,∃m<16,it5 15 m i=j:=by decide +kernel
def Xmz:∀i<32,∀j<32,∃m<32,it5 31 m i=j:=by decide +kernel
def Mask (mask:Nat):Prop:=mask=7\/mask=15\/mask=31
def Xm0(h:Mask mask):∀i<mask+1,∀j<mask+1,∃m<mask+1,it5 mask m i=j:=by
 rcases h with rfl | rfl | rfl
 ·exact Xmx
 ·exact Xmy
 ·exact Xmz
section
variable {mask:Nat}{owner:Array (Option Nat)}
abbrev Free (owner:Array (Option Nat)) (j:Nat):Prop:=owner.getD j (some 0)=none
def Xen(fuel i p):(∃j,ah.layClean.free mask owner (fuel+1) i p=some j/\Free owner j) \/
  (¬Free owner i/\ah.layClean.free mask owner (fuel+1) i p=ah.layClean.free mask owner fuel ((i * 5+1+p / 32) % (mask+1)) (p / 32)):=by
 rw[ah.layClean.free];cases hf:(List.range (ah.runEnd mask i+1 - i)).find? λk=>(owner.getD (i+k) (some 0)).isNone with
 | some k=>
  left;refine⟨i+k,rfl,?_⟩;have:=List.find?_some hf;exact Option.isNone_iff_eq_none.mp this
 | none=>
  right;refine⟨λz=>?_,rfl⟩;rw[List.find?_eq_none] at hf;have hr:0<ah.runEnd mask i+1 - i:=by
   unfold ah.runEnd;split<;>lia
  have:=hf 0 (Ps.mpr hr);rw[Nat.add_zero] at this;have z:owner.getD i (some 0)=none:=z;rw[z] at this;exact this rfl
theorem Xeo:∀fuel i,(∃m,m<fuel/\Free owner (it5 mask m i))->∃j,ah.layClean.free mask owner fuel i 0=some j/\Free owner j
 | 0,_,⟨_,h,_⟩=>absurd h (Qk _)
 | fuel+1,i,⟨m,hm,hf⟩=>by
  rcases Xen (mask:=mask) (owner:=owner) fuel i 0 with h | ⟨h1,h2⟩
  ·exact h
  ·rw[h2];cases m with
   | zero=>exact absurd hf h1
   | succ m=>exact Xeo fuel _ ⟨m,by lia,hf⟩
theorem Xep:∀c fuel i p,p<32 ^ c->i<mask+1->(∀i,i<mask+1->∃m,m<fuel/\Free owner (it5 mask m i))->∃j,ah.layClean.free mask owner (fuel+c) i p=some j/\Free owner j
 | 0,fuel,i,p,hp,hi,h=>by
  have:p=0:=by lia
  subst this;exact Xeo fuel i (h i hi)
 | c+1,fuel,i,p,hp,hi,h=>by
  rcases Xen (mask:=mask) (owner:=owner) (fuel+c) i p with h' | ⟨_,h2⟩
  ·exact h'
  ·rw[<-Nat.add_assoc,h2];exact Xep c fuel _ _ (by rw[Nat.pow_succ] at hp;lia) (S7 _ (by lia)) h
def Df (owner:Array (Option Nat)):List Nat:=owner.toList.filterMap id
def Xm1(h:Free owner j):(Df (owner.setIfInBounds j (some k))).Perm (k::Df owner):=by
 have hj:j<owner.size:=by
  by_cases q:j<owner.size
  ·exact q
  ·have h:owner.getD j (some 0)=none:=h;simp[Array.getD,q] at h
 have h':owner.toList[j]'(by simpa using hj)=none:=by
  have h:owner.getD j (some 0)=none:=h;simpa [Array.getD,hj] using h
 unfold Df;rw[Array.toList_setIfInBounds];have e:∀(l:List (Option Nat)) (j:Nat) (hj:j<l.length),l[j]=none->((l.set j (some k)).filterMap id).Perm (k::l.filterMap id):=by
  intro l
  induction l with
  | nil=>intro j hj;exact absurd hj (Qk _)
  | cons o l ih=>
   intro j hj hn;cases j with
   | zero=>
    have:o=none:=hn;subst this;simp
   | succ j=>
    have:=ih j (by simpa using hj) (by simpa using hn);cases o with
    | none=>simpa using this
    | some v=>
     simp only[List.set_cons_succ,Qb,id];exact(this.cons v).trans (List.Perm.swap k v _)
 exact e _ j (by simpa using hj) h'
def Xm2(hn:(Df owner).length<owner.size):∃j,j<owner.size/\Free owner j:=by
 refine Classical.byContradiction λz=>?_;have all:∀o∈owner.toList,o≠none:=λo ho e=>by
  obtain⟨j,hj,e2⟩:=P0.mp ho;have fV:j<owner.size:=by simpa using hj
  refine z ⟨j,fV,?_⟩;show owner.getD j (some 0)=none;rw[<-e,<-e2];simp[Array.getD,fV]
 have:(Df owner).length=owner.toList.length:=by
  unfold Df;generalize owner.toList=l at all;clear hn z
  induction l with
  | nil=>rfl
  | cons o l ih=>
   cases o with
   | none=>exact absurd rfl (all none Op)
   | some v=>
    have:=ih λo ho=>all o (Ol _ ho);simp only[Qb,id,O2,this]
 exact absurd hn (by rw[this,Os];exact Pz _)
end
def Xm3(h):ah.bits h<32 ^ 14:=by
 unfold ah.bits;have h1:h % (2 ^ 64:Int)<2 ^ 64:=Ro _ (by decide);have h2:0<=h % (2 ^ 64:Int):=R8 _ (by decide);have:(h % (2 ^ 64:Int)).toNat<2 ^ 64:=by lia
 exact O4 this (by decide)
def Nl (mask:Nat) (acc:Option (Array (Option Nat)×Nat)) (h:Int):Option (Array (Option Nat)×Nat):=do
 let (owner,k) <-acc
 let j <-ah.layClean.free mask owner (ah.turns mask) (ah.bits h % (mask+1)) (ah.bits h)
 pure (owner.setIfInBounds j (some k),k+1)
theorem Xeq(hm:Mask mask):∀(hs:List Int) (owner:Array (Option Nat)) (k:Nat),owner.size=mask+1->(Df owner).Perm (List.range k)->k+hs.length<=mask ->
  ∃i5,hs.foldl (Nl mask) (some (owner,k))=some (i5,k+hs.length)/\i5.size=mask+1/\(Df i5).Perm (List.range (k+hs.length))
 | [],owner,k,h1,h2,_=>⟨owner,rfl,h1,h2⟩
 | h::hs,owner,k,h1,h2,h3=>by
  have hl:(Df owner).length=k:=by rw[h2.length_eq,Qf]
  rw[O2] at h3;obtain⟨j0,vX,ux⟩:=Xm2 (owner:=owner) (by lia);obtain⟨j,e,hf⟩:=Xep (mask:=mask) (owner:=owner) 14 (mask+1) (ah.bits h % (mask+1)) (ah.bits h) (Xm3 h) (S7 _ (by lia)) λi hi=>by
   obtain⟨m,oF,uv⟩:=Xm0 hm i hi j0 (by lia);exact⟨m,oF,by rw[uv];exact ux⟩
  have e1:Nl mask (some (owner,k)) h=some (owner.setIfInBounds j (some k),k+1):=by
   show (do let j <-ah.layClean.free mask owner (ah.turns mask) (ah.bits h % (mask+1)) (ah.bits h);pure (owner.setIfInBounds j (some k),k+1))=_;have:ah.turns mask=mask+1+14:=by unfold ah.turns;lia
   rw[this,e];rfl
  rw[Rq,e1];obtain⟨o',a1,a2,a3⟩:=Xeq hm hs (owner.setIfInBounds j (some k)) (k+1) (by simpa using h1) (by
   refine(Xm1 hf).trans ((h2.cons k).trans ?_);rw[Pq];exact(List.perm_append_singleton k (List.range k)).symm) (by lia)
  rw[show k+(h::hs).length=k+1+hs.length by rw[O2];lia];exact⟨o',a1,a2,a3⟩
def Xm4(mask)(hs):ah.layClean mask hs=(hs.toList.foldl (Nl mask) (some (Array.replicate (mask+1) none,0))).map (·.1):=by
 unfold ah.layClean;rw[<-Array.foldl_toList];rfl
def Xer:∀owner,((List.range owner.size).filterMap λj=>(owner.getD j none).map (j, ·)).map (·.2)=Df owner:=by
 intro owner;unfold Df;rw[List.map_filterMap];have e:owner.toList=(List.range owner.size).map λj=>owner.getD j none:=by
  refine Q8 (by simp) λi h1 h2=>?_;have:i<owner.size:=by simpa using h1
  simp[Array.getD,this]
 rw[e,Sr];congr 1;funext j;show Option.map _ (Option.map _ (owner.getD j none))=owner.getD j none;cases owner.getD j none<;>rfl
def Xm5{mask finger moves}{led plain}{hs}(hm:Mask mask)(hn:hs.size<=mask):
  ∃t o,ah.laid mask finger moves led plain hs=some (t,o)/\o.toList.Perm (List.range hs.size)/\t.fits hs.size=true/\t.led=led/\t.plain=plain:=by
 obtain⟨owner,e1,e2,e3⟩:=Xeq hm hs.toList (Array.replicate (mask+1) none) 0 (by simp) (by
  unfold Df;rw[Array.toList_replicate];have:∀n,(List.replicate n (none:Option Nat)).filterMap id=[]:=λn=>by
   induction n with
   | zero=>rfl
   | succ n ih=>rw[Qp];simpa using ih
  rw[this];exact Qd _) (by simpa using hn)
 rw[Os,Qc] at e1 e3;have ec:ah.layClean mask hs=some owner:=by rw[Xm4,e1];rfl
 unfold ah.laid;rw[ec];refine⟨_,_,rfl,?_,?_,rfl,rfl⟩
 ·show (((List.range (mask+1)).filterMap λj=>(owner.getD j none).map (j, ·)).map (·.2)).Perm _;rw[<-e2,Xer];exact e3
 ·have l1:(((List.range (mask+1)).filterMap λj=>(owner.getD j none).map (j, ·))).length=hs.size:=by
   have:=congrArg List.length (Xer owner);rw[Od,e2,e3.length_eq,Qf] at this;exact this
  simp only[ah.fits,ah.fill,Oy,beq_iff_eq,decide_eq_true_eq,Oi,Od,l1];exact⟨trivial,by simpa using hn⟩
def Xm6{mask finger moves}{led plain}(hm:Mask mask):∃t,ah.laid mask finger moves led plain #[]=some (t, #[])/\t.mask=mask/\t.place = #[]/\t.dummies = #[]/\t.led=led/\t.plain=plain:=by
 have ec:ah.layClean mask #[]=some (Array.replicate (mask+1) none):=rfl;unfold ah.laid;rw[ec];have l0:((List.range (mask+1)).filterMap λj=>((Array.replicate (mask+1) (none:Option Nat)).getD j none).map (j, ·))=[]:=by
  rw[List.filterMap_eq_nil_iff];intro j hj;have:j<mask+1:=Ps.mp hj;simp[Array.getD,this]
 refine⟨⟨mask, #[], #[],finger,led,moves,plain⟩,?_,rfl,rfl,rfl,rfl,rfl⟩;show some (_,_)=_;rw[l0];rfl
def reord (es:Array (Int×aa)) (laid:Option (ah×Array Nat)):fJ (Array (Int×aa)×ah):=do
 let some (t,rY):=laid | unsupported "internal:set-table-without-room"
 let cA:=rY.filterMap (es[·]?)
 if cA.size != es.size then unsupported "internal:set-table-lost-an-element"
 pure (cA,t)
def Xm7(a:ae)(i6:Nat):setRelay a i6=(do
  let (es,_,t) <-gC a
  if ah.sizeAbove i6 > sizeLine then unsupported "set:memory"
  let (es,t) <-reord es (t.relaid (es.map (·.1)) i6)
  gy a es t):=rfl
def Xm8(s o:ae)(iw:fJ Unit):setMerge s o iw=(do
  if s==o then return
  let (eo,k8,to) <-gC o
  if eo.isEmpty then return
  mi s eo.size
  let (_,_,ts) <-gC s
  match ts.road to with
  | .slotForSlot=>gy s eo {to with finger:=ts.finger,led:=ts.led&&to.led,moves:=ts.moves,plain:=ts.plain&&to.plain}
  | .clean=>
   let (es,t) <-reord eo (ah.laid ts.mask ts.finger ts.moves (led:=ts.led&&to.led) (plain:=ts.plain&&to.plain) (eo.map (·.1)))
   gy s es t
  | .oneByOne=>
   for (h,x) in <-i7 o [s] (some s) do
    let _ <-holding [x] (cT s x h)
    iw
    if (<-gC o).2.1 != k8 then unsupported "set.changed-during-merge"):=rfl
def Nm (es:Array (Int×aa)) (t:ah):fJ Unit:=do
 if !t.led&&es.size > 1 then unsupported "set:maker-not-led"
def Xm9(a:ae):mY a=(do
  let (es,k8,t) <-gC a
  if <-ce then return bS ((<-ask).params.setOrder a k8) es
  if !t.plain&&decide (es.size > 1) then return (<-iP es.size es.toList).toArray
  Nm es t
  return es):=rfl
def Xna:∀m<16,5<=m->(ah.sizeAbove (m * 2) - 1=15\/ah.sizeAbove (m * 2) - 1=31)/\m<=ah.sizeAbove (m * 2) - 1/\¬ah.sizeAbove (m * 2) > sizeLine:=by decide +kernel
section
variable {P:ao}{w:aw}{A:av}{E:Zb}{s:af}{a b c:ae}{ks ls:Za}
def wp_reord{es}   (h:o.toList.Perm (List.range es.size))(q:∀cA:Array (Int×aa),cA.toList.Perm es.toList->cA.size=es.size->Q (cA,t) s):
  ai (ag P w) A (reord es (some (t,o))) Q E s:=by
 have p:(o.filterMap (es[·]?)).toList.Perm es.toList:=by
  rw[Array.toList_filterMap];have:=h.filterMap (λi=>es[i]?)
  rwa [filterMap_getElem?_range] at this
 have z:(o.filterMap (es[·]?)).size=es.size:=by rw[<-Os,p.length_eq,Os]
 unfold reord;dsimp only;rw[z];simp only[bne_self_eq_false,Pe,if_false];exact Tf (q _ p z)
def Ki(hT:s.TypeIs (.ref a) "set")(h:Q true s):ai (ag P w) A (aj.Frozenset.isAnySet (.ref a)) Q E s:=by
 unfold aj.Frozenset.isAnySet;show ai _ _ (lV (.ref a) (.type "set") >>= λb=>_) _ _ s;refine Te (cN hT jb ?_);exact Tf h
def Xnb(hT:s.TypeIs (.ref a) "set")(h:Q (.type "set") s):ai (ag P w) A (aj.Frozenset.baseOf a) Q E s:=by
 unfold aj.Frozenset.baseOf;refine Te (cN hT jb ?_);exact Tf h
def SSet.typeIs(S:SSet P w s.heap a ks):s.TypeIs (.ref a) "set" := by
 obtain⟨o,_,_,_,_,ho,hex,_⟩:=S;exact⟨o,ho,hex.1⟩
structure Nu (w:aw) (h:am) (a:ae) (n:Nat):Prop where
 ex:∃o ep t,h.get? a=some o/\o.ExactSet/\o.data = .set #[] ep t/\t.place = #[]/\t.dummies = #[]/\Mask t.mask/\n<=t.mask/\t.led = !A6 w/\t.plain=true
def Xnc{t:ah}(h1:t.place = #[])(h2:t.dummies = #[]):t.fits 0=true:=by
 simp[ah.fits,ah.fill,h1,h2]
def Xnd    (ho:s.heap.get? a=some o) (hex:o.ExactSet) (hd:o.data = .set #[] ep (.fresh 0 0 (!A6 w))) (hn:n<16)
  (h:∀h',am.SameBut a s.heap h'->Nu w h' a n->Q () {s with heap:=h'}):ai (ag P w) A (mi a n) Q E s:=by
 have hf:(ah.fresh 0 0 (!A6 w)).fits (#[]:Array (Int×aa)).size=true:=rfl;unfold mi;refine Te (aB ho hd hf ?_);dsimp only;by_cases hr:n * 5 ≥ 21
 ·have e:(ah.fresh 0 0 (!A6 w)).roomFor n=some (n * 2):=by
   unfold ah.roomFor;rw[Tk (by show (0+0+n) * 5 ≥ 7 * 3;lia)];show some ((0+n) * 2)=_;rw[Qc]
  rw[e];dsimp only;rw[Xm7];refine Te (aB ho hd hf ?_);dsimp only;obtain⟨m1,m2,m3⟩:=Xna n hn (by lia);have hM:Mask (ah.sizeAbove (n * 2) - 1):=.inr m1;rw[Tj m3];obtain⟨t,e1,t1,t2,t3,t4,t5⟩:=Xm6 (finger:=(ah.fresh 0 0 (!A6 w)).finger) (moves:=(ah.fresh 0 0 (!A6 w)).movedTo (ah.sizeAbove (n * 2) - 1)) (led := !A6 w) (plain:=true) hM;have e2:(ah.fresh 0 0 (!A6 w)).relaid ((#[]:Array (Int×aa)).map (·.1)) (n * 2)=some (t, #[]):=by
   unfold ah.relaid;rw[Array.map_empty];exact e1
  rw[e2];refine Te (wp_reord (es := #[]) (by simp) λcA p z=>?_);have:cA = #[]:=Array.eq_empty_of_size_eq_zero z;subst this;refine bp ho hd ?_ (Pf _);have g:=am.get?_update_self (aK.putSet #[] t) ho (by rw[bR #[] t hd];rfl);rw[bR #[] t hd] at g;exact h _ (Tu _ a _) ⟨_,ep+1,t,g,hex,rfl,t2,t3,by rw[t1];exact hM,by rw[t1];exact m2,t4,t5⟩
 ·have e:(ah.fresh 0 0 (!A6 w)).roomFor n=none:=by
   unfold ah.roomFor;rw[Tj (by show ¬(0+0+n) * 5 ≥ 7 * 3;lia)]
  rw[e];exact Tf (h _ (am.SameBut.refl a _) ⟨o,ep,_,ho,hex,hd,rfl,rfl,.inl rfl,by show n<=7;lia,rfl,rfl⟩)
def Xne{id}  {ep}(ho:s.heap.get? c=some o)(hex:o.ExactSet)(hd:o.data = .set #[] ep (.fresh 0 0 (!A6 w)))(S:SSet P w s.heap b ls)(hl:ls.length<16)(CK:c≠b)
  (h:∀h',am.SameBut c s.heap h'->SSet P w h' c ls->Q () {s with heap:=h'}):ai (ag P w) A (aj.Frozenset.merge id c b) Q E s:=by
 obtain⟨ob,eo,JM,to,JN,ut,CL,yW,vY,rZ,yX,vZ,wa,iN,se⟩:=S;have hz:eo.size=ls.length:=by
  have:=rZ.length;rw[Od,Os] at this;rw[this,yX.length_eq]
 unfold aj.Frozenset.merge;refine Te (bW ut yW wa ?_);rw[Xm8];rw[Tj (by simpa using CK)];refine Te (aB ut yW wa ?_);dsimp only;by_cases he:eo.isEmpty=true
 ·rw[Tk he];have e0:eo = #[]:=by simpa using he
  have:ls=[]:=Pr.mp (by rw[<-hz,e0];rfl);subst this;exact Tf (h _ (am.SameBut.refl c _) ⟨o, #[],ep,_,[],ho,hex,hd,λe he=>by simp at he,.nil,Qd _,by decide,rfl,rfl,λ_=>rfl⟩)
 ·rw[Tj he];refine Te (Xnd ho hex hd (by rw[hz];exact hl) λh1 mj nu=>?_);obtain⟨o1,CM,t1,fX,wb,oI,p1,p2,hM,yY,l1,yZ⟩:=nu.ex;have o3:t1.fits (#[]:Array (Int×aa)).size=true:=Xnc p1 p2;refine Te (aB (s:={s with heap:=h1}) fX oI o3 ?_);dsimp only;have fin:∀(cA:Array (Int×aa)) (t':ah),cA.toList.Perm eo.toList->t'.fits cA.size=true->t'.led = !A6 w->(t'.plain=true->cA.size=0)->Q () {s with heap:=h1.update c (aK.putSet cA t')}:=λcA t' pp ff fl fp=>by
   obtain⟨qi,a8,q'⟩:=Js pp rZ;have z':cA.size=eo.size:=by rw[<-Os,pp.length_eq,Os]
   have g:=am.get?_update_self (aK.putSet cA t') fX (by rw[bR cA t' oI];rfl);rw[bR cA t' oI] at g;exact h _ (mj.trans (Tu _ c _)) ⟨_,cA,CM+1,t',qi,g,wb,rfl,vY.perm pp,a8,q'.trans yX,by rw[z'];exact vZ,ff,fl,fp⟩
  have sf:t1.road to=if (t1.mask==to.mask&&to.dummies.isEmpty)=true then ah.Road.slotForSlot else ah.Road.clean:=by
   unfold ah.road;have:(t1.fill != 0)=false:=by simp[ah.fill,p1,p2]
   rw[this,Tj (by decide)]
  rw[sf];by_cases hr:(t1.mask==to.mask&&to.dummies.isEmpty)=true
  ·rw[Tk hr];dsimp only;refine bp (s:={s with heap:=h1}) fX oI ?_ (aX vZ);exact fin eo _ (Qd _) wa (by show (t1.led&&to.led)=_;rw[l1,iN,R7]) (by show (t1.plain&&to.plain)=true->_;rw[yZ,P8];exact se)
  ·rw[Tj hr];dsimp only;obtain⟨t2,od,e1,e2,e3,e4,e5⟩:=Xm5 (finger:=t1.finger) (moves:=t1.moves) (led:=t1.led&&to.led) (plain:=t1.plain&&to.plain) (hs:=eo.map (·.1)) hM (by rw[Array.size_map];exact yY);rw[e1];rw[Array.size_map] at e2 e3;refine Te (wp_reord e2 λcA pp zz=>?_);refine bp (s:={s with heap:=h1}) fX oI ?_ (aX (by rw[zz];exact vZ));exact fin cA t2 pp (by rw[zz];exact e3) (by rw[e4,l1,iN,R7]) (by rw[e5,yZ,P8,zz];exact se)
def Wl (P:ao) (w:aw) (wl:Array (Int×aa)) (ks:Za):Prop:=eP (PySem.strKind P w) wl.toList/\∃zs,aC (wl.toList.map (·.2)) zs/\zs.Perm ks
def Xnf{es wl:Array (Int×aa)}(er:eP (PySem.strKind P w) es.toList)(hs:aC (es.toList.map (·.2)) yE)(hp:yE.Perm ks)(pp:wl.toList.Perm es.toList):Wl P w wl ks:=by
 obtain⟨zs,st,q⟩:=Js pp hs;exact⟨er.perm pp,zs,st,q.trans hp⟩
theorem Xes  (hf:∀(x:Int×aa) (r:Option Bool×Unit),(∀p,x.2 ≠ .ref p)->f x r=pure (.yield (none,()))):
  ∀(l:List (Int×aa)),(∀e∈l,∀p,e.2 ≠ .ref p)->Q (none,()) s->ai (ag P w) A (forIn l (none,()) f) Q E s
 | [],_,h=>by rw[Sd];exact Tf h
 | x::l,hn,h=>by
  rw[R4,hf x _ (hn x Op)];exact Te (Tf (Xes hf l (λe he=>hn e (Ol _ he)) h))
end
section
variable {P:ao}{w:aw}{A:av}{E:Zb}{s:af}{a b c:ae}{ks ls:Za}
def Xet(h:eP (PySem.strKind P w) l):∀e∈l,∀p,e.2 ≠ .ref p:=λe he p z=>by
 have:=(h e he).2;rw[z] at this;cases this
def Xeu  (hf:∀(x:Int×aa) (r:Option Bool×Unit),(∀p,x.2 ≠ .ref p)->f x r=pure (.yield (none,())))
  {es:Array (Int×aa)} (hn:∀e∈es.toList,∀p,e.2 ≠ .ref p) (h:Q (none,()) s):ai (ag P w) A (forIn es (none,()) f) Q E s:=by
 rw[<-Ra];exact Xes hf _ hn h
def Xng(S:SSet P w s.heap a ks)(F:SSet P w s.heap b ls)(h:Q true s):ai (ag P w) A (JO [a,b]) Q E s:=by
 obtain⟨o,es,ep,t,l0,ho,hex,hd,er,bD,hp,hb,hf,hl,bL⟩:=S;obtain⟨o',cA,lf,t',JP,fh,CN,gU,wc,CO,lR,dF,CP,o8,CQ⟩:=F;have hq:∀(x:Int×aa) (r:Option Bool×Unit),(∀p,x.2 ≠ .ref p)->(match x.2 with
   | aa.ref a=>do
    let jj <-specialOf x.2 (ak.ofString "__eq__")
    if (jj != some (aa.builtin "object.__eq__"))=true then pure (ForInStep.done (some false,())) else pure (ForInStep.yield (none,()))
   | x=>pure (ForInStep.yield (none,())):fJ (ForInStep (Option Bool×Unit)))=pure (.yield (none,())):=λx r hx=>by
  split
  ·rename_i e;exact absurd e (hx _)
  ·rfl
 unfold JO;simp only[R4,Sd];refine Te (Te (Te (cz ho hd hf (Te (Xeu hq (Xet er) (Tf ?_))))));refine Te (Te (cz fh gU CP (Te (Xeu hq (Xet wc) (Tf ?_)))));exact Tf (Tf h)
def wp_unseen(S:SSet P w s.heap a ks)(F:SSet P w s.heap c ls)(lq:a≠c)
  (h:∀wl h' d,Wl P w wl ks->am.SameBut c s.heap h'->SSet P w h' c ls->Q wl {s with heap:=h',drawn:=d}):ai (ag P w) A (i7 a [c] (some c)) Q E s:=by
 obtain⟨o,es,ep,t,l0,ho,hex,hd,er,bD,hp,hb,hf,hl,bL⟩:=id S;have sh:∀wl:Array (Int×aa),wl.toList.Perm es.toList->Wl P w wl ks:=λwl pp=>Xnf er bD hp pp;have walk:ai (ag P w) A (mY a) Q E s:=by
  rw[Xm9];refine Te (aB ho hd hf ?_);dsimp only;unfold ce;refine Te (Te (aQ (Tf ?_)));show ai _ _ (if A6 w=true then _ else _) _ _ s;cases hw:A6 w with
  | true=>
   rw[Tk rfl];refine Te (aQ (Tf ?_));exact h _ s.heap s.drawn (sh _ (Xcf _ es)) (am.SameBut.refl c _) F
  | false=>
   rw[Tj (by decide)];by_cases hc:(!t.plain&&decide (es.size > 1))=true
   ·rw[Tk hc];refine Te (Xcg _ _ _ _ (Os) λos d po=>Tf ?_);exact h _ s.heap d (sh _ (by simpa using po)) (am.SameBut.refl c _) F
   ·rw[Tj hc];have hm:Nm es t=pure ():=by
     unfold Nm;rw[hl,hw];rfl
    refine Te (fD hm (Tf ?_));exact h _ s.heap s.drawn (sh _ (Qd _)) (am.SameBut.refl c _) F
 unfold i7;refine Te (aB ho hd hf ?_);dsimp only;unfold ce;refine Te (Te (aQ (Tf ?_)));show ai _ _ (if (A6 w||(t.led&&t.plain)||decide (es.size<=1))=true then mY a else _) _ _ s;by_cases hc:(A6 w||(t.led&&t.plain)||decide (es.size<=1))=true
 ·rw[Tk hc];exact walk
 ·rw[Tj hc];refine Te (Xng S F ?_);simp only[R6,Pe,if_false];refine Te (aR ?_);obtain⟨oc,ec,CS,tc,lc,l8,we,uy,wf,wg,CT,za,zb,CU,wj⟩:=id F;refine Te (aB l8 uy zb ?_);dsimp only;by_cases hs:((tc.led && !t.led)||(tc.plain && !t.plain))=true
  ·rw[Tk hs];refine Te (bp l8 uy (Tf ?_) (aX za));obtain⟨g,S1⟩:_/\SSet P w (s.heap.update c (aK.putSet ec {tc with led:=tc.led&&t.led,plain:=tc.plain&&t.plain})) c ls:=by
    have g:=am.get?_update_self (aK.putSet ec {tc with led:=tc.led&&t.led,plain:=tc.plain&&t.plain}) l8 (by rw[bR ec _ uy];rfl);rw[bR ec _ uy] at g;exact⟨g,_,ec,CS+1,_,lc,g,we,rfl,wf,wg,CT,za,zb,by show (tc.led&&t.led)=_;rw[CU,hl,R7],by
     show (tc.plain&&t.plain)=true->_;intro z;rw[Oy] at z;exact wj z.1⟩
   exact h _ _ s.drawn (sh _ (Qd _)) (Tu _ c _) S1
  ·rw[Tj hs];exact Tf (h _ s.heap s.drawn (sh _ (Qd _)) (am.SameBut.refl c _) F)
def xor1 (ks:Za) (x:ak):Za:=if x∈ks then ks.erase x else ks++[x]
def Kj{α : Type}(xs:Array α)(i):(ah.eraseAt xs i).toList=xs.toList.eraseIdx i:=by
 unfold ah.eraseAt;rw[Array.toList_append,Array.toList_extract,Array.toList_extract,List.eraseIdx_eq_take_drop_succ];simp[List.extract];exact Pk (by simp)
theorem Xev:∀(l:Za),l.Nodup->∀(j:Nat) (hj:j<l.length),l.erase l[j]=l.eraseIdx j
 | x::l,nd,0,_=>by simp
 | x::l,nd,j+1,hj=>by
  obtain⟨h1,h2⟩:=P5.mp nd;have fV:j<l.length:=by simpa using hj
  have ne:x≠l[j]:=λe=>h1 (e ▸ Ph fV);rw[List.getElem_cons_succ,List.eraseIdx_cons_succ,List.erase_cons_tail (by simpa using ne),Xev l h2 j fV]
theorem Xew{α β : Type}(f : α -> β):∀(l:List α) (j:Nat),(l.eraseIdx j).map f=(l.map f).eraseIdx j
 | [],_=>rfl
 | x::l,0=>rfl
 | x::l,j+1=>by simp[Xew f l j]
theorem Xex:∀{vs:List aa} {ls:Za} (i:Nat),aC vs ls->aC (vs.eraseIdx i) (ls.eraseIdx i)
 | _,_,_,.nil=>by simp;exact .nil
 | _,_,0,.cons x t h=>h
 | _,_,i+1,.cons x t h=>.cons x t (Xex i h)
def Xnh  (h:aC vs ls) {i} (hi:i<vs.length):∃t,vs[i] = .str (ls.getD i ak.empty) t:=by
 induction h generalizing i with
 | nil=>exact absurd hi (Qk _)
 | cons x t _ ih=>
  cases i with
  | zero=>exact⟨t,rfl⟩
  | succ i=>exact ih (by simpa using hi)
def Xni   (S:SSet P w s.heap a ks) (nd:ks.Nodup) (hr:ks.length+1<aU)
  (h:∀h',am.SameBut a s.heap h'->SSet P w h' a (xor1 ks x)->Q () {s with heap:=h'}):
  ai (ag P w) A (holding [.str x tk] do
   if !(<-fu a (.str x tk) ((PySem.strKind P w).hash x)) then
    let _ <-cT a (.str x tk) ((PySem.strKind P w).hash x)) Q E s:=by
 obtain⟨o,es,ep,t,l0,ho,hex,hd,er,hs,hp,hb,hf,hl,bL⟩:=id S;have fi:(PySem.strKind P w).is x (.str x tk)=true:=gx P w x tk;have dh:x∈ks ↔ ∃e∈es.toList,(PySem.strKind P w).is x e.2=true:=hp.mem_iff.symm.trans (Xca hs);have aN:es.size=ks.length:=by
  have:=hs.length;rw[Od,Os] at this;rw[this,hp.length_eq]
 refine az (Te ?_);unfold fu setFind setFindIn;refine Te (Te (aB ho hd hf ?_));dsimp only;rw[JF (knd:=PySem.strKind P w) rfl hb er];simp only[↓reduceIte];refine Te (aR (Te (oz fi ho hd hf er ?_)));cases o3:List.findIdx? (λe=>(PySem.strKind P w).is x e.2) es.toList with
 | none=>
  dsimp only;have hx:x∉ks:=λz=>by
   obtain⟨e,he,q⟩:=dh.mp z;have:=List.findIdx?_eq_none_iff.mp o3 e he;rw[q] at this;cases this
  refine Tf (Tf ?_);simp only[Bool.not_false,if_true];refine Te (sset_add S hr λb h' sb S'=>Tf ?_);refine h h' sb ?_;unfold xor1;rw[Tj hx];rw[Tj hx] at S';exact S'
 | some j=>
  dsimp only;obtain⟨hj,rF,_⟩:=R5.mp o3;have hx:x∈ks:=dh.mpr ⟨es.toList[j],Ph hj,rF⟩;rw[Qc];refine Tf ?_;dsimp only;refine Te (aB ho hd hf ?_);dsimp only;have CV:j<es.size:=by simpa using hj
  have zE:(ah.eraseAt es j).size=es.size - 1:=by
   rw[<-Os,Kj,Q7 hj,Os]
  refine Te (bp ho hd ?_ (aX (by rw[zE];lia)));refine Te (wpAny_point (Tf ?_));simp only[R6,Pe,if_false];refine Tf ?_;have g:=am.get?_update_self (aK.putSet (ah.eraseAt es j) (t.drop j)) ho (by rw[bR _ _ hd];rfl);rw[bR _ _ hd] at g;have mo:t.place.size=es.size/\t.fill<=t.mask:=by
   simpa [ah.fits,Oy] using hf
  have k9:(t.drop j).fits (es.size - 1)=true/\(t.drop j).led=t.led/\(t.drop j).plain=t.plain:=by
   unfold ah.drop;have zc:j<t.place.size:=by rw[mo.1];exact CV
   rw[getElem?_pos t.place j zc];dsimp only;refine⟨?_,rfl,rfl⟩;have z1:(ah.eraseAt t.place j).size=t.place.size - 1:=by
    rw[<-Os,Kj,Q7 (by simpa using zc),Os]
   have z2:∀p v,(ah.insertAt t.dummies p v).size=t.dummies.size+1:=λp v=>by
    have:=(ah.insertAt_perm t.dummies p v).length_eq;simpa using this
   simp only[ah.fits,ah.fill,Oy,beq_iff_eq,decide_eq_true_eq,z1,z2];have:=mo.2;unfold ah.fill at this
   lia
  have wk:l0.getD j ak.empty=x:=by
   obtain⟨tt,e⟩:=Xnh hs (i:=j) (by simpa using hj);rw[Qo] at e;rw[e] at rF;obtain⟨t3,e3⟩:=aa.isStrOf_shape (x:=x) (v:=.str (l0.getD j ak.empty) tt) rF;injection e3
  have JQ:l0.length=es.size:=by
   have:=hs.length;rw[Od,Os] at this;exact this.symm
  have CW:l0.Nodup:=hp.nodup_iff.mpr nd;have CY:l0.eraseIdx j=l0.erase x:=by
   have vX:j<l0.length:=by lia
   have e:l0[j]=x:=by rw[<-wk];simp[List.getD,vX]
   rw[<-e];exact(Xev l0 CW j vX).symm
  refine h _ (Tu _ a _) ⟨_,_,ep+1,_,l0.eraseIdx j,g,hex,rfl,?_,?_,?_,by rw[zE];lia,by rw[zE];exact k9.1,k9.2.1.trans hl,?_⟩
  ·intro e he;rw[Kj] at he;exact er e (List.mem_of_mem_eraseIdx he)
  ·rw[Kj];have:(es.toList.eraseIdx j).map (·.2)=(es.toList.map (·.2)).eraseIdx j:=by
    exact Xew _ _ _
   rw[this];exact Xex j hs
  ·rw[CY];unfold xor1;rw[Tk hx];exact hp.erase x
  ·rw[k9.2.2,zE];intro z;rw[bL z]
end
def Xnj (a:ae) (h:Int) (x:aa):fJ Unit:=holding [x] do
 if !(<-fu a x h) then
  let _ <-cT a x h
def Xey(ks)(x):(xor1 ks x).length<=ks.length+1:=by
 unfold xor1;split
 ·exact Nat.le_succ_of_le (List.length_erase_le ..)
 ·rw[Oh];exact Og _
def Xez  (h:ks.Nodup):(xor1 ks x).Nodup:=by
 unfold xor1;split
 ·exact h.erase x
 ·rename_i hx;exact Qe.mpr ⟨h,by simp,λa ha b hb e=>hx (by rw[Oj.mp hb] at e;exact e ▸ ha)⟩
def Xnk  (h:ks.Nodup):y∈xor1 ks x↔(y∈ks/\y≠x)\/(y=x/\x∉ks):=by
 unfold xor1;split
 ·rename_i hx;rw[h.mem_erase_iff];constructor
  ·exact λz=>.inl ⟨z.2,z.1⟩
  ·rintro (z | z)
   ·exact⟨z.2,z.1⟩
   ·exact absurd hx z.2
 ·rename_i hx;rw[Oq,Oj];constructor
  ·rintro (z | z)
   ·exact .inl ⟨z,λe=>hx (e ▸ z)⟩
   ·exact .inr ⟨z,hx⟩
  ·rintro (z | z)
   ·exact .inl z.1
   ·exact .inr z.1
theorem Xe0:∀(zs ms:Za),ms.Nodup->zs.Nodup->(zs.foldl xor1 ms).Nodup/\(zs.foldl xor1 ms).length<=ms.length+zs.length/\∀y,y∈zs.foldl xor1 ms↔(y∈ms/\y∉zs)\/(y∉ms/\y∈zs)
 | [],ms,h,_=>⟨h,Og _,λy=>by simp⟩
 | z::zs,ms,h,hz=>by
  obtain⟨n1,n2⟩:=P5.mp hz;obtain⟨a1,a2,a3⟩:=Xe0 zs (xor1 ms z) (Xez h) n2;refine⟨a1,?_,λy=>?_⟩
  ·have:=Xey ms z;rw[O2];rw[Rq]
   lia
  ·rw[Rq,a3,Xnk h,Ou];by_cases e:y=z
   ·subst e;by_cases g:y∈ms<;>simp[g,n1]
   ·by_cases g:y∈ms<;>simp[g,e]
section
variable {P:ao}{w:aw}{A:av}{E:Zb}{s:af}{a b c:ae}{ks ls:Za}
theorem Xe1{id}   (hf:∀x u,f x u=(do Xnj c x.1 x.2; aj.Frozenset.unchanged id a ep;pure (.yield ⟨⟩)))   (hd:o.data = .set es ep t)(lm:t.fits es.size=true)(lq:a≠c):
  ∀l zs ms s Q,s.heap.get? a=some o->eP (PySem.strKind P w) l->aC (l.map (·.2)) zs->SSet P w s.heap c ms->ms.Nodup->ms.length+l.length<aU ->
   (∀h',am.SameBut c s.heap h'->SSet P w h' c (zs.foldl xor1 ms)->Q ⟨⟩ {s with heap:=h'})->ai (ag P w) A (forIn l PUnit.unit f) Q E s
 | [],zs,ms,s,Q,_,_,hz,hS,_,_,h=>by
  rw[Sd];cases hz;exact Tf (h s.heap (am.SameBut.refl c _) hS)
 | (hh,x)::l,zs,ms,s,Q,ho,er,hz,hS,nd,hb,h=>by
  have CZ:aC (x::l.map (·.2)) zs:=hz;clear hz;cases CZ with
  | cons y t' hz=>
   obtain⟨⟨k,hk,he⟩,_⟩:=er.head;have hk:(PySem.strKind P w).is k (.str y t')=true:=hk;obtain⟨t3,e3⟩:=aa.isStrOf_shape (x:=k) (v:=.str y t') hk;injection e3 with e3 _
   subst e3;have he:hh=(PySem.strKind P w).hash y:=he;subst he;rw[O2] at hb;rw[R4,hf];refine Te (Te (Xni hS nd (by lia) λh1 mj S1=>?_));have fX:h1.get? a=some o:=(mj.2 a lq).trans ho;refine Te ?_;unfold aj.Frozenset.unchanged;refine Te (bW (s:={s with heap:=h1}) fX hd lm ?_);simp only[bne_self_eq_false,Pe,if_false];refine Tf (Tf ?_);have hl:=Xey ms y;exact Xe1 hf hd lm lq l _ (xor1 ms y) {s with heap:=h1} Q fX er.tail hz S1 (Xez nd) (by lia) λh2 si S2=>h h2 (mj.trans si) S2
def Xe2 (i:String) (l:ae) (r:aa):fJ aa:=do
 let i8 <-aj.Frozenset.newFrom i (<-aj.Frozenset.baseOf l) r
 holding [i8] (aj.Frozenset.symmetricDifferenceUpdate i (<-aj.Frozenset.addrOf i8) (.ref l))
 return i8
def Xnl(x y:aa):aj.«frozenset.__xor__» ⟨[x,y],[]⟩=(do
  let (self,gA) <-aj.Frozenset.slot1 "__xor__" ⟨[x,y],[]⟩
  let (l,r):=if false then (gA,self) else (self,gA)
  if !(<-aj.Frozenset.isAnySet l <&&> aj.Frozenset.isAnySet r) then rule s!"frozenset.{"__xor__"}.declined"; return <-ret .notImplemented
  ret (<-Xe2 s!"frozenset.{"__xor__"}" (<-aj.Frozenset.addrOf l) r)):=rfl
def Xnm   (S:SSet P w s.heap a ks) (F:SSet P w s.heap c ms) (lq:a≠c) (hk:ks.Nodup) (hm:ms.Nodup) (l1:ks.length<16) (l2:ms.length<16)
  (h:∀h' d zs,am.SameBut c s.heap h'->SSet P w h' c zs->zs.Nodup->zs.length<=32->(∀y,y∈zs↔(y∈ms/\y∉ks)\/(y∉ms/\y∈ks))->Q () {s with heap:=h',drawn:=d}):
  ai (ag P w) A (aj.Frozenset.symmetricDifferenceUpdate i c (.ref a)) Q E s:=by
 obtain⟨o,es,ep,t,l0,ho,hex,hd,er,bD,hp,hb,hf,hl,bL⟩:=id S;unfold aj.Frozenset.symmetricDifferenceUpdate;rw[Tj (by simpa using lq)];refine Te (bo (T := "set") S.typeIs ?_);rw[Tj (by decide)];refine Te (Ki S.typeIs ?_);rw[Tk rfl];refine Te (Tf ?_);refine Te (Tf ?_);refine Te (bW ho hd hf ?_);refine az (Te (wp_unseen S F lq λwl h1 d W mj S1=>?_));obtain⟨wn,zs,jY,q1⟩:=W;rw[<-Ra];have fX:h1.get? a=some o:=(mj.2 a lq).trans ho;have rj:wl.toList.length=ks.length:=by
  have:=jY.length;rw[Od] at this;rw[this,q1.length_eq]
 have wo:zs.Nodup:=q1.nodup_iff.mpr hk;obtain⟨x1,x2,x3⟩:=Xe0 zs ms hm wo;refine Te (Xe1 (id:=i) (c:=c) (a:=a) (s:={s with heap:=h1,drawn:=d}) (λx u=>rfl) hd hf lq wl.toList zs ms _ fX wn jY S1 hm (by rw[rj];unfold aU;lia) λh2 si S2=>Tf ?_);refine h h2 d _ (mj.trans si) S2 x1 ?_ λy=>?_
 ·have:=q1.length_eq
  lia
 ·rw[x3,q1.mem_iff]
def Xnn(S:SSet P w s.heap a ks)(F:SSet P w s.heap b ls)(hk:ks.Nodup)(hl:ls.Nodup)(l1:ks.length<16)(l2:ls.length<16)
  (h:∀h' d zs,(∀e o,s.heap.get? e=some o->h'.get? e=some o)->SSet P w h' s.heap.objs.size zs->zs.Nodup->zs.length<=32->(∀y,y∈zs↔(y∈ls/\y∉ks)\/(y∉ls/\y∈ks))->Q (.ref s.heap.objs.size) {s with heap:=h',drawn:=d}):
  ai (ag P w) A (bh .BitXor (.ref a) (.ref b)) Q E s:=by
 have ha:=S.typeIs;have hb:=F.typeIs;have la:a<s.heap.objs.size:=by obtain⟨o,_,_,_,_,g,_⟩:=S;exact Tr g
 have lb:b<s.heap.objs.size:=by obtain⟨o,_,_,_,_,g,_⟩:=F;exact Tr g
 have eX:jZ table "set.__xor__" = some aj.«frozenset.__xor__»:=g7 (id' := "frozenset.__xor__") (by kernel_rfl) rfl (by decide +kernel) (by kernel_rfl);refine wpAny_binaryOp_same (T := "set") (id := "set.__xor__") ha hb PySem.F.fills_set_xor PySem.F.slot_set_xor (aP PySem.F.slot_set_xor ha eX ?_ (PySem.F.args_set_xor_2 _ _));rw[Xnl];unfold aj.Frozenset.slot1 rK;simp only[List.isEmpty_nil,R6,Pe, ↓reduceIte,bind_assoc,Qr,O2,bne_self_eq_false,pure_bind];refine Te ?_;show ai _ _ (aj.Frozenset.isAnySet (.ref a) >>= λb1=>_) _ _ s;refine Te (Ki ha ?_);show ai _ _ (aj.Frozenset.isAnySet (.ref b)) _ _ s;refine Ki hb ?_;simp only[R6,Pe, ↓reduceIte];refine Te ?_;show ai _ _ (pure a) _ _ s;refine Tf ?_;refine Te ?_;unfold Xe2;refine Te (Xnb ha ?_);refine Te ?_;unfold aj.Frozenset.newFrom newSet ce;refine Te (Te (Te (aQ (Tf ?_))));dsimp only;simp only[newObj];refine Te (jU (Tf ?_));have keep:∀e o,s.heap.get? e=some o->(s.heap.push {cls:=.type "set",dict:=none,data:=.set #[] 0 (.fresh 0 0 (!A6 w))}).get? e=some o:=λe o q=>Tt _ q;refine Te ?_;show ai _ _ (pure s.heap.objs.size) _ _ _;refine Tf ?_;refine Te (az ?_);unfold aj.Frozenset.updateFrom;have F1:SSet P w (s.heap.push {cls:=.type "set",dict:=none,data:=.set #[] 0 (.fresh 0 0 (!A6 w))}) b ls:=F.stay λo q=>keep b o q;refine Te (Ki (s:={s with heap:=s.heap.push {cls:=.type "set",dict:=none,data:=.set #[] 0 (.fresh 0 0 (!A6 w))} }) F1.typeIs ?_);rw[Tk rfl];unfold aj.Frozenset.addrOf;refine Te (Tf ?_);refine Xne (s:={s with heap:=s.heap.push {cls:=.type "set",dict:=none,data:=.set #[] 0 (.fresh 0 0 (!A6 w))} }) (c:=s.heap.objs.size) (ep:=0) (am.get?_push_size _ rfl) ⟨rfl,rfl,rfl⟩ rfl F1 l2 (Sf lb) λh1 mj S1=>?_;refine Tf ?_;have k1:∀e o,s.heap.get? e=some o->h1.get? e=some o:=λe o q=>(mj.2 e (Oo (Tr q))).trans (keep e o q);refine Te (Tf ?_);refine Te (az (Xnm (s:={s with heap:=h1}) (S.stay λo q=>k1 a o q) S1 (Oo la) hk hl l1 l2 λh2 d zs si S2 n2 z2 m2=>?_));refine Tf (Tf ⟨_,rfl,by simp,?_⟩);exact h h2 d zs (λe o q=>(si.2 e (Oo (Tr q))).trans (k1 e o q)) S2 n2 z2 m2
end
section
variable {X:Cx}
def Xno:OpR X (bh .BitXor) (λx y H Q=>∃a b ks ls,x = .ref a/\y = .ref b/\H a=some (Ew X.prog X.w a ks)/\H b=some (Ew X.prog X.w b ls)/\ks.Nodup/\ls.Nodup/\ks.length<16/\ls.length<16 /\
  ∀c zs,H c=none->zs.Nodup->zs.length<=32->(∀y,y∈zs↔(y∈ls/\y∉ks)\/(y∉ls/\y∈ks))->Q (.ref c) (upd H c (Ew X.prog X.w c zs))):=by
 intro pins s Z H x y v u Q I rx ry h;obtain⟨a,b,ks,ls,rfl,rfl,ha,hb,nk,nl,l1,l2,q⟩:=h;cases rx;cases ry;obtain⟨S,_⟩:=(show A4 X.prog X.w H s.heap a (.ext λh=>SSet X.prog X.w h a ks) from I.hok a _ ha);obtain⟨F,_⟩:=(show A4 X.prog X.w H s.heap b (.ext λh=>SSet X.prog X.w h b ls) from I.hok b _ hb);refine Xnn S F nk nl l1 l2 λh' d zs k S' n' z' m'=>?_;refine⟨.ref s.heap.objs.size,_,I.laidM (s':={s with heap:=h',drawn:=d}) k rfl rfl (Og _) ?_,rfl,q _ zs (I.hok.fresh (Og _)) n' z' m'⟩;exact⟨S',by obtain⟨o,_,_,_,_,g,_⟩:=S';exact⟨o,g⟩,λh1 h2 S1 kk=>S1.stay kk⟩
end
end L2
set_option maxHeartbeats 4000000
namespace SH
open L2
def Af (a b:Za):Za:=srt ((a.filter λx => !decide (x∈b))++(b.filter λx => !decide (x∈a)))
def E4  : x∈Af a b↔(x∈a/\x∉b)\/(x∈b/\x∉a):=by
 unfold Af;rw[Fm,Oq,Om,Om];simp
def Xe3{a b:Za}(ha:a.Nodup)(hb:b.Nodup):((a.filter λx => !decide (x∈b))++(b.filter λx => !decide (x∈a))).Nodup:=by
 rw[Qe];refine⟨ha.filter _,hb.filter _,λx hx y hy e=>?_⟩;subst e;have h1:=(Om.mp hx).1;have h2:=(Om.mp hy).2;simp[h1] at h2
def Gm(ha:a.Nodup)(hb:b.Nodup):(Af a b).Pairwise ltS:=by
 have Do:(Af a b).Nodup:=(Cu _).nodup_iff.mpr (Xe3 ha hb);exact(List.pairwise_and_iff.mpr ⟨Dx _,Do⟩).imp λ{x y} (h:leS x y/\x≠y)=>ltS_of h.1 h.2
def Kk(a b):(Af a b).length<=a.length+b.length:=by
 unfold Af;rw[(Cu _).length_eq,Oh];have h1:=Pl (λx => !decide (x∈b)) a;have h2:=Pl (λx => !decide (x∈a)) b
 lia
def xor_srt(ha:a.Nodup)(hb:b.Nodup)(hz:zs.Nodup)(h:∀y,y∈zs↔(y∈b/\y∉a)\/(y∉b/\y∈a)):srt zs=Af a b:=by
 refine Mf (Hv hz (Xe3 ha hb) λy=>?_);rw[h,Oq,Om,Om];simp;by_cases h1:y∈a<;>by_cases h2:y∈b<;>simp[h1,h2]
def spParting:Sp:=λvs H Q _=>∃(p q:ae) (a b:Za),vs=[.ref p,.ref q]/\H p=some (.tup (a.map V.str))/\H q=some (.tup (b.map V.str))/\a.Nodup/\b.Nodup/\a.length<16/\b.length<16 /\
 ∀l H',H l=none->H' l=some (.lst ((Af a b).map V.str))->Same H H'->Q (.ref l) H'
def spApart:Sp:=λvs H Q _=>∃(p q:ae) (a b:Za),vs=[.ref p,.ref q]/\H p=some (.tup (a.map V.str))/\H q=some (.tup (b.map V.str))/\a.length<=24/\b.length<=24 /\
 ∀l H',H l=none->H' l=some (.lst ((Af a b).map V.str))->Same H H'->Q (.ref l) H'
abbrev NAp:Za:=["_law_one_here", "_law_other", "_law_mine"]
abbrev NAp1:Za:=["_law_name", "_law_other"]
abbrev NAp2:Za:=["_law_name", "_law_one_here"]
structure Two (H:Hp) (r p q:ae) (row a b:Za):Prop where
 hr:H r=some (.lst (row.map V.str))
 r2:Row2 row
 hd:(dit row).length<=14
 hp:H p=some (.tup (a.map V.str))
 hq:H q=some (.tup (b.map V.str))
 oa:∀y∈a,okN y
 ob:∀y∈b,okN y
 la:a.length<=24
 lb:b.length<=24
def Two.same  {row a b} (t:Two H r p q row a b) (s:Same H H'):Two H' r p q row a b:=⟨s _ _ t.hr,t.r2,t.hd,s _ _ t.hp,s _ _ t.hq,t.oa,t.ob,t.la,t.lb⟩
def B9(h:Ad row a=true):a.Nodup:=Db (Bj h).2
end SH
namespace L2
def tSset (K:LD) (te:TE):TE:=fun Z H Q=>te Z H λv H1=>∃p ss,v = .ref p/\(SqL K H1 p (ss.map V.str)\/SqT K H1 p (ss.map V.str))/\ss.length<=60/\∀l H',H1 l=none->H' l=some (.lst ((dit ss).map V.str))->Same H1 H'->Q (.ref l) H'
end L2
namespace SH
open L2
def Xe4 (a b:Za):Za:=(dit (a++b)).filter λx => !(decide (x∈a)&&decide (x∈b))
structure First (a b:Za) (x y:ak):Prop where
 hx:x∈a
 hy:y∈a
 lt:ltS x y
 df:lieR a x y≠lieR b x y
 fst:∀x' y',x'∈a->y'∈a->ltS x' y'->lieR a x' y'≠lieR b x' y'->ltS x x'\/(x'=x/\(y'=y\/ltS y y'))
inductive Due (a b:Za):Option (Za)->Prop
 | ditch (x:ak) (h:x∈Xe4 a b) (f:∀y∈Xe4 a b,y=x\/ltS x y):Due a b (some [ak.ofString "ditch",x])
 | lie (x y:ak) (h:∀z,z∈a↔z∈b) (f:First a b x y):Due a b (some [ak.ofString "lie",x,y])
 | none (h:∀z,z∈a↔z∈b) (f:∀x y,x∈a->y∈a->ltS x y->lieR a x y=lieR b x y):Due a b none
structure Two2 (H:Hp) (p q:ae) (a b:Za):Prop where
 hp:H p=some (.lst (a.map V.str))
 hq:H q=some (.lst (b.map V.str))
 ra:Row2 a
 rb:Row2 b
 la:a.length<=28
 lb:b.length<=28
 da:(ddup a).length<16
 db:(ddup b).length<16
def DueAt (H:Hp):Option (Za)->V->Prop
 | none,v=>v = .non
 | some ss,v=>∃l,v = .ref l/\H l=some (.tup (ss.map V.str))
end SH
namespace L2
open PySem
end L2
namespace SH
open L2
def Gn (t:ak):Bool:=(decide (1<=t.length)&&decide (t.length<=8))&&t.cps.toList.all λc=>decide (97<=c)&&decide (c<=122)
structure Asc (t:ak):Prop where
 JR:t.cps.all (· < 128)=true
 len:t.length<=20
structure IsT (row:Za) (x y z:ak):Prop where
 hx:x∈row
 hy:y∈row
 hz:z∈row
 JS:ltS x y
 JT:ltS y z
 xy:lieR row x y = "cross"
 yz:lieR row y z = "cross"
 xz:lieR row x z = "cross"
structure First3 (row:Za) (x y z:ak):Prop where
 t:IsT row x y z
 fst:∀x' y' z',IsT row x' y' z'->ltS x x'\/(x'=x/\(ltS y y'\/(y'=y/\(z'=z\/ltS z z'))))
def noT (row:Za):Prop:=∀x y z,¬IsT row x y z
def ltP2 (p q:ak×ak):Prop:=ltS p.1 q.1\/(p.1=q.1/\ltS p.2 q.2)
def Xr8 (H:Hp) (dx:ae) (x y z:ak):Prop:=∃t,H dx=some (.ext (xdP dx [(ak.ofString "three",.ref t)]))/\H t=some (.tup [.str x,.str y,.str z])
inductive PO
 | name | taken | full | place
 | barred (x y z:ak)
 | told
def Xr9 (row:Za) (x:ak) (a b:Int):PO->Prop
 | .name=>Gn x=false
 | .taken=>Gn x=true/\x∈row
 | .full=>Gn x=true/\x∉row/\14<=(dit row).length
 | .place=>Gn x=true/\x∉row/\(dit row).length<14/\¬(0<=a/\a<=b/\b<=row.length)
 | .barred u v w=>Gn x=true/\x∉row/\(dit row).length<14/\(0<=a/\a<=b/\b<=row.length)/\First3 (Dz row x a.toNat b.toNat) u v w
 | .told=>Gn x=true/\x∉row/\(dit row).length<14/\(0<=a/\a<=b/\b<=row.length)/\noT (Dz row x a.toNat b.toNat)
structure PutC where
 name:ae
 taken:ae
 full:ae
 place:ae
 barred:ae
def PutC.of (C:PutC):PO->ae
 | .name=>C.name
 | .taken=>C.taken
 | .full=>C.full
 | .place=>C.place
 | .barred ..=>C.barred
 | .told=>0
def Fx:PO->Bool
 | .barred ..=>false
 | .told=>false
 | _=>true
def Kl:PO->Nat
 | .name=>0
 | .taken=>1
 | .full=>2
 | .place=>3
 | .barred ..=>4
 | .told=>5
structure PutK (K:LD) (C:PutC) (S:ae):Prop where
 fn:ExcF K C.name
 ft:ExcF K C.taken
 ff:ExcF K C.full
 fp:ExcF K C.place
 fb:ExcF K C.barred
 kb:ExK K C.barred "three"
 eb:LG K (.ref C.barred) (.ref C.barred)=some true
 nb:∀o,Fx o=true->LG K (.ref (C.of o)) (.ref C.barred)=some false
 es:∀o,Fx o=true->LG K (.ref (C.of o)) (.ref S)=some true
 v:∀o,Fx o=true->LI K (.ref (C.of o)) (.type "ValueError")=some true
 kn:∀o,Fx o=true->LI K (.ref (C.of o)) (.ref C.name)=some (decide (Kl o=0))
 kt:∀o,Fx o=true->LI K (.ref (C.of o)) (.ref C.taken)=some (decide (Kl o=1))
 kf:∀o,Fx o=true->LI K (.ref (C.of o)) (.ref C.full)=some (decide (Kl o=2))
 kp:∀o,Fx o=true->LI K (.ref (C.of o)) (.ref C.place)=some (decide (Kl o=3))
structure LR (st:Nat) (aV:Bool) (a:Za):Prop where
 lt:st<26
 sub:∀y∈a,y∈Bd st aV 14
 two:∀y∈a,a.count y=2
 len:a.length<=28
end SH
namespace L2
def mroB (K:LD) (C S:ae):Bool:=(ML K C).any λcd=>cd.hasDict&&cd.mro==aa.ref C::aa.ref S::Xeg
structure InitAt (K:LD) (x q:ak) (st:aM) (f:ak) (C fI S:ae):Prop where
 a:LJ K ap x=some (some (.ref C))
 m:∃fd,Fun K "__init__" q st fI fd
 e:Xmu K C fI=true
 ga:LH K (.ref C) "__getattribute__" = some (some (.builtin "BaseException.__getattribute__"))
 gn:LH K (.ref C) "__getattr__" = some none
 cl:LH K (.ref C) "__class__" = some (some (.builtin "object.__class__"))
 sb:LQ K (.ref C) (.type "BaseException")=some true
 so:LQ K (.ref C) (.type "object")=some true
 ss:LQ K (.ref C) (.ref C)=some true
 ic:M' K C=true
 ty:MB K (.ref C)=some (.type "type")
 sa:LH K (.ref C) "__setattr__" = some (some (.builtin "object.__setattr__"))
 no:LH K (.ref C) f=some none
 mr:mroB K C S=true
section
variable {K:LD}{x q f:ak}{st:aM}{C fI S:ae}
end
end L2
namespace SH
open L2
end SH
namespace L2
section
variable {X:Cx}{pos np jW:bI}{b0:aM}{suite:List aM}{x:ak}{Cc:ae}{th:TS}{rest:THd}{hs:List dQ}
def tHdN (K:LD) (Cc:ae) (th:TS) (rest:THd):THd:=λC dd D Z H=>∃b,LG K (.ref C) (.ref Cc)=some b/\if b=true then th D Z H else rest C dd D Z H
end
section
variable {X:Cx}
end
def Xnp{st}:PS X st (λ_ _ _=>False):=λ_ _ _ _ _ _ h=>h.elim
end L2
namespace SH
open L2
def Nn  : n∈Ao S x↔(n∈S/\n≠x)\/(x∉S/\n=x):=by
 unfold Ao;rw[Fm,Oq,Om,decide_eq_true_eq];by_cases h:x∈S
 ·rw[Tk h];simp[h]
 ·rw[Tj h];simp[h]
def Xe5(S)(x):Af S [x]=Ao S x:=by
 unfold Af Ao;have e1:(S.filter λy => !decide (y∈[x]))=S.filter λy=>decide (y≠x):=by
  congr 1;funext y;by_cases z:y=x<;>simp[z]
 have e2:([x].filter λy => !decide (y∈S))=if x∈S then [] else [x]:=by
  by_cases z:x∈S<;>simp[z]
 rw[e1,e2]
def Np(x)(h:S.Nodup):(Ao S x).Pairwise ltS:=by
 rw[<-Xe5];exact Gm h (by simp)
def spAcross:Sp:=λvs H Q _=>∃(p:ae) (ss:Za) (x:ak),vs=[.ref p,.str x]/\H p=some (.tup (ss.map V.str))/\ss.Nodup/\ss.length<16 /\
 ∀q H',H q=none->H' q=some (.tup ((Ao ss x).map V.str))->Same H H'->Q (.ref q) H'
def Xnq  (hS:Ad row S=true) (hx:x∈row):∀y∈Ao S x,y∈row:=λy hy=>by
 rcases Nn.mp hy with h | h
 ·exact(Bj hS).1 y h.1
 ·rw[h.2];exact hx
def Xnr  (h2:∀y∈row,row.count y=2) (hS:Ad row S=true) (hx:x∈row):C0 (bars row) (Ao S x)=Ad row (Ao S x):=by
 rw[<-Kc h2];unfold E2;have e:Ao S x=(dit row).filter λy=>decide (y∈Ao S x):=by
  refine lt_uniq (Np x (B9 hS)) ((Dm row).filter _) λy=>?_;rw[Om,An,decide_eq_true_eq];exact⟨λh=>⟨Xnq hS hx y h,h⟩,λh=>h.2⟩
 rw[Tl e,P8]
def Xns (row:Za):Za->Nat->Za->Nat ⊕ Za
 | S,_,[]=>.inr S
 | S,i,x::r=>if Ad row (Ao S x)=true then Xns row (Ao S x) (i+1) r else .inl i
def AtAt (H:Hp) (dx:ae) (n:Nat):Prop:=H dx=some (.ext (xdP dx [(ak.ofString "at",.int n)]))
structure LedC where
 plot:ae
 ditch:ae
 beside:ae
end SH
namespace L2
def Xnt  (rv:Vals (ns.map V.int) a7):∃ps:List (Int×Tok),a7=ps.map (λp=>aa.int p.1 p.2)/\ps.map (·.1)=ns:=by
 induction ns generalizing a7 with
 | nil=>cases rv;exact⟨[],rfl,rfl⟩
 | cons n t ih=>
  cases rv with
  | cons r t'=>
   obtain⟨tk,rfl⟩:=r;obtain⟨ps,rfl,e⟩:=ih t';exact⟨(n,tk)::ps,rfl,by rw[O5,e]⟩
theorem Xe6(ps:List (Int×Tok)):∀j,j<=ps.length->sj (nC ps.toArray) j=((ps.map (·.1)).take j).sum
 | 0,_=>rfl
 | j+1,h=>by
  have e:sj (nC ps.toArray) (j+1)=sj (nC ps.toArray) j+nC ps.toArray j:=rfl;have hj:j<(ps.map (·.1)).length:=by rw[Od];lia
  rw[e,Xe6 ps j (by lia),O3 hj,List.sum_append];congr 1;unfold nC;rw[Rb,Oe (by lia),Qo];simp
section
variable {X:Cx}
end
end L2
namespace SH
open L2
abbrev dN:ak×Za:=(ak.empty,[])
def Nbs (H:Hp) (qs:List ae) (xs:List (ak×Za)):Prop:=qs.length=xs.length/\∀i,i<qs.length->∃p,H (qs.getD i 0)=some (.tup [.str (xs.getD i dN).1,.ref p])/\H p=some (.tup ((xs.getD i dN).2.map V.str))
def Nbs.keep   (h:Nbs H qs xs) (k:∀b w,H b=some (.tup w)->H' b=some (.tup w)):Nbs H' qs xs:=⟨h.1,λi hi=>let ⟨p,a,b⟩:=h.2 i hi; ⟨p,k _ _ a,k _ _ b⟩⟩
def Nbs.same  {xs} (h:Nbs H qs xs) (s:Same H H'):Nbs H' qs xs:=h.keep λ_ _ e=>s _ _ e
def Nbs.nil(H):Nbs H [] []:=⟨rfl,λi hi=>absurd hi (Qk _)⟩
def Nbs.snoc     (h:Nbs H qs xs) (h1:H q=some (.tup [.str x.1,.ref p])) (h2:H p=some (.tup (x.2.map V.str))):Nbs H (qs++[q]) (xs++[x]):=by
 refine⟨by rw[Oh,Oh,h.1];rfl,λi hi=>?_⟩;rw[Oh] at hi;have hi:i<qs.length+1:=hi;by_cases z:i<qs.length
 ·have z2:i<xs.length:=by rw[<-h.1];exact z
  rw[List.getD,List.getD,Pt z,Pt z2];exact h.2 i z
 ·have e:i=qs.length:=by lia
  subst e;refine⟨p,?_,?_⟩
  ·rw[List.getD,Po (Og _),Sg,List.getD,h.1,Po (Og _),Sg];exact h1
  ·rw[List.getD,h.1,Po (Og _),Sg];exact h2
def dNb (q:ak×Za):ar:=.tuple [.str q.1,tupD q.2]
theorem Xe7:∀{qs:List ae} {xs:List (ak×Za)},Nbs H qs xs->DAll H (xs.map dNb) (qs.map V.ref)
 | [],[],_=>Dn
 | [],x::xs,h=>by have:=h.1;simp at this
 | q::qs,[],h=>by have:=h.1;simp at this
 | q::qs,x::xs,h=>by
  obtain⟨p,h1,h2⟩:=h.2 0 (by simp);have h1:H q=some (.tup [.str x.1,.ref p]):=h1;have h2:H p=some (.tup (x.2.map V.str)):=h2;refine Ez ?_ (Xe7 ⟨by simpa using h.1,λi hi=>h.2 (i+1) (by simpa using hi)⟩);unfold dNb DAt;exact⟨q,_,rfl,h1,Ez (by unfold DAt;rfl) (Ez (Dc h2) Dn)⟩
def Xnu    (h:H l=some (.lst (qs.map V.ref))) (n:Nbs H qs xs):DAt H (.list (xs.map dNb)) (.ref l):=Mn h (Xe7 n)
def Nq{xs:List (ak×Za)}(h:∀q∈xs,okN q.1/\∀y∈q.2,okN y):Bo (.list (xs.map dNb))=true:=plainAll_map dNb xs λq hq=>by
 show (Bo (.str q.1)&&(Bo (tupD q.2)&&true))=true;have a:(Bo (.str q.1)&&true)=true:=Xlw (ss:=[q.1]) λy hy=>by rw[Oj.mp hy];exact(h q hq).1
 rw[Bool.and_true] at a;have b:Bo (tupD q.2)=true:=C2 (h q hq).2;rw[a,b];rfl
def Wys (row:Za) (xs:List (ak×Za)):Prop:=∀z∈xs,z.1∈row/\Ad row z.2=true
def Xsa (H:Hp) (t:ae):Nat ⊕ Za->Prop
 | .inl i=>H t=some (.tup [.str "beside",.int i])
 | .inr S=>∃q,H t=some (.tup [.str "told",.ref q])/\H q=some (.tup (S.map V.str))
abbrev NWy:Za:=["_law_bars_here", "_law_names_here", "_law_plot", "_law_told", "_law_name", "_law_other"]
inductive O16 where
 | plot
 | ditch
 | beside (i:Nat)
 | told (S:Za)
open Classical in
structure LedK (K:LD) (C:LedC) (S:ae):Prop where
 fb:ExcF K C.beside
 kb:ExK K C.beside "at"
 eb:LG K (.ref C.beside) (.ref C.beside)=some true
 db:LG K (.ref C.ditch) (.ref C.beside)=some false
 pb:LG K (.ref C.plot) (.ref C.beside)=some false
 dd:LG K (.ref C.ditch) (.ref C.ditch)=some true
 pd:LG K (.ref C.plot) (.ref C.ditch)=some false
 pp:LG K (.ref C.plot) (.ref C.plot)=some true
 ks:LI K (.ref C.beside) (.ref S)=some true
 kv:LI K (.ref C.beside) (.type "ValueError")=some true
 kn:PySem.W.kitAny K (.ref C.beside) ([C.ditch,C.plot].map aa.ref)=some false
end SH
namespace L2
def Dq (c:ae) (q:ak):am->Prop:=λh=>h.CodeRec (.ref c) q
def Dr (f:ae) (fd:au):am->Prop:=λh=>∃o,h.get? f=some o/\o.data = .func fd
def Xnv  : ∀h1 h2:am,Dq c q h1->(∀o,h1.get? c=some o->h2.get? c=some o)->Dq c q h2:=by
 rintro h1 h2 ⟨c1,o,vs,t,e,ho,r⟩ k;cases e;exact⟨c,o,vs,t,rfl,k _ ho,r⟩
def Xe8  : ∀h1 h2:am,Dr f fd h1->(∀o,h1.get? f=some o->h2.get? f=some o)->Dr f fd h2:=by
 rintro h1 h2 ⟨o,ho,r⟩ k;exact⟨o,k _ ho,r⟩
def Xnw    {K}                 {Q}  (hf:H f=some (.ext (Dr f (LK name qual params body scope [] pm (.ref c) dB)))) (hc:H c=some (.ext (Dq c qual))) (S:FnScope N ps scope) (hr:Room (k+1) A) (e0:Env0 P w K mg base A outer s H)
  (hl:vs.length=ps.length) (r:Vals vs us) (hb:cL (LK name qual params body scope [] pm (.ref c) dB) ⟨us,[]⟩=pure (ps.zip us))
  (ht:PE (Co CX P w K mg base N qual scope f (.ref c) A outer s H E) body t) (hq:t (start N vs) H Q):
  bw (ag P w) A (.call (.ref f) ⟨us,[]⟩) (CR CX outer P w H s Q E) s:=by
 obtain⟨⟨of,wq,wt⟩,_⟩:=e0.hok f _ hf;obtain⟨oJ,_⟩:=e0.hok c _ hc;have qX:s.heap.NoLimit:=e0.mod.nolimit.keeps λb o e=>(e0.bs b o e).1;have fB:∀y∈ps.zip us,scope.names.lookup y.1=some .local\/(scope.names.lookup y.1=some .cell/\((bJ (s.heap.objs.size+1) scope.names []).lookup y.1).isSome=true):=λ⟨n,v⟩ hy=>by
  rcases S.par n (Sk hy).1 with q | q
  ·exact .inl q
  ·exact .inr ⟨q,LN _ _ _ (.inl q)⟩
 refine MC hr.depth wq wt S.co S.gen rfl oJ ?_;rw[hb];refine Tf ?_;refine gk S.kind fB λenv he s1 x=>?_;subst he;refine⟨qX.keeps x.toInCall.keep,MD ?_⟩;have I:Inv (Co CX P w K mg base N qual scope f (.ref c) A outer s H E) [] (start N vs) H s1:=Xa3 S hr.hd e0 hl r x;refine aI (ht [] s1 (start N vs) H _ I hq) (λu s' hs=>?_) λe s' hs=>hs;obtain⟨v,H',J,rv,q⟩:=hs;exact⟨v,H',J.os,J.bare,J.base,J.hok,rv,q⟩
def BmOk (mg:ak->Option aa) (base:am):Prop:=∃bm ob,mg "__builtins__" = some (.ref bm)/\bm≠cP/\base.get? bm=some ob/\ob.cls = .type "module" /\ ob.dict=some cP/\ob.data = .plain
def Au (T:ae) (pos:bI) (q:ak) (H:Hp):Prop:=H T=some (.tbl #[]) \/ ∃c,H T=some (.tbl #[aW pos.line,aW pos.col,.ref c])/\H c=some (.ext (Dq c q))
def tLam (T:ae) (q:ak) (params:cM) (body:aE) (scope:bE) (pos:bI):TE:=λ_ H Q=>Au T pos q H /\
 ∀(f c:ae) (pm dB:aa) (H':Hp),H f=none->H' f=some (.ext (Dr f (LK "<lambda>" q params body scope [] pm (.ref c) dB)))->H' c=some (.ext (Dq c q))->Au T pos q H'->(∀b o,H b=some o->b≠T->H' b=some o)->Q (.ref f) H'
section
variable {X:Cx}{T c0:ae}{params:cM}{body:aE}{scope:bE}{pos:bI}{q:ak}
def Xe9    {h':am} {tk} {fd} {o} (I:Inv X pins Z H s) (k:∀b o,s.heap.get? b=some o->h'.get? b=some o) (hsz:s.heap.objs.size<=h'.objs.size) (ho:o.data = .func fd) (j5:o.isFreed=false):
  Inv X pins Z (upd H h'.objs.size (.ext (Dr h'.objs.size fd))) {s with heap:=h'.push o,toks:=tk}:=by
 refine I.laid (t':=tk) (h':=h'.push o) (λb ob e=>Tt _ (k b ob e)) hsz ?_;exact⟨⟨o,am.get?_push_size _ j5,ho⟩,⟨o,am.get?_push_size _ j5⟩,Xe8⟩
def Xfa      {tk}  {o}  (I:Inv X pins Z H s) (hT:H T=some (.tbl #[])) (hx:am.ExtBut T s.heap h') (lr:s.heap.objs.size<=c) (aZ:c<h'.objs.size)
  (kD:h'.CodeRec (.ref c) q) (sq:h'.get? T=some (LP (#[]++ps))) (ho:o.data = .func fd) (j5:o.isFreed=false):
  Inv X pins Z (upd (upd (upd H T (.tbl ps)) c (.ext (Dq c q))) h'.objs.size (.ext (Dr h'.objs.size fd))) {s with heap:=h'.push o,toks:=tk}:=by
 have sr:h'.get? T=some {cls:=.none,data:=.fields ps}:=by simpa using sq
 have nf:∀b u,s.heap.get? b=some u->b≠c/\b≠h'.objs.size:=λb u e=>by
  have z:=O4 (Tr e) lr;exact⟨Oo z,Oo (Qs z aZ)⟩
 have nH:∀b u,H b=some u->b≠c/\b≠h'.objs.size:=λb u e=>by
  have z:=O4 (I.hok.lt e) lr;exact⟨Oo z,Oo (Qs z aZ)⟩
 have nT:∀b,H b=none->b≠T:=λb n z=>by rw[z,hT] at n;cases n
 have kp:∀b u,b≠T->s.heap.get? b=some u->(h'.push o).get? b=some u:=λb u n e=>Tt _ (hx b u n e);have up:∀b u,H b=some u->b≠T->(upd (upd (upd H T (.tbl ps)) c (.ext (Dq c q))) h'.objs.size (.ext (Dr h'.objs.size fd))) b=some u:=λb u e n=>by
  rw[Ae (nH b u e).2,Ae (nH b u e).1,Ae n];exact e
 refine I.step (g':=s.gens) (d':=s.drawn) (t':=tk) (h':=h'.push o) (ch:=[]) (λ_ z=>nomatch z) (λb u _ _ _ e n=>kp b u (nT b n) e) (λb u _ _ _ e n=>⟨u.slots,kp b u (nT b n) e⟩) (λb u _ e n=>?_) (λb u _ e=>?_)
  (λb xs e=>up b _ e λz=>by rw[z,hT] at e;cases e) (λb u v e=>up b _ e λz=>by rw[z,hT] at e;cases e) (λb pz e=>?_) (λm hn=>(hn.extBut hx (nT _ I.free)).push _) ?_ I.bare
 ·rw[Ae (nf b u e).2,Ae (nf b u e).1,Ae (nT b n)];exact n
 ·by_cases z:b=T
  ·exact⟨_,z ▸ Tt _ sr⟩
  ·exact⟨u,kp b u z e⟩
 ·by_cases z:b=T
  ·subst z;rw[hT] at e;cases e;refine⟨ps,?_⟩;rw[Ae (nH b _ hT).2,Ae (nH b _ hT).1,Ab];simp
  ·exact⟨#[],by rw[up b _ e z];simp⟩
 ·intro b u e;by_cases z1:b=h'.objs.size
  ·subst z1;rw[Ab] at e;cases e;exact⟨⟨o,am.get?_push_size _ j5,ho⟩,⟨o,am.get?_push_size _ j5⟩,Xe8⟩
  ·rw[Ae z1] at e;by_cases z2:b=c
   ·subst z2;rw[Ab] at e;cases e;obtain⟨c1,oc,vs,t,e1,l8,r⟩:=kD;cases e1;exact⟨⟨b,oc,vs,t,rfl,Tt _ l8,r⟩,⟨oc,Tt _ l8⟩,Xnv⟩
   ·rw[Ae z2] at e;by_cases z3:b=T
    ·subst z3;rw[Ab] at e;cases e;exact Tt _ sr
    ·rw[Ae z3] at e;refine(I.hok b u e).stay (λd v hd g=>kp d v ?_ g) (λd g=>up d _ g λz=>by rw[z,hT] at g;cases g) λd xs g=>up d _ g λz=>by rw[z,hT] at g;cases g
     rcases hd with rfl | hd
     ·exact z3
     ·intro z;rw[z,hT] at hd;cases hd
def Xnx(jB:BmOk X.mg X.base)(oK:DA params X.env=([],[]))(fK:gq scope X.env=pure [])(gD:X.env.code = .ref c0)(hhd:LO X.K c0 T=true)(hq:X.env.qual ++ "<lambda>" = q):
  PE X (.Lambda params body scope pos) (tLam T q params body scope pos):=by
 intro pins s Z H Q I h;obtain⟨tab,k⟩:=h;obtain⟨bm,ob,b1,b2,b3,b4,b5,b6⟩:=jB;have hg:s.heap.Ns ap X.mg:=I.mod.glob.keeps I.bk;have C:MW s.heap c0 T:=LW I.kIn hhd;have nb:bm≠T:=λz=>by
  have n:=(I.bs bm ob b3).2;rw[z] at n;rcases tab with e | ⟨c,e,_⟩<;>(rw[e] at n;cases n)
 have wu:bm≠ap:=λz=>by
  obtain⟨o,es,ep,e,hd,_⟩:=I.mod.glob;rw[z,e] at b3;cases b3;rw[hd] at b6;cases b6
 have hB:s.heap.BuiltinsAt X.mg T:=⟨bm,ob,b1,b2,wu,nb,I.bk _ _ b3,b4,b5,b6⟩;refine MS oK ?_;rw[hq];rcases tab with e | ⟨c,e,ec⟩
 ·have hP:s.heap.get? T=some (LP #[]):=I.hok T _ e;have wv:ap≠T:=λz=>by
   obtain⟨o,es,ep,e2,hd,_⟩:=hg;rw[z,hP] at e2;cases e2;cases hd
  refine LX (mg:=X.mg) (clos:=[]) fK I.ok.glob hg gD C hP trivial rfl wv hB λc' dB h' tk hx lr aZ kD sq=>?_;have J:=Xfa (tk:=tk) (o:=MT "<lambda>" q params body scope [] ((X.mg "__name__").getD .none) c' dB) I e hx lr aZ kD sq rfl rfl;have mw:∀b o,H b=some o->b<c':=λb o eb=>O4 (I.hok.lt eb) lr;have ww:c'≠T:=(Oo (mw _ _ e)).symm;have su:c'≠h'.objs.size:=Oo aZ;have wx:T≠h'.objs.size:=Oo (Qs (mw _ _ e) aZ);refine⟨.ref h'.objs.size,_,J,rfl,k _ c' _ dB _ (I.hok.fresh (Rp (R1 lr aZ))) Ab (by rw[Ae su,Ab]) (.inr ⟨c',by rw[Ae wx,Ae ww.symm,Ab],by rw[Ae su,Ab]⟩) λb o eb nb=>?_⟩;rw[Ae (Oo (Qs (mw _ _ eb) aZ)),Ae (Oo (mw _ _ eb)),Ae nb];exact eb
 ·have hP:s.heap.get? T=some (LP #[aW pos.line,aW pos.col,.ref c]):=I.hok T _ e;refine LU (mg:=X.mg) (clos:=[]) (cv:=.ref c) fK I.ok.glob hg gD C hP trivial (by simp[JU,aW]) hB λdB h' tk hk hsz=>?_;have J:=Xe9 (tk:=tk) (fd:=LK "<lambda>" q params body scope [] ((X.mg "__name__").getD .none) (.ref c) dB) (o:={cls:=.type "function",data:=.func (LK "<lambda>" q params body scope [] ((X.mg "__name__").getD .none) (.ref c) dB)}) I hk hsz rfl rfl;have nf:∀b o,H b=some o->b≠h'.objs.size:=λb o eb=>Oo (O4 (I.hok.lt eb) hsz);refine⟨.ref h'.objs.size,_,J,rfl,k _ c _ dB _ (I.hok.fresh hsz) Ab (by rw[Ae (nf _ _ ec)];exact ec) (.inr ⟨c,by rw[Ae (nf _ _ e)];exact e,by rw[Ae (nf _ _ ec)];exact ec⟩) λb o eb _=>?_⟩;rw[Ae (nf b o eb)];exact eb
end
open PySem.W (KasT kas_asc kas_desc kas_rev kas_tail3 kas_descPart kas_count kas_place kas_bin kas_sort kas_ask kas_item kat_run kat_snds kat_kind kat_lt KatLex kat_cons kat_go kat_yes kat_no kat_one kat_nil KatTups)
def Ba {α : Type} (lt:Nat->Nat->Bool):KasT α -> α
 | .ret a=>a
 | .ask i j k=>Ba lt (k (lt i j))
theorem Gp{α β : Type}{lt}{f : α->KasT β}:∀t:KasT α,Ba lt (t.bind f)=Ba lt (f (Ba lt t))
 | .ret _=>rfl
 | .ask i j k=>Gp (k (lt i j))
theorem Xfb{α : Type}{n}{lt}{P}{G}  (hc:∀i j C,i<n->j<n->C (lt i j) s->vU i j C s):
  ∀{t:KasT α},KAll n P t->G (Ba lt t) s->t.kasWp vU G s
 | .ret a,_,h=>h
 | .ask i j k,h,g=>hc i j _ h.1 h.2.1 (Xfb hc (h.2.2 _) g)
theorem KAll.run{α : Type}  {P}:∀{t:KasT α},KAll n P t->P (Ba lt t)
 | .ret a,h=>h
 | .ask i j k,h=>KAll.run (t:=k (lt i j)) (h.2.2 (lt i j))
structure Lin (n:Nat) (lt:Nat->Nat->Bool):Prop where
 irr:∀i,lt i i=false
 tr:∀i j k,lt i j=true->lt j k=true->lt i k=true
 tot:∀i j,i<n->j<n->i≠j->lt i j=true\/lt j i=true
section
variable {n:Nat}{lt:Nat->Nat->Bool}{p:Array Nat}
def Ci (lt:Nat->Nat->Bool) (p:Array Nat) (m:Nat):Prop:=∀i j,i<j->j<m->lt (p.getD i 0) (p.getD j 0)=true
def Xfc (lt:Nat->Nat->Bool) (p:Array Nat) (m:Nat):Prop:=∀i j,i<j->j<m->lt (p.getD j 0) (p.getD i 0)=true
def Gd.size(h:Gd n p):p.size=n:=by
 have:=h.size_eq;simpa using this
def Gd.inj  (h:Gd n p) (hi:i<n) (hj:j<n) (ne:i≠j):p.getD i 0≠p.getD j 0:=λe=>by
 have sz:=h.size;have nd:p.toList.Nodup:=by
  have q:p.toList.Perm (List.range n):=by simpa using h.toList
  exact q.nodup_iff.mpr List.nodup_range
 have dg:i<p.toList.length:=by rw[Os,sz];exact hi
 have fV:j<p.toList.length:=by rw[Os,sz];exact hj
 have e1:p.getD i 0=p.toList[i]:=by simp[Array.getD,sz,hi]
 have e2:p.getD j 0=p.toList[j]:=by simp[Array.getD,sz,hj]
 rw[e1,e2] at e;exact ne ((List.getElem_inj nd).mp e)
def Lin.flip(L:Lin n lt)(h:Gd n p)(hi:i<n)(hj:j<n)(ne:i≠j)(e:lt (p.getD i 0) (p.getD j 0)=false):lt (p.getD j 0) (p.getD i 0)=true:=by
 have hn:0<n:=by lia
 rcases L.tot _ _ (h.lt hn i) (h.lt hn j) (h.inj hi hj ne) with z | z
 ·rw[z] at e;cases e
 ·exact z
def Lin.no(L:Lin n lt)(h:lt i j=true):lt j i=false:=by
 cases e:lt j i with
 | false=>rfl
 | true=>
  have:=L.tr _ _ _ h e;rw[L.irr] at this;cases this
theorem Nr(L:Lin n lt)(h:Gd n p):∀f m,1<=m->m+f<=n->Ci lt p m->m<=Ba lt (kas_asc p f m)/\Ba lt (kas_asc p f m)<=m+f/\Ci lt p (Ba lt (kas_asc p f m)) /\
  (Ba lt (kas_asc p f m)<m+f->lt (p.getD (Ba lt (kas_asc p f m)) 0) (p.getD (Ba lt (kas_asc p f m) - 1) 0)=true)
 | 0,m,_,_,so=>⟨Og _,Og _,so,λz=>absurd z (by show ¬m<m+0;lia)⟩
 | f+1,m,h1,hn,so=>by
  have e:Ba lt (kas_asc p (f+1) m)=Ba lt (if lt (p.getD m 0) (p.getD (m - 1) 0)=true then KasT.ret m else kas_asc p f (m+1)):=rfl;cases c:lt (p.getD m 0) (p.getD (m - 1) 0) with
  | true=>
   rw[e,c,Tk rfl];exact⟨Og _,by show m<=_;lia,so,λ_=>c⟩
  | false=>
   rw[e,c,Tj (by decide)];have c':=L.flip h (by lia) (by lia) (by lia) c;obtain⟨a1,a2,a3,a4⟩:=Nr L h f (m+1) (by lia) (by lia) (λi j gE hj=>by
    by_cases wz:j<m
    ·exact so i j gE wz
    ·have:j=m:=by lia
     subst this;by_cases hi:i=j - 1
     ·subst hi;exact c'
     ·exact L.tr _ _ _ (so i (j - 1) (by lia) (by lia)) c')
   exact⟨by lia,by lia,a3,λz=>a4 (by lia)⟩
theorem Xfd(L:Lin n lt)(h:Gd n p):∀f m,1<=m->m+f<=n->Xfc lt p m->∃r,Ba lt (kas_desc f p m 0)=(p,r,0)/\m<=r/\r<=m+f/\Xfc lt p r
 | 0,m,_,_,so=>⟨m,rfl,Og _,Og _,so⟩
 | f+1,m,h1,hn,so=>by
  have e:Ba lt (kas_desc (f+1) p m 0)=Ba lt (if lt (p.getD m 0) (p.getD (m - 1) 0)=true then (if 0 > 0 then kas_desc f (kas_rev p (m - (0+1)) m) (m+1) 0 else kas_desc f p (m+1) 0)
   else .ask (p.getD (m - 1) 0) (p.getD m 0) λd=>if d=true then .ret (p,m,0) else kas_desc f p (m+1) (0+1)):=rfl
  cases c:lt (p.getD m 0) (p.getD (m - 1) 0) with
  | true=>
   rw[e,c,Tk rfl,Tj (by lia)];obtain⟨r,a1,a2,a3,a4⟩:=Xfd L h f (m+1) (by lia) (by lia) (λi j gE hj=>by
    by_cases wz:j<m
    ·exact so i j gE wz
    ·have:j=m:=by lia
     subst this;by_cases hi:i=j - 1
     ·subst hi;exact c
     ·exact L.tr _ _ _ c (so i (j - 1) (by lia) (by lia)))
   exact⟨r,a1,by lia,by lia,a4⟩
  | false=>
   rw[e,c,Tj (by decide)];have c':=L.flip h (by lia) (by lia) (by lia) c;refine⟨m,?_,Og _,by lia,so⟩;show Ba lt (if lt (p.getD (m - 1) 0) (p.getD m 0)=true then _ else _)=_;rw[Tk c'];rfl
def Im(p:Array Nat)(i):p.getD i 0=(p[i]?).getD 0:=by simp
def Xfe  (hm:m<=p.size) (hi:i<m):(kas_rev p 0 m).getD i 0=p.getD (m - 1 - i) 0:=by
 rw[Im,Im];show ((mirror p 0 m ((m - 0) / 2))[i]?).getD 0=_;rw[lu hm,Tk (by lia)];congr 2
 lia
def Xny(L:Lin n lt)(h:Gd n p)(hn:1<=n):∃m p',Ba lt (kas_count n p)=(m,p')/\1<=m/\m<=n/\Gd n p'/\Ci lt p' m:=by
 have sz:=h.size;unfold kas_count;rw[Gp];obtain⟨a1,a2,a3,a4⟩:=Nr (lt:=lt) L h (n - 1) 1 (Og _) (by lia) (λi j gE hj=>by lia);generalize Ba lt (kas_asc p (n - 1) 1)=r at *;by_cases e1:(r==n)=true
 ·rw[Tk e1];exact⟨r,p,rfl,a1,by lia,h,a3⟩
 ·rw[Tj e1];have rn:r≠n:=λz=>e1 (by rw[z];exact beq_self_eq_true _);by_cases e2:r > 1
  ·rw[Tk e2];refine⟨r,p,?_,a1,by lia,h,a3⟩;show Ba lt (if lt (p.getD 0 0) (p.getD (r - 1) 0)=true then _ else _)=_;rw[Tk (a3 0 (r - 1) (by lia) (by lia))];rfl
  ·rw[Tj e2];obtain rfl:r=1:=by lia
   have a4:=a4 (by lia);unfold kas_descPart;rw[Gp];obtain⟨r2,b1,b2,b3,b4⟩:=Xfd (lt:=lt) L h (n - (1+1)) (1+1) (by lia) (by lia) (λi j gE hj=>by
    have:j=1:=by lia
    subst this;have:i=0:=by lia
    subst this;exact a4)
   rw[b1];dsimp only;rw[Tj (by lia)];unfold kas_tail3;rw[Gp];have zd:=h.rev 0 r2;obtain⟨c1,c2,c3,_⟩:=Nr (lt:=lt) L zd (n - r2) r2 (by lia) (by lia) (λi j gE hj=>by
    rw[Xfe (by lia) (by lia),Xfe (by lia) (by lia)];exact b4 _ _ (by lia) (by lia))
   exact⟨_,_,rfl,by lia,by lia,zd,c3⟩
theorem Nt(L:Lin n lt)(h:Gd n p){k}(hk:k<n)(so:Ci lt p k):∀f l r,r - l<=f->l<=r->r<=k->(∀i,i<l->lt (p.getD i 0) (p.getD k 0)=true)->(∀i,r<=i->i<k->lt (p.getD k 0) (p.getD i 0)=true) ->
  Ba lt (kas_place p k f l r)<=k/\(∀i,i<Ba lt (kas_place p k f l r)->lt (p.getD i 0) (p.getD k 0)=true)/\(∀i,Ba lt (kas_place p k f l r)<=i->i<k->lt (p.getD k 0) (p.getD i 0)=true)
 | 0,l,r,hf,DB,hr,hl,hg=>by
  have:l=r:=by lia
  subst this;exact⟨hr,hl,hg⟩
 | f+1,l,r,hf,DB,hr,hl,hg=>by
  unfold kas_place;by_cases e:l ≥ r
  ·rw[Tk e];have:l=r:=by lia
   subst this;exact⟨hr,hl,hg⟩
  ·rw[Tj e];have e2:Ba lt (KasT.ask (p.getD k 0) (p.getD ((l+r) / 2) 0) λc=>if c=true then kas_place p k f l ((l+r) / 2) else kas_place p k f ((l+r) / 2+1) r)=Ba lt (if lt (p.getD k 0) (p.getD ((l+r) / 2) 0)=true then kas_place p k f l ((l+r) / 2) else kas_place p k f ((l+r) / 2+1) r):=rfl;rw[e2];have oF:l<=(l+r) / 2:=by lia
   have uv:(l+r) / 2<r:=by lia
   generalize (l+r) / 2=md at *;cases c:lt (p.getD k 0) (p.getD md 0) with
   | true=>
    rw[Tk rfl];refine Nt L h hk so f l md (by lia) (by lia) (by lia) hl λi h1 h2=>?_;by_cases e3:i=md
    ·rw[e3];exact c
    ·exact L.tr _ _ _ c (so md i (by lia) h2)
   | false=>
    rw[Tj (by decide)];have c':=L.flip h hk (by lia) (by lia) c;refine Nt L h hk so f (md+1) r (by lia) (by lia) hr (λi hi=>?_) hg;by_cases e3:i=md
    ·rw[e3];exact c'
    ·exact L.tr _ _ _ (so i md (by lia) (by lia)) c'
def Xff(hk:k<p.size)(hl:l<=k)(i):(bubble p k (k - l)).getD i 0=if i=l then p.getD k 0 else if l<i/\i<=k then p.getD (i - 1) 0 else p.getD i 0:=by
 simp only[Im];rw[qt hk _ (by lia),show k - (k - l)=l by lia];by_cases h1:i=l
 ·rw[Tk h1,Tk h1]
 ·rw[Tj h1,Tj h1];by_cases h2:l<i/\i<=k
  ·rw[Tk h2,Tk h2]
  ·rw[Tj h2,Tj h2]
theorem Xfg(L:Lin n lt):∀f (p:Array Nat) k,Gd n p->k+f<=n->Ci lt p k->Ci lt (Ba lt (kas_bin f p k)) (k+f)
 | 0,p,k,_,_,so=>so
 | f+1,p,k,h,hk,so=>by
  have sz:=h.size;have e:Ba lt (kas_bin (f+1) p k)=Ba lt ((kas_place p k k 0 k).bind λl=>kas_bin f (bubble p k (k - l)) (k+1)):=rfl;rw[e,Gp];obtain⟨a1,a2,a3⟩:=Nt (lt:=lt) L h (k:=k) (by lia) so k 0 k (by lia) (by lia) (Og _) (λi z=>absurd z (Qk _)) (λi h1 h2=>by lia);generalize Ba lt (kas_place p k k 0 k)=l at *;have:=Xfg L f (bubble p k (k - l)) (k+1) ((kr p k _).trans h) (by lia) (λi j gE hj=>by
   rw[Xff (by lia) a1,Xff (by lia) a1];by_cases i1:i=l
   ·rw[Tk i1,Tj (by lia),Tk (by lia)];exact a3 _ (by lia) (by lia)
   ·rw[Tj i1];by_cases i2:l<i/\i<=k
    ·rw[Tk i2,Tj (by lia),Tk (by lia)];exact so _ _ (by lia) (by lia)
    ·rw[Tj i2];by_cases j1:j=l
     ·rw[Tk j1];exact a2 i (by lia)
     ·rw[Tj j1];by_cases j2:l<j/\j<=k
      ·rw[Tk j2];by_cases z:i=j - 1
       ·lia
       ·exact so _ _ (by lia) (by lia)
      ·rw[Tj j2];exact so _ _ gE (by lia))
  rw[show k+(f+1)=k+1+f by lia];exact this
def Xnz(L:Lin n lt)(hn:0<n):Ci lt (Ba lt (kas_sort n)) n:=by
 unfold kas_sort;rw[Gp];obtain⟨m,p',e,h1,h2,h3,h4⟩:=Xny (lt:=lt) L (p:=List.toArray (List.range n)) (Sm _) hn;rw[e];dsimp only;by_cases hm:m<n
 ·rw[Tk hm];have:=Xfg L (n - max m 1) p' (max m 1) h3 (by lia) (by rw[show max m 1=m by lia];exact h4)
  rwa [show max m 1+(n - max m 1)=n by lia] at this
 ·rw[Tj hm];have:m=n:=by lia
  subst this;exact h4
end
open PySem.W (KasT kas_asc kas_desc kas_rev kas_tail3 kas_descPart kas_count kas_place kas_bin kas_sort kas_ask kas_item kat_run kat_snds kat_kind kat_lt KatLex kat_cons kat_go kat_yes kat_no kat_one kat_nil KatTups)
def ltL:Za->Za->Bool
 | [],[]=>false
 | [],_::_=>true
 | _::_,[]=>false
 | x::a,y::b=>if x=y then ltL a b else decide (ltS x y)
theorem Nv:∀a,ltL a a=false
 | []=>rfl
 | x::a=>by
  show (if x=x then ltL a a else _)=false;rw[Tk rfl];exact Nv a
theorem Xfh:∀a b c,ltL a b=true->ltL b c=true->ltL a c=true
 | [],[],c,h,_=>by cases h
 | [],_::_,[],_,g=>by cases g
 | [],_::_,_::_,_,_=>rfl
 | _::_,[],_,h,_=>by cases h
 | _::_,_::_,[],_,g=>by cases g
 | x::a,y::b,z::c,h,g=>by
  have h:(if x=y then ltL a b else decide (ltS x y))=true:=h;have g:(if y=z then ltL b c else decide (ltS y z))=true:=g;show (if x=z then ltL a c else decide (ltS x z))=true;by_cases e1:x=y
  ·subst e1;rw[Tk rfl] at h;by_cases e2:x=z
   ·rw[Tk e2] at g ⊢;exact Xfh a b c h g
   ·rw[Tj e2] at g ⊢;exact g
  ·rw[Tj e1] at h;by_cases e2:y=z
   ·subst e2;rw[Tj e1];exact h
   ·rw[Tj e2] at g;have q:=Jw (Tp h) (Tp g);rw[Tj (Hu q)];exact Tl q
theorem Xfi:∀a b,a≠b->ltL a b=true\/ltL b a=true
 | [],[],n=>absurd rfl n
 | [],_::_,_=>.inl rfl
 | _::_,[],_=>.inr rfl
 | x::a,y::b,n=>by
  show (if x=y then ltL a b else decide (ltS x y))=true\/(if y=x then ltL b a else decide (ltS y x))=true;by_cases e:x=y
  ·subst e;rw[Tk rfl,Tk rfl];exact Xfi a b λz=>n (by rw[z])
  ·rw[Tj e,Tj (λz=>e z.symm)];rcases Md x y with z | z
   ·exact .inl (Tl (ltS_of z e))
   ·exact .inr (Tl (ltS_of z λq=>e q.symm))
section
variable {prog:ao}{w:aw}{A:av}{E:Zb}{s:af}
def Xfj (h:am) (v:aa) (ss:Za):Prop:=∃a o xs n,v = .ref a/\h.get? a=some o/\o.cls = .type "tuple" /\ o.data = .seq xs n/\aC xs.toList ss
def TupsO (h:am) (vs:List aa) (Ts:List (Za)):Prop:=vs.length=Ts.length/\∀i,i<vs.length->Xfj h (vs.getD i .none) (Ts.getD i [])
end
section
variable {X:Cx}
end
def Xn0(x y)(xs ys):ltL (x::xs) (y::ys)=if x=y then ltL xs ys else decide (ltS x y):=rfl
def Xn1:ltL [] []=false:=rfl
def Xn2(y)(ys):ltL [] (y::ys)=true:=rfl
def Xn3(x)(xs):ltL (x::xs) []=false:=rfl
def Xn4(A)(s)(a)(t)(c)(u):∃e,SeqAt.EqAt A s (.str a t) (.str c u) e/\(e=true↔a=c):=
 ⟨(a==c),SeqAt.EqAt.str_str a t c u,by simp⟩
def Xn5(A)(s)(a)(t)(c)(u)(prog)(w)(E)(Q)(h:Q (.bool (decide (ltS a c))) s):
  ai (ag prog w) A (richCompare .Lt (.str a t) (.str c u)) Q E s:=
 (PyProof.Rows.lt_str h:ai (ag prog w) A (aF .Lt (.str a t) (.str c u)) Q E s)
section
open PySem.SeqAt
open PySem.AutoSeq1 (wpAny_loadPart')
open PySem.MeetsSeq PySem.MeetsSeq2 PySem.MeetsSeq3
def Xn6(l b)(ay cB)(n n2)(dd mV)(sl mW)(ns ms)(hi:aC ay.toList ns)(hj:aC cB.toList ms):
  Meets (aj.«tuple.__lt__» ⟨[.ref l,.ref b],[]⟩)
   (λ_ R s=>s.heap.get? l=some {cls:=.type "tuple",dict:=dd,data:=.seq ay n,slots:=sl}/\s.heap.get? b=some {cls:=.type "tuple",dict:=mV,data:=.seq cB n2,slots:=mW} /\
    R (.ok (.ret (.bool (ltL ns ms)))) s):=
 .of_wp λprog w A R s h=>by
  obtain⟨hp,g,d,tk,os⟩:=s;obtain⟨hl,hb,h⟩:=h;have f2:=AutoSeq1.sub_tuple_tuple;have z1:ay.size=ns.length:=by rw[<-hi.length];simp
  have z2:cB.size=ms.length:=by rw[<-hj.length];simp
  wp_walk using wpAny_loadPart' hl,wpAny_loadPart' hb,wpAny_forIn_list _ (λrest b s'=>b.1=none/\s'=⟨hp,g,d,tk,os⟩/\∃(vs ws:List aa) (qu qv:Za),rest=vs.zip ws /\
   aC vs qu/\aC ws qv/\qu.length+cB.size=qv.length+ay.size/\R (.ok (.ret (.bool (ltL qu qv)))) ⟨hp,g,d,tk,os⟩) _
  case turn=>
   rintro ⟨y,x⟩ rest b s' ⟨dF,rfl,vs,ws,qu,qv,hz,w4,uz,aN,hR⟩;cases w4 with
   | nil=>rw[List.zip_nil_left] at hz;cases hz
   | cons a t w5=>
    cases uz with
    | nil=>rw[List.zip_nil_right] at hz;cases hz
    | cons c u w6=>
     rw[List.zip_cons_cons] at hz;injection hz with DC sw
     injection DC with hy hx
     subst hy hx;rw[Xn0] at hR;simp only[O2] at aN;obtain⟨e,he,sA⟩:=Xn4 A.in1 ⟨hp,g,d,tk,os⟩ a t c u;refine Te (he prog w _ _ ?_);cases e with
     | true=>
      rw[Tk (sA.mp rfl)] at hR
      wp_walk
      exact⟨rfl,rfl,_,_,_,_,sw,w5,w6,by lia,hR⟩
     | false=>
      rw[Tj (λq=>absurd (sA.mpr q) Ow)] at hR;have DD:=Xn5 A.in1 ⟨hp,g,d,tk,os⟩ a t c u prog w
      wp_walk using DD
      exact⟨_,rfl,by simpa using hR⟩
  case fin=>
   rintro ⟨b1,b2⟩ s' ⟨dF,rfl,vs,ws,qu,qv,hz,w4,uz,aN,hR⟩;simp only at dF;subst dF;have hv:ltL qu qv=decide (ay.size<cB.size):=by
    cases w4 with
    | nil=>
     cases uz with
     | nil=>
      simp only[Qr] at aN;rw[Xn1];exact(Tn (by lia)).symm
     | cons c u hw=>
      simp only[Qr,O2] at aN;rw[Xn2];exact(Tl (by lia)).symm
    | cons a t hv=>
     cases uz with
     | nil=>
      simp only[Qr,O2] at aN;rw[Xn3];exact(Tn (by lia)).symm
     | cons c u hw=>
      rw[List.zip_cons_cons] at hz;cases hz
   rw[hv] at hR
   wp_walk
   exact⟨_,rfl,by simpa [aj.Tuple.tupleCompareSizes] using hR⟩
  case h=>
   exact⟨rfl,rfl,ay.toList,cB.toList,ns,ms,rfl,hi,hj,by lia,h⟩
end
open PySem.W (KasT kas_sort kas_ask kas_item kat_run kat_snds kat_kind kat_lt KatLex kat_cons kat_go kat_yes kat_no kat_one kat_nil KatTups)
section
variable {prog:ao}{w:aw}{A:av}{E:Zb}{s:af}
def Xn7    (hl:cW s.heap l ay) (hb:cW s.heap b cB) (hi:aC ay.toList ns) (hj:aC cB.toList ms)
  (hu:A.units<bu) (h:Q (.bool (ltL ns ms)) s):ai (ag prog w) A (aF .Lt (.ref l) (.ref b)) Q E s:=by
 obtain⟨⟨cls,dd,data,sl⟩,ho,hc,n,hd⟩:=id hl;obtain⟨⟨qY,mV,data2,mW⟩,jz,gl,n2,cE⟩:=id hb;simp only at hc hd gl cE;subst hc hd gl cE;exact richCompare_meets_room (op:=.Lt) ⟨_,ho,rfl⟩ ⟨_,jz,rfl⟩ PySem.F.slot_tuple_lt PySem.F.entry_tuple_lt (PySem.F.args_tuple_lt_2 _ _) (Xn6 l b ay cB n n2 dd mV sl mW ns ms hi hj)
  ⟨ho,jz,show aa.bool (ltL ns ms)≠aa.notImplemented/\Q (.bool (ltL ns ms)) s from ⟨(λx=>nomatch x),h⟩⟩ hu
def C4 (n:Nat) (a:Za) (m:Nat) (b:Za):Bool:=if n=m then ltL a b else decide (n<m)
def Xfk  (h:aC vs ss):ItemsAre (Be prog w) (ss.map Sum.inr) vs:=by
 induction h with
 | nil=>exact .nil
 | cons x t r ih=>exact .cons (show D9 (.inr x) (.str x t)=true by simp[D9,aa.isStrOf]) ih
def Io (h:am) (v:aa) (n:Nat) (ss:Za):Prop:=∃a o xs k t u,v = .ref a/\h.get? a=some o/\o.cls = .type "tuple" /\ o.data = .seq xs k/\xs.toList=[.int n t,u]/\Xfj h u ss
def Xn8    (hu:A.units<bu) (hx:Io s.heap x n as) (hy:Io s.heap y m bs) (h:C (C4 n as m bs) s):ai (ag prog w) A (mh (tuples' true) x y) C E s:=by
 obtain⟨a,o,xs,k,t,u,rfl,h1,h2,h3,h4,h5⟩:=hx;obtain⟨b,o',ys,k',t',u',rfl,g1,g2,g3,g4,g5⟩:=hy;refine kat_lt h1 h3 g1 g3 ?_;rw[h4,g4];have ef:decide (xs.size<ys.size)=false:=by
  have e1:xs.size=2:=by rw[<-Os,h4];rfl
  have e2:ys.size=2:=by rw[<-Os,g4];rfl
  rw[e1,e2];decide
 rw[ef];show KatLex prog w A true false C [(.int n t,.int m t'),(u,u')] 0 s;unfold C4 at h;refine kat_cons (nZ ?_);refine kat_go (λe=>kat_yes ?_) (λe=>kat_no ?_)
 ·have e:n=m:=by have:=Tp e;lia
  rw[Tk e] at h;obtain⟨c,oc,cs,kc,rfl,c1,c2,c3,c4⟩:=h5;obtain⟨d,od,ds,kd,rfl,d1,d2,d3,d4⟩:=g5;refine kat_cons (wpAny_eqBool_tuple (knd:=Be prog w) hu ⟨oc,cs,kc,c1,c2,c3,Xfk c4⟩ ⟨od,ds,kd,d1,d2,d3,Xfk d4⟩ ?_);refine kat_go (λe2=>kat_yes (kat_nil ?_)) (λe2=>kat_no ?_)
  ·have e2:as=bs:=by
    have:=Tp e2;exact Sw (λ_ _ q=>Qx q) |>.mp this
   rw[e2,Nv] at h;exact h
  ·exact kat_one _ _ (Xn7 ⟨oc,c1,c2,kc,c3⟩ ⟨od,d1,d2,kd,d3⟩ c4 d4 hu h)
 ·have e:¬n=m:=λz=>by
   have:=Tq e
   lia
  rw[Tj e] at h;refine oneLt_int ?_;have:decide ((n:Int)<(m:Int))=decide (n<m):=by simp
  rw[this];exact h
end
open PySem.W (KasT kas_sort kas_ask kas_item kat_run kat_snds kat_kind KatTups)
section
variable {X:Cx}{pins:List (ae×aK)}{Z:List (Option V)}{H:Hp}{s:af}
def Inv.unpin(I:Inv X (p::pins) Z H s):Inv X pins Z H s:=
 I.pins_of λq hq=>I.pin q (O9 _ (Ol _ hq))
def Xn9    (I:Inv X ((D,aq "list" #[] e1)::pins) Z H s) (hD:X.s₀.heap.objs.size<=D) (gF:∀p∈X.pn++pins,p.1≠D) (hv:Vals ys out) (hz:ys.length<=sizeLine):
  Inv X pins Z (upd H D (.lst ys)) {s with heap:=s.heap.update D (aK.mapSeq λ_=>out.toArray)}:=by
 obtain⟨hg,hn,hl,hf,_⟩:=I.pin (D,aq "list" #[] e1) (O9 _ Op);have J:=I.unpin;have sb:=Tu s.heap D (aK.mapSeq λ_=>out.toArray);obtain⟨c2,gl⟩:∃c2,(s.heap.update D (aK.mapSeq λ_=>out.toArray)).get? D=some (aq "list" out.toArray c2):=⟨_,dc hg λ_=>out.toArray⟩;have kp:∀b o,b≠D->s.heap.get? b=some o->(s.heap.update D (aK.mapSeq λ_=>out.toArray)).get? b=some o:=λb o n e=>(sb.2 b n).trans e;have nD:∀b u,H b=some u->b≠D:=λb u e z=>by rw[z,hn] at e;cases e
 have up:∀b u,H b=some u->(upd H D (.lst ys)) b=some u:=λb u e=>by rw[Ae (nD b u e)];exact e
 refine J.step (g':=s.gens) (d':=s.drawn) (t':=s.toks) (ch:=[D]) (λb hb=>?_) (λb o _ _ hc e _=>kp b o (λz=>hc (by rw[z];exact Qm _)) e) (λb o _ _ hc e _=>⟨o.slots,kp b o (λz=>hc (by rw[z];exact Qm _)) e⟩)
  (λb o hc e n=>?_) (λb o hc e=>⟨o,kp b o (λz=>hc (by rw[z];exact Qm _)) e⟩) (λb xs e=>up b _ e) (λb o u e=>up b _ e) (λb pz e=>⟨#[],by rw[up b _ e];simp⟩) (λm hm=>hm.sameBut sb (Ne.symm hl)) ?_ J.bare
 ·rw[Oj.mp hb];refine⟨.inr hD,hl,λx c e z=>?_,λp hp=>gF p hp⟩;obtain⟨v,o,ho,hd⟩:=J.cell x c e;rw[z,hg] at ho;cases ho;cases hd
 ·rw[Ae (λz=>hc (by rw[z];exact Qm _))];exact n
 ·intro b u e;by_cases z:b=D
  ·subst z;rw[Ab] at e;cases e;exact⟨hz,out,c2,hv,gl⟩
  ·rw[Ae z] at e;refine(J.hok b u e).stay (λd v hd g=>kp d v ?_ g) (λd g=>up d _ g) λd xs g=>up d _ g;rcases hd with rfl | hd
   ·exact z
   ·exact nD d _ hd
end
abbrev SM:=StateT aS fJ
def Dg:Bool->ax->Array ax->Nat->Nat->Nat->SM (Option Nat):=sortPriv% PySem.Builtin.gallop
def bey (l:Bool) (k:ax) (c:Array ax) (i:Nat):SM (Option Bool):=do
 let x <-elem' c i
 if l then lt' x k else
  let r <-lt' k x
  return r.map (!·)
def Km (l:Bool) (k:ax) (c:Array ax) (b n u0 v0:Nat):SM (Option Nat):=do
 let mut u:=u0
 let mut v:=v0
 for _ in [0:n] do
  if u ≥ v then break
  let q:=u+(v - u) / 2
  let some m <-bey l k c (b+q) | return none
  if m then u:=q+1 else v:=q
 return some v
def Xoa(l:Bool)(k:ax)(c:Array ax)(b n h:Nat):Dg l k c b n h=(do
  let some r <-bey l k c (b+h) | return none
  if r then
   let mut la:=0
   let mut o:=1
   for _ in [0:n] do
    if o ≥ n - h then break
    let some m <-bey l k c (b+(h+o)) | return none
    if !m then break
    la:=o
    o:=2 * o+1
   Km l k c b n (h+la+1) (h+min o (n - h))
  else
   let mut la:=0
   let mut o:=1
   for _ in [0:n] do
    if o ≥ h+1 then break
    let some m <-bey l k c (b+(h - o)) | return none
    if m then break
    la:=o
    o:=2 * o+1
   Km l k c b n (h+1 - min o (h+1)) (h - la)):=rfl
open PySem.W (kas_item kas_cmp)
structure Wk (lt:Nat->Nat->Bool):Prop where
 up:∀{x y},lt x y=true->lt y x=false
 lt:∀{x y z},lt y x=false->lt z y=false->lt z x=false
def le (lt:Nat->Nat->Bool) (x y:Nat):Bool := !lt y x
section
variable {lt:Nat->Nat->Bool}{x y z:Nat}
def Br(h:lt y x=false):le lt x y=true:=by unfold le;rw[h];rfl
def Fy(h:le lt x y=true):lt y x=false:=by unfold le at h;simpa using h
def Wk.u(L:Wk lt)(h:lt x y=true):le lt x y=true:=Br (L.up h)
def Wk.tr(L:Wk lt)(h:le lt x y=true)(g:le lt y z=true):le lt x z=true:=Br (L.lt (Fy h) (Fy g))
def Wk.ml(L:Wk lt)(h:le lt x y=true)(g:lt y z=true):lt x z=true:=by
 cases e:lt x z with
 | true=>rfl
 | false=>rw[L.lt e (Fy h)] at g;cases g
def Wk.mr(L:Wk lt)(h:lt x y=true)(g:le lt y z=true):lt x z=true:=by
 cases e:lt x z with
 | true=>rfl
 | false=>rw[L.lt (Fy g) e] at h;cases h
def Wk.rf(L:Wk lt):le lt x x=true:=by
 cases e:lt x x with
 | false=>exact Br e
 | true=>exact L.u e
end
structure CmS (prog:ao) (w:aw) (A:av) (s:af) (κ : bX) (it:Array ax) (n:Nat) (lt:Nat->Nat->Bool):Prop where
 L:Wk lt
 c:∀i j (C:Bool->af->Prop),i<n->j<n->C (lt i j) s->kas_cmp prog w A κ it i j C s
def Fk (it:Array ax) (l:List Nat):Array ax:=(l.map (kas_item it)).toArray
section
variable {prog:ao}{w:aw}{A:av}{E:Zb}{s:af}{κ : bX}{it:Array ax}{n:Nat}{lt:Nat->Nat->Bool}
def Ip(hc:CmS prog w A s κ it n lt)  (hx:x<n)(hy:y<n){st}(hk:kindOf st = κ)(h:Q (some (lt x y)) st):dJ (ag prog w) A E s (lt' (kas_item it x) (kas_item it y)) Q st:=by
 rw[lt'_eq];refine Tg (bK ?_);rw[hk];refine Tg (cO (cI (aI (hc.c x y (λb s'=>s'=s/\b=lt x y) hx hy ⟨rfl,rfl⟩) (λb s' e=>?_) λ_ _ hF=>hF.elim)));obtain⟨rfl,rfl⟩:=e;exact⟨rfl,Th h⟩
def Bm   (hi:l[i]? = some x) {st} (h:Q (kas_item it x) st):dJ (ag prog w) A E s (elem' (Fk it l) i) Q st:=by
 rw[elem'_eq];have e:(Fk it l)[i]? = some (kas_item it x):=by
  unfold Fk;rw[Rb,Ov,hi];rfl
 rw[e];exact Th h
def beyB (lt:Nat->Nat->Bool) (l:Bool) (k x:Nat):Bool:=if l then lt x k else !lt k x
def Gq(hc:CmS prog w A s κ it n lt)  {left}  (hi:l[i]? = some x)(hx:x<n)(hk:k<n){st}(jC:kindOf st = κ)(h:Q (some (beyB lt left k x)) st):dJ (ag prog w) A E s (bey left (kas_item it k) (Fk it l) i) Q st:=by
 unfold bey;refine Tg (Bm hi ?_);cases left with
 | true=>
  rw[Tk rfl];exact Ip hc hx hk jC h
 | false=>
  rw[Tj (by decide)];exact Tg (Ip hc hk hx jC (Th h))
structure Mono (m:Nat) (P:Nat->Bool):Prop where
 dn:∀i j,i<j->j<m->P j=true->P i=true
def Mono.up   (M:Mono m P) (h:i<=j) (hj:j<m) (e:P i=false):P j=false:=by
 by_cases z:i=j
 ·rw[<-z];exact e
 ·cases q:P j with
  | false=>rfl
  | true=>rw[M.dn i j (by lia) hj q] at e;cases e
def Gr     {P} {st} (M:Mono m P) (hh:h<m)
  (ask:∀i,i<m->∀Q:Option Bool->aS->Prop,Q (some (P i)) st->dJ (ag prog w) A E s (bey left dm ze (b+i)) Q st) (hq:∀r,r<=m->(∀i,i<r->P i=true)->(∀i,r<=i->i<m->P i=false)->Q (some r) st):dJ (ag prog w) A E s (Dg left dm ze b m h) Q st:=by
 rw[Xoa];have dX:∀(u v:Nat),u<=v->v<=m->(∀i,i<u->P i=true)->(∀i,v<=i->i<m->P i=false) ->
   dJ (ag prog w) A E s (Km left dm ze b m u v) Q st:=by
  intro u v me hv hu DE;unfold Km;refine Tg (bc (aJ (I:=λx c a8=>a8=st/\∃u v,c=(none,u,v)/\u<=v/\v<=m/\v - u<=m - x/\(∀i,i<u->P i=true)/\(∀i,v<=i->i<m->P i=false)) (Q:=λc a8=>a8=st/\∃u,c=(none,u,u)/\u<=m/\(∀i,i<u->P i=true)/\(∀i,u<=i->i<m->P i=false)) ?step ?fin ⟨rfl,u,v,rfl,me,hv,by lia,hu,DE⟩) ?post)
  case fin=>
   rintro c a8 ⟨rfl,u,v,rfl,h1,h2,h3,h4,h5⟩;have:u=v:=by lia
   subst this;exact⟨rfl,u,rfl,h2,h4,h5⟩
  case step=>
   rintro x c a8 _ hx ⟨rfl,u,v,rfl,h1,h2,h3,h4,h5⟩;dsimp only;by_cases e:u ≥ v
   ·rw[Tk e];have:u=v:=by lia
    subst this;exact Th ⟨rfl,u,rfl,h2,h4,h5⟩
   ·rw[Tj e];refine Tg (ask _ (by lia) _ ?_);dsimp only;cases q:P (u+(v - u) / 2) with
    | true=>
     rw[Tk rfl];refine Th ⟨rfl,_,v,rfl,by lia,h2,by lia,λi hi=>?_,h5⟩;by_cases z:i=u+(v - u) / 2
     ·rw[z];exact q
     ·exact M.dn i _ (by lia) (by lia) q
    | false=>
     rw[Tj (by decide)];refine Th ⟨rfl,u,_,rfl,by lia,by lia,by lia,h4,λi hi hm=>M.up hi hm q⟩
  case post=>
   rintro c a8 ⟨rfl,u,rfl,h2,h4,h5⟩;exact Th (hq u h2 h4 h5)
 refine Tg (ask h hh _ ?_);dsimp only;cases q:P h with
 | true=>
  rw[Tk rfl];refine Tg (bc (aJ (I:=λx c a8=>a8=st/\∃la o,c=(none,la,o)/\P (h+la)=true/\h+la<m/\la<o/\x+1<=o) (Q:=λc a8=>a8=st/\∃la o,c=(none,la,o)/\P (h+la)=true/\h+la<m/\la<o/\(h+min o (m - h)<m->P (h+min o (m - h))=false)) ?step ?fin ⟨rfl,0,1,rfl,q,hh,by lia,by lia⟩) ?post)
  case fin=>
   rintro c a8 ⟨rfl,la,o,rfl,h1,h2,h3,h4⟩;exact⟨rfl,la,o,rfl,h1,h2,h3,λz=>by lia⟩
  case step=>
   rintro x c a8 _ hx ⟨rfl,la,o,rfl,h1,h2,h3,h4⟩;dsimp only;by_cases e:o ≥ m - h
   ·rw[Tk e];exact Th ⟨rfl,la,o,rfl,h1,h2,h3,λz=>by lia⟩
   ·rw[Tj e];refine Tg (ask _ (by lia) _ ?_);dsimp only;cases q2:P (h+o) with
    | true=>exact Th ⟨rfl,o,2 * o+1,rfl,q2,by lia,by lia,by lia⟩
    | false=>exact Th ⟨rfl,la,o,rfl,h1,h2,h3,λz=>by rw[show min o (m - h)=o by lia];exact q2⟩
  case post=>
   rintro c a8 ⟨rfl,la,o,rfl,h1,h2,h3,h4⟩;dsimp only;refine dX (h+la+1) (h+min o (m - h)) (by lia) (by lia) (λi hi=>?_) (λi hi hm=>M.up hi hm (h4 (by lia)));by_cases z:i=h+la
   ·rw[z];exact h1
   ·exact M.dn i _ (by lia) h2 h1
 | false=>
  rw[Tj (by decide)];refine Tg (bc (aJ (I:=λx c a8=>a8=st/\∃la o,c=(none,la,o)/\P (h - la)=false/\la<=h/\la<o/\x+1<=o) (Q:=λc a8=>a8=st/\∃la o,c=(none,la,o)/\P (h - la)=false/\la<=h/\la<o/\(o<h+1->P (h - o)=true)) ?step ?fin ⟨rfl,0,1,rfl,q,by lia,by lia,by lia⟩) ?post)
  case fin=>
   rintro c a8 ⟨rfl,la,o,rfl,h1,h2,h3,h4⟩;exact⟨rfl,la,o,rfl,h1,h2,h3,λz=>by lia⟩
  case step=>
   rintro x c a8 _ hx ⟨rfl,la,o,rfl,h1,h2,h3,h4⟩;dsimp only;by_cases e:o ≥ h+1
   ·rw[Tk e];exact Th ⟨rfl,la,o,rfl,h1,h2,h3,λz=>by lia⟩
   ·rw[Tj e];refine Tg (ask _ (by lia) _ ?_);dsimp only;cases q2:P (h - o) with
    | true=>exact Th ⟨rfl,la,o,rfl,h1,h2,h3,λz=>q2⟩
    | false=>exact Th ⟨rfl,o,2 * o+1,rfl,q2,by lia,by lia,by lia⟩
  case post=>
   rintro c a8 ⟨rfl,la,o,rfl,h1,h2,h3,h4⟩;dsimp only;refine dX (h+1 - min o (h+1)) (h - la) (by lia) (by lia) (λi hi=>?_) (λi hi hm=>M.up hi hm h1);have ho:o<h+1:=by lia
   have:=h4 ho;rw[show min o (h+1)=o by lia] at hi;by_cases z:i=h - o
   ·rw[z];exact this
   ·exact M.dn i _ (by lia) (by lia) this
end
open PySem.W (kas_item kas_cmp)
def mLo:Array ax->Array ax->SM (Array ax):=sortPriv% PySem.Builtin.mergeLo
def D1:Nat->SM Unit:=sortPriv% PySem.Builtin.setMinGallop
def Xob(g):D1 g=modify λst=>aS.mk' (kindOf st) (be st) (aY st) g (bg st):=rfl
def dnL (a b o:Array ax) (i j:Nat):Array ax:=o++a.extract i a.size++b.extract j b.size
def lsL (a b o:Array ax) (i j:Nat):Array ax:=o++b.extract j b.size++a.extract i a.size
abbrev MTO:=Option (Array ax)×Array ax×Nat×Nat×Nat
abbrev MTI:=Option (Array ax)×Array ax×Nat×Nat×Nat×Nat
abbrev MTG:=Option (Array ax)×Array ax×Nat×Nat×Nat×Nat×Nat
def Nw (a b:Array ax) (g:Nat) (d:MTI):SM (ForInStep MTI):=do
 let y <-elem' b d.2.2.2.1
 let x <-elem' a d.2.2.1
 let r <-lt' y x
 match r with
 | some c=>
  if c=true then do
   let y <-elem' b d.2.2.2.1
   if (d.2.2.2.1+1==b.size)=true then pure (.done (some (dnL a b (d.2.1.push y) d.2.2.1 (d.2.2.2.1+1)),d.2.1.push y,d.2.2.1,d.2.2.2.1+1,0,d.2.2.2.2.2+1))
   else if d.2.2.2.2.2+1 ≥ g then pure (.done (none,d.2.1.push y,d.2.2.1,d.2.2.2.1+1,0,d.2.2.2.2.2+1))
   else pure (.yield (none,d.2.1.push y,d.2.2.1,d.2.2.2.1+1,0,d.2.2.2.2.2+1))
  else do
   let x <-elem' a d.2.2.1
   if (d.2.2.1+1+1==a.size)=true then pure (.done (some (lsL a b (d.2.1.push x) (d.2.2.1+1) d.2.2.2.1),d.2.1.push x,d.2.2.1+1,d.2.2.2.1,d.2.2.2.2.1+1,0))
   else if d.2.2.2.2.1+1 ≥ g then pure (.done (none,d.2.1.push x,d.2.2.1+1,d.2.2.2.1,d.2.2.2.2.1+1,0))
   else pure (.yield (none,d.2.1.push x,d.2.2.1+1,d.2.2.2.1,d.2.2.2.2.1+1,0))
 | _=>pure (.done (some (dnL a b d.2.1 d.2.2.1 d.2.2.2.1),d.2.1,d.2.2.1,d.2.2.2.1,d.2.2.2.2.1,d.2.2.2.2.2))
def gV3 (a b o:Array ax) (i j g p q:Nat):SM (ForInStep MTG):=do
 let x <-elem' a i
 if (i+1+1==a.size)=true then pure (.done (some (lsL a b (o.push x) (i+1) j),o.push x,i+1,j,g,p,q))
 else if (decide (p<7)&&decide (q<7))=true then pure (.done (none,o.push x,i+1,j,g,p,q))
 else pure (.yield (none,o.push x,i+1,j,g,p,q))
def gV2 (a b o:Array ax) (i j g p q:Nat):SM (ForInStep MTG):=do
 let y <-elem' b j
 if (j+1==b.size)=true then pure (.done (some (dnL a b (o.push y) i (j+1)),o.push y,i,j+1,g,p,q))
 else do
  let x <-elem' a i
  let r <-Dg true x b (j+1) (b.size - (j+1)) 0
  match r with
  | some k=>
   if k > 0 then
    if (j+1+k==b.size)=true then pure (.done (some (dnL a b (o.push y++b.extract (j+1) (j+1+k)) i (j+1+k)),o.push y++b.extract (j+1) (j+1+k),i,j+1+k,g,p,k))
    else gV3 a b (o.push y++b.extract (j+1) (j+1+k)) i (j+1+k) g p k
   else gV3 a b (o.push y) i (j+1) g p k
  | _=>pure (.done (some (dnL a b (o.push y) i (j+1)),o.push y,i,j+1,g,p,q))
def gV1 (a b o:Array ax) (i j g p q:Nat):SM (ForInStep MTG):=do
 D1 g
 let y <-elem' b j
 let r <-Dg false y a i (a.size - i) 0
 match r with
 | some k=>
  if k > 0 then
   if (i+k+1==a.size)=true then pure (.done (some (lsL a b (o++a.extract i (i+k)) (i+k) j),o++a.extract i (i+k),i+k,j,g,k,q))
   else if (i+k==a.size)=true then pure (.done (some (dnL a b (o++a.extract i (i+k)) (i+k) j),o++a.extract i (i+k),i+k,j,g,k,q))
   else gV2 a b (o++a.extract i (i+k)) (i+k) j g k q
  else gV2 a b o i j g k q
 | _=>pure (.done (some (dnL a b o i j),o,i,j,g,p,q))
def Kn (a b:Array ax) (c:MTO):SM (ForInStep MTO):=do
 let d <-forIn [0:a.size+b.size] ((none,c.2.1,c.2.2.1,c.2.2.2.1,0,0):MTI) λ_ d=>Nw a b c.2.2.2.2 d
 match d.1 with
 | some r=>pure (.done (some r,d.2.1,d.2.2.1,d.2.2.2.1,c.2.2.2.2))
 | none=>do
  liftM (rule "list.sort.gallop")
  let e <-forIn [0:a.size+b.size] ((none,d.2.1,d.2.2.1,d.2.2.2.1,c.2.2.2.2+1,d.2.2.2.2.1,d.2.2.2.2.2):MTG) λ_ e=>
   if e.2.2.2.2.1 > 1 then gV1 a b e.2.1 e.2.2.1 e.2.2.2.1 (e.2.2.2.2.1 - 1) e.2.2.2.2.2.1 e.2.2.2.2.2.2 else gV1 a b e.2.1 e.2.2.1 e.2.2.2.1 e.2.2.2.2.1 e.2.2.2.2.2.1 e.2.2.2.2.2.2
  match e.1 with
  | some r=>pure (.done (some r,e.2.1,e.2.2.1,e.2.2.2.1,e.2.2.2.2.1))
  | none=>do
   D1 (e.2.2.2.2.1+1)
   pure (.yield (none,e.2.1,e.2.2.1,e.2.2.2.1,e.2.2.2.2.1+1))
def Xoc(a b:Array ax):mLo a b=(do
  liftM (rule "list.sort.merge-lo")
  let x0 <-elem' b 0
  let mut o:Array ax := #[x0]
  let mut i:=0
  let mut j:=1
  if j==b.size then return dnL a b o i j
  if i+1==a.size then return lsL a b o i j
  let mut g:=dC (<-get)
  for _ in [0:a.size+b.size] do
   let mut p:=0
   let mut q:=0
   for _ in [0:a.size+b.size] do
    let some c <-lt' (<-elem' b j) (<-elem' a i) | return dnL a b o i j
    if c then
     o:=o.push (<-elem' b j)
     j:=j+1
     q:=q+1
     p:=0
     if j==b.size then return dnL a b o i j
     if q ≥ g then break
    else
     o:=o.push (<-elem' a i)
     i:=i+1
     p:=p+1
     q:=0
     if i+1==a.size then return lsL a b o i j
     if p ≥ g then break
   liftM (rule "list.sort.gallop")
   g:=g+1
   for _ in [0:a.size+b.size] do
    if g > 1 then g:=g - 1
    D1 g
    let some k <-Dg false (<-elem' b j) a i (a.size - i) 0 | return dnL a b o i j
    p:=k
    if k > 0 then
     o:=o++a.extract i (i+k)
     i:=i+k
     if i+1==a.size then return lsL a b o i j
     if i==a.size then return dnL a b o i j
    o:=o.push (<-elem' b j)
    j:=j+1
    if j==b.size then return dnL a b o i j
    let some k <-Dg true (<-elem' a i) b j (b.size - j) 0 | return dnL a b o i j
    q:=k
    if k > 0 then
     o:=o++b.extract j (j+k)
     j:=j+k
     if j==b.size then return dnL a b o i j
    o:=o.push (<-elem' a i)
    i:=i+1
    if i+1==a.size then return lsL a b o i j
    if p<7&&q<7 then break
   g:=g+1
   D1 g
  unsupported "internal:list.sort.merge-bound"):=rfl
def Xod(a b:Array ax):mLo a b=(do
  liftM (rule "list.sort.merge-lo")
  let x0 <-elem' b 0
  if (1==b.size)=true then pure (dnL a b #[x0] 0 1)
  else if (0+1==a.size)=true then pure (lsL a b #[x0] 0 1)
  else do
   let st <-get
   let c <-forIn [0:a.size+b.size] ((none, #[x0],0,1,dC st):MTO) λ_ c=>Kn a b c
   match c.1 with
   | some r=>pure r
   | none=>unsupported "internal:list.sort.merge-bound"):=by
 rw[Xoc];congr 1;funext _u;congr 1;funext x0;dsimp only;congr 1;congr 1;congr 1;funext st;congr 1
 ·congr 1;funext _x c;unfold Kn;congr 1;funext d;obtain⟨r,d⟩:=d;cases r with
  | some r=>rfl
  | none=>
   dsimp only;congr 1;funext _v;congr 1;funext e;obtain⟨r,e⟩:=e;cases r<;>rfl
 ·funext c;obtain⟨r,c⟩:=c;cases r<;>rfl
open PySem.W (kas_item kas_cmp)
section
variable {it:Array ax}
def Iq(l)(x):(Fk it l).push (kas_item it x)=Fk it (l++[x]):=by
 unfold Fk;rw[List.push_toArray,Ot];rfl
def Ds(l m):Fk it l++Fk it m=Fk it (l++m):=by
 unfold Fk;rw[List.append_toArray,Ot]
def D3(l)(i j):(Fk it l).extract i j=Fk it ((l.drop i).take (j - i)):=by
 unfold Fk;rw[List.extract_toArray,List.map_take,List.map_drop]
def Bu(l):(Fk it l).size=l.length:=by
 unfold Fk;rw[Oi,Od]
def Ir(la lb lo)(i j):dnL (Fk it la) (Fk it lb) (Fk it lo) i j=Fk it (lo++la.drop i++lb.drop j):=by
 unfold dnL;rw[D3,D3,Bu,Bu,Ds,Ds,Pk (by rw[Pw];exact Og _),Pk (by rw[Pw];exact Og _)]
def Ko(la lb lo)(i j):lsL (Fk it la) (Fk it lb) (Fk it lo) i j=Fk it (lo++lb.drop j++la.drop i):=by
 unfold lsL;rw[D3,D3,Bu,Bu,Ds,Ds,Pk (by rw[Pw];exact Og _),Pk (by rw[Pw];exact Og _)]
end
structure Two (lt:Nat->Nat->Bool) (n:Nat) (la lb:List Nat):Prop where
 L:Wk lt
 an:∀x∈la,x<n
 bn:∀x∈lb,x<n
 sa:la.Pairwise λx y=>le lt x y=true
 sb:lb.Pairwise λx y=>le lt x y=true
structure MI (lt:Nat->Nat->Bool) (la lb lo:List Nat) (i j:Nat):Prop where
 so:lo.Pairwise λx y=>le lt x y=true
 pm:lo.Perm (la.take i++lb.take j)
 ba:∀x∈lo,∀y∈la.drop i,le lt x y=true
 bb:∀x∈lo,∀y∈lb.drop j,le lt x y=true
section
variable {lt:Nat->Nat->Bool}{n:Nat}{la lb lo:List Nat}{i j k:Nat}
def drop_split(l:List Nat)(i k):l.drop i=(l.drop i).take k++l.drop (i+k):=by
 rw[<-List.drop_drop,Pb]
def take_split(l:List Nat)(i k):l.take (i+k)=l.take i++(l.drop i).take k:=by
 rw[List.take_add]
def MI.chA(T:Two lt n la lb)(m:MI lt la lb lo i j)(h:∀x∈(la.drop i).take k,∀y∈lb.drop j,le lt x y=true):MI lt la lb (lo++(la.drop i).take k) (i+k) j:=by
 have sp:=drop_split la i k;have sd:=T.sa.sublist (Qq i la);rw[sp] at sd;obtain⟨s1,s2,s3⟩:=Pc.mp sd;refine⟨Pc.mpr ⟨m.so,s1,λx hx y hy=>m.ba x hx y (Pp hy)⟩,?_,λx hx y hy=>?_,λx hx y hy=>?_⟩
 ·rw[take_split];refine(m.pm.append_right _).trans ?_;rw[O7,O7];exact P7 _ Qt
 ·rcases Oq.mp hx with z | z
  ·exact m.ba x z y (by rw[sp];exact O9 _ hy)
  ·exact s3 x z y hy
 ·rcases Oq.mp hx with z | z
  ·exact m.bb x z y hy
  ·exact h x z y hy
def MI.chB(T:Two lt n la lb)(m:MI lt la lb lo i j)(h:∀x∈(lb.drop j).take k,∀y∈la.drop i,le lt x y=true):MI lt la lb (lo++(lb.drop j).take k) i (j+k):=by
 have sp:=drop_split lb j k;have sd:=T.sb.sublist (Qq j lb);rw[sp] at sd;obtain⟨s1,s2,s3⟩:=Pc.mp sd;refine⟨Pc.mpr ⟨m.so,s1,λx hx y hy=>m.bb x hx y (Pp hy)⟩,?_,λx hx y hy=>?_,λx hx y hy=>?_⟩
 ·rw[take_split,<-O7];exact m.pm.append_right _
 ·rcases Oq.mp hx with z | z
  ·exact m.ba x z y hy
  ·exact h x z y hy
 ·rcases Oq.mp hx with z | z
  ·exact m.bb x z y (by rw[sp];exact O9 _ hy)
  ·exact s3 x z y hy
def Xfl(la lb)(h:lo.Perm (la.take i++lb.take j)):(lo++la.drop i++lb.drop j).Perm (la++lb):=by
 refine((h.append_right _).append_right _).trans ?_;rw[O7,O7];have e:la++lb=la.take i++(la.drop i++(lb.take j++lb.drop j)):=by rw[Pb,<-O7,Pb]
 rw[e];refine P7 _ ?_;rw[<-O7,<-O7];exact Qt.append_right _
def Mrg (lt:Nat->Nat->Bool) (la lb r:List Nat):Prop:=r.Perm (la++lb)/\r.Pairwise λx y=>le lt x y=true
def MI.endB(T:Two lt n la lb)(m:MI lt la lb lo i j)(h:∀x∈la.drop i,∀y∈lb.drop j,le lt x y=true):Mrg lt la lb (lo++la.drop i++lb.drop j):=by
 refine⟨Xfl la lb m.pm,Pc.mpr ⟨Pc.mpr ⟨m.so,T.sa.sublist (Qq ..),m.ba⟩,T.sb.sublist (Qq ..),λx hx y hy=>?_⟩⟩;rcases Oq.mp hx with z | z
 ·exact m.bb x z y hy
 ·exact h x z y hy
def MI.endA(T:Two lt n la lb)(m:MI lt la lb lo i j)(h:∀x∈lb.drop j,∀y∈la.drop i,le lt x y=true):Mrg lt la lb (lo++lb.drop j++la.drop i):=by
 refine⟨?_,Pc.mpr ⟨Pc.mpr ⟨m.so,T.sb.sublist (Qq ..),m.bb⟩,T.sa.sublist (Qq ..),λx hx y hy=>?_⟩⟩
 ·refine List.Perm.trans ?_ (Xfl la lb m.pm);rw[O7,O7];exact P7 _ Qt
 ·rcases Oq.mp hx with z | z
  ·exact m.ba x z y hy
  ·exact h x z y hy
def Gs{l:List Nat}(L:Wk lt)(so:l.Pairwise λx y=>le lt x y=true)(hz:l[i]? = some z)(h:le lt x z=true):∀y∈l.drop i,le lt x y=true:=by
 intro y hy;obtain⟨hi,e⟩:=Oz.mp hz;rw[Ql hi,e] at hy;have sd:=so.sublist (Qq i l);rw[Ql hi,e] at sd;rcases Ou.mp hy with q | q
 ·rw[q];exact h
 ·exact L.tr h (List.rel_of_pairwise_cons sd q)
end
section
variable {lt:Nat->Nat->Bool}{n:Nat}{la lb lo:List Nat}{i j k:Nat}
def Bi{l:List Nat}(h:i<l.length):l[i]? = some (l.getD i 0):=by
 rw[O6,Oe h];rfl
def Cy{l:List Nat}(h:i<l.length):l.getD i 0∈l:=Qn (Bi h)
def Dt{l:List Nat}(h:i<l.length):(l.drop i).take 1=[l.getD i 0]:=by
 rw[Ql h];show [l[i]]=_;rw[O6,Oe h];rfl
def Kp{l:List Nat}(h:i+1=l.length):l.drop i=[l.getD (l.length - 1) 0]:=by
 have hi:i<l.length:=by lia
 rw[Ql hi,Qi (by lia),show l.length - 1=i by lia,O6,Oe hi];rfl
def D4{l:List Nat}(h:x∈(l.drop i).take k):∃t,t<k/\i+t<l.length/\x=l.getD (i+t) 0:=by
 obtain⟨t,ht,e⟩:=P0.mp h;rw[O0,Pw] at ht;rw[Sc,S9] at e;have hl:i+t<l.length:=by lia
 exact⟨t,by lia,hl,by rw[<-e,O6,Oe hl];rfl⟩
def Gu{l:List Nat}  (h:l.Pairwise R)(eU:a<b)(hb:b<l.length):R (l.getD a 0) (l.getD b 0):=by
 have:=P9.mp h a b (by lia) hb eU
 rwa [show l.getD a 0=l[a] by rw[O6,Oe (show a<l.length by lia)];rfl,show l.getD b 0=l[b] by rw[O6,Oe hb];rfl]
def MI.nil:MI lt la lb [] 0 0:=⟨.nil,.nil,λ_ h=>(nomatch h),λ_ h=>(nomatch h)⟩
end
structure SG (cc st:aS):Prop where
 k:kindOf st=kindOf cc
 a:be st=be cc
 p:aY st=aY cc
 f:bg st=bg cc
def RsI {τ : Type} (it:Array ax) (lt:Nat->Nat->Bool) (la lb:List Nat) (c:Option (Array ax)×Array ax×Nat×Nat × τ):Prop:=∃res,c.1=some (Fk it res)/\Mrg lt la lb res
def NxI {τ : Type} (it:Array ax) (lt:Nat->Nat->Bool) (la lb:List Nat) (m:Nat) (c:Option (Array ax)×Array ax×Nat×Nat × τ):Prop:=∃lo i j t,c=(none,Fk it lo,i,j,t)/\MI lt la lb lo i j/\i+1<la.length/\j<lb.length/\m<i+j
def StI {τ : Type} (it:Array ax) (lt:Nat->Nat->Bool) (la lb:List Nat) (m:Nat) (r:ForInStep (Option (Array ax)×Array ax×Nat×Nat × τ)):Prop:=match r with
 | .done c=>RsI it lt la lb c\/NxI it lt la lb m c
 | .yield c=>NxI it lt la lb m c
def StO {τ : Type} (it:Array ax) (lt:Nat->Nat->Bool) (la lb:List Nat) (m:Nat) (r:ForInStep (Option (Array ax)×Array ax×Nat×Nat × τ)):Prop:=match r with
 | .done c=>RsI it lt la lb c
 | .yield c=>NxI it lt la lb m c
def NxI.mono{τ : Type}    {c:Option (Array ax)×Array ax×Nat×Nat × τ}(h:NxI it lt la lb m c)(hm:m'<=m):NxI it lt la lb m' c:=by
 obtain⟨lo,i,j,t,e,a1,a2,a3,a4⟩:=h;exact⟨lo,i,j,t,e,a1,a2,a3,by lia⟩
section
variable {prog:ao}{w:aw}{A:av}{E:Zb}{s:af}{κ : bX}{it:Array ax}{n:Nat}{lt:Nat->Nat->Bool}{la lb lo:List Nat}{i j k g p q:Nat}{cc st:aS}
def wS_setG(sg:SG cc st)(h:∀a8,SG cc a8->Q () a8):dJ (ag prog w) A E s (D1 g) Q st:=by
 rw[Xob];exact bP (h _ ⟨sg.k,sg.a,sg.p,sg.f⟩)
def Xoe(hc:CmS prog w A s κ it n lt)(T:Two lt n la lb)(top:∀x∈lb,lt x (la.getD (la.length - 1) 0)=true)(hk:kindOf cc = κ)(sg:SG cc st)(m:MI lt la lb lo i j)(hi:i+1<la.length)(hj:j<lb.length)(h:∀r,StI it lt la lb (i+j) r->Q r st):dJ (ag prog w) A E s (Nw (Fk it la) (Fk it lb) g (none,Fk it lo,i,j,p,q)) Q st:=by
 unfold Nw;dsimp only;have dg:i<la.length:=by lia
 have ea:=Bi dg;have eb:=Bi hj;have ma:=Cy dg;have mb:=Cy hj;refine Tg (Bm eb (Tg (Bm ea (Tg (Ip hc (T.bn _ mb) (T.an _ ma) (sg.k.trans hk) ?_)))));dsimp only;cases c:lt (lb.getD j 0) (la.getD i 0) with
 | true=>
  rw[Tk rfl];refine Tg (Bm eb ?_);rw[Iq,Ir,Bu];have m':=MI.chB (k:=1) T m (by rw[Dt hj];intro x hx y hy;rw[Oj.mp hx];exact Gs T.L T.sa ea (T.L.u c) y hy);rw[Dt hj] at m';by_cases e:(j+1==lb.length)=true
  ·rw[Tk e];have e':j+1=lb.length:=by simpa using e
   exact Th (h _ (.inl ⟨_,rfl,m'.endB T (by rw[Qi (by lia:lb.length<=j+1)];intro _ _ y hy;cases hy)⟩))
  ·rw[Tj e];have e':j+1≠lb.length:=by simpa using e
   by_cases e2:q+1 ≥ g
   ·rw[Tk e2];exact Th (h _ (.inr ⟨_,_,_,_,rfl,m',hi,by lia,by lia⟩))
   ·rw[Tj e2];exact Th (h _ ⟨_,_,_,_,rfl,m',hi,by lia,by lia⟩)
 | false=>
  rw[Tj (by decide)];have c':=Br c;refine Tg (Bm ea ?_);rw[Iq,Ko,Bu];have m':=MI.chA (k:=1) T m (by rw[Dt dg];intro x hx y hy;rw[Oj.mp hx];exact Gs T.L T.sb eb c' y hy);rw[Dt dg] at m';by_cases e:(i+1+1==la.length)=true
  ·rw[Tk e];have e':i+1+1=la.length:=by simpa using e
   exact Th (h _ (.inl ⟨_,rfl,m'.endA T (by rw[Kp e'];intro x hx y hy;rw[Oj.mp hy];exact T.L.u (top x (P1 hx)))⟩))
  ·rw[Tj e];have e':i+1+1≠la.length:=by simpa using e
   by_cases e2:p+1 ≥ g
   ·rw[Tk e2];exact Th (h _ (.inr ⟨_,_,_,_,rfl,m',by lia,hj,by lia⟩))
   ·rw[Tj e2];exact Th (h _ ⟨_,_,_,_,rfl,m',by lia,hj,by lia⟩)
def Xfm(T:Two lt n la lb)(top:∀x∈lb,lt x (la.getD (la.length - 1) 0)=true)(m:MI lt la lb lo i j)(hi:i+1<la.length)(hj:j<lb.length)(c:le lt (la.getD i 0) (lb.getD j 0)=true)  (hm:m0<=i+j)(h:∀r,StI it lt la lb m0 r->Q r st):dJ (ag prog w) A E s (gV3 (Fk it la) (Fk it lb) (Fk it lo) i j g p q) Q st:=by
 unfold gV3;have dg:i<la.length:=by lia
 refine Tg (Bm (Bi dg) ?_);rw[Iq,Ko,Bu];have m':=MI.chA (k:=1) T m (by rw[Dt dg];intro x hx y hy;rw[Oj.mp hx];exact Gs T.L T.sb (Bi hj) c y hy);rw[Dt dg] at m';by_cases e:(i+1+1==la.length)=true
 ·rw[Tk e];have e':i+1+1=la.length:=by simpa using e
  exact Th (h _ (.inl ⟨_,rfl,m'.endA T (by rw[Kp e'];intro x hx y hy;rw[Oj.mp hy];exact T.L.u (top x (P1 hx)))⟩))
 ·rw[Tj e];have e':i+1+1≠la.length:=by simpa using e
  by_cases e2:(decide (p<7)&&decide (q<7))=true
  ·rw[Tk e2];exact Th (h _ (.inr ⟨_,_,_,_,rfl,m',by lia,hj,by lia⟩))
  ·rw[Tj e2];exact Th (h _ ⟨_,_,_,_,rfl,m',by lia,hj,by lia⟩)
def Xfn(hc:CmS prog w A s κ it n lt)(T:Two lt n la lb)(top:∀x∈lb,lt x (la.getD (la.length - 1) 0)=true)(hk:kindOf cc = κ)(sg:SG cc st)(m:MI lt la lb lo i j)(hi:i+1<la.length)(hj:j<lb.length)(c:lt (lb.getD j 0) (la.getD i 0)=true)  (hm:m0<=i+j)(h:∀r,StI it lt la lb m0 r->Q r st):dJ (ag prog w) A E s (gV2 (Fk it la) (Fk it lb) (Fk it lo) i j g p q) Q st:=by
 unfold gV2;have dg:i<la.length:=by lia
 have ea:=Bi dg;have ma:=Cy dg;refine Tg (Bm (Bi hj) ?_);rw[Iq,Ir,Bu];have m':=MI.chB (k:=1) T m (by rw[Dt hj];intro x hx y hy;rw[Oj.mp hx];exact Gs T.L T.sa ea (T.L.u c) y hy);rw[Dt hj] at m';by_cases e:(j+1==lb.length)=true
 ·rw[Tk e];have e':j+1=lb.length:=by simpa using e
  exact Th (h _ (.inl ⟨_,rfl,m'.endB T (by rw[Qi (by lia:lb.length<=j+1)];intro _ _ y hy;cases hy)⟩))
 rw[Tj e];have e':j+1≠lb.length:=by simpa using e
 refine Tg (Bm ea ?_);refine Tg (Gr (P:=λt=>lt (lb.getD (j+1+t) 0) (la.getD i 0)) ⟨λa b eU hb e=>?_⟩ (by lia) (λt ht Q' hq=>?_) λr hr iN lv=>?_)
 ·exact T.L.ml (Gu T.sb (by lia) (by lia)) e
 ·exact Gq hc (Bi (by lia)) (T.bn _ (Cy (by lia))) (T.an _ ma) (sg.k.trans hk) (left:=true) hq
 dsimp only;by_cases kE:r > 0
 ·rw[Tk kE,D3,Ds,Ir,show j+1+r - (j+1)=r by lia];have m2:=MI.chB (k:=r) T m' (λx hx y hy=>by
   obtain⟨t,h1,h2,rfl⟩:=D4 hx;exact Gs T.L T.sa ea (T.L.u (iN t h1)) y hy)
  by_cases e3:(j+1+r==lb.length)=true
  ·rw[Tk e3];have m4:j+1+r=lb.length:=by simpa using e3
   exact Th (h _ (.inl ⟨_,rfl,m2.endB T (by rw[Qi (by lia:lb.length<=j+1+r)];intro _ _ y hy;cases hy)⟩))
  ·rw[Tj e3];have m4:j+1+r≠lb.length:=by simpa using e3
   have DF:j+1+r<lb.length:=by lia
   exact Xfm T top m2 hi DF (Br (lv r (Og _) (by lia))) (by lia) h
 ·rw[Tj kE];have hz:=lv 0 (by lia) (by lia);exact Xfm T top m' hi (by lia) (Br hz) (by lia) h
def Xfo(hc:CmS prog w A s κ it n lt)(T:Two lt n la lb)(top:∀x∈lb,lt x (la.getD (la.length - 1) 0)=true)(hk:kindOf cc = κ)(sg:SG cc st)(m:MI lt la lb lo i j)(hi:i+1<la.length)(hj:j<lb.length)(h:∀r a8,SG cc a8->StI it lt la lb (i+j) r->Q r a8):dJ (ag prog w) A E s (gV1 (Fk it la) (Fk it lb) (Fk it lo) i j g p q) Q st:=by
 unfold gV1;refine Tg (wS_setG sg λa8 cC=>?_);have eb:=Bi hj;have mb:=Cy hj;refine Tg (Bm eb ?_);rw[Bu];refine Tg (Gr (P:=λt => !lt (lb.getD j 0) (la.getD (i+t) 0)) ⟨λa b eU hb e=>?_⟩ (by lia) (λt ht Q' hq=>?_) λr hr iN lv=>?_)
 ·have e:lt (lb.getD j 0) (la.getD (i+b) 0)=false:=by simpa using e
  cases q:lt (lb.getD j 0) (la.getD (i+a) 0) with
  | false=>rfl
  | true=>
   have:=T.L.mr q (Gu T.sa (show i+a<i+b by lia) (by lia));rw[this] at e;cases e
 ·exact Gq hc (Bi (by lia)) (T.an _ (Cy (by lia))) (T.bn _ mb) (cC.k.trans hk) (left:=false) hq
 dsimp only;have tp:=top _ mb;have cr:r<la.length - i:=by
  rcases Nat.lt_or_ge r (la.length - i) with z | z
  ·exact z
  ·have:=iN (la.length - 1 - i) (by lia);rw[show i+(la.length - 1 - i)=la.length - 1 by lia,tp] at this;cases this
 have jk:lt (lb.getD j 0) (la.getD (i+r) 0)=true:=by
  have:=lv r (Og _) cr;simpa using this
 by_cases kE:r > 0
 ·rw[Tk kE,D3,Ds,Ir,Ko,show i+r - i=r by lia];have m2:=MI.chA (k:=r) T m (λx hx y hy=>by
   obtain⟨t,h1,h2,rfl⟩:=D4 hx;have:=iN t h1;exact Gs T.L T.sb eb (Br (by simpa using this)) y hy)
  by_cases e3:(i+r+1==la.length)=true
  ·rw[Tk e3];have m4:i+r+1=la.length:=by simpa using e3
   exact Th (h _ _ cC (.inl ⟨_,rfl,m2.endA T (by rw[Kp m4];intro x hx y hy;rw[Oj.mp hy];exact T.L.u (top x (P1 hx)))⟩))
  ·rw[Tj e3];have m4:i+r+1≠la.length:=by simpa using e3
   have e4:¬(i+r==la.length)=true:=by
    simp
    lia
   rw[Tj e4];exact Xfn hc T top hk cC m2 (by lia) hj jk (by lia) λr' oM=>h r' _ cC oM
 ·rw[Tj kE];have:r=0:=by lia
  subst this;exact Xfn hc T top hk cC m hi hj jk (Og _) λr' oM=>h r' _ cC oM
def Xof(hc:CmS prog w A s κ it n lt)(T:Two lt n la lb)(top:∀x∈lb,lt x (la.getD (la.length - 1) 0)=true)(hk:kindOf cc = κ)(sg:SG cc st)(m:MI lt la lb lo i j)(hi:i+1<la.length)(hj:j<lb.length)(h:∀r a8,SG cc a8->StO it lt la lb (i+j) r->Q r a8):dJ (ag prog w) A E s (Kn (Fk it la) (Fk it lb) (none,Fk it lo,i,j,g)) Q st:=by
 unfold Kn;dsimp only;rw[Bu,Bu];refine Tg (bc (aJ (I:=λx c a8=>SG cc a8/\∃jD i' j' t,c=(none,Fk it jD,i',j',t)/\MI lt la lb jD i' j'/\i'+1<la.length/\j'<lb.length/\i+j+x<=i'+j') (Q:=λc a8=>SG cc a8/\(RsI it lt la lb c\/NxI it lt la lb (i+j) c)) ?step ?fin ⟨sg,lo,i,j,_,rfl,m,hi,hj,Og _⟩) ?post)
 case fin=>
  rintro c a8 ⟨cC,jD,i',j',t,rfl,m',h1,h2,h3⟩;exact⟨cC,.inr ⟨jD,i',j',t,rfl,m',h1,h2,by lia⟩⟩
 case step=>
  rintro x c a8 _ hx ⟨cC,jD,i',j',t,rfl,m',h1,h2,h3⟩;refine Xoe hc T top hk cC m' h1 h2 λr hr=>?_;cases r with
  | done c=>
   rcases hr with z | z
   ·exact⟨cC,.inl z⟩
   ·exact⟨cC,.inr (z.mono (by lia))⟩
  | yield c=>
   obtain⟨sC,i2,j2,t2,e,a1,a2,a3,a4⟩:=hr;exact⟨cC,sC,i2,j2,t2,e,a1,a2,a3,by lia⟩
 case post=>
  rintro ⟨r,o1,i1,j1,p1,q1⟩ jY ⟨sD,z⟩;rcases z with ⟨res,e,mr⟩ | ⟨lo1,i2,j2,t,e,m1,a1,a2,a3⟩
  ·obtain rfl:r=some (Fk it res):=e;exact Th (h _ _ sD ⟨res,rfl,mr⟩)
  ·cases e;dsimp only;refine Tg (cO (aR ⟨rfl,?_⟩));refine Tg (bc (aJ (I:=λx c a8=>SG cc a8/\NxI it lt la lb (i+j) c) (Q:=λc a8=>SG cc a8/\(RsI it lt la lb c\/NxI it lt la lb (i+j) c)) ?step ?fin ⟨sD,lo1,i1,j1,_,rfl,m1,a1,a2,a3⟩) ?post)
   case fin=>exact λc a8 z=>⟨z.1,.inr z.2⟩
   case step=>
    rintro x c a8 _ hx ⟨cC,jD,i',j',⟨g',p',q'⟩,rfl,m',h1,h2,h3⟩;dsimp only;have go:∀(r:ForInStep MTG) bY,SG cc bY->StI it lt la lb (i'+j') r->(match r with
     | .done c'=>SG cc bY/\(RsI it lt la lb c'\/NxI it lt la lb (i+j) c')
     | .yield c'=>SG cc bY/\NxI it lt la lb (i+j) c'):=λr bY dL hr=>by
     cases r with
     | done c=>
      rcases hr with z | z
      ·exact⟨dL,.inl z⟩
      ·exact⟨dL,.inr (z.mono (by lia))⟩
     | yield c=>exact⟨dL,NxI.mono hr (by lia)⟩
    by_cases e:g' > 1
    ·rw[Tk e];exact Xfo hc T top hk cC m' h1 h2 λr bY s1 s2=>by have:=go r bY s1 s2;cases r<;>exact this
    ·rw[Tj e];exact Xfo hc T top hk cC m' h1 h2 λr bY s1 s2=>by have:=go r bY s1 s2;cases r<;>exact this
   case post=>
    rintro ⟨r,o2,i2,j2,g2,p2,q2⟩ du ⟨m5,z⟩;rcases z with ⟨res,e,mr⟩ | ⟨sC,i3,j3,t,e,m2,b1,b2,b3⟩
    ·obtain rfl:r=some (Fk it res):=e;exact Th (h _ _ m5 ⟨res,rfl,mr⟩)
    ·cases e;dsimp only;exact Tg (wS_setG m5 λqf w9=>Th (h _ _ w9 ⟨sC,i2,j2,_,rfl,m2,b1,b2,b3⟩))
def Xog(hc:CmS prog w A s κ it n lt)(T:Two lt n la lb)(ha:1<=la.length)(hb:1<=lb.length)(h0:∀y∈la,lt (lb.getD 0 0) y=true)(top:∀x∈lb,lt x (la.getD (la.length - 1) 0)=true)
  (hk:kindOf st = κ) (h:∀res a8,Mrg lt la lb res->SG st a8->Q (Fk it res) a8):dJ (ag prog w) A E s (mLo (Fk it la) (Fk it lb)) Q st:=by
 rw[Xod];have oO:SG st st:=⟨rfl,rfl,rfl,rfl⟩;refine Tg (cO (aR ⟨rfl,?_⟩));have dF:0<lb.length:=hb;refine Tg (Bm (Bi dF) ?_);have e0:(#[kas_item it (lb.getD 0 0)]:Array ax)=Fk it [lb.getD 0 0]:=rfl;rw[e0,Ir,Ko,Bu,Bu];have m1:=MI.chB (k:=1) T (MI.nil (lt:=lt) (la:=la) (lb:=lb)) (by rw[Dt dF];intro x hx y hy;rw[Oj.mp hx];exact T.L.u (h0 y (P1 hy)));rw[Dt dF,Rf,Qc] at m1;by_cases e1:(1==lb.length)=true
 ·rw[Tk e1];have oP:1=lb.length:=by simpa using e1
  exact Th (h _ _ (m1.endB T (by rw[Qi (by lia:lb.length<=1)];intro _ _ y hy;cases hy)) oO)
 rw[Tj e1];have oP:1≠lb.length:=by simpa using e1
 by_cases e2:(0+1==la.length)=true
 ·rw[Tk e2];have u3:0+1=la.length:=by simpa using e2
  exact Th (h _ _ (m1.endA T (by rw[Kp u3];intro x hx y hy;rw[Oj.mp hy];exact T.L.u (top x (P1 hx)))) oO)
 rw[Tj e2];have u3:0+1≠la.length:=by simpa using e2
 refine Tg (bK ?_);refine Tg (bc (aJ (I:=λx c a8=>SG st a8/\NxI it lt la lb x c) (Q:=λc a8=>SG st a8/\RsI it lt la lb c) ?step ?fin ⟨oO,_,_,_,_,rfl,m1,by lia,by lia,by lia⟩) ?post)
 case fin=>
  rintro c a8 ⟨cC,jD,i',j',t,rfl,m',h1,h2,h3⟩
  lia
 case step=>
  rintro x c a8 _ hx ⟨cC,jD,i',j',t,rfl,m',h1,h2,h3⟩;refine Xof hc T top hk cC m' h1 h2 λr bY dL hr=>?_;cases r with
  | done c=>exact⟨dL,hr⟩
  | yield c=>exact⟨dL,NxI.mono hr (by lia)⟩
 case post=>
  rintro ⟨r,o2,i2,j2,g2⟩ du ⟨m5,res,e,mr⟩;obtain rfl:r=some (Fk it res):=e;exact Th (h res _ mr m5)
end
open PySem.W (kas_item kas_cmp)
def mHi:Array ax->Array ax->SM (Array ax):=sortPriv% PySem.Builtin.mergeHi
def dnH (a b o:Array ax) (i j:Nat):Array ax:=a.extract 0 i++b.extract 0 j++o.reverse
def fsH (a b o:Array ax) (i j:Nat):Array ax:=b.extract 0 j++a.extract 0 i++o.reverse
abbrev HTO:=Option (Array ax)×Nat×Nat×Array ax×Nat
abbrev HTI:=Option (Array ax)×Nat×Nat×Array ax×Nat×Nat
abbrev HTG:=Option (Array ax)×Nat×Nat×Array ax×Nat×Nat×Nat
def Nx (a b:Array ax) (g:Nat) (d:HTI):SM (ForInStep HTI):=do
 let y <-elem' b (d.2.2.1 - 1)
 let x <-elem' a (d.2.1 - 1)
 let r <-lt' y x
 match r with
 | some c=>
  if c=true then do
   let x <-elem' a (d.2.1 - 1)
   if (d.2.1 - 1==0)=true then pure (.done (some (dnH a b (d.2.2.2.1.push x) (d.2.1 - 1) d.2.2.1),d.2.1 - 1,d.2.2.1,d.2.2.2.1.push x,d.2.2.2.2.1+1,0))
   else if d.2.2.2.2.1+1 ≥ g then pure (.done (none,d.2.1 - 1,d.2.2.1,d.2.2.2.1.push x,d.2.2.2.2.1+1,0))
   else pure (.yield (none,d.2.1 - 1,d.2.2.1,d.2.2.2.1.push x,d.2.2.2.2.1+1,0))
  else do
   let y <-elem' b (d.2.2.1 - 1)
   if (d.2.2.1 - 1==1)=true then pure (.done (some (fsH a b (d.2.2.2.1.push y) d.2.1 (d.2.2.1 - 1)),d.2.1,d.2.2.1 - 1,d.2.2.2.1.push y,0,d.2.2.2.2.2+1))
   else if d.2.2.2.2.2+1 ≥ g then pure (.done (none,d.2.1,d.2.2.1 - 1,d.2.2.2.1.push y,0,d.2.2.2.2.2+1))
   else pure (.yield (none,d.2.1,d.2.2.1 - 1,d.2.2.2.1.push y,0,d.2.2.2.2.2+1))
 | _=>pure (.done (some (dnH a b d.2.2.2.1 d.2.1 d.2.2.1),d.2.1,d.2.2.1,d.2.2.2.1,d.2.2.2.2.1,d.2.2.2.2.2))
def gH3 (a b o:Array ax) (i j g p q:Nat):SM (ForInStep HTG):=do
 let x <-elem' a (i - 1)
 if (i - 1==0)=true then pure (.done (some (dnH a b (o.push x) (i - 1) j),i - 1,j,o.push x,g,p,q))
 else if (decide (p<7)&&decide (q<7))=true then pure (.done (none,i - 1,j,o.push x,g,p,q))
 else pure (.yield (none,i - 1,j,o.push x,g,p,q))
def gH2 (a b o:Array ax) (i j g p q:Nat):SM (ForInStep HTG):=do
 let y <-elem' b (j - 1)
 if (j - 1==1)=true then pure (.done (some (fsH a b (o.push y) i (j - 1)),i,j - 1,o.push y,g,p,q))
 else do
  let x <-elem' a (i - 1)
  let r <-Dg true x b 0 (j - 1) (j - 1 - 1)
  match r with
  | some r=>
   if j - 1 - r > 0 then
    if (r==1)=true then pure (.done (some (fsH a b (o.push y++(b.extract r (j - 1)).reverse) i r),i,r,o.push y++(b.extract r (j - 1)).reverse,g,p,j - 1 - r))
    else if (r==0)=true then pure (.done (some (dnH a b (o.push y++(b.extract r (j - 1)).reverse) i r),i,r,o.push y++(b.extract r (j - 1)).reverse,g,p,j - 1 - r))
    else gH3 a b (o.push y++(b.extract r (j - 1)).reverse) i r g p (j - 1 - r)
   else gH3 a b (o.push y) i (j - 1) g p (j - 1 - r)
  | _=>pure (.done (some (dnH a b (o.push y) i (j - 1)),i,j - 1,o.push y,g,p,q))
def gH1 (a b o:Array ax) (i j g p q:Nat):SM (ForInStep HTG):=do
 D1 g
 let y <-elem' b (j - 1)
 let r <-Dg false y a 0 i (i - 1)
 match r with
 | some r=>
  if i - r > 0 then
   if (r==0)=true then pure (.done (some (dnH a b (o++(a.extract r i).reverse) r j),r,j,o++(a.extract r i).reverse,g,i - r,q))
   else gH2 a b (o++(a.extract r i).reverse) r j g (i - r) q
  else gH2 a b o i j g (i - r) q
 | _=>pure (.done (some (dnH a b o i j),i,j,o,g,p,q))
def Kq (a b:Array ax) (c:HTO):SM (ForInStep HTO):=do
 let d <-forIn [0:a.size+b.size] ((none,c.2.1,c.2.2.1,c.2.2.2.1,0,0):HTI) λ_ d=>Nx a b c.2.2.2.2 d
 match d.1 with
 | some r=>pure (.done (some r,d.2.1,d.2.2.1,d.2.2.2.1,c.2.2.2.2))
 | none=>do
  liftM (rule "list.sort.gallop")
  let e <-forIn [0:a.size+b.size] ((none,d.2.1,d.2.2.1,d.2.2.2.1,c.2.2.2.2+1,d.2.2.2.2.1,d.2.2.2.2.2):HTG) λ_ e=>
   if e.2.2.2.2.1 > 1 then gH1 a b e.2.2.2.1 e.2.1 e.2.2.1 (e.2.2.2.2.1 - 1) e.2.2.2.2.2.1 e.2.2.2.2.2.2 else gH1 a b e.2.2.2.1 e.2.1 e.2.2.1 e.2.2.2.2.1 e.2.2.2.2.2.1 e.2.2.2.2.2.2
  match e.1 with
  | some r=>pure (.done (some r,e.2.1,e.2.2.1,e.2.2.2.1,e.2.2.2.2.1))
  | none=>do
   D1 (e.2.2.2.2.1+1)
   pure (.yield (none,e.2.1,e.2.2.1,e.2.2.2.1,e.2.2.2.2.1+1))
def Xoh(a b:Array ax):mHi a b=(do
  liftM (rule "list.sort.merge-hi")
  let mut i:=a.size - 1
  let mut j:=b.size
  let x0 <-elem' a i
  let mut o:Array ax := #[x0]
  if i==0 then return dnH a b o i j
  if j==1 then return fsH a b o i j
  let mut g:=dC (<-get)
  for _ in [0:a.size+b.size] do
   let mut p:=0
   let mut q:=0
   for _ in [0:a.size+b.size] do
    let some c <-lt' (<-elem' b (j - 1)) (<-elem' a (i - 1)) | return dnH a b o i j
    if c then
     i:=i - 1
     o:=o.push (<-elem' a i)
     p:=p+1
     q:=0
     if i==0 then return dnH a b o i j
     if p ≥ g then break
    else
     j:=j - 1
     o:=o.push (<-elem' b j)
     q:=q+1
     p:=0
     if j==1 then return fsH a b o i j
     if q ≥ g then break
   liftM (rule "list.sort.gallop")
   g:=g+1
   for _ in [0:a.size+b.size] do
    if g > 1 then g:=g - 1
    D1 g
    let some r <-Dg false (<-elem' b (j - 1)) a 0 i (i - 1) | return dnH a b o i j
    let k:=i - r
    p:=k
    if k > 0 then
     o:=o++(a.extract r i).reverse
     i:=r
     if i==0 then return dnH a b o i j
    j:=j - 1
    o:=o.push (<-elem' b j)
    if j==1 then return fsH a b o i j
    let some r <-Dg true (<-elem' a (i - 1)) b 0 j (j - 1) | return dnH a b o i j
    let k:=j - r
    q:=k
    if k > 0 then
     o:=o++(b.extract r j).reverse
     j:=r
     if j==1 then return fsH a b o i j
     if j==0 then return dnH a b o i j
    i:=i - 1
    o:=o.push (<-elem' a i)
    if i==0 then return dnH a b o i j
    if p<7&&q<7 then break
   g:=g+1
   D1 g
  unsupported "internal:list.sort.merge-bound"):=rfl
def Xoi(a b:Array ax):mHi a b=(do
  liftM (rule "list.sort.merge-hi")
  let x0 <-elem' a (a.size - 1)
  if (a.size - 1==0)=true then pure (dnH a b #[x0] (a.size - 1) b.size)
  else if (b.size==1)=true then pure (fsH a b #[x0] (a.size - 1) b.size)
  else do
   let st <-get
   let c <-forIn [0:a.size+b.size] ((none,a.size - 1,b.size, #[x0],dC st):HTO) λ_ c=>Kq a b c
   match c.1 with
   | some r=>pure r
   | none=>unsupported "internal:list.sort.merge-bound"):=by
 rw[Xoh];congr 1;funext _u;dsimp only;congr 1;funext x0;congr 1;congr 1;congr 1;funext st;congr 1
 ·congr 1;funext _x c;unfold Kq;congr 1;funext d;obtain⟨r,d⟩:=d;cases r with
  | some r=>rfl
  | none=>
   dsimp only;congr 1;funext _v;congr 1;funext e;obtain⟨r,e⟩:=e;cases r<;>rfl
 ·funext c;obtain⟨r,c⟩:=c;cases r<;>rfl
open PySem.W (kas_item kas_cmp)
section
variable {it:Array ax}
def Ny(l):(Fk it l).reverse=Fk it l.reverse:=by
 unfold Fk;rw[List.reverse_toArray,List.map_reverse]
def Kr(l)(j):(Fk it l).extract 0 j=Fk it (l.take j):=by
 rw[D3,Rc,Su]
def Xfp(l lo)(r i):Fk it lo.reverse++((Fk it l).extract r i).reverse=Fk it (((l.take i).drop r)++lo).reverse:=by
 rw[D3,Ny,Ds,List.reverse_append,Se]
def Ks(lo)(x):(Fk it lo.reverse).push (kas_item it x)=Fk it (x::lo).reverse:=by
 rw[Iq,S0]
def Iu(la lb lo)(i j):dnH (Fk it la) (Fk it lb) (Fk it lo.reverse) i j=Fk it (la.take i++lb.take j++lo):=by
 unfold dnH;rw[Kr,Kr,Ny,List.reverse_reverse,Ds,Ds]
def Kt(la lb lo)(i j):fsH (Fk it la) (Fk it lb) (Fk it lo.reverse) i j=Fk it (lb.take j++la.take i++lo):=by
 unfold fsH;rw[Kr,Kr,Ny,List.reverse_reverse,Ds,Ds]
end
structure MJ (lt:Nat->Nat->Bool) (la lb lo:List Nat) (i j:Nat):Prop where
 so:lo.Pairwise λx y=>le lt x y=true
 pm:lo.Perm (la.drop i++lb.drop j)
 ba:∀x∈la.take i,∀y∈lo,le lt x y=true
 bb:∀x∈lb.take j,∀y∈lo,le lt x y=true
section
variable {lt:Nat->Nat->Bool}{n:Nat}{la lb lo:List Nat}{i j k r:Nat}
def Ku{l:List Nat}(h:r<=i):l.take i=l.take r++(l.take i).drop r:=by
 have:=Pb r (l.take i);rw[List.take_take,Qz h] at this;exact this.symm
def Xfq{l:List Nat}(h:r<=i)(hi:i<=l.length):l.drop r=(l.take i).drop r++l.drop i:=by
 have e:=Pb i l;have:=congrArg (List.drop r) e;rw[List.drop_append_of_le_length (by rw[O0];lia)] at this;exact this.symm
def MJ.chA(T:Two lt n la lb)(m:MJ lt la lb lo i j)(hr:r<=i)(hi:i<=la.length)(h:∀x∈lb.take j,∀y∈(la.take i).drop r,le lt x y=true):MJ lt la lb ((la.take i).drop r++lo) r j:=by
 have sd:=T.sa.sublist (P2 i la);rw[Ku hr] at sd;obtain⟨s1,s2,s3⟩:=Pc.mp sd;refine⟨Pc.mpr ⟨s2,m.so,λx hx y hy=>m.ba x (P1 hx) y hy⟩,?_,λx hx y hy=>?_,λx hx y hy=>?_⟩
 ·rw[Xfq hr hi,O7];exact P7 _ m.pm
 ·rcases Oq.mp hy with z | z
  ·exact s3 x hx y z
  ·exact m.ba x (by rw[Ku hr];exact Qa _ hx) y z
 ·rcases Oq.mp hy with z | z
  ·exact h x hx y z
  ·exact m.bb x hx y z
def MJ.chB(T:Two lt n la lb)(m:MJ lt la lb lo i j)(hr:r<=j)(hj:j<=lb.length)(h:∀x∈la.take i,∀y∈(lb.take j).drop r,le lt x y=true):MJ lt la lb ((lb.take j).drop r++lo) i r:=by
 have sd:=T.sb.sublist (P2 j lb);rw[Ku hr] at sd;obtain⟨s1,s2,s3⟩:=Pc.mp sd;refine⟨Pc.mpr ⟨s2,m.so,λx hx y hy=>m.bb x (P1 hx) y hy⟩,?_,λx hx y hy=>?_,λx hx y hy=>?_⟩
 ·rw[Xfq hr hj];refine(P7 _ m.pm).trans ?_;rw[<-O7,<-O7];exact Qt.append_right _
 ·rcases Oq.mp hy with z | z
  ·exact h x hx y z
  ·exact m.ba x hx y z
 ·rcases Oq.mp hy with z | z
  ·exact s3 x hx y z
  ·exact m.bb x (by rw[Ku hr];exact Qa _ hx) y z
def Xfr(h:lo.Perm (la.drop i++lb.drop j)):(la.take i++lb.take j++lo).Perm (la++lb):=by
 refine(P7 _ h).trans ?_;have e:la++lb=la.take i++(la.drop i++(lb.take j++lb.drop j)):=by rw[Pb,<-O7,Pb]
 rw[e,O7];refine P7 _ ?_;rw[<-O7,<-O7];exact Qt.append_right _
def MJ.endD(T:Two lt n la lb)(m:MJ lt la lb lo i j)(h:∀x∈la.take i,∀y∈lb.take j,le lt x y=true):Mrg lt la lb (la.take i++lb.take j++lo):=by
 refine⟨Xfr m.pm,Pc.mpr ⟨Pc.mpr ⟨T.sa.sublist (P2 ..),T.sb.sublist (P2 ..),h⟩,m.so,λx hx y hy=>?_⟩⟩;rcases Oq.mp hx with z | z
 ·exact m.ba x z y hy
 ·exact m.bb x z y hy
def MJ.endF(T:Two lt n la lb)(m:MJ lt la lb lo i j)(h:∀x∈lb.take j,∀y∈la.take i,le lt x y=true):Mrg lt la lb (lb.take j++la.take i++lo):=by
 refine⟨?_,Pc.mpr ⟨Pc.mpr ⟨T.sb.sublist (P2 ..),T.sa.sublist (P2 ..),h⟩,m.so,λx hx y hy=>?_⟩⟩
 ·refine List.Perm.trans ?_ (Xfr m.pm);exact Qt.append_right _
 ·rcases Oq.mp hx with z | z
  ·exact m.bb x z y hy
  ·exact m.ba x z y hy
def Iw{l:List Nat}(L:Wk lt)(so:l.Pairwise λx y=>le lt x y=true)(hi:1<=i)(hl:i<=l.length)(h:le lt (l.getD (i - 1) 0) x=true):∀y∈l.take i,le lt y x=true:=by
 intro y hy;obtain⟨t,ht,e⟩:=P0.mp hy;rw[O0] at ht;rw[Sc] at e;have DG:t<l.length:=by lia
 have ey:y=l.getD t 0:=by rw[<-e,O6,Oe DG];rfl
 by_cases z:t=i - 1
 ·rw[ey,z];exact h
 ·rw[ey];exact L.tr (Gu so (by lia) (by lia)) h
def D6{l:List Nat}(h1:1<=i)(h:i<=l.length):(l.take i).drop (i - 1)=[l.getD (i - 1) 0]:=by
 rw[Se,show i - (i - 1)=1 by lia];exact Dt (by lia)
def Nz{l:List Nat}(h:x∈(l.take i).drop r)(hi:i<=l.length):∃t,r<=t/\t<i/\x=l.getD t 0:=by
 rw[Se] at h;obtain⟨t,h1,h2,e⟩:=D4 h;exact⟨r+t,by lia,by lia,e⟩
def Fz{l:List Nat}(h:x∈l.take i)(hi:i<=l.length):∃t,t<i/\x=l.getD t 0:=by
 obtain⟨t,_,h2,e⟩:=Nz (r:=0) (by rw[Rc];exact h) hi;exact⟨t,h2,e⟩
end
def RsH {τ : Type} (it:Array ax) (lt:Nat->Nat->Bool) (la lb:List Nat) (c:Option (Array ax) × τ):Prop:=∃res,c.1=some (Fk it res)/\Mrg lt la lb res
def NxH {τ : Type} (it:Array ax) (lt:Nat->Nat->Bool) (la lb:List Nat) (m:Nat) (c:Option (Array ax)×Nat×Nat×Array ax × τ):Prop:=∃lo i j t,c=(none,i,j,Fk it lo.reverse,t)/\MJ lt la lb lo i j/\1<=i/\2<=j/\i<=la.length/\j<=lb.length/\i+j<m
def StH {τ : Type} (it:Array ax) (lt:Nat->Nat->Bool) (la lb:List Nat) (m:Nat) (r:ForInStep (Option (Array ax)×Nat×Nat×Array ax × τ)):Prop:=match r with
 | .done c=>RsH it lt la lb c\/NxH it lt la lb m c
 | .yield c=>NxH it lt la lb m c
def SuH {τ : Type} (it:Array ax) (lt:Nat->Nat->Bool) (la lb:List Nat) (m:Nat) (r:ForInStep (Option (Array ax)×Nat×Nat×Array ax × τ)):Prop:=match r with
 | .done c=>RsH it lt la lb c
 | .yield c=>NxH it lt la lb m c
def NxH.mono{τ : Type}    {c:Option (Array ax)×Nat×Nat×Array ax × τ}(h:NxH it lt la lb m c)(hm:m<=m'):NxH it lt la lb m' c:=by
 obtain⟨lo,i,j,t,e,a1,a2,a3,a4,a5,a6⟩:=h;exact⟨lo,i,j,t,e,a1,a2,a3,a4,a5,by lia⟩
section
variable {prog:ao}{w:aw}{A:av}{E:Zb}{s:af}{κ : bX}{it:Array ax}{n:Nat}{lt:Nat->Nat->Bool}{la lb lo:List Nat}{i j k g p q:Nat}{cc st:aS}
def Xoj(hc:CmS prog w A s κ it n lt)(T:Two lt n la lb)(gG:∀y∈la,lt (lb.getD 0 0) y=true)(hk:kindOf cc = κ)(sg:SG cc st)(m:MJ lt la lb lo i j)(hi:1<=i)(hj:2<=j)(ha:i<=la.length)(hb:j<=lb.length)(h:∀r,StH it lt la lb (i+j) r->Q r st):dJ (ag prog w) A E s (Nx (Fk it la) (Fk it lb) g (none,i,j,Fk it lo.reverse,p,q)) Q st:=by
 unfold Nx;dsimp only;have ea:=Bi (show i - 1<la.length by lia);have eb:=Bi (show j - 1<lb.length by lia);have ma:=Cy (show i - 1<la.length by lia);have mb:=Cy (show j - 1<lb.length by lia);refine Tg (Bm eb (Tg (Bm ea (Tg (Ip hc (T.bn _ mb) (T.an _ ma) (sg.k.trans hk) ?_)))));dsimp only;cases c:lt (lb.getD (j - 1) 0) (la.getD (i - 1) 0) with
 | true=>
  rw[Tk rfl];refine Tg (Bm ea ?_);rw[Ks,Iu];have m':=MJ.chA (r:=i - 1) T m (by lia) ha (by rw[D6 hi ha];intro x hx y hy;rw[Oj.mp hy];exact Iw T.L T.sb (by lia) hb (T.L.u c) x hx);rw[D6 hi ha] at m';by_cases e:(i - 1==0)=true
  ·rw[Tk e];have e':i - 1=0:=by simpa using e
   exact Th (h _ (.inl ⟨_,rfl,m'.endD T (by rw[e'];intro _ hx;simp at hx)⟩))
  ·rw[Tj e];have e':i - 1≠0:=by simpa using e
   by_cases e2:p+1 ≥ g
   ·rw[Tk e2];exact Th (h _ (.inr ⟨_,_,_,_,rfl,m',by lia,hj,by lia,hb,by lia⟩))
   ·rw[Tj e2];exact Th (h _ ⟨_,_,_,_,rfl,m',by lia,hj,by lia,hb,by lia⟩)
 | false=>
  rw[Tj (by decide)];have c':=Br c;refine Tg (Bm eb ?_);rw[Ks,Kt];have m':=MJ.chB (r:=j - 1) T m (by lia) hb (by rw[D6 (by lia) hb];intro x hx y hy;rw[Oj.mp hy];exact Iw T.L T.sa hi ha c' x hx);rw[D6 (by lia) hb] at m';by_cases e:(j - 1==1)=true
  ·rw[Tk e];have e':j - 1=1:=by simpa using e
   refine Th (h _ (.inl ⟨_,rfl,m'.endF T λx hx y hy=>?_⟩));obtain⟨t,ht,rfl⟩:=Fz hx (by lia);rw[show t=0 by lia];exact T.L.u (gG y (Pp hy))
  ·rw[Tj e];have e':j - 1≠1:=by simpa using e
   by_cases e2:q+1 ≥ g
   ·rw[Tk e2];exact Th (h _ (.inr ⟨_,_,_,_,rfl,m',hi,by lia,ha,by lia,by lia⟩))
   ·rw[Tj e2];exact Th (h _ ⟨_,_,_,_,rfl,m',hi,by lia,ha,by lia,by lia⟩)
def Xfs(T:Two lt n la lb)(m:MJ lt la lb lo i j)(hi:1<=i)(hj:2<=j)(ha:i<=la.length)(hb:j<=lb.length)(c:∀x∈lb.take j,le lt x (la.getD (i - 1) 0)=true)  (hm:i+j<=m0)(h:∀r,StH it lt la lb m0 r->Q r st):dJ (ag prog w) A E s (gH3 (Fk it la) (Fk it lb) (Fk it lo.reverse) i j g p q) Q st:=by
 unfold gH3;refine Tg (Bm (Bi (show i - 1<la.length by lia)) ?_);rw[Ks,Iu];have m':=MJ.chA (r:=i - 1) T m (by lia) ha (by rw[D6 hi ha];intro x hx y hy;rw[Oj.mp hy];exact c x hx);rw[D6 hi ha] at m';by_cases e:(i - 1==0)=true
 ·rw[Tk e];have e':i - 1=0:=by simpa using e
  exact Th (h _ (.inl ⟨_,rfl,m'.endD T (by rw[e'];intro _ hx;simp at hx)⟩))
 ·rw[Tj e];have e':i - 1≠0:=by simpa using e
  by_cases e2:(decide (p<7)&&decide (q<7))=true
  ·rw[Tk e2];exact Th (h _ (.inr ⟨_,_,_,_,rfl,m',by lia,hj,by lia,hb,by lia⟩))
  ·rw[Tj e2];exact Th (h _ ⟨_,_,_,_,rfl,m',by lia,hj,by lia,hb,by lia⟩)
def Xft(hc:CmS prog w A s κ it n lt)(T:Two lt n la lb)(gG:∀y∈la,lt (lb.getD 0 0) y=true)(hk:kindOf cc = κ)(sg:SG cc st)(m:MJ lt la lb lo i j)(hi:1<=i)(hj:2<=j)(ha:i<=la.length)(hb:j<=lb.length)(c:le lt (la.getD (i - 1) 0) (lb.getD (j - 1) 0)=true)  (hm:i+j<=m0)(h:∀r,StH it lt la lb m0 r->Q r st):dJ (ag prog w) A E s (gH2 (Fk it la) (Fk it lb) (Fk it lo.reverse) i j g p q) Q st:=by
 unfold gH2;have ea:=Bi (show i - 1<la.length by lia);have ma:=Cy (show i - 1<la.length by lia);refine Tg (Bm (Bi (show j - 1<lb.length by lia)) ?_);rw[Ks,Kt];have m':=MJ.chB (r:=j - 1) T m (by lia) hb (by rw[D6 (by lia) hb];intro x hx y hy;rw[Oj.mp hy];exact Iw T.L T.sa hi ha c x hx);rw[D6 (by lia) hb] at m';by_cases e:(j - 1==1)=true
 ·rw[Tk e];have e':j - 1=1:=by simpa using e
  refine Th (h _ (.inl ⟨_,rfl,m'.endF T λx hx y hy=>?_⟩));obtain⟨t,ht,rfl⟩:=Fz hx (by lia);rw[show t=0 by lia];exact T.L.u (gG y (Pp hy))
 rw[Tj e];have e':j - 1≠1:=by simpa using e
 refine Tg (Bm ea ?_);refine Tg (Gr (P:=λt=>lt (lb.getD t 0) (la.getD (i - 1) 0)) ⟨λa b eU dF e=>?_⟩ (by lia) (λt ht Q' hq=>?_) λr hr iN lv=>?_)
 ·exact T.L.ml (Gu T.sb eU (by lia)) e
 ·rw[Qc];exact Gq hc (Bi (by lia)) (T.bn _ (Cy (by lia))) (T.an _ ma) (sg.k.trans hk) (left:=true) hq
 dsimp only;have below:∀z≤r,∀x∈lb.take z,le lt x (la.getD (i - 1) 0)=true:=λz hz x hx=>by
  obtain⟨t,ht,rfl⟩:=Fz hx (by lia);exact T.L.u (iN t (by lia))
 by_cases kE:j - 1 - r > 0
 ·rw[Tk kE,Xfp,Iu,Kt];have m2:=MJ.chB (r:=r) T m' hr (by lia) (λx hx y hy=>by
   obtain⟨t,h1,h2,rfl⟩:=Nz hy (by lia);exact Iw T.L T.sa hi ha (Br (lv t h1 h2)) x hx)
  by_cases e3:(r==1)=true
  ·rw[Tk e3];have m4:r=1:=by simpa using e3
   refine Th (h _ (.inl ⟨_,rfl,m2.endF T λx hx y hy=>?_⟩));obtain⟨t,ht,rfl⟩:=Fz hx (by lia);rw[show t=0 by lia];exact T.L.u (gG y (Pp hy))
  ·rw[Tj e3];have m4:r≠1:=by simpa using e3
   by_cases e4:(r==0)=true
   ·rw[Tk e4];have zf:r=0:=by simpa using e4
    exact Th (h _ (.inl ⟨_,rfl,m2.endD T (by rw[zf];intro _ _ y hy;simp at hy)⟩))
   ·rw[Tj e4];have zf:r≠0:=by simpa using e4
    exact Xfs T m2 hi (by lia) ha (by lia) (below r (Og _)) (by lia) h
 ·rw[Tj kE];exact Xfs T m' hi (by lia) ha (by lia) (below (j - 1) (by lia)) (by lia) h
def Xfu(hc:CmS prog w A s κ it n lt)(T:Two lt n la lb)(gG:∀y∈la,lt (lb.getD 0 0) y=true)(hk:kindOf cc = κ)(sg:SG cc st)(m:MJ lt la lb lo i j)(hi:1<=i)(hj:2<=j)(ha:i<=la.length)(hb:j<=lb.length)(h:∀r a8,SG cc a8->StH it lt la lb (i+j) r->Q r a8):dJ (ag prog w) A E s (gH1 (Fk it la) (Fk it lb) (Fk it lo.reverse) i j g p q) Q st:=by
 unfold gH1;refine Tg (wS_setG sg λa8 cC=>?_);have eb:=Bi (show j - 1<lb.length by lia);have mb:=Cy (show j - 1<lb.length by lia);refine Tg (Bm eb ?_);refine Tg (Gr (P:=λt => !lt (lb.getD (j - 1) 0) (la.getD t 0)) ⟨λa b eU dF e=>?_⟩ (by lia) (λt ht Q' hq=>?_) λr hr iN lv=>?_)
 ·have e:lt (lb.getD (j - 1) 0) (la.getD b 0)=false:=by simpa using e
  cases q:lt (lb.getD (j - 1) 0) (la.getD a 0) with
  | false=>rfl
  | true=>
   have:=T.L.mr q (Gu T.sa eU (by lia));rw[this] at e;cases e
 ·rw[Qc];exact Gq hc (Bi (by lia)) (T.an _ (Cy (by lia))) (T.bn _ mb) (cC.k.trans hk) (left:=false) hq
 dsimp only;have dX:1<=r->le lt (la.getD (r - 1) 0) (lb.getD (j - 1) 0)=true:=λh1=>by
  have:=iN (r - 1) (by lia);exact Br (by simpa using this)
 by_cases kE:i - r > 0
 ·rw[Tk kE,Xfp,Iu];have m2:=MJ.chA (r:=r) T m hr ha (λx hx y hy=>by
   obtain⟨t,h1,h2,rfl⟩:=Nz hy (by lia);have:=lv t h1 h2;exact Iw T.L T.sb (by lia) hb (T.L.u (by simpa using this)) x hx)
  by_cases e3:(r==0)=true
  ·rw[Tk e3];have m4:r=0:=by simpa using e3
   exact Th (h _ _ cC (.inl ⟨_,rfl,m2.endD T (by rw[m4];intro _ hx;simp at hx)⟩))
  ·rw[Tj e3];have m4:r≠0:=by simpa using e3
   exact Xft hc T gG hk cC m2 (by lia) hj (by lia) hb (dX (by lia)) (by lia) λr' oM=>h r' _ cC oM
 ·rw[Tj kE];have:r=i:=by lia
  subst this;exact Xft hc T gG hk cC m hi hj ha hb (dX hi) (Og _) λr' oM=>h r' _ cC oM
def Xok(hc:CmS prog w A s κ it n lt)(T:Two lt n la lb)(gG:∀y∈la,lt (lb.getD 0 0) y=true)(hk:kindOf cc = κ)(sg:SG cc st)(m:MJ lt la lb lo i j)(hi:1<=i)(hj:2<=j)(ha:i<=la.length)(hb:j<=lb.length)(h:∀r a8,SG cc a8->SuH it lt la lb (i+j) r->Q r a8):dJ (ag prog w) A E s (Kq (Fk it la) (Fk it lb) (none,i,j,Fk it lo.reverse,g)) Q st:=by
 unfold Kq;dsimp only;rw[Bu,Bu];refine Tg (bc (aJ (I:=λx c a8=>SG cc a8/\NxH it lt la lb (i+j+1 - x) c) (Q:=λc a8=>SG cc a8/\(RsH it lt la lb c\/NxH it lt la lb (i+j) c)) ?step ?fin ⟨sg,lo,i,j,_,rfl,m,hi,hj,ha,hb,by lia⟩) ?post)
 case fin=>
  rintro c a8 ⟨cC,z⟩;exact⟨cC,.inr (z.mono (by lia))⟩
 case step=>
  rintro x c a8 _ hx ⟨cC,jD,i',j',t,rfl,m',h1,h2,h3,h4,h5⟩;refine Xoj hc T gG hk cC m' h1 h2 h3 h4 λr hr=>?_;cases r with
  | done c=>
   rcases hr with z | z
   ·exact⟨cC,.inl z⟩
   ·exact⟨cC,.inr (z.mono (by lia))⟩
  | yield c=>exact⟨cC,NxH.mono hr (by lia)⟩
 case post=>
  rintro ⟨r,i1,j1,o1,p1,q1⟩ jY ⟨sD,z⟩;rcases z with ⟨res,e,mr⟩ | ⟨lo1,i2,j2,t,e,m1,a1,a2,a3,a4,a5⟩
  ·obtain rfl:r=some (Fk it res):=e;exact Th (h _ _ sD ⟨res,rfl,mr⟩)
  ·cases e;dsimp only;refine Tg (cO (aR ⟨rfl,?_⟩));refine Tg (bc (aJ (I:=λx c a8=>SG cc a8/\NxH it lt la lb (i+j) c) (Q:=λc a8=>SG cc a8/\(RsH it lt la lb c\/NxH it lt la lb (i+j) c)) ?step ?fin ⟨sD,lo1,i1,j1,_,rfl,m1,a1,a2,a3,a4,a5⟩) ?post)
   case fin=>exact λc a8 z=>⟨z.1,.inr z.2⟩
   case step=>
    rintro x c a8 _ hx ⟨cC,jD,i',j',⟨g',p',q'⟩,rfl,m',h1,h2,h3,h4,h5⟩;dsimp only;have go:∀(r:ForInStep HTG) bY,SG cc bY->StH it lt la lb (i'+j') r->(match r with
     | .done c'=>SG cc bY/\(RsH it lt la lb c'\/NxH it lt la lb (i+j) c')
     | .yield c'=>SG cc bY/\NxH it lt la lb (i+j) c'):=λr bY dL hr=>by
     cases r with
     | done c=>
      rcases hr with z | z
      ·exact⟨dL,.inl z⟩
      ·exact⟨dL,.inr (z.mono (by lia))⟩
     | yield c=>exact⟨dL,NxH.mono hr (by lia)⟩
    by_cases e:g' > 1
    ·rw[Tk e];exact Xfu hc T gG hk cC m' h1 h2 h3 h4 λr bY s1 s2=>by have:=go r bY s1 s2;cases r<;>exact this
    ·rw[Tj e];exact Xfu hc T gG hk cC m' h1 h2 h3 h4 λr bY s1 s2=>by have:=go r bY s1 s2;cases r<;>exact this
   case post=>
    rintro ⟨r,i2,j2,o2,g2,p2,q2⟩ du ⟨m5,z⟩;rcases z with ⟨res,e,mr⟩ | ⟨sC,i3,j3,t,e,m2,b1,b2,b3,b4,b5⟩
    ·obtain rfl:r=some (Fk it res):=e;exact Th (h _ _ m5 ⟨res,rfl,mr⟩)
    ·cases e;dsimp only;exact Tg (wS_setG m5 λqf w9=>Th (h _ _ w9 ⟨sC,i2,j2,_,rfl,m2,b1,b2,b3,b4,b5⟩))
def Xol(hc:CmS prog w A s κ it n lt)(T:Two lt n la lb)(ha:1<=la.length)(hb:1<=lb.length)(gG:∀y∈la,lt (lb.getD 0 0) y=true)(top:∀x∈lb,lt x (la.getD (la.length - 1) 0)=true)
  (hk:kindOf st = κ) (h:∀res a8,Mrg lt la lb res->SG st a8->Q (Fk it res) a8):dJ (ag prog w) A E s (mHi (Fk it la) (Fk it lb)) Q st:=by
 rw[Xoi];have oO:SG st st:=⟨rfl,rfl,rfl,rfl⟩;refine Tg (cO (aR ⟨rfl,?_⟩));rw[Bu,Bu];refine Tg (Bm (Bi (show la.length - 1<la.length by lia)) ?_);have e0:(#[kas_item it (la.getD (la.length - 1) 0)]:Array ax)=Fk it [la.getD (la.length - 1) 0].reverse:=rfl;rw[e0,Iu,Kt];have mn:MJ lt la lb [] la.length lb.length:=⟨.nil,by rw[Qi (Og _),Qi (Og _)];exact .nil,λ_ _ _ h=>(nomatch h),λ_ _ _ h=>(nomatch h)⟩;have m1:=MJ.chA (r:=la.length - 1) T mn (by lia) (Og _) (by rw[D6 ha (Og _)];intro x hx y hy;rw[Oj.mp hy];exact T.L.u (top x (Pp hx)));rw[D6 ha (Og _),Pm] at m1;by_cases e1:(la.length - 1==0)=true
 ·rw[Tk e1];have oP:la.length - 1=0:=by simpa using e1
  exact Th (h _ _ (m1.endD T (by rw[oP];intro _ hx;simp at hx)) oO)
 rw[Tj e1];have oP:la.length - 1≠0:=by simpa using e1
 by_cases e2:(lb.length==1)=true
 ·rw[Tk e2];have u3:lb.length=1:=by simpa using e2
  refine Th (h _ _ (m1.endF T λx hx y hy=>?_) oO);obtain⟨t,ht,rfl⟩:=Fz hx (Og _);rw[show t=0 by lia];exact T.L.u (gG y (Pp hy))
 rw[Tj e2];have u3:lb.length≠1:=by simpa using e2
 refine Tg (bK ?_);refine Tg (bc (aJ (I:=λx c a8=>SG st a8/\NxH it lt la lb (la.length+lb.length - x) c) (Q:=λc a8=>SG st a8/\RsH it lt la lb c) ?step ?fin ⟨oO,_,_,_,_,rfl,m1,by lia,by lia,by lia,by lia,by lia⟩) ?post)
 case fin=>
  rintro c a8 ⟨cC,jD,i',j',t,rfl,m',h1,h2,h3,h4,h5⟩
  lia
 case step=>
  rintro x c a8 _ hx ⟨cC,jD,i',j',t,rfl,m',h1,h2,h3,h4,h5⟩;refine Xok hc T gG hk cC m' h1 h2 h3 h4 λr bY dL hr=>?_;cases r with
  | done c=>exact⟨dL,hr⟩
  | yield c=>exact⟨dL,NxH.mono hr (by lia)⟩
 case post=>
  rintro ⟨r,o2,i2,j2,g2⟩ du ⟨m5,res,e,mr⟩;obtain rfl:r=some (Fk it res):=e;exact Th (h res _ mr m5)
end
open PySem.W (kas_item kas_cmp kas_swaps_map)
def SoL (lt:Nat->Nat->Bool) (l:List Nat) (u v:Nat):Prop:=∀i j,u<=i->i<j->j<v->le lt (l.getD i 0) (l.getD j 0)=true
def DeL (lt:Nat->Nat->Bool) (l:List Nat) (u v:Nat):Prop:=∀i j,u<=i->i<j->j<v->le lt (l.getD j 0) (l.getD i 0)=true
structure SA (κ : bX) (it:Array ax) (pd:Array (Nat×Nat×Nat)) (l:List Nat) (st:aS):Prop where
 k:kindOf st = κ
 a:be st=Fk it l
 f:bg st=none
 p:aY st=pd
section
variable {κ : bX}{it:Array ax}{pd:Array (Nat×Nat×Nat)}{l:List Nat}{st:aS}
def Gv:Fk it l=l.toArray.map (kas_item it):=by
 unfold Fk;rw[List.map_toArray]
def Ix(l:List Nat)(k):l.getD k 0=(l.toArray[k]?).getD 0:=by
 rw[Rb,O6]
def Xfv(p:Array Nat)(k):p.toList.getD k 0=(p[k]?).getD 0:=by
 rw[O6,Rs]
def Kv(bD:SA κ it pd l st){i j}(hj:j<=l.length):∃l',SA κ it pd l' (jl st (mirror (be st) i j ((j - i) / 2)))/\l'.Perm l/\∀k,l'.getD k 0=if i<=k/\k<j then l.getD (i+j - 1 - k) 0 else l.getD k 0:=by
 refine⟨(mirror l.toArray i j ((j - i) / 2)).toList,⟨bD.k,?_,bD.f,bD.p⟩,?_,λk=>?_⟩
 ·show mirror (be st) i j ((j - i) / 2)=_;rw[bD.a,Gv,Gv];exact kas_swaps_map (kas_item it) (λk=>i+k) (λk=>j - 1 - k) _ l.toArray
 ·have:=(yU l.toArray i j ((j - i) / 2)).toList;simpa using this
 ·rw[Xfv,lu (by simpa using hj)];split<;>rw[Ix]
def Xom(bD:SA κ it pd l st){k d}(hk:k<l.length)(hd:d<=k):∃l',SA κ it pd l' (jl st (bubble (be st) k (k - d)))/\l'.Perm l/\∀i,l'.getD i 0=if i=d then l.getD k 0 else if d<i/\i<=k then l.getD (i - 1) 0 else l.getD i 0:=by
 refine⟨(bubble l.toArray k (k - d)).toList,⟨bD.k,?_,bD.f,bD.p⟩,?_,λi=>?_⟩
 ·show bubble (be st) k (k - d)=_;rw[bD.a,Gv,Gv];exact kas_swaps_map (kas_item it) (λi=>k - i) (λi=>k - i - 1) _ l.toArray
 ·have:=(kr l.toArray k (k - d)).toList;simpa using this
 ·rw[Xfv,qt (by simpa using hk) _ (by lia),show k - (k - d)=d by lia];split
  ·rw[Ix]
  ·split<;>rw[Ix]
end
section
variable {prog:ao}{w:aw}{A:av}{E:Zb}{s:af}{κ : bX}{it:Array ax}{n:Nat}{lt:Nat->Nat->Bool}{pd:Array (Nat×Nat×Nat)}{l:List Nat}{st:aS}
structure Al (n:Nat) (l:List Nat):Prop where
 pm:l.Perm (List.range n)
def Al.len(h:Al n l):l.length=n:=by rw[h.pm.length_eq,Qf]
def Al.ltn(h:Al n l)(hi:i<n):l.getD i 0<n:=Ps.mp (h.pm.mem_iff.mp (Cy (by rw[h.len];exact hi)))
def Gw(hc:CmS prog w A s κ it n lt)(bD:SA κ it pd l st)(al:Al n l)  (hi:i<n)(hj:j<n)(h:Q (some (lt (l.getD i 0) (l.getD j 0))) st):dJ (ag prog w) A E s (nE i j) Q st:=by
 rw[ltAt'_eq];refine Tg (bK ?_)
 show dJ _ _ _ _ (do  let x <-elem' (be st) i;let y <-elem' (be st) j;lt' x y) Q st;rw[bD.a];have hl:=al.len;exact Tg (Bm (Bi (by lia)) (Tg (Bm (Bi (by lia)) (Ip hc (al.ltn hi) (al.ltn hj) bD.k h))))
def Xfw(L:Wk lt){u v}(so:SoL lt l u v)(me:u<v)(h:le lt (l.getD (v - 1) 0) (l.getD v 0)=true):SoL lt l u (v+1):=λi j h1 h2 h3=>by
 by_cases e:j<v
 ·exact so i j h1 h2 e
 ·have:j=v:=by lia
  subst this;by_cases z:i=j - 1
  ·rw[z];exact h
  ·exact L.tr (so i (j - 1) h1 (by lia) (by lia)) h
def Kw(L:Wk lt){u v}(so:DeL lt l u v)(me:u<v)(h:le lt (l.getD v 0) (l.getD (v - 1) 0)=true):DeL lt l u (v+1):=λi j h1 h2 h3=>by
 by_cases e:j<v
 ·exact so i j h1 h2 e
 ·have:j=v:=by lia
  subst this;by_cases z:i=j - 1
  ·rw[z];exact h
  ·exact L.tr h (so i (j - 1) h1 (by lia) (by lia))
def dsR (lo r k:Nat):SM (Option Nat):=do
 rule "list.sort.descending-run"
 let mut y:=k+1
 let mut z:=0
 for _ in [y:r] do
  let some a <-nE (lo+y) (lo+y - 1) | return none
  if a then
   if z > 0 then ci (lo+y - (z+1)) (lo+y)
   z:=0
  else
   let some b <-nE (lo+y - 1) (lo+y) | return none
   if b then break
   z:=z+1
  y:=y+1
 if z > 0 then ci (lo+y - (z+1)) (lo+y)
 ci lo (lo+y)
 for _ in [y:r] do
  let some a <-nE (lo+y) (lo+y - 1) | return none
  if a then break
  y:=y+1
 return some y
def N0{u v a b:Nat}{l':List Nat}(de:DeL lt l u v)(hv:b<=v)(eq:∀i j,a<=i->i<b->a<=j->j<b->le lt (l.getD i 0) (l.getD j 0)=true)(hu:u<=a)(g:∀k,l'.getD k 0=if a<=k/\k<b then l.getD (a+b - 1 - k) 0 else l.getD k 0):DeL lt l' u v:=λi j h1 h2 h3=>by
 rw[g,g];by_cases c1:a<=i/\i<b
 ·rw[Tk c1];by_cases c2:a<=j/\j<b
  ·rw[Tk c2];exact eq _ _ (by omega) (by omega) (by omega) (by omega)
  ·rw[Tj c2];exact de _ _ (by omega) (by omega) h3
 ·rw[Tj c1];by_cases c2:a<=j/\j<b
  ·rw[Tk c2];exact de _ _ h1 (by omega) (by omega)
  ·rw[Tj c2];exact de _ _ h1 h2 h3
def Xfx(hc:CmS prog w A s κ it n lt)(bD:SA κ it pd l st)(al:Al n l){lo r k:Nat}(hk:1<=k)(JV:k<r)(hn:lo+r=n)(de:DeL lt l lo (lo+k))(nx:lt (l.getD (lo+k) 0) (l.getD (lo+k - 1) 0)=true)
  {Q:Option Nat->aS->Prop} (h:∀m l' a8,SA κ it pd l' a8->l'.Perm l->1<=m->m<=r->SoL lt l' lo (lo+m)->(∀i,i<lo->l'.getD i 0=l.getD i 0)->Q (some m) a8):dJ (ag prog w) A E s (dsR lo r k) Q st:=by
 have L:=hc.L;have hl:=al.len;unfold dsR;refine Tg (cO (aR ⟨rfl,?_⟩))
 let Iv:Nat->Nat->aS->Prop:=λx z a8=>∃l',SA κ it pd l' a8/\l'.Perm l/\(∀i,i<lo->l'.getD i 0=l.getD i 0)/\DeL lt l' lo (lo+x)/\z<x/\∀i j,lo+x - (z+1)<=i->i<lo+x->lo+x - (z+1)<=j->j<lo+x->le lt (l'.getD i 0) (l'.getD j 0)=true
 have tail:∀x z a8,x<=r->2<=x->Iv x z a8->dJ (ag prog w) A E s (do
   if z > 0 then ci (lo+x - (z+1)) (lo+x)
   ci lo (lo+x)
   let mut y:=x
   for _ in [y:r] do
    let some a <-nE (lo+y) (lo+y - 1) | return none
    if a then break
    y:=y+1
   return some y) Q a8:=by
  rintro x z a8 h9 oQ ⟨l1,s1,fg,i9,oR,hz,oT⟩;have hJ:Al n l1:=⟨fg.trans al.pm⟩;have o5:=hJ.len
  have dX:∀l2 du,SA κ it pd l2 du->l2.Perm l->(∀i,i<lo->l2.getD i 0=l.getD i 0)->DeL lt l2 lo (lo+x)->dJ (ag prog w) A E s (do
    ci lo (lo+x)
    let mut y:=x
    for _ in [y:r] do
     let some a <-nE (lo+y) (lo+y - 1) | return none
     if a then break
     y:=y+1
    return some y) Q du:=by
   intro l2 du s2 dM oU wA;have nF:Al n l2:=⟨dM.trans al.pm⟩;have lJ:=nF.len;obtain⟨l3,s3,nG,g3⟩:=Kv s2 (i:=lo) (j:=lo+x) (by omega);refine Tg (fG ?_);have DH:Al n l3:=⟨nG.trans nF.pm⟩;have qw:SoL lt l3 lo (lo+x):=λi j h1 h2 h3=>by
    rw[g3,g3,Tk (by omega),Tk (by omega)];exact wA _ _ (by omega) (by omega) (by omega)
   have pre:∀i,i<lo->l3.getD i 0=l.getD i 0:=λi hi=>by rw[g3,Tj (by omega),oU i hi]
   refine Tg (bc (aJ (I:=λy c a8=>SA κ it pd l3 a8/\c=(none,y)/\SoL lt l3 lo (lo+y)) (Q:=λc a8=>SA κ it pd l3 a8/\∃m,c=(none,m)/\1<=m/\m<=r/\SoL lt l3 lo (lo+m)) ?step ?fin ⟨s3,rfl,qw⟩) ?post)
   case fin=>
    rintro c a8 ⟨q1,rfl,so⟩;exact⟨q1,_,rfl,by omega,by omega,so⟩
   case step=>
    rintro y c a8 ka hy ⟨q1,rfl,so⟩;dsimp only;refine Tg (Gw hc q1 DH (by omega) (by omega) ?_);dsimp only;cases e:lt (l3.getD (lo+y) 0) (l3.getD (lo+y - 1) 0) with
    | true=>
     rw[Tk rfl];exact Th ⟨q1,y,rfl,by omega,by omega,so⟩
    | false=>
     rw[Tj (by decide)];exact Th ⟨q1,rfl,Xfw (v:=lo+y) L so (by omega) (Br e)⟩
   case post=>
    rintro c a8 ⟨q1,m',rfl,a1,a2,a3⟩;exact Th (h m' l3 _ q1 (nG.trans dM) a1 a2 a3 pre)
  by_cases ez:z > 0
  ·rw[Tk ez];obtain⟨l2,s2,dM,g2⟩:=Kv s1 (i:=lo+x - (z+1)) (j:=lo+x) (by omega);refine Tg (fG ?_);exact dX l2 _ s2 (dM.trans fg) (λi hi=>by rw[g2,Tj (by omega),i9 i hi]) (N0 oR (Og _) oT (by omega) g2)
  ·rw[Tj ez];exact dX l1 _ s1 fg i9 oR
 refine Tg (bc (aJ (I:=λx c a8=>∃z,c=(none,x,z)/\Iv x z a8) (Q:=λc a8=>∃x z,c=(none,x,z)/\x<=r/\2<=x/\Iv x z a8) ?step ?fin ⟨0,rfl,l,bD,.refl _,λ_ _=>rfl,Kw (v:=lo+k) L de (by omega) (L.u nx),by omega,λi j h1 h2 h3 h4=>by rw[show i=j by omega];exact L.rf⟩) ?post)
 case fin=>
  rintro c a8 ⟨z,rfl,iv⟩;exact⟨_,z,rfl,by omega,by omega,iv⟩
 case step=>
  rintro x c a8 wB hx ⟨z,rfl,l1,s1,fg,i9,oR,hz,oT⟩;have hJ:Al n l1:=⟨fg.trans al.pm⟩;have o5:=hJ.len;dsimp only;refine Tg (Gw hc s1 hJ (by omega) (by omega) ?_);dsimp only;cases e:lt (l1.getD (lo+x) 0) (l1.getD (lo+x - 1) 0) with
  | true=>
   rw[Tk rfl];by_cases ez:z > 0
   ·rw[Tk ez];obtain⟨l2,s2,dM,g2⟩:=Kv s1 (i:=lo+x - (z+1)) (j:=lo+x) (by omega);refine Tg (fG ?_);have wA:=N0 oR (Og _) oT (by omega) g2;refine Th ⟨0,rfl,l2,s2,dM.trans fg,λi hi=>by rw[g2,Tj (by omega),i9 i hi],Kw (v:=lo+x) L wA (by omega) ?_,by omega,λi j h1 h2 h3 h4=>by rw[show i=j by omega];exact L.rf⟩;rw[g2,g2,Tj (by omega),Tk (by omega)];exact L.tr (L.u e) (oT _ _ (by omega) (by omega) (by omega) (by omega))
   ·rw[Tj ez];exact Th ⟨0,rfl,l1,s1,fg,i9,Kw (v:=lo+x) L oR (by omega) (L.u e),by omega,λi j h1 h2 h3 h4=>by rw[show i=j by omega];exact L.rf⟩
  | false=>
   rw[Tj (by decide)];refine Tg (Gw hc s1 hJ (by omega) (by omega) ?_);dsimp only;cases e2:lt (l1.getD (lo+x - 1) 0) (l1.getD (lo+x) 0) with
   | true=>
    rw[Tk rfl];exact Th ⟨x,z,rfl,by omega,by omega,l1,s1,fg,i9,oR,hz,oT⟩
   | false=>
    rw[Tj (by decide)];refine Th ⟨z+1,rfl,l1,s1,fg,i9,Kw (v:=lo+x) L oR (by omega) (Br e2),by omega,λi j h1 h2 h3 h4=>?_⟩;have eL:∀i,lo+x - (z+1)<=i->i<lo+x+1->le lt (l1.getD i 0) (l1.getD (lo+x - 1) 0)=true/\le lt (l1.getD (lo+x - 1) 0) (l1.getD i 0)=true:=λi a b=>by
     by_cases c:i<lo+x
     ·exact⟨oT _ _ a c (by omega) (by omega),oT _ _ (by omega) (by omega) a c⟩
     ·rw[show i=lo+x by omega];exact⟨Br e2,Br e⟩
    exact L.tr (eL i (by omega) (by omega)).1 (eL j (by omega) (by omega)).2
 case post=>
  rintro c a8 ⟨x,z,rfl,h9,oQ,iv⟩;exact tail x z a8 h9 oQ iv
def Xfy(hc:CmS prog w A s κ it n lt)(bD:SA κ it pd l st)(al:Al n l){lo r}(hr:1<=r)(hn:lo+r=n)(h:∀m l' a8,SA κ it pd l' a8->l'.Perm l->1<=m->m<=r->SoL lt l' lo (lo+m)->(∀i,i<lo->l'.getD i 0=l.getD i 0)->Q (some m) a8):dJ (ag prog w) A E s (countRun' lo r) Q st:=by
 have L:=hc.L;have hl:=al.len;rw[countRun'_eq];refine Tg (bc (aJ (I:=λx c a8=>st=a8/\c=(none,x)/\SoL lt l lo (lo+x)) (Q:=λc a8=>st=a8/\∃m,c=(none,m)/\1<=m/\m<=r/\SoL lt l lo (lo+m)/\(m<r->lt (l.getD (lo+m) 0) (l.getD (lo+m - 1) 0)=true)) ?step ?fin ⟨rfl,rfl,λi j h1 h2 h3=>by lia⟩) ?post)
 case fin=>
  rintro c a8 ⟨rfl,rfl,so⟩;exact⟨rfl,_,rfl,by lia,by lia,so,λz=>by lia⟩
 case step=>
  rintro x c a8 wB hx ⟨rfl,rfl,so⟩;dsimp only;refine Tg (Gw hc bD al (by lia) (by lia) ?_);dsimp only;cases e:lt (l.getD (lo+x) 0) (l.getD (lo+x - 1) 0) with
  | true=>
   rw[Tk rfl];exact Th ⟨rfl,x,rfl,wB,by lia,so,λ_=>e⟩
  | false=>
   rw[Tj (by decide)];exact Th ⟨rfl,rfl,Xfw (v:=lo+x) L so (by lia) (Br e)⟩
 case post=>
  rintro c a8 ⟨rfl,m,rfl,m1,m2,so,nx⟩;dsimp only;by_cases e1:(m==r)=true
  ·rw[Tk e1];exact Th (h m l _ bD (.refl _) m1 m2 so λ_ _=>rfl)
  rw[Tj e1];have oP:m≠r:=by simpa using e1
  have nx:=nx (by lia);by_cases e2:m > 1
  ·rw[Tk e2];refine Tg (Gw hc bD al (by lia) (by lia) ?_);dsimp only;cases e3:lt (l.getD lo 0) (l.getD (lo+m - 1) 0) with
   | true=>
    rw[Tk rfl];exact Th (h m l _ bD (.refl _) m1 m2 so λ_ _=>rfl)
   | false=>
    rw[Tj (by decide)];have hJ:∀i,lo<=i->i<lo+m->le lt (l.getD lo 0) (l.getD i 0)=true/\le lt (l.getD i 0) (l.getD lo 0)=true:=λi a b=>by
     have u1:le lt (l.getD lo 0) (l.getD i 0)=true:=by
      by_cases c:i=lo
      ·rw[c];exact L.rf
      ·exact so lo i (Og _) (by lia) b
     refine⟨u1,?_⟩;by_cases c:i=lo+m - 1
     ·rw[c];exact Br e3
     ·exact L.tr (so i (lo+m - 1) a (by lia) (by lia)) (Br e3)
    have wC:∀i j,lo<=i->i<lo+m->lo<=j->j<lo+m->le lt (l.getD i 0) (l.getD j 0)=true:=λi j a b c d=>L.tr (hJ i a b).2 (hJ j c d).1;obtain⟨l2,s2,dM,g2⟩:=Kv bD (i:=lo) (j:=lo+m) (by lia);refine Tg (fG ?_);show dJ _ _ _ _ (dsR lo r m) Q _;have oU:∀i,i<lo->l2.getD i 0=l.getD i 0:=λi hi=>by rw[g2,Tj (by lia)]
    refine Xfx hc s2 ⟨dM.trans al.pm⟩ m1 (by lia) hn (N0 (λi j a b c=>wC j i (by lia) c a (by lia)) (Og _) wC (Og _) g2) ?_ λm' l' a8 q1 q2 q3 q4 q5 q6=>h m' l' a8 q1 (q2.trans dM) q3 q4 q5 λi hi=>(q6 i hi).trans (oU i hi);rw[g2,g2,Tj (by lia),Tk (by lia)];exact L.mr nx (wC _ _ (by lia) (by lia) (by lia) (by lia))
  ·rw[Tj e2];show dJ _ _ _ _ (dsR lo r m) Q _;exact Xfx hc bD al m1 (by lia) hn (λi j a b c=>by lia) nx h
def Xfz(hc:CmS prog w A s κ it n lt)(bD:SA κ it pd l st)(al:Al n l){lo m ok}(h1:1<=ok)(h2:ok<=m)(hn:lo+m<=n)(so:SoL lt l lo (lo+ok))(h:∀l' a8,SA κ it pd l' a8->l'.Perm l->SoL lt l' lo (lo+m)->(∀i,i<lo->l'.getD i 0=l.getD i 0)->Q true a8):dJ (ag prog w) A E s (binarySort' lo m ok) Q st:=by
 have L:=hc.L;have hl:=al.len;rw[binarySort'_eq];refine Tg (bc (aJ (I:=λx c a8=>c=(none,())/\∃l',SA κ it pd l' a8/\l'.Perm l/\SoL lt l' lo (lo+x)/\(∀i,i<lo->l'.getD i 0=l.getD i 0)) (Q:=λc a8=>c=(none,())/\∃l',SA κ it pd l' a8/\l'.Perm l/\SoL lt l' lo (lo+m)/\(∀i,i<lo->l'.getD i 0=l.getD i 0)) ?step ?fin ⟨rfl,l,bD,.refl _,by rw[show max ok 1=ok by lia];exact so,λ_ _=>rfl⟩) ?post)
 case fin=>
  rintro c a8 ⟨rfl,l',s1,pm,iA,pre⟩;exact⟨rfl,l',s1,pm,by rw[show max (max ok 1) m=m by lia] at iA;exact iA,pre⟩
 case post=>
  rintro c a8 ⟨rfl,l',s1,pm,iA,pre⟩;exact Th (h l' _ s1 pm iA pre)
 case step=>
  rintro k c a8 JW hk ⟨rfl,l',s1,pm,iA,pre⟩;have zg:Al n l':=⟨pm.trans al.pm⟩;have o8:=zg.len;refine Tg (bc (aJ (I:=λx c bY=>a8=bY/\∃u v,c=(none,u,v)/\u<=v/\v<=k/\v - u<=k - x/\(∀i,i<u->le lt (l'.getD (lo+i) 0) (l'.getD (lo+k) 0)=true)/\(∀i,v<=i->i<k->le lt (l'.getD (lo+k) 0) (l'.getD (lo+i) 0)=true))
   (Q:=λc bY=>a8=bY/\∃u,c=(none,u,u)/\u<=k/\(∀i,i<u->le lt (l'.getD (lo+i) 0) (l'.getD (lo+k) 0)=true)/\(∀i,u<=i->i<k->le lt (l'.getD (lo+k) 0) (l'.getD (lo+i) 0)=true)) ?step ?fin ⟨rfl,0,k,rfl,by lia,by lia,by lia,λi hi=>by lia,λi h1 h2=>by lia⟩) ?post)
  case fin=>
   rintro c bY ⟨rfl,u,v,rfl,b1,b2,b3,b4,b5⟩;have:u=v:=by lia
   subst this;exact⟨rfl,u,rfl,b2,b4,b5⟩
  case step=>
   rintro x c bY _ hx ⟨rfl,u,v,rfl,b1,b2,b3,b4,b5⟩;dsimp only;by_cases e:u ≥ v
   ·rw[Tk e];have:u=v:=by lia
    subst this;exact Th ⟨rfl,u,rfl,b2,b4,b5⟩
   ·rw[Tj e];refine Tg (Gw hc s1 zg (by lia) (by lia) ?_);dsimp only;have q1:u<=(u+v) / 2:=by lia
    have q2:(u+v) / 2<v:=by lia
    generalize (u+v) / 2=md at q1 q2;cases c:lt (l'.getD (lo+k) 0) (l'.getD (lo+md) 0) with
    | true=>
     rw[Tk rfl];refine Th ⟨rfl,u,md,rfl,q1,by lia,by lia,b4,λi z1 z2=>?_⟩;by_cases z:i=md
     ·rw[z];exact L.u c
     ·exact L.tr (L.u c) (iA _ _ (by lia) (by lia) (by lia))
    | false=>
     rw[Tj (by decide)];have c':=Br c;refine Th ⟨rfl,md+1,v,rfl,by lia,b2,by lia,λi z1=>?_,b5⟩;by_cases z:i=md
     ·rw[z];exact c'
     ·exact L.tr (iA _ _ (by lia) (by lia) (by lia)) c'
  case post=>
   rintro c bY ⟨rfl,u,rfl,b2,b4,b5⟩;dsimp only;obtain⟨l2,s2,dM,g2⟩:=Xom s1 (k:=lo+k) (d:=lo+u) (by lia) (by lia);have wm:∀{Q:Unit->aS->Prop},Q () (jl a8 (bubble (be a8) (lo+k) (lo+k - (lo+u))))->dJ (ag prog w) A E s (moveDown' (lo+k) (lo+u)) Q a8:=λhq=>by
    rw[moveDown'_eq];exact bP hq
   refine Tg (wm (Th ⟨rfl,l2,s2,dM.trans pm,λi j h1 h2 h3=>?_,λi hi=>?_⟩))
   ·rw[g2,g2];by_cases i1:i=lo+u
    ·rw[Tk i1,Tj (by lia),Tk (by lia)];have:=b5 (j - 1 - lo) (by lia) (by lia)
     rwa [show lo+(j - 1 - lo)=j - 1 by lia] at this
    ·rw[Tj i1];by_cases i2:lo+u<i/\i<=lo+k
     ·rw[Tk i2,Tj (by lia),Tk (by lia)];exact iA _ _ (by lia) (by lia) (by lia)
     ·rw[Tj i2];by_cases j1:j=lo+u
      ·rw[Tk j1];have:=b4 (i - lo) (by lia)
       rwa [show lo+(i - lo)=i by lia] at this
      ·rw[Tj j1];by_cases j2:lo+u<j/\j<=lo+k
       ·rw[Tk j2];exact iA _ _ (by lia) (by lia) (by lia)
       ·rw[Tj j2];exact iA _ _ (by lia) h2 (by lia)
   ·rw[g2,Tj (by lia),Tj (by lia)];exact pre i hi
end
open PySem.W (kas_item kas_cmp kas_swaps_map)
def Gx (m:Array ax) (u:Nat) (c:Array ax):Array ax:=m.toList.zipIdx.foldl (λa z=>a.setIfInBounds (u+z.2) z.1) c
def Xf0 (c:Array ax) (u v m r:Nat):SM Bool:=do
 let z <-if m<=r then mLo (c.extract u v) (c.extract v (v+r)) else mHi (c.extract u v) (c.extract v (v+r))
 modify λs=>jl s (Gx z u (be s))
 return (bg (<-get)).isNone
def Xon(i:Nat):sE i=(do
  let s <-get
  let (some (u,m,pw),some (v,r,_)):=((aY s)[i]?,(aY s)[i+1]?) | unsupported "internal:list.sort.pending"
  set (aS.mk' (kindOf s) (be s) (((aY s).setIfInBounds i (u,m+r,pw)).eraseIdxIfInBounds (i+1)) (dC s) (bg s))
  let some k <-Dg false (<-elem' (be s) v) (be s) u m 0 | return false
  if m - k==0 then return true
  let some q <-Dg true (<-elem' (be s) (u+k+(m - k) - 1)) (be s) v r (r - 1) | return false
  if q==0 then return true
  Xf0 (be s) (u+k) v (m - k) q):=rfl
theorem Xf1(k):∀(xs:List ax) (o:Nat) (c:Array ax) (m:Nat),k+o+xs.length<=c.size->((xs.zipIdx o).foldl (λa z=>a.setIfInBounds (k+z.2) z.1) c)[m]? = if k+o<=m/\m<k+o+xs.length then xs[m - (k+o)]? else c[m]?
 | [],o,c,m,_=>by rw[Tj (by simp)];rfl
 | x::xs,o,c,m,h=>by
  have hl:(x::xs).length=xs.length+1:=rfl;rw[List.zipIdx_cons,Rq,Xf1 k xs (o+1) _ m (by rw[Array.size_setIfInBounds];lia),Array.getElem?_setIfInBounds];by_cases h1:k+(o+1)<=m/\m<k+(o+1)+xs.length
  ·rw[Tk h1,Tk (by lia),show m - (k+o)=m - (k+(o+1))+1 by lia,List.getElem?_cons_succ]
  ·rw[Tj h1];by_cases h2:k+o=m
   ·rw[Tk h2,Tk (by lia),Tk (by lia),show m - (k+o)=0 by lia];rfl
   ·rw[Tj h2,Tj (by lia)]
def Xoo   (h:k+res.length<=l.length):Gx (Fk it res) k (Fk it l)=Fk it (l.take k++res++l.drop (k+res.length)):=by
 have e1:(Fk it res).toList=res.map (kas_item it):=by unfold Fk;rfl
 unfold Gx;rw[e1];apply Array.ext_getElem?;intro m;rw[Xf1 k _ 0 _ m (by rw[Od,Bu];lia),Od,Nat.add_zero];unfold Fk;rw[Rb,Rb,Ov,Ov,Ov];by_cases h1:k<=m/\m<k+res.length
 ·rw[Tk h1,Pt (by rw[Oh,O0];lia),Po (by rw[O0];lia),O0,Qz (by lia)]
 ·rw[Tj h1];by_cases h2:m<k
  ·rw[Pt (by rw[Oh,O0];lia),Pt (by rw[O0];lia),Sx,Tk h2]
  ·rw[Po (by rw[Oh,O0];lia),Oh,O0,R9];congr 2
   lia
def Kx{lt}{l}{u v}(h:SoL lt l u v)(hv:v<=l.length):((l.take v).drop u).Pairwise λx y=>le lt x y=true:=by
 rw[P9];intro i j hi hj gE;rw[Pw,O0] at hi hj;rw[S9,S9,Sc,Sc];have:=h (u+i) (u+j) (by lia) (by lia) (by lia)
 rwa [O6,O6,Oe (by lia),Oe (by lia)] at this
section
variable {prog:ao}{w:aw}{A:av}{E:Zb}{s:af}{κ : bX}{it:Array ax}{n:Nat}{lt:Nat->Nat->Bool}{l:List Nat}{st:aS}
def wS_mAt(hc:CmS prog w A s κ it n lt)  (bD:SA κ it #[(0,n1,pw),(n1,n2,0)] l st)(al:Al n l)(h1:1<=n1)(h2:1<=n2)(hn:n1+n2=n)(jm:SoL lt l 0 n1)(jn:SoL lt l n1 n)(h:∀l' a8,SA κ it #[(0,n,pw)] l' a8->l'.Perm l->SoL lt l' 0 n->Q true a8):dJ (ag prog w) A E s (sE 0) Q st:=by
 have L:=hc.L;have hl:=al.len;rw[Xon];refine Tg (bK ?_);rw[bD.p,bD.a];have e0:(#[(0,n1,pw),(n1,n2,0)]:Array (Nat×Nat×Nat))[0]? = some (0,n1,pw):=rfl;have e1:(#[(0,n1,pw),(n1,n2,0)]:Array (Nat×Nat×Nat))[0+1]? = some (n1,n2,0):=rfl;have ep:((#[(0,n1,pw),(n1,n2,0)]:Array (Nat×Nat×Nat)).setIfInBounds 0 (0,n1+n2,pw)).eraseIdxIfInBounds (0+1) = #[(0,n1+n2,pw)]:=by simp
 rw[e0,e1];dsimp only;rw[ep];clear e0 e1 ep;have s1:SA κ it #[(0,n,pw)] l (aS.mk' (kindOf st) (Fk it l) #[(0,n1+n2,pw)] (dC st) (bg st)):=⟨bD.k,rfl,bD.f,by rw[<-hn]⟩;have wD:∀{Q:PUnit->aS->Prop} {x y:aS},Q ⟨⟩ x->dJ (ag prog w) A E s (set x:StateT aS fJ PUnit) Q y:=λhq=>by
  unfold dJ;rw[StateT.run_set];exact Tf ⟨rfl,hq⟩
 refine Tg (wD ?_);generalize aS.mk' (kindOf st) (Fk it l) #[(0,n1+n2,pw)] (dC st) (bg st)=jY at s1;have m1:l.getD n1 0∈l:=Cy (by lia);refine Tg (Bm (Bi (show n1<l.length by lia)) ?_);refine Tg (Gr (P:=λt => !lt (l.getD n1 0) (l.getD t 0)) ⟨λa b eU hb e=>?_⟩ (by lia) (λt ht Q' hq=>?_) λk hk iN lv=>?_)
 ·have e:lt (l.getD n1 0) (l.getD b 0)=false:=by simpa using e
  cases q:lt (l.getD n1 0) (l.getD a 0) with
  | false=>rfl
  | true=>
   have:=L.mr q (jm a b (Pf _) eU hb);rw[this] at e;cases e
 ·rw[Qc];exact Gq hc (Bi (by lia)) (al.ltn (by lia)) (al.ltn (by lia)) s1.k (left:=false) hq
 dsimp only;have lo1:∀t,t<k->le lt (l.getD t 0) (l.getD n1 0)=true:=λt ht=>by
  have:=iN t ht;exact Br (by simpa using this)
 have qx:∀t,k<=t->t<n1->lt (l.getD n1 0) (l.getD t 0)=true:=λt ht oB=>by
  have:=lv t ht oB;simpa using this
 have ge:∀{x t:Nat},n1<=t->t<n->le lt x (l.getD n1 0)=true->le lt x (l.getD t 0)=true:=λ{x t} h1 h2 hx=>by
  by_cases z:t=n1
  ·rw[z];exact hx
  ·exact L.tr hx (jn n1 t (Og _) (by lia) h2)
 by_cases e1:(n1 - k==0)=true
 ·rw[Tk e1];have oP:n1 - k=0:=by simpa using e1
  refine Th (h l _ s1 (.refl _) λi j a1 a2 a3=>?_);by_cases c1:j<n1
  ·exact jm i j a1 a2 c1
  ·by_cases c2:n1<=i
   ·exact jn i j c2 a2 a3
   ·exact ge (by lia) a3 (lo1 i (by lia))
 rw[Tj e1];have oP:n1 - k≠0:=by simpa using e1
 rw[show 0+k+(n1 - k) - 1=n1 - 1 by lia,Qc];refine Tg (Bm (Bi (show n1 - 1<l.length by lia)) ?_);refine Tg (Gr (P:=λt=>lt (l.getD (n1+t) 0) (l.getD (n1 - 1) 0)) ⟨λa b eU hb e=>?_⟩ (by lia) (λt ht Q' hq=>?_) λr hr wE wF=>?_)
 ·exact L.ml (jn _ _ (by lia) (by lia) (by lia)) e
 ·exact Gq hc (Bi (by lia)) (al.ltn (by lia)) (al.ltn (by lia)) s1.k (left:=true) hq
 dsimp only;have eQ:∀t,r<=t->t<n2->le lt (l.getD (n1 - 1) 0) (l.getD (n1+t) 0)=true:=λt a b=>Br (wF t a b);have DI:∀{x t:Nat},t<n1->le lt (l.getD (n1 - 1) 0) x=true->le lt (l.getD t 0) x=true:=λ{x t} h1 hx=>by
  by_cases z:t=n1 - 1
  ·rw[z];exact hx
  ·exact L.tr (jm t (n1 - 1) (Pf _) (by lia) (by lia)) hx
 have r1:1<=r:=by
  rcases Nat.eq_zero_or_pos r with z | z
  ·have a:=eQ 0 (by lia) (by lia);have b:=qx (n1 - 1) (by lia) (by lia);rw[Nat.add_zero] at a;rw[Fy a] at b;cases b
  ·exact z
 rw[Tj (by simp;lia)];unfold Xf0;rw[D3,D3,show n1+r - n1=r by lia];have DJ:(l.drop k).take (n1 - k)=(l.take n1).drop k:=(Se ..).symm;have DK:(l.drop n1).take r=(l.take (n1+r)).drop n1:=by rw[Se,show n1+r - n1=r by lia]
 have T:Two lt n ((l.drop k).take (n1 - k)) ((l.drop n1).take r):=by
  refine⟨L,λx hx=>?_,λx hx=>?_,?_,?_⟩
  ·obtain⟨t,b1,b2,rfl⟩:=D4 hx;exact al.ltn (by lia)
  ·obtain⟨t,b1,b2,rfl⟩:=D4 hx;exact al.ltn (by lia)
  ·rw[DJ];exact Kx (λi j a1 a2 a3=>jm i j (Pf _) a2 a3) (by lia)
  ·rw[DK];exact Kx (λi j a1 a2 a3=>jn i j a1 a2 (by lia)) (by lia)
 have sF:((l.drop k).take (n1 - k)).length=n1 - k:=by rw[O0,Pw];lia
 have wG:((l.drop n1).take r).length=r:=by rw[O0,Pw];lia
 have b0:((l.drop n1).take r).getD 0 0=l.getD n1 0:=by
  rw[O6,Sx,Tk (by lia),R9,<-O6];rfl
 have a9:((l.drop k).take (n1 - k)).getD (((l.drop k).take (n1 - k)).length - 1) 0=l.getD (n1 - 1) 0:=by
  rw[sF,O6,Sx,Tk (by lia),R9,show k+(n1 - k - 1)=n1 - 1 by lia,<-O6]
 have gG:∀y∈(l.drop k).take (n1 - k),lt (((l.drop n1).take r).getD 0 0) y=true:=λy hy=>by
  obtain⟨t,b1,b2,rfl⟩:=D4 hy;rw[b0];exact qx _ (by lia) (by lia)
 have top:∀x∈(l.drop n1).take r,lt x (((l.drop k).take (n1 - k)).getD (((l.drop k).take (n1 - k)).length - 1) 0)=true:=λx hx=>by
  obtain⟨t,b1,b2,rfl⟩:=D4 hx;rw[a9];exact wE t b1
 have fin:∀res a8,Mrg lt ((l.drop k).take (n1 - k)) ((l.drop n1).take r) res->SG jY a8->dJ (ag prog w) A E s (do
   modify λs=>jl s (Gx (Fk it res) k (be s))
   let z <-get
   pure (bg z).isNone) Q a8:=by
  intro res a8 mr sg;have oV:res.length=n1 - k+r:=by rw[mr.1.length_eq,Oh,sF,wG]
  refine Tg (bP (Tg (bK (Th ?_))));have ef:bg (jl a8 (Gx (Fk it res) k (be a8)))=none:=sg.f.trans s1.f;rw[ef];have m6:∀x∈res,(∃t,k<=t/\t<n1/\x=l.getD t 0)\/(∃t,t<r/\x=l.getD (n1+t) 0):=λx hx=>by
   rcases Oq.mp (mr.1.mem_iff.mp hx) with z | z
   ·obtain⟨t,b1,b2,e⟩:=D4 z;exact .inl ⟨k+t,by lia,by lia,e⟩
   ·obtain⟨t,b1,b2,e⟩:=D4 z;exact .inr ⟨t,b1,e⟩
  refine h (l.take k++res++l.drop (k+res.length)) _ ⟨sg.k.trans s1.k,?_,ef,sg.p.trans s1.p⟩ ?_ ?_
  ·show Gx (Fk it res) k (be a8)=_;rw[sg.a,s1.a,Xoo (by lia)]
  ·rw[show k+res.length=n1+r by lia];have e:l=l.take k++((l.drop k).take (n1 - k)++(l.drop n1).take r)++l.drop (n1+r):=by
    rw[<-O7,<-take_split,show k+(n1 - k)=n1 by lia,<-take_split,Pb]
   refine List.Perm.trans ?_ (Sn e.symm);exact(P7 _ mr.1).append_right _
  ·have pw:(l.take k++res++l.drop (k+res.length)).Pairwise λx y=>le lt x y=true:=by
    refine Pc.mpr ⟨Pc.mpr ⟨?_,mr.2,λx hx y hy=>?_⟩,?_,λx hx y hy=>?_⟩
    ·have:=Kx (u:=0) (v:=k) (l:=l) (lt:=lt) (λi j a1 a2 a3=>jm i j a1 a2 (by lia)) (by lia)
     rwa [Rc] at this
    ·obtain⟨t,ht,rfl⟩:=Fz hx (by lia);rcases m6 y hy with ⟨u,c1,c2,rfl⟩ | ⟨u,c1,rfl⟩
     ·exact jm _ _ (Pf _) (by lia) c2
     ·exact ge (by lia) (by lia) (lo1 t ht)
    ·have:=Kx (u:=k+res.length) (v:=n) (l:=l) (lt:=lt) (λi j a1 a2 a3=>jn i j (by lia) a2 a3) (by lia)
     rwa [Pk (by lia)] at this
    ·have jA:y∈(l.drop (k+res.length)).take n:=by rw[Pk (by rw[Pw];lia)];exact hy
     obtain⟨u,c1,c2,rfl⟩:=D4 jA;have DL:k+res.length+u=n1+(r+u):=by lia
     rw[DL];have wH:=eQ (r+u) (by lia) (by lia);rcases Oq.mp hx with z | z
     ·obtain⟨t,ht,rfl⟩:=Fz z (by lia);exact ge (by lia) (by lia) (lo1 t ht)
     ·rcases m6 x z with ⟨t,c1,c2,rfl⟩ | ⟨t,c1,rfl⟩
      ·exact DI c2 wH
      ·exact jn _ _ (by lia) (by lia) (by lia)
   have len:(l.take k++res++l.drop (k+res.length)).length=n:=by
    rw[Oh,Oh,O0,Pw]
    lia
   exact λi j a1 a2 a3=>Gu pw a2 (by lia)
 by_cases e5:n1 - k<=r
 ·rw[Tk e5];exact Tg (Xog hc T (by lia) (by lia) gG top s1.k λres a8 mr sg=>fin res a8 mr sg)
 ·rw[Tj e5];exact Tg (Xol hc T (by lia) (by lia) gG top s1.k λres a8 mr sg=>fin res a8 mr sg)
end
open PySem.W (KasT kas_item kas_cmp kas_ask kas_sort kat_run kat_snds kat_ask_eq kas_range)
section
variable {prog:ao}{w:aw}{A:av}{E:Zb}{s:af}{κ : bX}{it:Array ax}{lt:Nat->Nat->Bool}{l:List Nat}{st:aS}
def Rn (κ : bX) (it:Array ax) (lt:Nat->Nat->Bool) (l:List Nat) (st:aS):Prop:=∃l',l'.Perm l/\((SA κ it #[(0,64,0)] l' st/\SoL lt l' 0 64) \/ ∃n1 n2 pw,1<=n1/\1<=n2/\n1+n2=64/\SA κ it #[(0,n1,pw),(n1,n2,0)] l' st/\SoL lt l' 0 n1/\SoL lt l' n1 64)
def Xop(hc:CmS prog w A s κ it 64 lt)(bD:SA κ it #[] l st)(al:Al 64 l){Q}(h:∀l' a8 pd,SA κ it pd l' a8->l'.Perm l->SoL lt l' 0 64->Q () a8):dJ (ag prog w) A E s iT Q st:=by
 have hl:=al.len;rw[sortRuns'_eq];refine Tg (bK ?_);have hsz:(be st).size=64:=by rw[bD.a,Bu,hl]
 have DM:minRun' 64 64 0=32:=by
  rw[minRun'_succ,Tj (by decide)];rfl
 dsimp only;rw[hsz,DM];refine Tg (bc (aJ (I:=λx c a8=>(x=0/\c=(none,0)/\SA κ it #[] l a8)\/(x=1/\∃l' n1,c=(none,n1)/\SA κ it #[(0,n1,0)] l' a8/\l'.Perm l/\32<=n1/\n1<=64/\SoL lt l' 0 n1)\/(2<=x/\c=(none,64)/\Rn κ it lt l a8)) (Q:=λc a8=>c=(none,64)/\Rn κ it lt l a8) ?step ?fin (.inl ⟨rfl,rfl,bD⟩)) ?post)
 case fin=>
  rintro c a8 (⟨z,_⟩ | ⟨z,_⟩ | ⟨_,z⟩)
  ·exact absurd z (by decide)
  ·exact absurd z (by decide)
  ·exact z
 case step=>
  rintro x c a8 _ hx (⟨rfl,rfl,s0⟩ | ⟨rfl,l1,n1,rfl,s1,fg,b1,b2,jm⟩ | ⟨x2,rfl,z⟩)
  ·dsimp only;rw[Tj (by lia),Su];refine Tg (Xfy hc s0 al (by lia) (by lia) λm l1 jY s1 fg m1 m2 so _=>?_);have hJ:Al 64 l1:=⟨fg.trans al.pm⟩;dsimp only;rw[Qc] at so;by_cases hm:m<32
   ·rw[Tk hm];refine Tg (cO (aR ⟨rfl,?_⟩));refine Tg (Xfz hc s1 hJ m1 (by lia) (by lia) (by rw[Qc];exact so) λl2 du s2 dM jn _=>?_);rw[Tj (by decide)];refine Tg (bK ?_);rw[s2.p];refine Tg (bP (Th (.inr (.inl ⟨rfl,l2,32,rfl,⟨s2.k,s2.a,s2.f,?_⟩,dM.trans fg,by lia,by lia,jn⟩))));show (aY du).push _=_;rw[s2.p];rfl
   ·rw[Tj hm];refine Tg (bK ?_);rw[s1.p];refine Tg (bP (Th (.inr (.inl ⟨rfl,l1,m,by rw[Qc],⟨s1.k,s1.a,s1.f,?_⟩,fg,by lia,by lia,so⟩))));show (aY jY).push _=_;rw[s1.p];rfl
  ·dsimp only;by_cases e:n1 ≥ 64
   ·rw[Tk e];obtain rfl:n1=64:=by lia
    exact Th ⟨rfl,l1,fg,.inl ⟨s1,jm⟩⟩
   rw[Tj e];have hJ:Al 64 l1:=⟨fg.trans al.pm⟩;have fin:∀l2 du,SA κ it #[(0,n1,0)] l2 du->l2.Perm l1->SoL lt l2 n1 64->(∀i,i<n1->l2.getD i 0=l1.getD i 0)->∀pw,SA κ it #[(0,n1,pw),(n1,64 - n1,0)] l2 (m7 (m7 du ((aY du).modify ((aY du).size - 1) λx=>(x.fst,x.2.fst,pw))) ((aY (m7 du ((aY du).modify ((aY du).size - 1) λx=>(x.fst,x.2.fst,pw)))).push (n1,64 - n1,0)))/\SoL lt l2 0 n1:=by
    intro l2 du s2 dM jn pre pw;refine⟨⟨s2.k,s2.a,s2.f,?_⟩,λi j a1 a2 a3=>?_⟩
    ·show ((aY du).modify ((aY du).size - 1) λx=>(x.fst,x.2.fst,pw)).push (n1,64 - n1,0)=_;rw[s2.p];simp[Array.modify,Array.modifyM]
    ·rw[pre i (by lia),pre j (by lia)];exact jm i j a1 a2 a3
   refine Tg (Xfy hc s1 hJ (by lia) (by lia) λm l2 du s2 dM m1 m2 so pre=>?_);have nF:Al 64 l2:=⟨dM.trans hJ.pm⟩;dsimp only;by_cases hm:m<32
   ·rw[Tk hm];refine Tg (cO (aR ⟨rfl,?_⟩));rw[show min (64 - n1) 32=64 - n1 by lia];refine Tg (Xfz hc s2 nF m1 (by lia) (by lia) so λl3 qf s3 nG qw wI=>?_);rw[Tj (by decide)];have sG:SoL lt l3 n1 64:=by rw[show n1+(64 - n1)=64 by lia] at qw;exact qw
    refine Tg (bK ?_);rw[s3.p];have eb:(#[(0,n1,0)]:Array (Nat×Nat×Nat)).back? = some (0,n1,0):=rfl;rw[eb];dsimp only;refine Tg (bc (aJ (I:=λx c a8=>c=(none,())/\SA κ it #[(0,n1,0)] l3 a8) (Q:=λc a8=>c=(none,())/\SA κ it #[(0,n1,0)] l3 a8) ?_ (λc a8 z=>z) ⟨rfl,s3⟩) ?_)
    ·rintro x c a8 _ _ ⟨rfl,q⟩;refine Tg (bK ?_);rw[q.p,Tj (by show ¬ 1 > 1;decide)];exact Th ⟨rfl,q⟩
    ·rintro c a8 ⟨rfl,q⟩;dsimp only;obtain⟨q1,q2⟩:=fin l3 a8 q (nG.trans dM) sG (λi hi=>(wI i hi).trans (pre i hi)) (power' 64 (2 * 0+n1) (2 * 0+n1+n1+(64 - n1)) 64);refine Tg (bP (Tg (bP (Th (.inr (.inr ⟨by lia,by rw[show n1+(64 - n1)=64 by lia],l3,((nG.trans dM)).trans fg,.inr ⟨n1,64 - n1,_,by lia,by lia,by lia,q1,q2,sG⟩⟩))))))
   ·rw[Tj hm];obtain rfl:m=64 - n1:=by lia
    have iA:SoL lt l2 n1 64:=by rw[show n1+(64 - n1)=64 by lia] at so;exact so
    refine Tg (bK ?_);rw[s2.p];have eb:(#[(0,n1,0)]:Array (Nat×Nat×Nat)).back? = some (0,n1,0):=rfl;rw[eb];dsimp only;refine Tg (bc (aJ (I:=λx c a8=>c=(none,())/\SA κ it #[(0,n1,0)] l2 a8) (Q:=λc a8=>c=(none,())/\SA κ it #[(0,n1,0)] l2 a8) ?_ (λc a8 z=>z) ⟨rfl,s2⟩) ?_)
    ·rintro x c a8 _ _ ⟨rfl,q⟩;refine Tg (bK ?_);rw[q.p,Tj (by show ¬ 1 > 1;decide)];exact Th ⟨rfl,q⟩
    ·rintro c a8 ⟨rfl,q⟩;dsimp only;obtain⟨q1,q2⟩:=fin l2 a8 q dM iA pre (power' 64 (2 * 0+n1) (2 * 0+n1+n1+(64 - n1)) 64);refine Tg (bP (Tg (bP (Th (.inr (.inr ⟨by lia,by rw[show n1+(64 - n1)=64 by lia],l2,(dM).trans fg,.inr ⟨n1,64 - n1,_,by lia,by lia,by lia,q1,q2,iA⟩⟩))))))
  ·dsimp only;rw[Tk (Og _)];exact Th ⟨rfl,z⟩
 case post=>
  rintro c a8 ⟨rfl,l1,fg,z⟩;dsimp only;have hJ:Al 64 l1:=⟨fg.trans al.pm⟩;refine Tg (bc (aJ (I:=λx c a8=>c=(none,())/\∃l2 pd,l2.Perm l/\Al 64 l2/\SA κ it pd l2 a8/\((pd.size<=1/\SoL lt l2 0 64)\/(x=0/\∃n1 n2 pw,1<=n1/\1<=n2/\n1+n2=64/\pd = #[(0,n1,pw),(n1,n2,0)]/\SoL lt l2 0 n1/\SoL lt l2 n1 64))) (Q:=λc a8=>c=(none,())/\∃l2 pd,l2.Perm l/\SA κ it pd l2 a8/\SoL lt l2 0 64) ?step ?fin ?init) ?post)
  case init=>
   rcases z with ⟨s1,so⟩ | ⟨n1,n2,pw,a1,a2,a3,s1,jm,jn⟩
   ·exact⟨rfl,l1,_,fg,hJ,s1,.inl ⟨by show 1<=1;decide,so⟩⟩
   ·exact⟨rfl,l1,_,fg,hJ,s1,.inr ⟨rfl,n1,n2,pw,a1,a2,a3,rfl,jm,jn⟩⟩
  case fin=>
   rintro c a8 ⟨rfl,l2,pd,dM,nF,s2,⟨_,so⟩ | ⟨e,_⟩⟩
   ·exact⟨rfl,l2,pd,dM,s2,so⟩
   ·exact absurd e (by decide)
  case step=>
   rintro x c a8 _ _ ⟨rfl,l2,pd,dM,nF,s2,⟨e,so⟩ | ⟨rfl,n1,n2,pw,a1,a2,a3,rfl,jm,jn⟩⟩
   ·refine Tg (bK ?_);rw[s2.p,Tk e];exact Th ⟨rfl,l2,pd,dM,s2,so⟩
   ·refine Tg (bK ?_);rw[s2.p,Tj (by show ¬ 2<=1;decide)]
    show dJ _ _ _ _ (do
     let b <-sE 0
     if (!b)=true then pure (ForInStep.done (some (),())) else pure (ForInStep.yield (none,()))) _ _
    refine Tg (wS_mAt hc s2 nF a1 a2 a3 jm jn λl3 qf s3 nG qw=>?_);rw[Tj (by decide)];exact Th ⟨rfl,l3,_,nG.trans dM,⟨nG.trans nF.pm⟩,s3,.inl ⟨by show 1<=1;decide,qw⟩⟩
  case post=>
   rintro c a8 ⟨rfl,l2,pd,dM,s2,so⟩;exact Th (h l2 _ pd s2 dM so)
end
section
variable {prog:ao}{w:aw}{A:av}{E:Zb}{s:af}{κ : bX}{ks vs:List aa}{lt:Nat->Nat->Bool}
def Xf2{Q:aS->af->Prop}(hl:ks.length=vs.length)(oW:vs.length=64)(L:Wk lt)
  (hc:∀i j (C:Bool->af->Prop),i<vs.length->j<vs.length->C (lt i j) s->kas_ask prog w A κ ks i j C s)
  (h:∀p a8,Gd vs.length p->(∀i j,i<j->j<vs.length->le lt (p.getD i 0) (p.getD j 0)=true)->be a8=p.map (kas_item (ks.toArray.zip vs.toArray))->bg a8=none->Q a8 s):
  ai (ag prog w) A ((iT).run (aS.mk' κ (ks.toArray.zip vs.toArray) #[] 7 none)) (λr s'=>Q r.2 s') E s:=by
 have hz:(ks.toArray.zip vs.toArray).size=64:=by simp[hl,oW]
 have cm:CmS prog w A s κ (ks.toArray.zip vs.toArray) 64 lt:=⟨L,λi j C hi hj hC=>by
  have:=hc i j C (by omega) (by omega) hC;rw[kat_ask_eq hl] at this;exact this⟩
 have ea:(ks.toArray.zip vs.toArray)=Fk (ks.toArray.zip vs.toArray) (List.range 64):=by
  have:=kas_range (ks.toArray.zip vs.toArray);rw[hz] at this;rw[Gv];exact this.symm
 have s0:SA κ (ks.toArray.zip vs.toArray) #[] (List.range 64) (aS.mk' κ (ks.toArray.zip vs.toArray) #[] 7 none):=⟨rfl,ea,rfl,rfl⟩;have run:=Xop (E:=E) (Q:=λ_ a8=>Q a8 s) cm s0 ⟨.refl _⟩ λl' a8 pd s1 pm so=>by
  refine h l'.toArray a8 ?_ ?_ ?_ s1.f
  ·rw[oW];exact(List.perm_iff_toArray_perm).mp pm
  ·rw[oW];intro i j h1 h2;have:=so i j (Pf _) h1 h2;show le lt (l'.toArray.getD i 0) (l'.toArray.getD j 0)=true;rw[Im,Im,<-Ix,<-Ix];exact this
  ·rw[s1.a,Gv]
 exact aI run (λr s' q=>by obtain⟨rfl,q⟩:=q;exact q) λ_ _ z=>z
def Xoq{Q:aS->af->Prop}(hl:ks.length=vs.length)(h2:2<=vs.length)(cq:vs.length<=64)(L:Lin vs.length lt)
  (hc:∀i j (C:Bool->af->Prop),i<vs.length->j<vs.length->C (lt i j) s->kas_ask prog w A κ ks i j C s)
  (h:∀p a8,Gd vs.length p->Ci lt p vs.length->be a8=p.map (kas_item (ks.toArray.zip vs.toArray))->bg a8=none->Q a8 s):
  ai (ag prog w) A ((iT).run (aS.mk' κ (ks.toArray.zip vs.toArray) #[] 7 none)) (λr s'=>Q r.2 s') E s:=by
 by_cases e:vs.length<64
 ·exact kat_run (G:=λp s'=>s'=s/\Gd vs.length p/\Ci lt p vs.length) hl h2 e (λp a8 s' _ b1 b2 ⟨e1,b3,b4⟩=>by subst e1;exact h p a8 b3 b4 b1 b2)
   (Xfb (n:=vs.length) (lt:=lt) (λi j C hi hj hC=>hc i j C hi hj hC) (Ni (n:=vs.length) (by lia)) ⟨rfl,(Ni (n:=vs.length) (by lia)).run,Xnz L (by lia)⟩)
 ·have oW:vs.length=64:=by lia
  have m:∀i,min i 63<vs.length:=λi=>by lia
  have lw:∀{x y:Nat},lt (min x 63) (min y 63)=false->min x 63=min y 63\/lt (min y 63) (min x 63)=true:=λ{x y} h=>by
   by_cases e:min x 63=min y 63
   ·exact .inl e
   ·rcases L.tot _ _ (m x) (m y) e with z | z
    ·rw[z] at h;cases h
    ·exact .inr z
  have e1:∀i,i<vs.length->min i 63=i:=λi hi=>by lia
  refine Xf2 (lt:=λi j=>lt (min i 63) (min j 63)) hl oW ⟨λ{x y} h=>L.no h,λ{x y z} h g=>?_⟩ (λi j C hi hj hC=>hc i j C hi hj (by rw[e1 i hi,e1 j hj] at hC;exact hC)) λp a8 g so=>h p a8 g λi j h1 h2=>?_
  ·rcases lw h with a | a
   ·rw[<-a];exact g
   ·rcases lw g with b | b
    ·rw[b];exact h
    ·exact L.no (L.tr _ _ _ a b)
  ·have q:=Fy (so i j h1 h2);have hn:0<vs.length:=by omega
   rw[e1 _ (g.lt hn i),e1 _ (g.lt hn j)] at q;exact L.flip g h2 (Qs h1 h2) (Sf h1) q
end
open PySem.W (KasT kas_sort kas_ask kas_item kat_run kat_snds kat_kind KatTups)
def E5 (Ts:List (Za)) (i j:Nat):Bool:=C4 (Ts.getD i []).length (Ts.getD i []) (Ts.getD j []).length (Ts.getD j [])
def Xf3(n)(a):C4 n a n a=false:=by unfold C4;rw[Tk rfl];exact Nv a
def Xor  (h:C4 n a m b=true) (g:C4 m b k c=true):C4 n a k c=true:=by
 unfold C4 at *;by_cases e1:n=m
 ·rw[Tk e1] at h;by_cases e2:m=k
  ·rw[Tk e2] at g;rw[Tk (e1.trans e2)];exact Xfh _ _ _ h g
  ·rw[Tj e2] at g;rw[Tj (by lia)];have:=Tp g;exact Tl (by lia)
 ·rw[Tj e1] at h;have h:=Tp h;by_cases e2:m=k
  ·rw[Tj (by lia)];exact Tl (by lia)
  ·rw[Tj e2] at g;have g:=Tp g;rw[Tj (by lia)];exact Tl (by lia)
def Xos  (h:a≠b):C4 n a m b=true\/C4 m b n a=true:=by
 unfold C4;by_cases e:n=m
 ·rw[Tk e,Tk e.symm];exact Xfi _ _ h
 ·rw[Tj e,Tj (Ne.symm e)];rcases Nat.lt_or_ge n m with z | z
  ·exact .inl (Tl z)
  ·exact .inr (Tl (by lia))
def linP{Ts:List (Za)}(nd:Ts.Nodup):Lin Ts.length (E5 Ts) where
 irr i:=Xf3 _ _
 tr i j k:=Xor
 tot i j hi hj ne:=Xos λe=>ne (by
  have e1:Ts.getD i []=Ts[i]:=by simp[List.getD,hi]
  have e2:Ts.getD j []=Ts[j]:=by simp[List.getD,hj]
  rw[e1,e2] at e;exact(List.getElem_inj nd).mp e)
def Turns (X:Cx) (f:ae) (H:Hp) (ps:List ae) (Ts:List (Za)):Prop:=
 ∀(pins:List (ae×aK)) (Z:L2.St) (s1:af) (H1:Hp) (i:Nat),i<ps.length->Same H H1->Inv X pins Z H1 s1 ->
  ai (ag X.prog X.w) X.A.in1.in1 (call (.ref f) [.ref (ps.getD i 0)]) (λu s'=>∃t H2,u = .ref t/\Inv X pins Z H2 s'/\H2 t=some (.tup [.int (Ts.getD i []).length,.ref (ps.getD i 0)])/\Same H1 H2) (λ_ _=>False) s1
section
variable {X:Cx}{pins:List (ae×aK)}{Z:L2.St}{H:Hp}{s:af}
def Xot  {n:Nat} (I:Inv X pins Z H s) (ht:H t=some (.tup [.int n,.ref p])) (hp:H p=some (.tup (ss.map V.str))):Io s.heap (.ref t) n ss:=by
 obtain⟨a7,r,⟨o,ho,hc,k,hd⟩,_⟩:=I.tuple (SqT.of (K:=X.K) ht);obtain⟨il,r2,⟨o2,jz,gl,k2,cE⟩,_⟩:=I.tuple (SqT.of (K:=X.K) hp);cases r with
 | cons r1 r'=>
  cases r' with
  | cons DN vW=>
   cases vW;obtain⟨tk,rfl⟩:∃tk,_=aa.int n tk:=r1;cases DN;exact⟨t,o,_,k,tk,.ref p,rfl,ho,hc,hd,rfl,p,o2,_,k2,rfl,jz,gl,cE,by simpa using F9 r2⟩
def Ky    {st} {out:List ae}   (I:Inv X ((D,aq "list" #[] e1)::pins) Z H s) (hD:X.s₀.heap.objs.size<=D) (gF:∀p∈X.pn++pins,p.1≠D)
  (hk:H kS=some (.lst ks)) (ho:(be st).map (·.2)=(out.map aa.ref).toArray) (hf:bg st=none) (hz:out.length<=64) (h:∀s',Inv X pins Z (upd (upd H kS (.lst [])) D (.lst (out.map V.ref))) s'->P (.done (.ret .none)) s'):
  ai (ag X.prog X.w) A (ksk_tail D false e1 (.ref kS) st) P E s:=by
 obtain⟨z,a7,n,r,hl,e⟩:=I.lstM hk;have J:=I.lset (its':=[]) (f:=λ_ => #[]) (ys:=[]) (t':=s.toks) hk e rfl .nil (by decide);unfold ksk_tail
 try dsimp only
 rw[ho];simp only[Pe,if_false];refine Te (br e rfl ?_ (by rw[Oi,<-hl];exact z) (Pf _));refine Te (wpAny_letGo ?_);obtain⟨hg,_⟩:=J.pin (D,aq "list" #[] e1) (O9 _ Op);refine Te (cG hg rfl ?_);refine Te (br hg rfl ?_ (Pf _) (by rw[Oi,Od,Ti];lia));rw[hf];simp only[bne_self_eq_false,Pe,if_false];refine Tf (h _ ?_);have vr:Vals (out.map V.ref) (out.map aa.ref):=by
  clear ho hz h
  induction out with
  | nil=>exact .nil
  | cons p t ih=>exact .cons rfl ih
 exact Xn9 J hD gF vr (by rw[Od,Ti];lia)
def Xou   {ks} {ps:List ae}  {a7:List aa}   (I:Inv X ((D,aq "list" #[] e1)::pins) Z H s) (hu:A.units<bu) (hD:X.s₀.heap.objs.size<=D) (gF:∀p∈X.pn++pins,p.1≠D)
  (hk:H kS=some (.lst ks)) (aN:a7.length=ps.length) (hT:ps.length=Ts.length) (nd:Ts.Nodup) (hp:∀i,i<ps.length->Io s.heap (a7.getD i .none) (Ts.getD i []).length (Ts.getD i [])) (cq:ps.length<=64)
  (h:∀(p:Array Nat) s',Gd ps.length p->Ci (E5 Ts) p ps.length->Inv X pins Z (upd (upd H kS (.lst [])) D (.lst ((p.toList.map λi=>ps.getD i 0).map V.ref))) s'->P (.done (.ret .none)) s'):
  ai (ag X.prog X.w) A (nJ D false (ps.map aa.ref).toArray e1 (.ref kS) a7.toArray) P E s:=by
 have hsz:(ps.map aa.ref).toArray.size=ps.length:=by simp
 have L:=linP nd;rw[<-hT] at L;have sH:∀p:Array Nat,Gd ps.length p->(p.toList.map λi=>(ps.map aa.ref).getD i aa.none)=((p.toList.map λi=>ps.getD i 0).map aa.ref):=λp g=>by
  rw[Pg];refine Py λi hi=>?_;have dg:i<ps.length:=by
   have:=(Array.perm_iff_toList_perm.mp g).mem_iff.mp hi;simpa using this
  simp[List.getD,dg]
 unfold nJ
 try dsimp only
 simp only[Pe,if_false];by_cases h2:(ps.map aa.ref).toArray.size<2
 ·rw[Tk h2,Tk h2];refine Te (Tf ?_);rw[StateT.run_pure];refine Te (Tf ?_)
  try dsimp only
  have g0:Gd ps.length (List.toArray (List.range ps.length)):=Sm _;refine Ky (st:=aS.mk' general' (a7.toArray.zip (ps.map aa.ref).toArray) #[] 7 none) (out:=(List.toArray (List.range ps.length)).toList.map λi=>ps.getD i 0) I hD gF hk ?_ rfl (by simpa using cq) λs' J=>h _ s' g0 (λi j gE hj=>by lia) J;rw[<-sH _ g0];show ((a7.toArray.zip (ps.map aa.ref).toArray).map (·.2))=_;apply Array.toList_inj.mp;simp only[Array.toList_map,List.zip_toArray];rw[Sh (by simp[aN])];refine Q8 (by simp) λi h1 h2=>?_;simp[List.getD] at h1 ⊢;simp[h1]
 ·rw[Tj h2,Tj h2];have fst:∀(l:List aa) (q:∀v∈l,∃n ss,Io s.heap v n ss),∃fs,KatTups s.heap l fs/\fs.length=l.length/\∀f∈fs,∃(x:Int) (t:Tok),f = .int x t:=by
   intro l
   induction l with
   | nil=>exact λ_=>⟨[],KatTups.nil,rfl,λ_ h=>by cases h⟩
   | cons v l ih=>
    intro q;obtain⟨fs,t1,t2,t3⟩:=ih λu hm=>q u (Ol _ hm);obtain⟨n,ss,a,o,xs,k,t,u,rfl,g1,g2,g3,g4,_⟩:=q v Op;refine⟨.int n t::fs,KatTups.cons g1 g2 g3 ?_ t1,by simp[t2],λf hf=>?_⟩
    ·have:xs[0]? = xs.toList[0]?:=by simp
     rw[this,g4];rfl
    ·rcases Ou.mp hf with e | e
     ·exact⟨_,_,e⟩
     ·exact t3 f e
  obtain⟨fs,t1,t2,t3⟩:=fst a7 λv hv=>by
   obtain⟨i,hi,rfl⟩:=P0.mp hv;have:=hp i (by lia);have e:a7.getD i .none=a7[i]:=by simp[List.getD,hi]
   rw[e] at this;exact⟨_,_,this⟩
  refine Te (kat_kind (T:=.type "int") t1 (by lia) (λv hm=>?_) (by decide) ?_)
  ·obtain⟨x,t,rfl⟩:=t3 v hm;exact .now
  have eb:((aa.type "int") != aa.type "tuple")=true:=by decide
  rw[eb];refine Te (aI (Xoq (lt:=E5 Ts) (κ:=tuples' true) (ks:=a7) (vs:=ps.map aa.ref) (Q:=λa8 s'=>s'=s/\bg a8=none/\∃p,Gd ps.length p/\Ci (E5 Ts) p ps.length/\(be a8).map (·.2)=(p.toList.map λi=>(ps.map aa.ref).getD i aa.none).toArray)
   (by simp[aN]) (by rw[Od];lia) (by rw[Od];exact cq) (by rw[Od];exact L) (λi j C hi hj hC=>?_) (λp a8 g so a2 a3=>by rw[Od] at g so;exact⟨rfl,a3,p,g,so,kat_snds (by simp[aN]) a2⟩)) ?_ λ_ _ e=>e)
  ·rw[Od] at hi hj;show ai _ _ (mh (tuples' true) (a7.getD i aa.none) (a7.getD j aa.none)) C _ _;exact Xn8 hu (hp i hi) (hp j hj) hC
  rintro ⟨⟨⟩,a8⟩ s' ⟨rfl,hf,p,g,so,ea⟩
  try dsimp only
  refine Ky (out:=p.toList.map λi=>ps.getD i 0) I hD gF hk (by rw[ea,sH p g]) hf (by rw[Od,Os,g.size];exact cq) λs' J=>h p s' g so J
end
section
variable {X:Cx}{pins:List (ae×aK)}{Z:L2.St}{H:Hp}{s:af}
def Xov{D kS f}      (hA:A=X.A.in1.in1)(I:Inv X ((D,aq "list" #[] e1)::pins) Z (upd H kS (.lst [])) s)(jo:H kS=none)(hu:A.units<bu)(hD:X.s₀.heap.objs.size<=D)(gF:∀p∈X.pn++pins,p.1≠D)(jg:H D=none)
  (hT:Tups H ps Ts) (nd:Ts.Nodup) (cq:ps.length<=64) (turn:Turns X f H ps Ts)
  (h:∀(p:Array Nat) (H':Hp) s',Gd ps.length p->Ci (E5 Ts) p ps.length->Same H H'->H' D=some (.lst ((p.toList.map λi=>ps.getD i 0).map V.ref))->Inv X pins Z H' s'->P (.done (.ret .none)) s'):
  ai (ag X.prog X.w) A (kF D (.ref f) false (ps.map aa.ref).toArray e1 (.ref kS)) P E s:=by
 subst hA;unfold kF;refine Te (aR ?_)
 first
  | rw[List.forIn_toArray]
  | (rw[<-Ra];simp only[List.toList_toArray])
  | rw[<-Ra]
 refine Te (ksk_fold (λi s'=>∃(H':Hp) (ks:List V),Inv X ((D,aq "list" #[] e1)::pins) Z H' s'/\Same H H'/\H' kS=some (.lst ks)/\ks.length=i/\∀j,j<i->∃t,ks[j]? = some (.ref t)/\H' t=some (.tup [.int (Ts.getD j []).length,.ref (ps.getD j 0)])) (ps.map aa.ref) 0 s
  ⟨_,[],I,Same.upd0 jo,Ab,rfl,λj hj=>absurd hj (Qk _)⟩ ?step ?done)
 case step=>
  rintro j x s' hx ⟨H',ks,J,sm,hk,je,jC⟩;simp only[Qc] at je jC ⊢;obtain⟨hj,ex⟩:=Oz.mp hx;rw[Od] at hj;have ud:x = .ref (ps.getD j 0):=by rw[<-ex];simp[List.getD,hj]
  subst ud;refine Te (cI (aI (turn _ Z s' H' j hj sm J) (λv lC he=>?_) λ_ _ hF=>hF.elim));obtain⟨t,H2,rfl,J2,ht,qy⟩:=he
  try dsimp only
  have qz:=qy _ _ hk;obtain⟨z,a7,n,r,hl,e⟩:=J2.lstM qz;have DO:t≠kS:=λq=>by rw[q,qz] at ht;cases ht
  refine Te (br e rfl ?_ (by rw[Oi,<-hl];exact z) (by rw[Array.size_push,Oi,<-hl,je,Ti];lia));refine Tf ⟨rfl,_,ks++[.ref t],J2.lset (ys:=ks++[.ref t]) (its':=a7++[.ref t]) (t':=lC.toks) qz e (by simp) (r.append (.cons (show Aj (.ref t) (.ref t) from rfl) .nil)) (by rw[Oh,Pn,je,Ti];lia),(sm.trans qy).upd jo,Ab,by simp[je],λi hi=>?_⟩;by_cases q:i=j
  ·subst q;exact⟨t,by rw[Po (by lia),je];simp,by rw[Ae DO];exact ht⟩
  ·obtain⟨t',a1,a2⟩:=jC i (by lia);refine⟨t',by rw[Pt (by lia)];exact a1,?_⟩;rw[Ae λq=>by rw[q,hk] at a2;cases a2];exact qy _ _ a2
 case done=>
  rintro s' ⟨H',ks,J,sm,hk,je,jC⟩;simp only[Qc,Od] at je jC
  try dsimp only
  obtain⟨z,a7,n,r,hl,e⟩:=J.lstM hk;refine Te (cV e rfl ?_);have li:=hT.same sm;have JX:kS≠D:=λq=>by
   obtain⟨_,hn,_⟩:=J.pin (D,aq "list" #[] e1) (O9 _ Op);have hn:H' D=none:=hn;rw[<-q,hk] at hn;cases hn
  refine Xou (ks:=ks) J hu hD gF hk (by lia) hT.1 nd (λi hi=>?_) cq λp s2 g so J2=>h p _ s2 g so ((sm.upd jo).upd jg) Ab J2;obtain⟨t,a1,a2⟩:=jC i hi;obtain⟨u,wJ,nK⟩:=r.get a1;have nK:u=aa.ref t:=nK;have e2:a7.getD i .none = .ref t:=by simp[List.getD,wJ,nK]
  rw[e2];exact Xot J a2 (li.2 i hi)
def Xow    (I:Inv X pins Z H s) (hu:X.A.in1.in1.units<bu) (hl:H l=some (.lst (ps.map V.ref))) (hT:Tups H ps Ts) (nd:Ts.Nodup) (cq:ps.length<=64) (turn:Turns X f H ps Ts)
  (h:∀(D:ae) (p:Array Nat) (H':Hp),H D=none->Gd ps.length p->Ci (E5 Ts) p ps.length->Same H H'->H' D=some (.lst ((p.toList.map λi=>ps.getD i 0).map V.ref))->Q (.ref D) H'):
  ai (ag X.prog X.w) X.A (call (.builtin "sorted") [.ref l] [(ak.ofString "key",.ref f)]) (EP X pins Z Q) X.xe s:=by
 obtain⟨a7,rv,pl,hz⟩:=I.list (SqL.of hl);have kw:a7=ps.map aa.ref:=by
  clear hT cq turn h pl hl hz
  induction ps generalizing a7 with
  | nil=>cases rv;rfl
  | cons p t ih=>
   cases rv with
   | cons r t'=>cases r;rw[ih _ t'];rfl
 subst kw;refine jp fF eR eS (ksk_s1 _ _) ?_;unfold aj.«sorted»;refine Te (m:=gB "sorted" 1 1 _) (Tf ?_);refine Te (jh pl.isList ?_ (by rw[Od,Ti];lia));refine Te (bM ?_ (by rw[Od,Ti];lia));generalize sI:ps.map aa.ref=vs at *;have j8:vs.length=ps.length:=by rw[<-sI,Od]
 have hsz:((s.heap.push (aq "list" #[] 0)).update s.heap.objs.size (aK.mapSeq (· ++ vs.toArray))).objs.size=s.heap.objs.size+1:=by
  rw[am.size_update,bq]
 have iI:(((s.heap.push (aq "list" #[] 0)).update s.heap.objs.size (aK.mapSeq (· ++ vs.toArray))).push (aq "list" vs.toArray 0)).get? (s.heap.objs.size+1)=some (aq "list" vs.toArray 0):=by
  rw[<-hsz];exact am.get?_push_size _ rfl
 have keep:∀b o,s.heap.get? b=some o->(((s.heap.push (aq "list" #[] 0)).update s.heap.objs.size (aK.mapSeq (· ++ vs.toArray))).push (aq "list" vs.toArray 0)).get? b=some o:=λb o q=>by
  have aZ:b<s.heap.objs.size:=Tr q;rw[am.get?_push_ne _ _ _ (by rw[hsz];exact Oo (Pu aZ)),am.get?_update_ne _ _ _ _ (Oo aZ),am.get?_push_ne _ _ _ (Oo aZ)];exact q
 have oX:(((s.heap.push (aq "list" #[] 0)).update s.heap.objs.size (aK.mapSeq (· ++ vs.toArray))).push (aq "list" vs.toArray 0)).objs.size=s.heap.objs.size+2:=by
  rw[bq,hsz]
 show ai _ _ _ _ _ {s with heap:=((s.heap.push (aq "list" #[] 0)).update s.heap.objs.size (aK.mapSeq (· ++ vs.toArray))).push (aq "list" vs.toArray 0)};rw[hsz];generalize DP:((s.heap.push (aq "list" #[] 0)).update s.heap.objs.size (aK.mapSeq (· ++ vs.toArray))).push (aq "list" vs.toArray 0)=hA at *;refine Te (az (l5 dA ⟨_,iI,rfl⟩ cZ ?body (ksk_l1 _ _)))
 case body=>
  show ai (ag X.prog X.w) X.A.in1.in1 (aj.«list.sort» ⟨[.ref (s.heap.objs.size+1)],[(ak.ofString "key",.ref f)]⟩) _ _ _;rw[ksk_t1];unfold ksk_tree;refine Te (cV iI rfl ?_);refine Te (br iI rfl ?_ (by rw[Oi,j8,Ti];lia) (Pf _));obtain⟨e1,fX⟩:∃e1,(hA.update (s.heap.objs.size+1) (aK.mapSeq λ_=>(#[]:Array aa))).get? (s.heap.objs.size+1)=some (aq "list" #[] e1):=⟨_,dc iI λ_ => #[]⟩;refine Te (cG fX rfl ?_);refine Te (d9 ?_ (by show vs.length<=_;rw[j8,Ti];lia));refine Te (bM ?_ (Pf _));refine az ?_;have jo:((hA.update (s.heap.objs.size+1) (aK.mapSeq λ_=>(#[]:Array aa))).push (aq "tuple" vs.toArray 0)).objs.size=s.heap.objs.size+3:=by rw[bq,am.size_update,oX]
  have k6:∀b o,s.heap.get? b=some o->(((hA.update (s.heap.objs.size+1) (aK.mapSeq λ_=>(#[]:Array aa))).push (aq "tuple" vs.toArray 0)).push (aq "list" #[] 0)).get? b=some o:=λb o e=>by
   refine Tt _ (Tt _ ?_);rw[am.get?_update_ne _ _ _ _ (Oo (Pu (Tr e)))];exact keep b o e
  have nB:(((hA.update (s.heap.objs.size+1) (aK.mapSeq λ_=>(#[]:Array aa))).push (aq "tuple" vs.toArray 0)).push (aq "list" #[] 0)).get? (s.heap.objs.size+1)=some (aq "list" #[] e1):=Tt _ (Tt _ fX);have wK:(((hA.update (s.heap.objs.size+1) (aK.mapSeq λ_=>(#[]:Array aa))).push (aq "tuple" vs.toArray 0)).push (aq "list" #[] 0)).get? (s.heap.objs.size+3)=some (aq "list" #[] 0):=by rw[<-jo];exact am.get?_push_size _ rfl
  have J0:Inv X pins Z (upd H (s.heap.objs.size+3) (.lst [])) {s with heap:=((hA.update (s.heap.objs.size+1) (aK.mapSeq λ_=>(#[]:Array aa))).push (aq "tuple" vs.toArray 0)).push (aq "list" #[] 0)}:=
   I.laid (t':=s.toks) (o:=.lst []) k6 (by lia) ⟨by decide,[],0,.nil,wK⟩
  have jg:H (s.heap.objs.size+1)=none:=I.hok.fresh (Qh _);have gF:∀p∈X.pn++pins,p.1≠s.heap.objs.size+1:=λp hp=>Oo (Pu (Tr (I.pin p hp).1));have J1:Inv X ((s.heap.objs.size+1,aq "list" #[] e1)::pins) Z (upd H (s.heap.objs.size+3) (.lst [])) {s with heap:=((hA.update (s.heap.objs.size+1) (aK.mapSeq λ_=>(#[]:Array aa))).push (aq "tuple" vs.toArray 0)).push (aq "list" #[] 0)}:=by
   refine J0.pins_of λp hp=>?_;rcases Ou.mp hp with rfl | hp
   ·exact⟨nB,by rw[Ae (by show s.heap.objs.size+1≠s.heap.objs.size+3;lia)];exact jg,Sf (Pu I.lt),I.nofs (Qh _),λv q=>by cases q⟩
   ·exact J0.pin p (O9 _ hp)
  rw[jo];subst sI;refine Xov (f:=f) rfl J1 (I.hok.fresh (by lia)) hu (Pj I.sz (Qh _)) gF jg hT nd cq turn λp H' s' g so sm eA J=>⟨_,rfl,?_⟩;exact Tf ⟨_,rfl,⟨.ref (s.heap.objs.size+1),H',J,rfl,h _ p H' jg g so sm eA⟩⟩
end
structure FunT (K:LD) (x:ak) (st:aM) (f:ae) (fd:au) (T:ae):Prop where
 ex:∃(oc:aa) (od:Option ae) (kV cX pm:aa) (an:Option ae) (c0:ae) (ct:aa) (iM:Array (Option aa)),
  fd=LS x x (Ec st) (Cs st) (defScope st) .none kV cX pm an (.ref c0) ct/\K.lookup f=some ⟨oc,od,.func fd,iM⟩/\LV K (.ref c0) x=true/\LO K c0 T=true
 kp:LL K (.ref f)=true
structure DefT (K:LD) (x:ak) (st:aM) (T:ae):Prop where
 ex:∃f fd,LJ K ap x=some (some (.ref f))/\LL K (.ref f)=true/\FunT K x st f fd T/\Fun K x x st f fd
def DefT.of{K}{x}{st}{f c0 T}   {kV cX pm ct}(a:LJ K ap x=some (some (.ref f)))
  (l:K.lookup f=some ⟨oc,od,.func (LS x x (Ec st) (Cs st) (defScope st) .none kV cX pm an (.ref c0) ct),iM⟩) (c:LV K (.ref c0) x=true) (k:LL K (.ref f)=true) (t:LO K c0 T=true):DefT K x st T:=
 ⟨⟨f,_,a,k,⟨⟨oc,od,kV,cX,pm,an,c0,ct,iM,rfl,l,c,t⟩,k⟩,Xbt l c k⟩⟩
section
variable {P:ao}{w:aw}{K:LD}{mg:ak->Option aa}{base:am}
def FunT.ok{x}{st}  {fd}   (F:FunT K x st f fd T)(S:FnScope N ps (defScope st))(len:∀vs H Q E,sp vs H Q E->vs.length=ps.length)
  (eE:∀(c0:ae),LO K c0 T=true->∀(A:av) (outer:List dt) (s:af) (H:Hp) (vs:List V) (Q:VK) (E:XK),Room k (A.deeper (aO x (defScope st) s.heap.objs.size f (.ref c0)))->sp vs H Q E ->
   ∃t,PSs (Co CX0 P w K mg base N x (defScope st) f (.ref c0) A outer s H E).nox (Cs st) t/\t {nx:=λ_ H'=>Q .non H',rt:=Q} (start N vs) H):FnOk P w K mg base CX0 (k+1) f fd ps sp:=by
 obtain⟨oc,od,kV,cX,pm,an,c0,ct,iM,rfl,lk,gW,hhd⟩:=F.ex;refine Ln lk gW S len λA outer s H vs Q E hr gY=>?_;obtain⟨t,h,q⟩:=eE c0 hhd A outer s H vs Q E hr gY;exact⟨t,h.nox,q⟩
end
section
variable {X:Cx}
def Xox (X:Cx) (ta tk:TA):TE:=fun Z H Q=>ta Z H λvs H1=>tk Z H1 λzs H2=>∃(l f:ae) (ps:List ae) (Ts:List (Za)),vs=[.ref l]/\zs=[.ref f]/\H2 l=some (.lst (ps.map V.ref))/\Tups H2 ps Ts/\Ts.Nodup/\ps.length<=64/\Turns X f H2 ps Ts /\
 ∀(D:ae) (p:Array Nat) (H':Hp),H2 D=none->Gd ps.length p->Ci (E5 Ts) p ps.length->Same H2 H'->H' D=some (.lst ((p.toList.map λi=>ps.getD i 0).map V.ref))->Q (.ref D) H'
def Xoy      (hu:X.A.in1.in1.units<bu) (hg:Gl X x) (hm:X.mg x=none) (hv:bA x=some (.builtin "sorted")) (ha:PA X (e::es) ta) (wL:PK X gX tk)
  (jC:(bV pos (bj gX X.env)).filterMap (·.1)=[ak.ofString "key"]:=by rfl)
  (hn:x ≠ "__name__" := by decide) (gj:(x==("__debug__" : ak))=false:=by decide)
  (he:bx pos (aA (e::es) X.env)=(false,eval e X.env)::bx pos (aA es X.env):=by rfl)
  (eI:(bx pos (aA (e::es) X.env)).any (·.1)=false:=by rfl)
  (bT:(bV pos (bj gX X.env)).all (·.1.isSome)=true:=by rfl)
  (fm:(bV pos (bj gX X.env)).any (·.1.isNone)=false:=by rfl):PE X (.Call (.Name x p) (e::es) gX pos) (Xox X ta tk):=by
 intro pins s Z H Q I h;refine bC (E9 I hg hm hv ?_ hn gj);refine zh (thn (ha pos pins s Z H _ I h) λus s1 ⟨vs,H1,I1,r1,q1⟩=>thn (wL pos pins s1 Z H1 _ I1 q1) λws s2 ⟨zs,H2,I2,r2,q2⟩=>?_) he eI bT fm;rw[jC];obtain⟨l,f,ps,Ts,rfl,rfl,hl,hT,nd,cq,turn,k⟩:=q2;obtain⟨u,rfl,rx⟩:=Bw r1;obtain⟨v,rfl,rf⟩:=Bw r2;cases rx;cases rf;exact Xow I2 hu hl hT nd cq turn k
def Xoz{k}  {x qual}       (hf:H f=some (.ext (Dr f (LK "<lambda>" qual params body scope [] pm (.ref c) dB))))(hc:H c=some (.ext (Dq c qual)))
  (S:FnScope [x] [x] scope) (hr:Room (k+3) X.A) (hb:∀u,cL (LK "<lambda>" qual params body scope [] pm (.ref c) dB) ⟨[u],[]⟩=pure ([x].zip [u]))
  (fi:∀(A:av) (outer:List dt) (s1:af) (H1:Hp) (i:Nat),i<ps.length->Same H H1->Room k (A.deeper (aO qual scope s1.heap.objs.size f (.ref c)))->∃t,PE (Co CX0 X.prog X.w X.K X.mg X.base [x] qual scope f (.ref c) A outer s1 H1 E0) body t /\
   ∀Q:VK,(∀t H2,H2 t=some (.tup [.int (Ts.getD i []).length,.ref (ps.getD i 0)])->Same H1 H2->Q (.ref t) H2)->t (start [x] [.ref (ps.getD i 0)]) H1 Q):Turns X f H ps Ts:=by
 intro pins Z s1 H1 i hi sm I;have cr:Room (k+1) X.A.in1.in1:=(Room.in1 (k:=k+2) hr).in1;obtain⟨t,ht,hq⟩:=fi X.A.in1.in1 X.stack s1 H1 i hi sm (cr.deeper _);refine dS (bi (Xnw (Q:=λv H2=>∃t,v = .ref t/\H2 t=some (.tup [.int (Ts.getD i []).length,.ref (ps.getD i 0)])/\Same H1 H2) (sm _ _ hf) (sm _ _ hc) S cr I.env0.in1.in1 rfl (.cons (show Aj (.ref (ps.getD i 0)) (.ref (ps.getD i 0)) from rfl) .nil) (hb _) ht (hq _ λt H2 a b=>⟨t,rfl,a,b⟩)) λr s' ji=>?_);cases r with
 | error e=>exact ji.elim
 | ok fl=>
  cases fl with
  | next=>exact False.elim ji
  | brk=>exact False.elim ji
  | cont=>exact False.elim ji
  | ret u=>
   obtain⟨v,H2,J,rv,t,rfl,a,b⟩:=I.after ji;exact⟨t,H2,rv,J,a,b⟩
end
end L2
namespace SH
open L2
def F0 (a b:Za):Bool:=C4 a.length a b.length b
def Xo0{Ts}(g:Gd Ts.length p)(so:Ci (E5 Ts) p Ts.length):
  (p.toList.map λi=>Ts.getD i []).Perm Ts/\(p.toList.map λi=>Ts.getD i []).Pairwise λa b=>F0 a b=true:=by
 constructor
 ·have e:((List.range Ts.length).map λi=>Ts.getD i [])=Ts:=by
   refine Q8 (by simp) λi h1 h2=>?_;simp[Qo,List.getElem_range,List.getD,h2]
  have q:p.toList.Perm (List.range Ts.length):=by
   have:=g.toList;simpa using this
  have:=q.map λi=>Ts.getD i [];rw[e] at this;exact this
 ·rw[P9];intro i j hi hj gE;have sz:=g.size;rw[Od,Os,sz] at hi hj;have:=so i j gE hj;rw[Qo,Qo];have e1:p.getD i 0=p.toList[i]'(by rw[Os,sz];exact hi):=by simp[Array.getD,sz,hi]
  have e2:p.getD j 0=p.toList[j]'(by rw[Os,sz];exact hj):=by simp[Array.getD,sz,hj]
  rw[e1,e2] at this;exact this
def Xf4{α : Type}(f:Nat -> α)(d : α)(l:List Nat)(hi:i<l.length):(l.map f).getD i d=f l[i]:=by simp[List.getD,hi]
def Xo1    (h:Tups H ps Ts) (g:Gd ps.length p):Tups H (p.toList.map λi=>ps.getD i 0) (p.toList.map λi=>Ts.getD i []):=by
 refine⟨by simp,λi hi=>?_⟩;rw[Od] at hi;have e1:(p.toList.map λi=>ps.getD i 0).getD i 0=ps.getD p.toList[i] 0:=Xf4 _ _ _ hi;have e2:(p.toList.map λi=>Ts.getD i []).getD i []=Ts.getD p.toList[i] []:=Xf4 _ _ _ hi;rw[e1,e2];refine h.2 _ ?_;have q:p.toList.Perm (List.range ps.length):=by
  have:=g.toList;simpa using this
 simpa using q.mem_iff.mp (Ph hi)
abbrev qIn:ak:=(ak.ofString "in_order" ++ ak.ofString ".<locals>.")++ak.ofString "<lambda>"
def spInOrder (T:ae) (pos:bI):Sp:=λvs H Q _=>∃(l:ae) (ps:List ae) (Ts:List (Za)),vs=[.ref l]/\H l=some (.lst (ps.map V.ref))/\Tups H ps Ts/\Ts.Nodup/\ps.length<=64/\Au T pos qIn H /\
 ∀(D:ae) (iS:List ae) (sJ:List (Za)) (H':Hp),H D=none->H' D=some (.lst (iS.map V.ref))->Tups H' iS sJ->sJ.Perm Ts->(sJ.Pairwise λa b=>F0 a b=true)->Au T pos qIn H'->But T H H'->Q (.ref D) H'
def Au.same    (h:Au T pos q H) (s:Same H H'):Au T pos q H':=by
 rcases h with e | ⟨c,e,ec⟩
 ·exact .inl (s _ _ e)
 ·exact .inr ⟨c,s _ _ e,s _ _ ec⟩
def Au.but     (h:Au T pos q H) (hd:H dr=some (.lst o')) (b:But dr H H'):Au T pos q H':=by
 rcases h with e | ⟨c,e,ec⟩
 ·exact .inl (b _ _ e λz=>by rw[z,hd] at e;cases e)
 ·exact .inr ⟨c,b _ _ e (λz=>by rw[z,hd] at e;cases e),b _ _ ec λz=>by rw[z,hd] at ec;cases ec⟩
def lamPos (s:aM):bI:=match Cs s with
 | [.Return (some (.Call _ _ [⟨_,.Lambda _ _ _ p,_⟩] _)) _]=>p
 | _=>⟨0,0,0,0⟩
def Xo2(h1:a<b)(h2:c<e)(n1:a≠c)(n2:a≠e)(n3:b≠c)(n4:b≠e)(h:lieT a b c e = "apart"):e<a\/b<c:=by
 unfold lieT at h;rw[Tj (by lia)] at h;split at h
 ·exact absurd h (by decide)
 ·split at h
  ·exact absurd h (by decide)
  ·split at h
   ·exact absurd h (by decide)
   ·rename_i q1 q2 q3;rw[B8] at q1 q2 q3;by_cases p1:c<a/\a<e
    ·by_cases p2:c<b/\b<e
     ·rw[Tk p1,Tk p2] at q2;lia
     ·rw[Tk p1,Tj p2] at q1;lia
    ·by_cases p2:c<b/\b<e
     ·rw[Tj p1,Tk p2] at q1;lia
     ·by_cases p3:a<c/\c<b
      ·by_cases p4:a<e/\e<b
       ·rw[Tk p3,Tk p4] at q3;lia
       ·lia
      ·lia
def Xf5(h1:a<b)(h:lieT a b c e = "cross"):a<e/\c<b:=by
 unfold lieT at h;split at h
 ·exact absurd h (by decide)
 ·split at h
  ·rename_i q;rw[B8] at q;by_cases p1:c<a/\a<e
   ·lia
   ·by_cases p2:c<b/\b<e
    ·lia
    ·rw[Tj p1,Tj p2] at q;lia
  ·split at h
   ·exact absurd h (by decide)
   ·split at h
    ·exact absurd h (by decide)
    ·exact absurd h (by decide)
def Xo3(h1:a<b)(h2:c<a)(h3:b<e):lieT a b c e = "within" := by
 unfold lieT;have q:nIn c e [a,b]=2:=by rw[B8,Tk ⟨h2,by lia⟩,Tk ⟨by lia,h3⟩]
 rw[Tj (by lia),q,Tj (by decide),Tk rfl]
section
variable {row:Za}
def Xf6(h:upB row a y=true):(pl row y).1<=(pl row a).1/\(pl row a).2<=(pl row y).2:=by
 unfold upB at h;rw[Q3] at h;rcases h with h | h
 ·rw[Tp h];exact⟨Int.le_refl _,Int.le_refl _⟩
 ·obtain⟨h1,h2,h3,h4⟩:=Kh (Tp h);exact⟨by lia,by lia⟩
def Xf7(hx:row.count x=2)(h:lieR row x y = "within")(g:lieR row y z = "within"):lieR row x z = "within" := by
 have l:=B7 hx;obtain⟨h1,h2,h3,h4⟩:=Kh h;obtain⟨g1,g2,g3,g4⟩:=Kh g;exact Xo3 l (by lia) (by lia)
def N1:lieR row x x ≠ "within" := by rw[J8];decide
structure Core (row:Za) (cs:Za) (p:ak->Bool):Prop where
 inr:∀c∈cs,c∈row
 is:∀y,p y=true ↔ ∃c∈cs,upB row c y=true
 ov:∀c∈cs,∀d∈cs,(pl row c).1<(pl row d).2
 an:∀c∈cs,∀d∈cs,lieR row c d ≠ "within"
variable {cs zi:Za}{p p':ak->Bool}
def Core.plot(h2:∀y∈row,row.count y=2)(C:Core row cs p):Ad row ((dit row).filter p)=true:=by
 refine Il.mpr ⟨(Dm row).filter p,λx hx=>An.mp (Om.mp hx).1,λx hx y hy e=>?_,λx hx y hy e=>?_⟩
 ·obtain⟨c,hc,hu⟩:=(C.is x).mp (Om.mp hx).2;refine Om.mpr ⟨An.mpr hy,(C.is y).mpr ⟨c,hc,?_⟩⟩;unfold upB at hu ⊢;rw[Q3] at hu ⊢;rcases hu with hu | hu
  ·rw[Tp hu] at e;exact .inr (Tl e)
  ·exact .inr (Tl (Xf7 (h2 c (C.inr c hc)) (Tp hu) e))
 ·have mx:=Om.mp hx;have my:=Om.mp hy;obtain⟨c,hc,hu⟩:=(C.is x).mp mx.2;obtain⟨d,hd,hv⟩:=(C.is y).mp my.2;have oQ:=h2 x (An.mp mx.1);have km:=h2 y (An.mp my.1);have ne:x≠y:=λz=>by rw[z,J8] at e;exact absurd e (by decide)
  obtain⟨n1,n2,n3,n4⟩:=Fv oQ km ne;have u1:=Xf6 hu;have u2:=Xf6 hv;have o1:=C.ov c hc d hd;have o2:=C.ov d hd c hc;rcases Xo2 (B7 oQ) (B7 km) n1 n2 n3 n4 e with z | z
  ·lia
  ·lia
def Core.min(h2:∀y∈row,row.count y=2)(C:Core row cs p)(x):x∈cs↔x∈(dit row).filter p/\∀y∈(dit row).filter p,lieR row y x ≠ "within" := by
 have self:∀c∈cs,c∈(dit row).filter p:=λc hc=>Om.mpr ⟨An.mpr (C.inr c hc),(C.is c).mpr ⟨c,hc,by unfold upB;simp⟩⟩;constructor
 ·intro hx;refine⟨self x hx,λy hy e=>?_⟩;obtain⟨c,hc,hu⟩:=(C.is y).mp (Om.mp hy).2;unfold upB at hu;rw[Q3] at hu;rcases hu with hu | hu
  ·rw[Tp hu] at e;exact C.an c hc x hx e
  ·exact C.an c hc x hx (Xf7 (h2 c (C.inr c hc)) (Tp hu) e)
 ·rintro ⟨hx,hm⟩;obtain⟨c,hc,hu⟩:=(C.is x).mp (Om.mp hx).2;unfold upB at hu;rw[Q3] at hu;rcases hu with hu | hu
  ·rw[Tp hu];exact hc
  ·exact absurd (Tp hu) (hm c (self c hc))
def Core.eq(h2:∀y∈row,row.count y=2)(C:Core row cs p)(C':Core row zi p')(e:(dit row).filter p=(dit row).filter p'):∀x,x∈cs↔x∈zi:=λx=>by
 rw[C.min h2,C'.min h2,e]
def core1(h2:∀y∈row,row.count y=2){a:ak}(ha:a∈row):Core row [a] (upB row a) where
 inr c hc:=by rw[Oj.mp hc];exact ha
 is y:=by simp
 ov c hc d hd:=by rw[Oj.mp hc,Oj.mp hd];exact B7 (h2 a ha)
 an c hc d hd:=by rw[Oj.mp hc,Oj.mp hd];exact N1
def Iy(h:q∈crs row):q.1∈row/\q.2∈row/\ltS q.1 q.2/\lieR row q.1 q.2 = "cross" := by
 unfold crs at h;obtain⟨x,hx,h⟩:=List.mem_flatMap.mp h;obtain⟨y,hy,rfl⟩:=Pa.mp h;obtain⟨h1,h3⟩:=Om.mp hy;rw[Oy] at h3;exact⟨An.mp hx,An.mp h1,Tp h3.1,Tp h3.2⟩
def core2(h2:∀y∈row,row.count y=2)(h:q∈crs row):Core row [q.1,q.2] λy=>upB row q.1 y||upB row q.2 y:=by
 obtain⟨ha,hb,hl,hx⟩:=Iy h;have hy:lieR row q.2 q.1 = "cross" := De (h2 _ ha) (h2 _ hb) hx;have la:=B7 (h2 _ ha);have lb:=B7 (h2 _ hb);have c1:=Xf5 la hx;have c2:=Xf5 lb hy;refine⟨λc hc=>?_,λy=>by simp,λc hc d hd=>?_,λc hc d hd=>?_⟩
 ·simp at hc;rcases hc with rfl | rfl
  ·exact ha
  ·exact hb
 ·simp at hc hd;rcases hc with rfl | rfl<;>rcases hd with rfl | rfl
  ·exact la
  ·exact c1.1
  ·exact c2.1
  ·exact lb
 ·simp at hc hd;rcases hc with rfl | rfl<;>rcases hd with rfl | rfl
  ·exact N1
  ·rw[hx];decide
  ·rw[hy];decide
  ·exact N1
def Xo4(h2:∀y∈row,row.count y=2):∀S∈cands row,Ad row S=true:=λS hS=>by
 unfold cands at hS;rcases Oq.mp hS with h | h
 ·obtain⟨a,ha,rfl⟩:=Pa.mp h;exact(core1 h2 (An.mp ha)).plot h2
 ·obtain⟨q,hq,rfl⟩:=Pa.mp h;exact(core2 h2 hq).plot h2
def Xo5(row):(crs row).Nodup:=by
 unfold crs;have nd:=Db (Dm row);rw[List.Nodup,List.pairwise_flatMap];refine⟨λx hx=>?_,nd.imp λ{x y} ne a ha b hb e=>?_⟩
 ·rw[Qw];exact(nd.filter _).imp λne e=>ne (Prod.mk.inj e).2
 ·obtain⟨u,_,rfl⟩:=Pa.mp ha;obtain⟨v,_,rfl⟩:=Pa.mp hb;exact ne (Prod.mk.inj e).1
def Xo6(h2:∀y∈row,row.count y=2):(cands row).Nodup:=by
 have nd:=Db (Dm row);unfold cands;rw[List.Nodup,Pc];refine⟨?_,?_,?_⟩
 ·rw[Qw];refine nd.imp_of_mem λ{a b} ha hb ne e=>ne ?_;have:=(Core.eq h2 (core1 h2 (An.mp ha)) (core1 h2 (An.mp hb)) e a).mp (Qm _);exact Oj.mp this
 ·rw[Qw];refine(Xo5 row).imp_of_mem λ{q r} hq hr ne e=>ne ?_;have E:=Core.eq h2 (core2 h2 hq) (core2 h2 hr) e;obtain⟨_,_,l1,_⟩:=Iy hq;obtain⟨_,_,l2,_⟩:=Iy hr;have e1:=(E q.1).mp (by simp);have e2:=(E q.2).mp (by simp);have e3:=(E r.1).mpr (by simp);simp at e1 e2 e3;obtain⟨a,b⟩:=q;obtain⟨c,d⟩:=r;simp only at *;rcases e1 with e1 | e1
  ·rcases e2 with e2 | e2
   ·exact absurd (e1.trans e2.symm) (Hu l1)
   ·rw[e1,e2]
  ·rcases e2 with e2 | e2
   ·rw[e1,e2] at l1;exact absurd (Jw l1 l2) (Jv _)
   ·exact absurd (e1.trans e2.symm) (Hu l1)
 ·intro A hA B hB e;obtain⟨a,ha,rfl⟩:=Pa.mp hA;obtain⟨q,hq,rfl⟩:=Pa.mp hB;have E:=Core.eq h2 (core1 h2 (An.mp ha)) (core2 h2 hq) e;obtain⟨_,_,l1,_⟩:=Iy hq;have e1:=Oj.mp ((E q.1).mpr (by simp));have e2:=Oj.mp ((E q.2).mpr (by simp));exact Hu l1 (e1.trans e2.symm)
def Xf8(h2:∀y∈row,row.count y=2)(h3:Bk row)(S):S∈[]::cands row↔Ad row S=true:=by
 constructor
 ·intro h;rcases Ou.mp h with e | e
  ·rw[e];exact Nj row
  ·exact Xo4 h2 S e
 ·intro h;by_cases e:S=[]
  ·rw[e];exact Op
  ·exact Ol _ (Xd8 h2 h3 e h)
def Xo7(h2:∀y∈row,row.count y=2):[]∉cands row:=λh=>by
 unfold cands at h;rcases Oq.mp h with h | h
 ·obtain⟨a,ha,e⟩:=Pa.mp h;have:=((core1 h2 (An.mp ha)).min h2 a).mp (Qm _);rw[e] at this;cases this.1
 ·obtain⟨q,hq,e⟩:=Pa.mp h;have:=((core2 h2 hq).min h2 q.1).mp (by simp);rw[e] at this;cases this.1
def Xf9(h2:∀y∈row,row.count y=2):([]::cands row).Nodup:=P5.mpr ⟨Xo7 h2,Xo6 h2⟩
end
end SH
namespace L2
def Xga  {N:Za} {cap:List (Option Nat)}         {i:Nat}  (C:CompScope X N cap scope) (bv:X.calm=true) (hN:X.N.Nodup) (rS:X.N[i]? = some y) (hy:X.env.scope.names.lookup y=some .local) (hi:PI X tg iter wi)
  (hg:∀s0 H0 ex,PG (X.comp N scope s0 H0 ex) tg g) (ht:∀s0 H0 ex,PIfs (X.comp N scope s0 H0 ex) cx tt) (he:∀s0 H0 ex,PE (X.comp N scope s0 H0 ex) eu te)
  (rT:dE (.ListComp eu [⟨tg,iter,cx,0⟩] scope pos) (some (.Name y py)) kg.line X.env=pure true:=by rfl)
  (hs:∀x,aG iter X.env x=pure x:=by intro _;rfl):PS X (.Assign [.Name y py] (.ListComp eu [⟨tg,iter,cx,0⟩] scope pos) kg) (Xc4 i cap (.lst []) wi g tt (Hy te)):=
 Xc5 (act := fun D env => do let _ <- call (.builtin "list.append") [.ref D, <- eval eu env]) J3 (fun use => rfl) rfl C bv Hw hN rS hy hi (fun it D env => rfl) hg ht (fun D s0 H0 ex => Jz (he s0 H0 ex)) rT hs
end L2
namespace SH
open L2
def spPlotsA (T:ae) (pos:bI):Sp:=λvs H Q _=>∃(r:ae) (row:Za),vs=[.ref r]/\H r=some (.lst (row.map V.str))/\Row2 row/\Bk row/\(dit row).length<=14/\Au T pos qIn H /\
 ∀(D:ae) (ps:List ae) (Ts:List (Za)) (H':Hp),H D=none->H' D=some (.lst (ps.map V.ref))->Tups H' ps Ts->(∀S,S∈Ts↔Ad row S=true)->(Ts.Pairwise λa b=>F0 a b=true)->ps.length<=64->Au T pos qIn H'->But T H H'->Q (.ref D) H'
abbrev NPp:Za:=["row", "span", "off", "single", "double"]
abbrev NPo:Za:=["name", "span"]
abbrev NPi:Za:=["other", "name", "span"]
abbrev NPs:Za:=["name", "off"]
abbrev NPd:Za:=["one", "other", "off"]
structure Offs (H:Hp) (kvs:List (Key×V)) (row:Za) (ns:Za):Prop where
 keys:kvs.map (·.1)=ns.map (λx=>(Sum.inr x:Key))
 val:∀x∈ns,∃l,Ay kvs (Sum.inr x:Key)=some (.ref l)/\H l=some (.lst (((dit row).filter (upB row x)).map V.str))
def Offs.mono   (s:Offs H kvs row ns) (h:Same H H'):Offs H' kvs row ns:=⟨s.keys,λx hx=>let ⟨l,h1,h2⟩:=s.val x hx; ⟨l,h1,h _ _ h2⟩⟩
def Offs.snoc     (s:Offs H kvs row ns) (nx:x∉ns) (h:H' l=some (.lst (((dit row).filter (upB row x)).map V.str))) (k:∀b xs,H b=some (.lst xs)->H' b=some (.lst xs)):
  Offs H' (Bh kvs (Sum.inr x) (.ref l)) row (ns++[x]):=by
 have hn:Ay kvs (Sum.inr x:Key)=none:=by
  cases e:Ay kvs (Sum.inr x:Key) with
  | none=>rfl
  | some v=>
   exfalso;have:=Hj e;rw[s.keys] at this;obtain⟨y,hy,e2⟩:=Pa.mp this;rw[Qx e2] at hy;exact nx hy
 refine⟨by rw[Hi _ hn,Ot,Ot,s.keys];rfl,λy hy=>?_⟩;rw[Jn];by_cases e:y=x
 ·subst e;exact⟨l,Tk rfl,h⟩
 ·have jA:y∈ns:=by
   rcases Oq.mp hy with z | z
   ·exact z
   ·exact absurd (Oj.mp z) e
  obtain⟨l0,h1,h2⟩:=s.val y jA;exact⟨l0,by rw[Tj (λz=>e (Qx z))];exact h1,k _ _ h2⟩
def Offs.get    {x} (s:Offs H kvs row ns) (hd:Rd H d (.dK kvs)) (hx:x∈ns):∃l,DGet H d (.str x) (some (.ref l))/\H l=some (.lst (((dit row).filter (upB row x)).map V.str)):=by
 obtain⟨l,h1,h2⟩:=s.val x hx;exact⟨l,DGet.rd hd h1,h2⟩
def Offs.at{H}{kvs}{row ns}(s:Offs H kvs row ns)(i)(hi:i<ns.length):(kvs.map λp=>kV p.1).getD i .non = .str (ns.getD i ak.empty):=by
 have e:(kvs.map λp=>kV p.1)=ns.map V.str:=by
  have:(kvs.map λp=>kV p.1)=(kvs.map (·.1)).map kV:=by rw[Pg];rfl
  rw[this,s.keys,Pg];rfl
 rw[e];exact Bt V.str ak.empty ns hi
def Offs.len   (s:Offs H kvs row ns):kvs.length=ns.length:=by
 have:=congrArg List.length s.keys;simpa using this
def Xo8{row}{x y}(hx:row.count x=2)(hy:row.count y=2):decide (lieR row x y∈[ak.ofString "same",ak.ofString "within"])=upB row x y:=by
 unfold upB;by_cases e:y=x
 ·subst e;rw[J8];simp
 ·have n:lieR row x y ≠ "same" := λz=>e (Xd7 hx hy z).symm;simp[e,n]
def ltP (a b:Za):Prop:=a.length<b.length\/(a.length=b.length/\ltL a b=true)
structure IsPL (row:List ak) (Ts:List (List ak)):Prop where
 pw:Ts.Pairwise ltP
 mem:∀T,T∈Ts↔Ad row T=true
structure Lay (row:Za) (n:Nat) (Us:List (Za)):Prop where
 pw:Us.Pairwise λa b=>ltL a b=true
 mem:∀T,T∈Us↔Ad row T=true/\T.length=n
structure Upto (row:Za) (n:Nat) (Ts:List (Za)):Prop where
 pw:Ts.Pairwise ltP
 mem:∀T,T∈Ts↔Ad row T=true/\T.length<=n
end SH
set_option maxHeartbeats 8000000
namespace SH
open L2
end SH
set_option maxHeartbeats 4000000
namespace SH
open L2
def crsAt (row:Za) (x:ak) (ys:Za):List (ak×ak):=(ys.filter λy=>decide (lieR row x y = "cross")).map λy=>(x,y)
def Xsb:Sp:=λvs H Q _=>∃(l:ae) (ps:List ae) (Ts:List (Za)),vs=[.ref l]/\H l=some (.lst (ps.map V.ref))/\Tups H ps Ts/\(∀S∈Ts,S.length<=1000)/\ps.length<=1000/\∀H',Same H H'->Q (.bl true) H'
def nbL (row S:Za):List (ak×Za):=((dit row).filter λx=>Ad row (Ao S x)).map λx=>(x,Ao S x)
def Xo9        (n:Nat) (hn:n<sizeLine) (vs:Nat->V) (ok:Nat->Bool) (Us:Nat->ak×Za) (Es:L2.St->Prop) (h0:Es (Bs cap Z))
  (gu:∀i H2,i<n->Same H1 H2->J.go i H2/\∀x H3,J.yld i H2 x H3->H3=H2/\x=vs i)
  (bD:∀H2,Same H1 H2->J.stop n H2)
  (step:∀i Z1 H2 (Q1:L2.St->V->Hp->Prop) (Q0:L2.St->Hp->Prop),i<n->Es Z1->Same H1 H2->(∀Z2 t p H6,ok i=true->Es Z2->H6 t=some (.tup [.str (Us i).1,.ref p])->H6 p=some (.tup ((Us i).2.map V.str))->Same H2 H6->Q1 Z2 (.ref t) H6)->(∀Z2 H6,ok i=false->Es Z2->Same H2 H6->Q0 Z2 H6) ->
   g (vs i) Z1 H2 fun Z2 H4=>tt Z2 H4 λb H5=>if b=true then te Z2 H5 λy H6=>Q1 Z2 y H6 else Q0 Z2 H5)
  (hd:∀D ps H2,H1 D=none->Same H1 H2->H2 D=some (.lst (ps.map V.ref))->Nbs H2 ps (((List.range n).filter ok).map Us)->F D H2):Ee cap g tt te J Z H1 F:=by
 refine F8 n vs (λD i Z2 H2=>Es Z2/\Same H1 H2/\∃ps:List ae,ps.length<=i/\H2 D=some (.lst (ps.map V.ref))/\Nbs H2 ps (((List.range i).filter ok).map Us)) ?_ ?_ ?_ ?_ ?_
 ·intro D hD;exact⟨h0,(Same.refl H1).step hD,[],Og _,Ab,Nbs.nil _⟩
 ·rintro D i Z2 H2 hD hi ⟨_,s2,_⟩;exact gu i H2 hi s2
 ·rintro D Z2 H2 hD ⟨_,s2,_⟩;exact bD H2 s2
 ·rintro D i Z2 H2 hD hi ⟨e,s2,ps,hl,hb,ht⟩;refine step i Z2 H2 _ _ hi e s2 (fun Z3 t p H4 hok e3 h4 h5 s4=>?_) (fun Z3 H4 hok e3 s4=>?_)
  ·have nA:=s4 _ _ hb;have ja:=ht.same s4;have keep:∀b w,H4 b=some (.tup w)->upd H4 D (.lst (ps.map V.ref++[.ref t])) b=some (.tup w):=λb w e=>by
    rw[Ae (λz=>by rw[z,nA] at e;cases e)];exact e
   refine wput hi nA (by rw[Od];lia) ⟨e3,λb u e'=>?_,ps++[t],by rw[Oh];show ps.length+1<=i+1;lia,by rw[Ab,Ot];rfl,?_⟩
   ·rw[Ae (Av e' hD)];exact s4 _ _ (s2 b u e')
   ·rw[Pq,O1,Ot];simp only[Pi,hok,if_true,Rt,O5,R0];exact(ja.keep keep).snoc (keep _ _ h4) (keep _ _ h5)
  ·refine wskip hi ⟨e3,s2.trans s4,ps,by lia,s4 _ _ hb,?_⟩;rw[Pq,O1,Ot];simp only[Pi,hok,Rt,Pe,if_false,R0,Pm];exact ht.same s4
 ·rintro D Z2 H2 hD ⟨_,s2,ps,_,hb,ht⟩;exact hd D ps H2 hD s2 hb ht
def spNbs (T:ae) (pos:bI):Sp:=λvs H Q _=>∃(r p:ae) (row S:Za),vs=[.ref r,.ref p]/\H r=some (.lst (row.map V.str))/\Row2 row/\Bk row/\(dit row).length<=14/\Au T pos qIn H/\H p=some (.tup (S.map V.str))/\Ad row S=true /\
 ∀(D:ae) (qs:List ae) (H':Hp),H D=none->H' D=some (.lst (qs.map V.ref))->Nbs H' qs (nbL row S)->qs.length<=14->Au T pos qIn H'->But T H H'->Q (.ref D) H'
def Xsc (C T:ae) (pos:bI):Sp:=λvs H Q E=>∃(r p:ae) (row S:Za),vs=[.ref r,.ref p]/\H r=some (.lst (row.map V.str))/\Row2 row/\Bk row/\(dit row).length<=14/\Au T pos qIn H/\H p=some (.tup (S.map V.str))/\(∀y∈S,okN y)/\S.length<=24 /\
 (Ad row S=true->∀(D:ae) (qs:List ae) (H':Hp),H D=none->H' D=some (.lst (qs.map V.ref))->Nbs H' qs (nbL row S)->qs.length<=14->Au T pos qIn H'->But T H H'->Q (.ref D) H')/\(Ad row S=false->∀H',Same H H'->E (.ref C) none H')
def Xsd (C:LedC):Sp:=λvs H Q E=>∃(r p:ae) (row S:Za) (x:ak),vs=[.ref r,.ref p,.str x]/\H r=some (.lst (row.map V.str))/\Row2 row/\(dit row).length<=14/\H p=some (.tup (S.map V.str))/\(∀y∈S,okN y)/\S.length<=24/\okN x /\
 (Ad row S=false->∀H',Same H H'->E (.ref C.plot) none H')/\(Ad row S=true->x∉row->∀H',Same H H'->E (.ref C.ditch) none H') /\
 (Ad row S=true->x∈row->Ad row (Ao S x)=true->∀q H',H' q=some (.tup ((Ao S x).map V.str))->Same H H'->Q (.ref q) H')/\(Ad row S=true->x∈row->Ad row (Ao S x)=false->∀dx H',AtAt H' dx 0->Same H H'->E (.ref C.beside) (some dx) H')
end SH
namespace L2
open PySem.Calls
section
variable {P:ao}{w:aw}{A:av}{E:Zb}{s:af}
def dictP (DQ:List (Key×V)):List (Key×V):=DQ.foldl (λm q=>Bh m q.1 q.2) []
end
section
variable {X:Cx}
end
end L2
namespace SH
open L2
open Classical in
structure K12 (K:LD) (C:LedC) (S:ae):Prop where
 fb:ExcF K C.beside
 fd:ExcF K C.ditch
 fp:ExcF K C.plot
 kb:ExK K C.beside "at"
 eb:LG K (.ref C.beside) (.ref C.beside)=some true
 db:LG K (.ref C.ditch) (.ref C.beside)=some false
 pb:LG K (.ref C.plot) (.ref C.beside)=some false
 ds:LG K (.ref C.ditch) (.ref S)=some true
 ps:LG K (.ref C.plot) (.ref S)=some true
 dd:LI K (.ref C.ditch) (.ref C.ditch)=some true
 dp:LI K (.ref C.ditch) (.ref C.plot)=some false
 pd:LI K (.ref C.plot) (.ref C.ditch)=some false
 pp:LI K (.ref C.plot) (.ref C.plot)=some true
 dv:LI K (.ref C.ditch) (.type "ValueError")=some true
 pv:LI K (.ref C.plot) (.type "ValueError")=some true
def CrOk (Ts:List (Za)):Prop:=∀S∈Ts,(∀y∈S,okN y)/\S.length<=24
def Xgb (Ts:List (Za)) (b:Za):Int:=(Ts.map λa=>((Af a b).length:Int)).sum
def Tups.at{H}  {i}(h:Tups H ps Ts)(hi:i<ps.length):Ts.getD i []∈Ts:=by
 have dg:i<Ts.length:=by rw[<-h.1];exact hi
 have:Ts.getD i []=Ts[i]:=by simp[List.getD,dg]
 rw[this];exact Ph dg
def Xgc{ps:List ae}  (h:(ps.map V.ref)[i]? = some v):i<ps.length/\v = .ref (ps.getD i 0):=by
 obtain⟨hi,e⟩:=Oz.mp h;rw[Od] at hi;exact⟨hi,by rw[<-e];simp[List.getD,hi]⟩
def Au.ne    {o} (tb:Au T pos q H) (e:H b=some o) (n:∀z,o ≠ .tbl z):b≠T:=λz=>by
 rcases tb with q | ⟨_,q,_⟩<;>(rw[z,q] at e;cases e;exact n _ rfl)
end SH
namespace L2
def Recs (H:Hp) (ps:List ae) (rs:List (List V)):Prop:=ps.length=rs.length/\∀i,i<ps.length->H (ps.getD i 0)=some (.tup (rs.getD i []))
end L2
namespace SH
open L2
def offN (Ts:List (Za)) (x:ak):Nat:=(Ts.filter λS=>decide (x∈S)).length
def v3 (t:ak×Int×Int):List V:=[.str t.1,.int t.2.1,.int t.2.2]
def v2 (q:ak×Int):List V:=[.str q.1,.int q.2]
def d3 (t:ak×Int×Int):ar:=.tuple [.str t.1,.int t.2.1,.int t.2.2]
def d2 (q:ak×Int):ar:=.tuple [.str q.1,.int q.2]
structure CrAt (H:Hp) (T:ae) (pos:bI) (r c:ae) (row:Za) (ps:List ae) (Ts:List (Za)):Prop where
 hr:H r=some (.lst (row.map V.str))
 r2:Row2 row
 n3:Bk row
 d:(dit row).length<=14
 tab:Au T pos qIn H
 hc:H c=some (.lst (ps.map V.ref))
 ht:Tups H ps Ts
 pl:ps.length<=200
 co:CrOk Ts
def kvN (ns:Za) (f:ak->Nat):List (Key×V):=ns.map λx=>((Sum.inr x:Key),V.int (f x:Int))
def cntOn (ns:Za) (Ts:List (Za)):List (ak×Int×Int):=ns.map λx=>(x,(Ts.length:Int) - offN Ts x,(offN Ts x:Int))
def ne2 (a b:Za) (x:ak):Bool:=xor (decide (x∈a)) (decide (x∈b))
def Kz  : ne2 a b x=true↔(x∈a/\x∉b)\/(x∈b/\x∉a):=by
 unfold ne2;by_cases h1:x∈a<;>by_cases h2:x∈b<;>simp[h1,h2]
def btw (a b c:Za):Bool:=decide ((Af a c).length+(Af c b).length=(Af a b).length)
def Xse:Sp:=λvs H Q _=>∃(r p q u:ae) (row a b c:Za),vs=[.ref r,.ref p,.ref q,.ref u]/\H r=some (.lst (row.map V.str))/\Row2 row/\(dit row).length<=14/\H p=some (.tup (a.map V.str))/\H q=some (.tup (b.map V.str))/\H u=some (.tup (c.map V.str)) /\
 Ad row a=true/\Ad row b=true/\Ad row c=true/\∀H',Same H H'->Q (.bl (btw a b c)) H'
def Xsf (T:ae) (pos:bI):Sp:=λvs H Q _=>∃(r p q:ae) (row a b:Za),vs=[.ref r,.ref p,.ref q]/\H r=some (.lst (row.map V.str))/\Row2 row/\Bk row/\(dit row).length<=14/\H p=some (.tup (a.map V.str))/\H q=some (.tup (b.map V.str)) /\
 Ad row a=true/\Ad row b=true/\Au T pos qIn H /\
 ∀(D:ae) (ps:List ae) (Ts:List (Za)) (H':Hp),H D=none->H' D=some (.lst (ps.map V.ref))->Tups H' ps Ts->(∀S,S∈Ts↔Ad row S=true/\btw a b S=true)->(Ts.Pairwise λx y=>F0 x y=true)->ps.length<=64->Au T pos qIn H'->But T H H'->Q (.ref D) H'
def costX (Ts:List (Za)) (S:Za) (x:ak):Int:=if x∈S then (Ts.length:Int) - offN Ts x else (offN Ts x:Int)
def majB (Ts:List (Za)) (S:Za) (x:ak):Prop:=(x∈S->Ts.length<=2 * offN Ts x)/\(x∉S->2 * offN Ts x<=Ts.length)
def majP (row:Za) (Ts:List (Za)):Za:=(dit row).filter λx=>decide (Ts.length<2 * offN Ts x)
def Xsg (row:Za) (Ts:List (Za)) (S:Za):Prop:=Ad row S=true/\∀S',Ad row S'=true->Xgb Ts S<=Xgb Ts S'
end SH
namespace L2
section
variable {P:ao}{w:aw}{A:av}{E:Zb}{s:af}{it d v:ae}{i ep:Nat}{es:Array fj}
end
section
variable {X:Cx}{tg:aE}
end
section
variable {X:Cx}
end
end L2
namespace SH
open L2
def kOf (S:Za):List Key:=S.map λx=>(Sum.inr x:Key)
def Gy(S:Za):(kOf S).map kV=S.map V.str:=by unfold kOf;rw[Pg];rfl
def Xpa{S S':Za}(h:kOf S=kOf S'):S=S':=by
 unfold kOf at h;exact Sw (λa b e=>Qx e) |>.mp h
def kvT (Us:List (Za)) (f:Za->Int):List (List Key×V):=Us.map λS=>(kOf S,V.int (f S))
theorem Gz(f:Za->Int)(S:Za):∀(Us:List (Za)),Ay (kvT Us f) (kOf S)=if S∈Us then some (.int (f S)) else none
 | []=>rfl
 | U::Us=>by
  have ih:=Gz f S Us;unfold kvT Ay at ih ⊢;rw[O5,Rg];by_cases e:U=S
  ·subst e;simp
  ·have e1:decide (kOf U=kOf S)=false:=Tn λz=>e (Xpa z);rw[e1];dsimp only;rw[ih];by_cases m:S∈Us
   ·rw[Tk m,Tk (Ol _ m)]
   ·rw[Tj m,Tj (λz=>(Ou.mp z).elim (λq=>e q.symm) m)]
def Xpb(Us:List (Za))(f:Za->Int):(kvT Us f).length=Us.length:=by unfold kvT;rw[Od]
def Xpc(a:Za):¬F0 a a=true:=λh=>by unfold F0 at h;rw[Xf3] at h;cases h
def Xpd{Us:List (Za)}(h:Us.Pairwise λa b=>F0 a b=true):Us.Nodup:=h.imp (S:=λa b=>a≠b) λ{a b} q (e:a=b)=>Xpc a (by rw[<-e] at q;exact q)
end SH
namespace L2
def cxL (P:ao) (w:aw) (K:LD) (mg:ak->Option aa) (base:am) (N:Za) (qual:ak) (scope:bE) (cl:List (ak×ae)) (f:ae) (cd:aa) (A:av) (outer:List dt) (s:af) (H:Hp):Cx where
 prog:=P
 w:=w
 K:=K
 mg:=mg
 base:=base
 A:=A.deeper (MM qual scope s.heap.objs.size f cd cl)
 N:=N
 s₀:=s
 H₀:=H
 env:=MM qual scope s.heap.objs.size f cd cl
 outer:=outer
 stack:=MM qual scope s.heap.objs.size f cd cl::outer
 ex:=[]
 calm:=true
 fn:=λ_=>false
 pn:=[]
 xe:=λ_ _=>False
structure LamScope (x:ak) (scope:bE):Prop where
 kind:scope.kind = .function
 co:scope.isCoroutine=false
 gen:scope.isGenerator=false
 nocell:∀y∈scope.names,y.2 ≠ .cell
 loc:scope.names.lookup x=some .local
structure Caps (N':Za) (τ : L2.St) (scope:bE) (cl:List (ak×ae)) (H:Hp) (h:am):Prop where
 has:∀y,scope.names.lookup y=some .free->∃c,cl.lookup y=some c
 inj:∀y z c,cl.lookup y=some c->cl.lookup z=some c->y=z
 cell:∀y c,cl.lookup y=some c->H c=none/\∃v,h.IsCell c v
 val:∀(i:Nat) (y:ak) (v:V),N'[i]? = some y -> τ[i]? = some (some v)->scope.names.lookup y=some .free/\∃u c,Aj v u/\cl.lookup y=some c/\h.IsCell c (some u)
 len : τ.length=N'.length
def Xpe{CX:CXT}{P:ao}{w:aw}{K:LD}{mg:ak->Option aa}{base:am}{A:av}{outer:List dt}{s:af}{H:Hp}{k:Nat}{f c:ae}{name qual x:ak}{params:cM}{body:aE}{scope:bE}{cl:List (ak×ae)}{pm dB:aa}
  {N':Za} {τ : L2.St} {u:aa} {v:V} {Q:VK} {E:XK} {t:TE}
  (hf:H f=some (.ext (Dr f (LK name qual params body scope cl pm (.ref c) dB)))) (hc:H c=some (.ext (Dq c qual))) (S:LamScope x scope) (hr:Room (k+1) A) (e0:Env0 P w K mg base A outer s H) (C:Caps N' τ scope cl H s.heap)
  (r:Aj v u) (hb:cL (LK name qual params body scope cl pm (.ref c) dB) ⟨[u],[]⟩=pure [(x,u)])
  (ht:PE (cxL P w K mg base (x::N') qual scope cl f (.ref c) A outer s H) body t) (hq:t (some v :: τ) H Q):
  bw (ag P w) A (.call (.ref f) ⟨[u],[]⟩) (CR CX outer P w H s Q E) s:=by
 obtain⟨⟨of,wq,wt⟩,_⟩:=e0.hok f _ hf;obtain⟨oJ,_⟩:=e0.hok c _ hc;have qX:s.heap.NoLimit:=e0.mod.nolimit.keeps λb o e=>(e0.bs b o e).1;refine MC hr.depth wq wt S.co S.gen rfl oJ ?_;rw[hb];refine Tf (wpAny_newFunctionEnv S.nocell (λy hy=>by rw[Oj.mp hy];exact S.loc) (λh₁ lO zj=>⟨qX.fresh _ zj,?_⟩) S.kind);have wM : ∀b o,s.heap.get? b=some o->h₁.get? b=some o:=λb o e=>zj.extBut b o (Oo (Tr e)) (Tt _ e);have lD:∀b:ae,b∉(cxL P w K mg base (x::N') qual scope cl f (.ref c) A outer s H).ex:=λb z=>absurd (show b∈([]:List ae) from z) (by simp);have ck:∀(c:ae) (v:Option aa),s.heap.IsCell c v->h₁.IsCell c v:=λc v h=>by
  obtain⟨o,ho,hd⟩:=h;exact⟨o,wM _ _ ho,hd⟩
 have I:Inv (cxL P w K mg base (x::N') qual scope cl f (.ref c) A outer s H) [] (some v :: τ) H {s with heap:=h₁,toks:=s.toks+[(x,u)].length}:=by
  refine⟨⟨e0.mod,S.kind,rfl,rfl,Og _,C.inj,λy hy=>?_,λy c z _=>absurd z (by simp[cxL]),λ_=>hr.hd,av.frames_deeper e0.frames,.inr ⟨rfl,rfl⟩,λb z=>absurd z (lD b),e0.bs,e0.bsz,λb _ _=>lD b,λb z=>absurd z (lD b),e0.funs,e0.frf⟩,
   rfl,e0.bare,Un.kept wM,⟨_,lO,λi y w' h1 h2 h3=>?_⟩,λy c h=>let ⟨v,z⟩:=(C.cell y c h).2; ⟨v,ck c v z⟩,e0.hok.fresh (Og _),λy c h=>(C.cell y c h).1,λp hp=>absurd (show p∈([]:List (ae×aK)) from hp) (by simp),e0.hok.kept wM,?_⟩
  ·have hy:scope.names.lookup y=some .cell\/scope.names.lookup y=some .free:=hy;rcases hy with hy | hy
   ·exact absurd rfl (S.nocell _ (PySem.mem_of_lookup hy))
   ·exact C.has y hy
  ·cases i with
   | zero=>
    cases h1;cases h2;refine⟨u,r,.inl ⟨S.loc,?_⟩⟩;simp
   | succ i=>
    obtain⟨hy,u',c',r',qd,dg⟩:=C.val i y w' h1 h2;exact⟨u',r',.inr ⟨.inr hy,c',qd,ck _ _ dg⟩⟩
  ·show τ.length+1=N'.length+1;rw[C.len]
 show bw _ _ (.expr body (MM qual scope s.heap.objs.size f (.ref c) cl)) _ _;refine MD (aI (ht [] _ _ H _ I hq) (λu s' hs=>?_) λe s' hs=>hs.elim);obtain⟨v,H',J,rv,q⟩:=hs;exact⟨v,H',J.os,J.bare,J.base,J.hok,rv,q⟩
def Xpf (T:ae) (q:ak) (params:cM) (body:aE) (scope:bE) (cl:List (ak×ae)) (pos:bI):TE:=λ_ H Q=>Au T pos q H /\
 ∀(f c:ae) (pm dB:aa) (H':Hp),H f=none->H' f=some (.ext (Dr f (LK "<lambda>" q params body scope cl pm (.ref c) dB)))->H' c=some (.ext (Dq c q))->Au T pos q H'->(∀b o,H b=some o->b≠T->H' b=some o)->Q (.ref f) H'
section
variable {X:Cx}{T c0:ae}{params:cM}{body:aE}{scope:bE}{pos:bI}{q:ak}{cl:List (ak×ae)}
def Xpg(jB:BmOk X.mg X.base)(oK:DA params X.env=([],[]))(fK:X.Ok->gq scope X.env=pure cl)(gD:X.env.code = .ref c0)(hhd:LO X.K c0 T=true)(hq:X.env.qual ++ "<lambda>" = q):
  PE X (.Lambda params body scope pos) (Xpf T q params body scope cl pos):=by
 intro pins s Z H Q I h;have fK:=fK I.ok;obtain⟨tab,k⟩:=h;obtain⟨bm,ob,b1,b2,b3,b4,b5,b6⟩:=jB;have hg:s.heap.Ns ap X.mg:=I.mod.glob.keeps I.bk;have C:MW s.heap c0 T:=LW I.kIn hhd;have nb:bm≠T:=λz=>by
  have n:=(I.bs bm ob b3).2;rw[z] at n;rcases tab with e | ⟨c,e,_⟩<;>(rw[e] at n;cases n)
 have wu:bm≠ap:=λz=>by
  obtain⟨o,es,ep,e,hd,_⟩:=I.mod.glob;rw[z,e] at b3;cases b3;rw[hd] at b6;cases b6
 have hB:s.heap.BuiltinsAt X.mg T:=⟨bm,ob,b1,b2,wu,nb,I.bk _ _ b3,b4,b5,b6⟩;refine MS oK ?_;rw[hq];rcases tab with e | ⟨c,e,ec⟩
 ·have hP:s.heap.get? T=some (LP #[]):=I.hok T _ e;have wv:ap≠T:=λz=>by
   obtain⟨o,es,ep,e2,hd,_⟩:=hg;rw[z,hP] at e2;cases e2;cases hd
  refine LX (mg:=X.mg) (clos:=cl) fK I.ok.glob hg gD C hP trivial rfl wv hB λc' dB h' tk hx lr aZ kD sq=>?_;have J:=Xfa (tk:=tk) (o:=MT "<lambda>" q params body scope cl ((X.mg "__name__").getD .none) c' dB) I e hx lr aZ kD sq rfl rfl;have mw:∀b o,H b=some o->b<c':=λb o eb=>O4 (I.hok.lt eb) lr;have ww:c'≠T:=(Oo (mw _ _ e)).symm;have su:c'≠h'.objs.size:=Oo aZ;have wx:T≠h'.objs.size:=Oo (Qs (mw _ _ e) aZ);refine⟨.ref h'.objs.size,_,J,rfl,k _ c' _ dB _ (I.hok.fresh (Rp (R1 lr aZ))) Ab (by rw[Ae su,Ab]) (.inr ⟨c',by rw[Ae wx,Ae ww.symm,Ab],by rw[Ae su,Ab]⟩) λb o eb nb=>?_⟩;rw[Ae (Oo (Qs (mw _ _ eb) aZ)),Ae (Oo (mw _ _ eb)),Ae nb];exact eb
 ·have hP:s.heap.get? T=some (LP #[aW pos.line,aW pos.col,.ref c]):=I.hok T _ e;refine LU (mg:=X.mg) (clos:=cl) (cv:=.ref c) fK I.ok.glob hg gD C hP trivial (by simp[JU,aW]) hB λdB h' tk hk hsz=>?_;have J:=Xe9 (tk:=tk) (fd:=LK "<lambda>" q params body scope cl ((X.mg "__name__").getD .none) (.ref c) dB) (o:={cls:=.type "function",data:=.func (LK "<lambda>" q params body scope cl ((X.mg "__name__").getD .none) (.ref c) dB)}) I hk hsz rfl rfl;have nf:∀b o,H b=some o->b≠h'.objs.size:=λb o eb=>Oo (O4 (I.hok.lt eb) hsz);refine⟨.ref h'.objs.size,_,J,rfl,k _ c _ dB _ (I.hok.fresh hsz) Ab (by rw[Ae (nf _ _ ec)];exact ec) (.inr ⟨c,by rw[Ae (nf _ _ e)];exact e,by rw[Ae (nf _ _ ec)];exact ec⟩) λb o eb _=>?_⟩;rw[Ae (nf b o eb)];exact eb
end
def K0 (X:Cx) (Z:L2.St) (f:ae) (H:Hp) (ps:List ae) (ks:List Nat):Prop:=
 ∀(pins:List (ae×aK)) (s1:af) (H1:Hp) (i:Nat),i<ps.length->Same H H1->Inv X pins Z H1 s1 ->
  ai (ag X.prog X.w) X.A.in1.in1 (call (.ref f) [.ref (ps.getD i 0)]) (λu s'=>∃t H2,u = .int (ks.getD i 0:Nat) t/\Inv X pins Z H2 s'/\Same H1 H2) (λ_ _=>False) s1
def E6 (ks:List Nat) (ps out:List ae):Prop:=∃qs:List (Nat×ae),qs.Perm (ks.zip ps)/\out=qs.map (·.2)/\qs.Pairwise λa b=>a.1<=b.1
def E6.len{ks:List Nat}{ps out:List ae}(h:E6 ks ps out)(e:ks.length=ps.length):out.length=ps.length:=by
 obtain⟨qs,p,rfl,_⟩:=h;rw[Od,p.length_eq,So,e,Td]
def K1:aa->ae
 | .ref a=>a
 | _=>0
def Xph{ks:List Nat}{ps:List ae}{out:List aa}(h:KskOut false (ks.map λ(n:Nat)=>(n:Int)) (ps.map aa.ref) out):∃o,out=o.map aa.ref/\E6 ks ps o:=by
 obtain⟨qs,p,rfl,pw⟩:=h;have e0:(ks.map λ(n:Nat)=>(n:Int)).zip (ps.map aa.ref)=(ks.zip ps).map λq=>((q.1:Int),aa.ref q.2):=by
  rw[List.zip_map];rfl
 rw[e0] at p;refine⟨(qs.map λq=>(q.1.toNat,K1 q.2)).map (·.2),?_,qs.map λq=>(q.1.toNat,K1 q.2),?_,rfl,?_⟩
 ·rw[Pg,Pg];refine Py λq hq=>?_;obtain⟨z,_,rfl⟩:=Pa.mp (p.mem_iff.mp hq);rfl
 ·have:=p.map λq=>(q.1.toNat,K1 q.2);rw[Pg] at this;refine this.trans (Sn ?_)
  conv=>rhs;rw[<-List.map_id (ks.zip ps)]
  refine Py λq hq=>?_;simp[K1]
 ·rw[Qw];refine pw.imp λ{a b} h=>?_;have h:a.1<=b.1:=by simpa using h
  show a.1.toNat<=b.1.toNat;omega
def Xpi{ks:List Nat}{a7:List aa}(h:cS a7 (ks.map λ(n:Nat)=>(n:Int))){i:Nat}(hi:i<ks.length):∃t,a7.getD i aa.none = .int (ks.getD i 0:Nat) t:=by
 induction ks generalizing a7 i with
 | nil=>cases hi
 | cons k ks ih=>
  cases h with
  | cons _ t r=>
   cases i with
   | zero=>exact⟨t,rfl⟩
   | succ i=>exact ih r (by simpa using hi)
section
variable {X:Cx}{pins:List (ae×aK)}{Z:L2.St}{H:Hp}{s:af}
def Xpj{ks:List Nat}{vs a7:List aa}{A:av}{E:Zb}{Q:Unit×aS->af->Prop}(hk:cS a7 (ks.map λ(n:Nat)=>(n:Int)))(hl:ks.length=vs.length)(h2:2<=vs.length)(cq:vs.length<=64)
  (h:∀a8,bg a8=none->KskOut false (ks.map λ(n:Nat)=>(n:Int)) vs ((be a8).map (·.2)).toList->Q ((),a8) s):
  ai (ag X.prog X.w) A (iT.run (aS.mk' kG (a7.toArray.zip vs.toArray) #[] 7 none)) Q E s:=by
 have hsz:a7.length=vs.length:=by rw[<-hl,hk.length,Od]
 have kH:(a7.toArray.zip vs.toArray).size=vs.length:=by rw[Array.size_zip,Oi,Oi,hsz,Td]
 by_cases e:vs.length<64
 ·refine aI (wpS_sortRuns (a₀:=a7.toArray.zip vs.toArray) (st:=aS.mk' kG (a7.toArray.zip vs.toArray) #[] 7 none)
   (Q:=λ_ a8=>(be a8).Perm (a7.toArray.zip vs.toArray)/\bg a8=none/\SortedTo (be a8) (a7.toArray.zip vs.toArray).size)
   (ksk_intKeys (by simpa using hk)) ⟨Sm _,rfl,rfl,rfl⟩ (by rw[kH];omega) (by rw[kH];exact e) λa8 a1 a2 a3=>⟨a1,a2,a3⟩) ?_ λ_ _ e=>e
  rintro ⟨⟨⟩,a8⟩ s' ⟨rfl,hp,hf,hs⟩;refine h a8 hf ?_;have:=ksk_out (b:=false) (keys:=a7.toArray) (by simpa using hk) hp (by rw[hp.size_eq];exact hs);simpa using this
 ·have oW:vs.length=64:=by omega
  have ki:∀i,i<vs.length->∃t,a7.getD i aa.none = .int (ks.getD i 0:Nat) t:=λi hi=>Xpi hk (by omega);refine aI (Xf2 (lt:=λi j=>decide (ks.getD i 0<ks.getD j 0)) (κ:=kG) (ks:=a7) (vs:=vs) (Q:=λa8 s'=>s'=s/\Q ((),a8) s) hsz oW ⟨λ{x y} h=>?_,λ{x y z} h g=>?_⟩ (λi j C hi hj hC=>?_) λp a8 g so ea hf=>⟨rfl,h a8 hf ?_⟩) (λr s' q=>by obtain⟨rfl,q⟩:=q;exact q) λ_ _ e=>e
  ·have:=Tp h;exact Tn (by omega)
  ·have h1:=Tq h;have h2:=Tq g;exact Tn (by omega)
  ·obtain⟨t1,e1⟩:=ki i hi;obtain⟨t2,e2⟩:=ki j hj;show ai _ _ (mh kG (a7.getD i aa.none) (a7.getD j aa.none)) C _ _;rw[e1,e2];refine PySem.W.kat_lt_int ?_;have:decide (((ks.getD i 0:Nat):Int)<((ks.getD j 0:Nat):Int))=decide (ks.getD i 0<ks.getD j 0):=by simp
   rw[this];exact hC
  ·have sz:=g.size;refine⟨p.toList.map λi=>(((ks.getD i 0:Nat):Int),vs.getD i aa.none),?_,?_,?_⟩
   ·have pm:p.toList.Perm (List.range vs.length):=by simpa using g.toList
    refine(pm.map λi=>(((ks.getD i 0:Nat):Int),vs.getD i aa.none)).trans (Sn ?_);refine Q8 (by simp[hl]) λi h1 h2=>?_;have hi:i<vs.length:=by simpa using h1
    have eQ:i<ks.length:=by omega
    simp[List.getD,hi,eQ]
   ·rw[PySem.W.kat_snds hsz ea,Pg];simp
   ·rw[Qw,P9];intro i j hi hj gE;rw[Os,sz] at hi hj;have:=Tq (Fy (so i j gE hj));rw[show p.getD i 0=p.toList[i]'(by rw[Os,sz];exact hi) by simp[Array.getD,sz,hi],show p.getD j 0=p.toList[j]'(by rw[Os,sz];exact hj) by simp[Array.getD,sz,hj]] at this;show (if false=true then _ else _);rw[Tj Ow];show ((ks.getD _ 0:Nat):Int)<=((ks.getD _ 0:Nat):Int);omega
def Xpk{D kS:ae}{e1:Nat}{kz:List V}{ps:List ae}{ks:List Nat}{a7:List aa}{A:av}{E:Zb}{P:PySem.Fin->af->Prop}(I:Inv X ((D,aq "list" #[] e1)::pins) Z H s)(hD:X.s₀.heap.objs.size<=D)(gF:∀p∈X.pn++pins,p.1≠D)
  (hk:H kS=some (.lst kz)) (aN:ks.length=ps.length) (hi:cS a7 (ks.map λ(n:Nat)=>(n:Int))) (cq:ps.length<=64)
  (h:∀(out:List ae) s',E6 ks ps out->Inv X pins Z (upd (upd H kS (.lst [])) D (.lst (out.map V.ref))) s'->P (.done (.ret .none)) s'):
  ai (ag X.prog X.w) A (nJ D false (ps.map aa.ref).toArray e1 (.ref kS) a7.toArray) P E s:=by
 have hsz:(ps.map aa.ref).toArray.size=ps.length:=by simp
 have fE:a7.length=ps.length:=by rw[<-aN,hi.length,Od]
 unfold nJ
 try dsimp only
 simp only[Pe,if_false];by_cases h2:(ps.map aa.ref).toArray.size<2
 ·rw[Tk h2,Tk h2];refine Te (Tf ?_);rw[StateT.run_pure];refine Te (Tf ?_)
  try dsimp only
  have hz:(ks.zip ps).length<2:=by rw[So];omega
  refine Ky (st:=aS.mk' general' (a7.toArray.zip (ps.map aa.ref).toArray) #[] 7 none) (out:=ps) I hD gF hk ?_ rfl (by omega) λs' J=>h ps s' ⟨ks.zip ps,Qd _,?_,?_⟩ J
  ·show ((a7.toArray.zip (ps.map aa.ref).toArray).map (·.2))=_;apply Array.toList_inj.mp;simp only[Array.toList_map,List.zip_toArray];rw[Sh (by simp[fE])]
  ·rw[Sh (by omega)]
  ·rw[P9];intro i j dg fV gE;omega
 ·rw[Tj h2,Tj h2,ksk_kind (kz:=ks.map λ(n:Nat)=>(n:Int)) (by simpa using hi) (by rw[Oi];omega)];refine Te (Tf ?_);refine Te (Xpj hi (by simpa using aN) (by simpa using h2) (by simpa using cq) λa8 hf ko=>?_)
  try dsimp only
  obtain⟨o,e,oN⟩:=Xph ko;refine Ky (out:=o) I hD gF hk (Array.toList_inj.mp (by rw[e])) hf (by rw[oN.len aN];exact cq) λs' J=>h o s' oN J
def Xpl{ks:List Nat}{a7:List aa}(hl:a7.length=ks.length)(h:∀i,i<ks.length->∃t,a7[i]? = some (.int (ks.getD i 0:Nat) t)):cS a7 (ks.map λ(n:Nat)=>(n:Int)):=by
 induction ks generalizing a7 with
 | nil=>cases a7 with
  | nil=>exact .nil
  | cons _ _=>cases hl
 | cons k ks ih=>
  cases a7 with
  | nil=>cases hl
  | cons v a7=>
   obtain⟨t,e⟩:=h 0 (by simp);cases e;exact .cons k t (ih (by simpa using hl) λi hi=>by simpa using h (i+1) (by simpa using hi))
def Xpm{D kS f:ae}{e1:Nat}{ps:List ae}{ks:List Nat}{A:av}{E:Zb}{P:PySem.Fin->af->Prop}(hA:A=X.A.in1.in1)(I:Inv X ((D,aq "list" #[] e1)::pins) Z (upd H kS (.lst [])) s)(jo:H kS=none)(hD:X.s₀.heap.objs.size<=D)(gF:∀p∈X.pn++pins,p.1≠D)(jg:H D=none)
  (aN:ks.length=ps.length) (cq:ps.length<=64) (turn:K0 X Z f H ps ks)
  (h:∀(out:List ae) (H':Hp) s',E6 ks ps out->Same H H'->H' D=some (.lst (out.map V.ref))->Inv X pins Z H' s'->P (.done (.ret .none)) s'):
  ai (ag X.prog X.w) A (kF D (.ref f) false (ps.map aa.ref).toArray e1 (.ref kS)) P E s:=by
 subst hA;unfold kF;refine Te (aR ?_)
 first
  | rw[List.forIn_toArray]
  | (rw[<-Ra];simp only[List.toList_toArray])
  | rw[<-Ra]
 refine Te (ksk_fold (λi s'=>∃(H':Hp) (zs:List V),Inv X ((D,aq "list" #[] e1)::pins) Z H' s'/\Same H H'/\H' kS=some (.lst zs)/\zs=(ks.take i).map λ(n:Nat)=>V.int n) (ps.map aa.ref) 0 s
  ⟨_,[],I,Same.upd0 jo,Ab,rfl⟩ ?step ?done)
 case step=>
  rintro j x s' hx ⟨H',zs,J,sm,hk,kH⟩;simp only[Qc] at kH ⊢;obtain⟨hj,ex⟩:=Oz.mp hx;rw[Od] at hj;have ud:x = .ref (ps.getD j 0):=by rw[<-ex];simp[List.getD,hj]
  subst ud;have je:zs.length=j:=by rw[kH,Od,O0];omega
  have ek:ks.take (j+1)=ks.take j++[ks.getD j 0]:=by
   rw[List.take_add_one,List.getD,Oe (by omega)];rfl
  refine Te (cI (aI (turn _ s' H' j hj sm J) (λv lC he=>?_) λ_ _ hF=>hF.elim));obtain⟨t,H2,rfl,J2,qy⟩:=he
  try dsimp only
  have qz:=qy _ _ hk;obtain⟨z,a7,n,r,hl,e⟩:=J2.lstM qz;refine Te (br e rfl ?_ (by rw[Oi,<-hl];exact z) (by rw[Array.size_push,Oi,<-hl,je,Ti];omega));refine Tf ⟨rfl,_,zs++[.int (ks.getD j 0:Nat)],J2.lset (ys:=zs++[.int (ks.getD j 0:Nat)]) (its':=a7++[.int (ks.getD j 0:Nat) t]) (t':=lC.toks) qz e (by simp) (r.append (.cons (show Aj (.int (ks.getD j 0:Nat)) (.int (ks.getD j 0:Nat) t) from ⟨t,rfl⟩) .nil)) (by rw[Oh,Pn,je,Ti];omega),(sm.trans qy).upd jo,Ab,by rw[ek,Ot,<-kH];rfl⟩
 case done=>
  rintro s' ⟨H',zs,J,sm,hk,kH⟩;simp only[Qc,Od] at kH;rw[Pk (by omega)] at kH
  try dsimp only
  obtain⟨z,a7,n,r,hl,e⟩:=J.lstM hk;refine Te (cV e rfl ?_);refine Xpk (kz:=zs) J hD gF hk aN (Xpl (by rw[<-hl,kH,Od]) λi hi=>?_) cq λp s2 oN J2=>h p _ s2 oN ((sm.upd jo).upd jg) Ab J2;obtain⟨u,wJ,nK⟩:=r.get (i:=i) (x:=V.int (ks.getD i 0:Nat)) (by rw[kH,Ov,Oe hi];simp[List.getD,hi]);obtain⟨t,rfl⟩:=nK;exact⟨t,wJ⟩
def Xpn{l f:ae}{ps:List ae}{ks:List Nat}{Q:VK}(I:Inv X pins Z H s)(hl:H l=some (.lst (ps.map V.ref)))(aN:ks.length=ps.length)(cq:ps.length<=64)(turn:K0 X Z f H ps ks)
  (h:∀(D:ae) (out:List ae) (H':Hp),H D=none->E6 ks ps out->Same H H'->H' D=some (.lst (out.map V.ref))->Q (.ref D) H'):
  ai (ag X.prog X.w) X.A (call (.builtin "sorted") [.ref l] [(ak.ofString "key",.ref f)]) (EP X pins Z Q) X.xe s:=by
 obtain⟨a7,rv,pl,hz⟩:=I.list (SqL.of hl);have kw:a7=ps.map aa.ref:=by
  clear cq turn h pl hl hz aN
  induction ps generalizing a7 with
  | nil=>cases rv;rfl
  | cons p t ih=>
   cases rv with
   | cons r t'=>cases r;rw[ih _ t'];rfl
 subst kw;refine jp fF eR eS (ksk_s1 _ _) ?_;unfold aj.«sorted»;refine Te (m:=gB "sorted" 1 1 _) (Tf ?_);refine Te (jh pl.isList ?_ (by rw[Od,Ti];omega));refine Te (bM ?_ (by rw[Od,Ti];omega));generalize sI:ps.map aa.ref=vs at *;have j8:vs.length=ps.length:=by rw[<-sI,Od]
 have hsz:((s.heap.push (aq "list" #[] 0)).update s.heap.objs.size (aK.mapSeq (· ++ vs.toArray))).objs.size=s.heap.objs.size+1:=by
  rw[am.size_update,bq]
 have iI:(((s.heap.push (aq "list" #[] 0)).update s.heap.objs.size (aK.mapSeq (· ++ vs.toArray))).push (aq "list" vs.toArray 0)).get? (s.heap.objs.size+1)=some (aq "list" vs.toArray 0):=by
  rw[<-hsz];exact am.get?_push_size _ rfl
 have keep:∀b o,s.heap.get? b=some o->(((s.heap.push (aq "list" #[] 0)).update s.heap.objs.size (aK.mapSeq (· ++ vs.toArray))).push (aq "list" vs.toArray 0)).get? b=some o:=λb o q=>by
  have aZ:b<s.heap.objs.size:=Tr q;rw[am.get?_push_ne _ _ _ (by rw[hsz];exact Oo (Pu aZ)),am.get?_update_ne _ _ _ _ (Oo aZ),am.get?_push_ne _ _ _ (Oo aZ)];exact q
 have oX:(((s.heap.push (aq "list" #[] 0)).update s.heap.objs.size (aK.mapSeq (· ++ vs.toArray))).push (aq "list" vs.toArray 0)).objs.size=s.heap.objs.size+2:=by
  rw[bq,hsz]
 show ai _ _ _ _ _ {s with heap:=((s.heap.push (aq "list" #[] 0)).update s.heap.objs.size (aK.mapSeq (· ++ vs.toArray))).push (aq "list" vs.toArray 0)};rw[hsz];generalize DP:((s.heap.push (aq "list" #[] 0)).update s.heap.objs.size (aK.mapSeq (· ++ vs.toArray))).push (aq "list" vs.toArray 0)=hA at *;refine Te (az (l5 dA ⟨_,iI,rfl⟩ cZ ?body (ksk_l1 _ _)))
 case body=>
  show ai (ag X.prog X.w) X.A.in1.in1 (aj.«list.sort» ⟨[.ref (s.heap.objs.size+1)],[(ak.ofString "key",.ref f)]⟩) _ _ _;rw[ksk_t1];unfold ksk_tree;refine Te (cV iI rfl ?_);refine Te (br iI rfl ?_ (by rw[Oi,j8,Ti];omega) (Pf _));obtain⟨e1,fX⟩:∃e1,(hA.update (s.heap.objs.size+1) (aK.mapSeq λ_=>(#[]:Array aa))).get? (s.heap.objs.size+1)=some (aq "list" #[] e1):=⟨_,dc iI λ_ => #[]⟩;refine Te (cG fX rfl ?_);refine Te (d9 ?_ (by show vs.length<=_;rw[j8,Ti];omega));refine Te (bM ?_ (Pf _));refine az ?_;have jo:((hA.update (s.heap.objs.size+1) (aK.mapSeq λ_=>(#[]:Array aa))).push (aq "tuple" vs.toArray 0)).objs.size=s.heap.objs.size+3:=by rw[bq,am.size_update,oX]
  have k6:∀b o,s.heap.get? b=some o->(((hA.update (s.heap.objs.size+1) (aK.mapSeq λ_=>(#[]:Array aa))).push (aq "tuple" vs.toArray 0)).push (aq "list" #[] 0)).get? b=some o:=λb o e=>by
   refine Tt _ (Tt _ ?_);rw[am.get?_update_ne _ _ _ _ (Oo (Pu (Tr e)))];exact keep b o e
  have nB:(((hA.update (s.heap.objs.size+1) (aK.mapSeq λ_=>(#[]:Array aa))).push (aq "tuple" vs.toArray 0)).push (aq "list" #[] 0)).get? (s.heap.objs.size+1)=some (aq "list" #[] e1):=Tt _ (Tt _ fX);have wK:(((hA.update (s.heap.objs.size+1) (aK.mapSeq λ_=>(#[]:Array aa))).push (aq "tuple" vs.toArray 0)).push (aq "list" #[] 0)).get? (s.heap.objs.size+3)=some (aq "list" #[] 0):=by rw[<-jo];exact am.get?_push_size _ rfl
  have J0:Inv X pins Z (upd H (s.heap.objs.size+3) (.lst [])) {s with heap:=((hA.update (s.heap.objs.size+1) (aK.mapSeq λ_=>(#[]:Array aa))).push (aq "tuple" vs.toArray 0)).push (aq "list" #[] 0)}:=
   I.laid (t':=s.toks) (o:=.lst []) k6 (by omega) ⟨by decide,[],0,.nil,wK⟩
  have jg:H (s.heap.objs.size+1)=none:=I.hok.fresh (Qh _);have gF:∀p∈X.pn++pins,p.1≠s.heap.objs.size+1:=λp hp=>Oo (Pu (Tr (I.pin p hp).1));have J1:Inv X ((s.heap.objs.size+1,aq "list" #[] e1)::pins) Z (upd H (s.heap.objs.size+3) (.lst [])) {s with heap:=((hA.update (s.heap.objs.size+1) (aK.mapSeq λ_=>(#[]:Array aa))).push (aq "tuple" vs.toArray 0)).push (aq "list" #[] 0)}:=by
   refine J0.pins_of λp hp=>?_;rcases Ou.mp hp with rfl | hp
   ·exact⟨nB,by rw[Ae (by show s.heap.objs.size+1≠s.heap.objs.size+3;omega)];exact jg,Sf (Pu I.lt),I.nofs (Qh _),λv q=>by cases q⟩
   ·exact J0.pin p (O9 _ hp)
  rw[jo];subst sI;refine Xpm (f:=f) rfl J1 (I.hok.fresh (by omega)) (Pj I.sz (Qh _)) gF jg aN cq turn λp H' s' oN sm eA J=>⟨_,rfl,?_⟩;exact Tf ⟨_,rfl,⟨.ref (s.heap.objs.size+1),H',J,rfl,h _ p H' jg oN sm eA⟩⟩
end
section
variable {X:Cx}
def Xpo (X:Cx) (ta tk:TA):TE:=fun Z H Q=>ta Z H λvs H1=>tk Z H1 λzs H2=>∃(l f:ae) (ps:List ae) (ks:List Nat),vs=[.ref l]/\zs=[.ref f]/\H2 l=some (.lst (ps.map V.ref))/\ks.length=ps.length/\ps.length<=64/\K0 X Z f H2 ps ks /\
 ∀(D:ae) (out:List ae) (H':Hp),H2 D=none->E6 ks ps out->Same H2 H'->H' D=some (.lst (out.map V.ref))->Q (.ref D) H'
def Xpp{x:ak}{p pos:bI}{e:aE}{es:List aE}{gX:List cR}{ta tk:TA}(hg:Gl X x)(hm:X.mg x=none)(hv:bA x=some (.builtin "sorted"))(ha:PA X (e::es) ta)(wL:PK X gX tk)
  (jC:(bV pos (bj gX X.env)).filterMap (·.1)=[ak.ofString "key"]:=by rfl)
  (hn:x ≠ "__name__" := by decide) (gj:(x==("__debug__" : ak))=false:=by decide)
  (he:bx pos (aA (e::es) X.env)=(false,eval e X.env)::bx pos (aA es X.env):=by rfl)
  (eI:(bx pos (aA (e::es) X.env)).any (·.1)=false:=by rfl)
  (bT:(bV pos (bj gX X.env)).all (·.1.isSome)=true:=by rfl)
  (fm:(bV pos (bj gX X.env)).any (·.1.isNone)=false:=by rfl):PE X (.Call (.Name x p) (e::es) gX pos) (Xpo X ta tk):=by
 intro pins s Z H Q I h;refine bC (E9 I hg hm hv ?_ hn gj);refine zh (thn (ha pos pins s Z H _ I h) λus s1 ⟨vs,H1,I1,r1,q1⟩=>thn (wL pos pins s1 Z H1 _ I1 q1) λws s2 ⟨zs,H2,I2,r2,q2⟩=>?_) he eI bT fm;rw[jC];obtain⟨l,f,ps,ks,rfl,rfl,hl,aN,cq,turn,k⟩:=q2;obtain⟨u,rfl,rx⟩:=Bw r1;obtain⟨v,rfl,rf⟩:=Bw r2;cases rx;cases rf;exact Xpn I2 hl aN cq turn k
def Xpq{k j:Nat}{Z:L2.St}{f c cg:ae}{x y qual:ak}{vg:V}{params:cM}{body:aE}{scope:bE}{pm dB:aa}{H:Hp}{ps:List ae}{ks:List Nat}(hf:H f=some (.ext (Dr f (LK "<lambda>" qual params body scope [(y,cg)] pm (.ref c) dB))))(hc:H c=some (.ext (Dq c qual)))
  (S:LamScope x scope) (iH:∀q∈scope.names,q.2 = .free->q.1=y) (DR:scope.names.lookup y=some .free) (hN:X.N[j]? = some y) (hZ : Z[j]? = some (some vg)) (DS:X.env.kindOf y=some .cell) (wO:Vis X.env.scope y) (zk:X.env.cells.lookup y=some cg) (hr:Room (k+3) X.A) (hb:∀u,cL (LK "<lambda>" qual params body scope [(y,cg)] pm (.ref c) dB) ⟨[u],[]⟩=pure [(x,u)])
  (fi:∀(A:av) (outer:List dt) (s1:af) (H1:Hp) (i:Nat),i<ps.length->Same H H1->Room k (A.deeper (MM qual scope s1.heap.objs.size f (.ref c) [(y,cg)]))->∃t,PE (cxL X.prog X.w X.K X.mg X.base [x,y] qual scope [(y,cg)] f (.ref c) A outer s1 H1) body t /\
   ∀Q:VK,(∀H2,Same H1 H2->Q (.int (ks.getD i 0:Nat)) H2)->t [some (.ref (ps.getD i 0)),some vg] H1 Q):K0 X Z f H ps ks:=by
 intro pins s1 H1 i hi sm I;have cr:Room (k+1) X.A.in1.in1:=(Room.in1 (k:=k+2) hr).in1;obtain⟨t,ht,hq⟩:=fi X.A.in1.in1 X.stack s1 H1 i hi sm (cr.deeper _);obtain⟨m,lO,wP⟩:=I.loc;obtain⟨u,ru,lk⟩:=wP j y vg hN hZ wO;have lk:∃c,X.env.cells.lookup y=some c/\s1.heap.IsCell c (some u):=by
  rcases lk with ⟨z,_⟩ | ⟨_,z⟩
  ·rw[DS] at z;cases z
  ·exact z
 obtain⟨c',e',eB⟩:=lk;rw[zk] at e';cases e';have wQ:∀z c',List.lookup z [(y,cg)]=some c'->z=y/\c'=cg:=λz c' e=>by
  rw[Px] at e;cases q:z==y with
  | true=>rw[q] at e;cases e;exact⟨by simpa using q,rfl⟩
  | false=>rw[q] at e;cases e
 have C:Caps [y] [some vg] scope [(y,cg)] H1 s1.heap:=by
  refine⟨λz hz=>⟨cg,by rw[show z=y from iH _ (PySem.mem_of_lookup hz) rfl];simp⟩,λz z' c' a b=>(wQ _ _ a).1.trans (wQ _ _ b).1.symm,λz c' a=>?_,λi z v a b=>?_,rfl⟩
  ·obtain⟨rfl,rfl⟩:=wQ _ _ a;exact⟨I.freeC _ _ zk,_,eB⟩
  ·cases i with
   | zero=>cases a;cases b;exact⟨DR,u,cg,ru,by simp,eB⟩
   | succ i=>simp at a
 refine dS (bi (Xpe (CX:=CX0) (E:=E0) (Q:=λv H2=>v = .int (ks.getD i 0:Nat)/\Same H1 H2) (sm _ _ hf) (sm _ _ hc) S cr I.env0.in1.in1 C (show Aj (.ref (ps.getD i 0)) (.ref (ps.getD i 0)) from rfl) (hb _) ht (hq _ λH2 b=>⟨rfl,b⟩)) λr s' ji=>?_);cases r with
 | error e=>exact ji.elim
 | ok fl=>
  cases fl with
  | next=>exact False.elim ji
  | brk=>exact False.elim ji
  | cont=>exact False.elim ji
  | ret u=>
   obtain⟨v,H2,J,rv,rfl,b⟩:=I.after ji;obtain⟨t,rfl⟩:=rv;exact⟨t,H2,rfl,J,b⟩
end
def Xpr (tk tv:TE):TE:=fun Z H Q=>∀p,H p=none->tk Z (upd H p (.dT [])) λx H1=>tv Z H1 λy H2=>H2 p=some (.dT [])/\∃(b:ae) (k:List Key),x = .ref b/\H2 b=some (.tup (k.map kV))/\Q (.ref p) (upd H2 p (.dT [(k,y)]))
def one2 (F:V->V->Hp->Prop):List (V×V)->Hp->Prop
 | [(x,y)],H=>F x y H
 | _,_=>False
def Xps{F:V->V->Hp->Prop}{ps:List (V×V)}{H:Hp}(h:one2 F ps H):∃x y,ps=[(x,y)]/\F x y H:=by
 cases ps with
 | nil=>exact h.elim
 | cons q r=>
  cases r with
  | nil=>exact⟨q.1,q.2,rfl,h⟩
  | cons _ _=>exact h.elim
def Xpt{X:Cx}{pos:bI}{k v:aE}{tk tv:TE}(hu:X.A.units+1<bu)(hk:PE X k tk)(hv:PE X v tv):PE X (.Dict [some k] [v] pos) (Xpr tk tv):=by
 intro pins s Z H Q I q;have hn:=I.hok.fresh (Og s.heap.objs.size);have I1:=I.laid (a:=s.heap.objs.size) (o:=.dT []) (h':=s.heap.push {cls:=.type "dict",data:=.dict #[]}) (t':=s.toks) (λ_ _ q=>Tt _ q) (Og _) (Xiv s.heap I.big);refine wpAny_Dict_any rfl rfl (by simp) (by show 1<=15;decide) (thn ((Xiz hk hv Xiy) pins _ Z _ (one2 λx y H2=>H2 s.heap.objs.size=some (.dT [])/\∃(b:ae) (k:List Key),x = .ref b/\H2 b=some (.tup (k.map kV))/\Q (.ref s.heap.objs.size) (upd H2 s.heap.objs.size (.dT [(k,y)]))) I1 (q _ hn)) λws s2 h2=>?_);obtain⟨ps,H2,I2,cK,h2⟩:=h2;obtain⟨x,y,rfl,e,b,kk,rfl,eb,q2⟩:=Xps h2;cases cK with
 | @cons p0 w0 JY JZ hr ht=>
  cases ht;obtain⟨w1,w2⟩:=w0;obtain⟨r1,r2⟩:=hr;cases (show w1=aa.ref b from r1);obtain⟨z,hd,xs,cK,dd⟩:=Xbm I2.hok e;unfold storeAll;rw[R4];have hz:xs.length<=sizeLine:=by rw[<-Paired.length cK];exact z
  refine Te (Te (wpAny_dictSet_heap (hsz:=hz) (knd:=cJ (Be X.prog X.w)) (show X.A.units<bu by omega) (Fi I2.hok eb) dd λh' lL hs=>Tf ?_));dsimp only;rw[Sd];refine Tf ⟨.ref s.heap.objs.size,_,?_,rfl,q2⟩;obtain⟨q,es,ep,hq,h2,h3,h4,_,h5⟩:=lL;refine Jp I2 (by rw[e];exact True.intro) hs ⟨q,hq⟩ ⟨by show 1<=sizeLine;decide,hd,_,(cK.put kk eb r2).keeps λc ys ec=>?_,q,es,ep,hq,h2,h3,h4,h5⟩;rw[Ae (La ec e (λz=>nomatch z))];exact ec
section
variable {X:Cx}
def Xpu(hc:X.calm=true):Bv X (.builtin "sum") (λxs H Q=>∃(a:ae) (ns:List Int),xs=[.ref a]/\H a=some (.lst (ns.map V.int))/\Q (.int ns.sum) H):=by
 intro pins s Z H xs us Q I r h;obtain⟨a,ns,rfl,ha,q⟩:=h;obtain⟨u,rfl,ru⟩:=Bw r;cases ru;obtain⟨a7,rv,p,hz⟩:=I.list (SqL.of ha);obtain⟨ps,rfl,e⟩:=Xnt rv;have DT:s.heap.IsList a (sK ps.toArray):=by
  have:sK ps.toArray=(ps.map λp=>aa.int p.1 p.2).toArray:=by unfold sK;rw[List.map_toArray]
  rw[this];exact p.isList
 refine sum_intListG (I.ok.hd hc) DT λh' tk t' k=>⟨.int ns.sum,H,I.kept k,⟨t',?_⟩,q⟩;have bL:ps.length=ns.length:=by rw[<-e,Od]
 have:sj (nC ps.toArray) ps.toArray.size=ns.sum:=by
  rw[Oi,Xe6 ps _ (Og _),e,Pk (by omega)]
 rw[this]
end
end L2
namespace SH
open L2
def Xpv{A B:List (Za)}(ha:A.Nodup)(hb:B.Nodup)(h:∀S,S∈A↔S∈B):A.length=B.length:=by
 have dm:∀{A B:List (Za)},A.Nodup->(∀S∈A,S∈B)->A.length<=B.length:=by
  intro A
  induction A with
  | nil=>intro B _ _;exact Pf _
  | cons a A ih=>
   intro B nd hs;obtain⟨l1,l2,rfl⟩:=List.append_of_mem (hs a Op);rw[P5] at nd;have:=ih (B:=l1++l2) nd.2 λS hS=>by
    have:=hs S (Ol _ hS);rcases Oq.mp this with z | z
    ·exact Oq.mpr (.inl z)
    ·rcases Ou.mp z with z | z
     ·rw[z] at hS;exact absurd hS nd.1
     ·exact Oq.mpr (.inr z)
   rw[Oh] at this ⊢;rw[O2,O2];omega
 exact Nat.le_antisymm (dm ha λS hS=>(h S).mp hS) (dm hb λS hS=>(h S).mpr hS)
def G0(a:Za):Af a a=[]:=by
 rw[List.eq_nil_iff_forall_not_mem];intro x hx;rcases E4.mp hx with h | h<;>exact h.2 h.1
def N2{a b:Za}(ha:a.Pairwise ltS)(hb:b.Pairwise ltS)(h:Af a b=[]):a=b:=by
 refine lt_uniq ha hb λy=>?_;have n:y∉Af a b:=by rw[h];exact List.not_mem_nil
 rw[E4] at n;by_cases h1:y∈a<;>by_cases h2:y∈b<;>simp[h1,h2] at n ⊢
def Xgd{S G:Za}{x:ak}(hS:S.Nodup)(hG:G.Nodup)(hx:x∈Af S G):Af (Ao S x) G=(Af S G).erase x:=by
 have nd:=Db (Gm hS hG);refine lt_uniq (Gm (Db (Np x hS)) hG) ((Gm hS hG).sublist List.erase_sublist) λy=>?_;rw[nd.mem_erase_iff,E4,E4,Nn];rw[E4] at hx;by_cases e:y=x
 ·subst e;by_cases h1:y∈S<;>by_cases h2:y∈G<;>simp[h1,h2] at hx ⊢
 ·simp[e]
def Iz{S G:Za}{x:ak}(hS:S.Nodup)(hG:G.Nodup)(hx:x∈Af S G):(Af (Ao S x) G).length+1=(Af S G).length:=by
 rw[Xgd hS hG hx,List.length_erase_of_mem hx];have:=List.length_pos_of_mem hx;omega
def wyN (pl:Za->Bool) (G:Za):Nat->Za->Nat
 | 0,_=>1
 | n+1,S=>((Af S G).map λx=>if pl (Ao S x)=true then wyN pl G n (Ao S x) else 0).sum
def wy (pl:Za->Bool) (G S:Za):Nat:=wyN pl G (Af S G).length S
def Xge(pl:Za->Bool)(G:Za):wy pl G G=1:=by
 unfold wy;rw[G0];rfl
def N3{pl:Za->Bool}{G S:Za}(hS:S.Pairwise ltS)(hG:G.Pairwise ltS)(n:S≠G):wy pl G S=((Af S G).map λx=>if pl (Ao S x)=true then wy pl G (Ao S x) else 0).sum:=by
 have hp:0<(Af S G).length:=by
  rcases Nat.eq_zero_or_pos (Af S G).length with z | z
  ·exact absurd (N2 hS hG (Pr.mp z)) n
  ·exact z
 conv=>lhs;unfold wy
 obtain⟨m,hm⟩:∃m,(Af S G).length=m+1:=⟨(Af S G).length - 1,by omega⟩;rw[hm];unfold wyN;congr 1;refine Py λx hx=>?_;have:=Iz (Db hS) (Db hG) hx;unfold wy;rw[show (Af (Ao S x) G).length=m by omega]
theorem K2{α : Type}(f : α->Nat):∀l:List α,(l.map λx=>((f x:Nat):Int)).sum=((l.map f).sum:Nat)
 | []=>rfl
 | x::l=>by rw[O5,Qg,O5,Qg,K2 f l];simp
def wyI (row G S:Za):Int:=(wy (Ad row) G S:Nat)
def Xpw{row:Za}{Ts:List (Za)}(h2:∀y∈row,row.count y=2)(h3:Bk row)(hl:(dit row).length<=14)(nd:Ts.Nodup)(h:∀S,S∈Ts↔Ad row S=true):Ts.length<=64:=by
 have e:Ts.length=([]::cands row).length:=Xpv nd (Xf9 h2) λS=>(h S).trans (Xf8 h2 h3 S).symm;have m:=mantel (R:=λx y=>decide (A3 row x y)) (dit row).length (dit row) rfl (Gb row) (λx hx=>Tn (Ej (h2 x (An.mp hx))))
  (λx hx y hy=>by
   by_cases c:A3 row x y
   ·rw[Tl c,Tl (De (h2 x (An.mp hx)) (h2 y (An.mp hy)) c)]
   ·rw[Tn c,Tn λq=>c (De (h2 y (An.mp hy)) (h2 x (An.mp hx)) q)])
  (λx hx y hy z hz a b=>Tn (h3 x (An.mp hx) y (An.mp hy) z (An.mp hz) (Tp a) (Tp b)))
 rw[<-Xd5 h2] at m;have:(dit row).length * (dit row).length<=14 * 14:=Sy hl hl;unfold cands at e;rw[O2,Oh,Od,Od] at e;omega
def Xgf:V->ak
 | .str x=>x
 | _=>ak.empty
def E7 (H:Hp) (a:ae):Za:=match H a with
 | some (.tup xs)=>xs.map Xgf
 | _=>[]
def Xgg{H:Hp}{a:ae}{S:Za}(h:H a=some (.tup (S.map V.str))):E7 H a=S:=by
 unfold E7;rw[h];show (S.map V.str).map Xgf=S;rw[Pg]
 conv=>rhs;rw[<-List.map_id S]
 rfl
def Xpx{H:Hp}{ps out:List ae}{Ts:List (Za)}(t:Tups H ps Ts)(f:Za->Nat)(h:E6 (Ts.map f) ps out):∃Us,Tups H out Us/\Us.Perm Ts/\Us.Pairwise λa b=>f a<=f b:=by
 obtain⟨qs,pm,rfl,pw⟩:=h;have m6:∀q∈qs,∃i,i<ps.length/\q=(f (Ts.getD i []),ps.getD i 0):=λq hq=>by
  obtain⟨i,hi,e⟩:=P0.mp (pm.mem_iff.mp hq);rw[So,Od] at hi;refine⟨i,by omega,?_⟩;rw[<-e,List.getElem_zip,Qo];have h1:i<Ts.length:=by omega
  have h2:i<ps.length:=by omega
  simp[List.getD,h1,h2]
 have hV:∀q∈qs,H q.2=some (.tup ((E7 H q.2).map V.str))/\q.1=f (E7 H q.2):=λq hq=>by
  obtain⟨i,hi,rfl⟩:=m6 q hq;have:=t.2 i hi;rw[Xgg this];exact⟨this,rfl⟩
 refine⟨qs.map λq=>E7 H q.2,⟨by rw[Od,Od],λi hi=>?_⟩,?_,?_⟩
 ·rw[Od] at hi;have e1:(qs.map (·.2)).getD i 0=(qs[i]).2:=by simp[List.getD,hi]
  have e2:(qs.map λq=>E7 H q.2).getD i []=E7 H (qs[i]).2:=by simp[List.getD,hi]
  rw[e1,e2];exact(hV _ (Ph hi)).1
 ·have p1:=pm.map λq=>E7 H q.2;refine p1.trans (Sn ?_);refine Q8 (by rw[Od,So,Od,t.1,Td]) λi h1 h2=>?_;rw[Qo,List.getElem_zip];have h3:i<ps.length:=by rw[t.1];exact h2
  have:=t.2 i h3;have e1:ps.getD i 0=ps[i]:=by simp[List.getD,h3]
  have e2:Ts.getD i []=Ts[i]:=by simp[List.getD,h2]
  rw[e1,e2] at this;exact Xgg this
 ·rw[Qw];have DU:qs.Pairwise λa b=>a∈qs/\b∈qs/\a.1<=b.1:=by
   rw[P9] at pw ⊢;exact λi j hi hj gE=>⟨Ph hi,Ph hj,pw i j hi hj gE⟩
  refine DU.imp λ{a b} ⟨ha,hb,eU⟩=>?_;rw[(hV a ha).2,(hV b hb).2] at eU;exact eU
def Au.but'{T d:ae}{pos:bI}{q:ak}{H H':Hp}{o:HO}(h:Au T pos q H)(hd:H d=some o)(n1:∀z,o ≠ .tbl z)(n2:∀z,o ≠ .ext z)(b:But d H H'):Au T pos q H':=by
 rcases h with e | ⟨c,e,ec⟩
 ·exact .inl (b _ _ e λz=>by rw[z,hd] at e;cases e;exact n1 _ rfl)
 ·exact .inr ⟨c,b _ _ e (λz=>by rw[z,hd] at e;cases e;exact n1 _ rfl),b _ _ ec λz=>by rw[z,hd] at ec;cases ec;exact n2 _ rfl⟩
def Au.butT2{T T':ae}{pos gc:bI}{q q':ak}{H H':Hp}(h:Au T pos q H)(t:Au T' gc q' H)(n:T≠T')(b:But T' H H'):Au T pos q H':=by
 have k:∀{c:ae} {z:am->Prop},H c=some (.ext z)->c≠T':=λe=>Au.ne t e λz=>by simp
 rcases h with e | ⟨c,e,ec⟩
 ·exact .inl (b _ _ e n)
 ·exact .inr ⟨c,b _ _ e n,b _ _ ec (k ec)⟩
abbrev qWy:ak:=(ak.ofString "ways_to" ++ ak.ofString ".<locals>.")++ak.ofString "<lambda>"
def lamPosW (s:aM):bI:=match Cs s with
 | [_,.For _ (.Call _ _ [⟨_,.Lambda _ _ _ p,_⟩] _) _ _ _,_]=>p
 | _=>⟨0,0,0,0⟩
structure Tab2 (T T2:ae) (p1 p2:bI) (H:Hp):Prop where
 a:Au T p1 qIn H
 b:Au T2 p2 qWy H
 n:T≠T2
def Tab2.same{T T2:ae}{p1 p2:bI}{H H':Hp}(h:Tab2 T T2 p1 p2 H)(s:Same H H'):Tab2 T T2 p1 p2 H':=⟨SH.Au.same h.a s,SH.Au.same h.b s,h.n⟩
def But3 (T T2:ae) (H H':Hp):Prop:=∀b o,H b=some o->b≠T->b≠T2->H' b=some o
def spWyTo (T T2:ae) (p1 p2:bI):Sp:=λvs H Q _=>∃(r g:ae) (row G:Za),vs=[.ref r,.ref g]/\H r=some (.lst (row.map V.str))/\Row2 row/\Bk row/\(dit row).length<=14/\Tab2 T T2 p1 p2 H/\H g=some (.tup (G.map V.str))/\Ad row G=true /\
 ∀(d:ae) (Us:List (Za)) (H':Hp),H d=none->H' d=some (.dT (kvT Us (wyI row G)))->(∀S,S∈Us↔Ad row S=true)->Tab2 T T2 p1 p2 H'->But3 T T2 H H'->Q (.ref d) H'
abbrev Xgh:Za:=["row", "goal", "many", "plot"]
abbrev Xgi:Za:=["name", "many", "plot"]
def Xpy{Us:List (Za)}{f:Za->Int}{S:Za}(h:S∉Us):Bh (kvT Us f) (kOf S) (.int (f S))=kvT (Us++[S]) f:=by
 rw[Hi _ (by rw[Gz,Tj h])];unfold kvT;rw[Ot];rfl
def Tab2.but3{T T2:ae}{p1 p2:bI}{H H':Hp}(h:Tab2 T T2 p1 p2 H)(b:But3 T T2 H H'){c:ae}{o:HO}(e:H c=some o)(n:∀z,o ≠ .tbl z):H' c=some o:=b _ _ e (Au.ne h.a e n) (Au.ne h.b e n)
def Xsh (C T T2:ae) (p1 p2:bI):Sp:=λvs H Q E=>∃(r p q:ae) (row a b:Za),vs=[.ref r,.ref p,.ref q]/\Two H r p q row a b/\Bk row/\(dit row).length<=14/\Tab2 T T2 p1 p2 H /\
 (Ad row a=true->Ad row b=true->∀H',Tab2 T T2 p1 p2 H'->But3 T T2 H H'->Q (.int (wyI row b a)) H')/\((Ad row a=false\/Ad row b=false)->∀H',Same H H'->E (.ref C) none H')
end SH
namespace L2
open PySem.Calls
section
variable {P:ao}{w:aw}{A:av}{E:Zb}{s:af}
end
section
variable {X:Cx}
end
section
variable {P:ao}{w:aw}{A:av}{it d:ae}{ep:Nat}{es:Array fj}
end
end L2
namespace SH
open L2
theorem most{α : Type}(f : α->Nat):∀l:List α,l≠[]->∃a∈l,∀b∈l,f b<=f a
 | [],h=>absurd rfl h
 | [a],_=>⟨a,Op,λb hb=>by rw[Oj.mp hb];exact Og _⟩
 | a::c::r,_=>by
  obtain⟨m,hm,hl⟩:=most f (c::r) (by simp);by_cases q:f m<=f a
  ·exact⟨a,Op,λb hb=>by
    rcases Ou.mp hb with e | e
    ·rw[e];exact Og _
    ·exact Pj (hl b e) q⟩
  ·exact⟨m,Ol _ hm,λb hb=>by
    rcases Ou.mp hb with e | e
    ·rw[e];omega
    ·exact hl b e⟩
def Xpz{row a b:Za}(h2:∀y∈row,row.count y=2)(ha:Ad row a=true)(hb:Ad row b=true)(n:a≠b):
  ∃x c,Ad row c=true/\ne2 a b x=true/\∀y,y∈c↔if y=x then y∈b else y∈a:=by
 obtain⟨p1,p2,p3,p4⟩:=Il.mp ha;obtain⟨q1,q2,q3,q4⟩:=Il.mp hb;by_cases e:(a.filter λx => !decide (x∈b))=[]
 ·have sub:∀x∈a,x∈b:=λx hx=>Classical.byContradiction λz=>by
   have:x∈a.filter λx => !decide (x∈b):=Om.mpr ⟨hx,by simp[z]⟩;rw[e] at this;cases this
  have ne:(b.filter λx => !decide (x∈a))≠[]:=λe2=>n (lt_uniq p1 q1 λx=>⟨sub x,λhx=>Classical.byContradiction λz=>by
   have:x∈b.filter λx => !decide (x∈a):=Om.mpr ⟨hx,by simp[z]⟩;rw[e2] at this;cases this⟩)
  obtain⟨x,hx,mx⟩:=most (span row) _ ne;obtain⟨jE,sL⟩:=Om.mp hx;have sL:x∉a:=by simpa using sL
  refine⟨x,(dit row).filter (λy=>decide (y∈a)||decide (y=x)),?_,Kz.mpr (.inr ⟨jE,sL⟩),λy=>?_⟩
  ·have mem:∀y,y∈(dit row).filter (λy=>decide (y∈a)||decide (y=x))↔y∈row/\(y∈a\/y=x):=λy=>by rw[Om,An,Q3,decide_eq_true_eq,decide_eq_true_eq]
   refine Il.mpr ⟨(Dm row).filter _,λy hy=>((mem y).mp hy).1,λy hy z hz w=>?_,λy hy z hz=>?_⟩
   ·refine(mem z).mpr ⟨hz,?_⟩;rcases ((mem y).mp hy).2 with h | h
    ·exact .inl (p3 y h z hz w)
    ·rw[h] at w;refine .inl (Classical.byContradiction λnz=>?_);have DV:=q3 x jE z hz w;have:=mx z (Om.mpr ⟨DV,by simp[nz]⟩);have:=Xej (h2 x (q2 x jE)) w;omega
   ·refine q4 y ?_ z ?_
    ·rcases ((mem y).mp hy).2 with h | h
     ·exact sub y h
     ·rw[h];exact jE
    ·rcases ((mem z).mp hz).2 with h | h
     ·exact sub z h
     ·rw[h];exact jE
  ·rw[Om,An,Q3,decide_eq_true_eq,decide_eq_true_eq];by_cases z:y=x
   ·rw[Tk z];exact⟨λ_=>z ▸ jE,λh=>⟨q2 y h,.inr z⟩⟩
   ·rw[Tj z];exact⟨λh=>h.2.elim id λq=>absurd q z,λh=>⟨p2 y h,.inl h⟩⟩
 ·obtain⟨x,hx,mx⟩:=least (span row) _ e;obtain⟨sL,jE⟩:=Om.mp hx;have jE:x∉b:=by simpa using jE
  refine⟨x,a.filter (λy=>decide (y≠x)),?_,Kz.mpr (.inl ⟨sL,jE⟩),λy=>?_⟩
  ·refine Il.mpr ⟨Xmw p1,λy hy=>p2 y (Om.mp hy).1,λy hy z hz w=>?_,λy hy z hz=>p4 y (Om.mp hy).1 z (Om.mp hz).1⟩;obtain⟨ka,km⟩:=Om.mp hy;refine Om.mpr ⟨p3 y ka z hz w,Tl λq=>?_⟩;subst q;have DW:y∉b:=λh=>jE (q3 y h z hz w);have:=mx y (Om.mpr ⟨ka,by simp[DW]⟩);have:=Xej (h2 y (p2 y ka)) w;omega
  ·rw[Om,decide_eq_true_eq];by_cases z:y=x
   ·rw[Tk z];exact⟨λh=>absurd z h.2,λh=>absurd (z ▸ h) jE⟩
   ·rw[Tj z];exact⟨λh=>h.1,λh=>⟨h,z⟩⟩
section
variable {pl:Za->Bool}
end
theorem K3{row G:Za}(h2:∀y∈row,row.count y=2)(hG:Ad row G=true):∀(n:Nat) {S:Za},Ad row S=true->(Af S G).length=n->1<=wy (Ad row) G S
 | 0,S,hS,hn=>by
  rw[N2 (Bj hS).2 (Bj hG).2 (Pr.mp hn),Xge];exact Og _
 | n+1,S,hS,hn=>by
  have ne:S≠G:=λe=>by rw[e,G0] at hn;cases hn
  obtain⟨x,c,hc,hx,hm⟩:=Xpz h2 hS hG ne;have iZ:x∈Af S G:=E4.mpr (Kz.mp hx);have ec:Ao S x=c:=lt_uniq (Np x (B9 hS)) (Bj hc).2 λy=>by
   rw[Nn,hm];by_cases e:y=x
   ·subst e;rw[Tk rfl];rcases Kz.mp hx with ⟨a,b⟩ | ⟨a,b⟩<;>simp[a,b]
   ·rw[Tj e];simp[e]
  have ih:=K3 h2 hG n hc (by rw[<-ec];have:=Iz (B9 hS) (B9 hG) iZ;omega);rw[N3 (Bj hS).2 (Bj hG).2 ne];refine Pj ih ?_;have dm:∀{l:Za} {f:ak->Nat},x∈l->f x<=(l.map f).sum:=by
   intro l
   induction l with
   | nil=>intro f h;cases h
   | cons y l ih=>
    intro f h;rw[O5,Qg];rcases Ou.mp h with e | e
    ·rw[e];exact Nat.le_add_right _ _
    ·exact Pj (ih e) (Nat.le_add_left _ _)
  have:=dm (f:=λx=>if Ad row (Ao S x)=true then wy (Ad row) G (Ao S x) else 0) iZ
  rwa [Tk (by rw[ec];exact hc),ec] at this
def wtS (f:Za->Int) (Us:List (Za)) (g:Za->Int):Int:=(Us.map λS=>g S * f S).sum
def waL (row S ns:Za):List (ak×Za):=(ns.filter λx=>Ad row (Ao S x)).map λx=>(x,Ao S x)
def Xp0{row S G:Za}(hS:Ad row S=true)(hG:Ad row G=true)(n:S≠G):((waL row S (Af S G)).map λq=>wyI row G q.2).sum=wyI row G S:=by
 unfold waL wyI;rw[Pg,N3 (Bj hS).2 (Bj hG).2 n,<-K2];generalize Af S G=l
 induction l with
 | nil=>rfl
 | cons x l ih=>
  rw[O5,Qg,<-ih,Pi];by_cases q:Ad row (Ao S x)=true
  ·rw[Tk q,Tk q,O5,Qg];rfl
  ·rw[Tj q,Tj q];simp
def K4{row S ns:Za}{q:ak×Za}:q∈waL row S ns↔q.1∈ns/\q.2=Ao S q.1/\Ad row q.2=true:=by
 unfold waL;rw[Pa];constructor
 ·rintro ⟨x,hx,rfl⟩;obtain⟨h1,h2⟩:=Om.mp hx;exact⟨h1,rfl,h2⟩
 ·rintro ⟨h1,h2,h3⟩;refine⟨q.1,Om.mpr ⟨h1,by rw[<-h2];exact h3⟩,?_⟩;rw[<-h2]
def waT (row S ns:Za) (i:Nat):List (ak×Za):=waL row S (ns.take i)
def Xp1{row S ns:Za}{i:Nat}{x:ak}(h:ns[i]? = some x):waT row S ns (i+1)=waT row S ns i++if Ad row (Ao S x)=true then [(x,Ao S x)] else []:=by
 unfold waT waL;rw[List.take_add_one,h,O1,Ot];congr 1;by_cases q:Ad row (Ao S x)=true
 ·rw[Tk q];simp[q]
 ·rw[Tj q];simp[q]
def spWaysG:Sp:=λvs H Q _=>∃(b l p:ae) (row S ns:Za) (xs:List V),vs=[.ref b,.ref l,.ref p]/\H b=some (.lst xs)/\DAll H ((bars row).map trD) xs/\H l=some (.lst (ns.map V.str))/\(∀x∈ns,x∈row)/\ns.length<=60/\Row2 row/\(dit row).length<=14/\H p=some (.tup (S.map V.str))/\Ad row S=true /\
 ∀(D:ae) (qs:List ae) (H':Hp),H D=none->H' D=some (.lst (qs.map V.ref))->Nbs H' qs (waL row S ns)->qs.length<=60->Same H H'->Q (.ref D) H'
def Xsi:Sp:=λvs H Q _=>∃(r p q:ae) (row a b:Za),vs=[.ref r,.ref p,.ref q]/\H r=some (.lst (row.map V.str))/\Row2 row/\Bk row/\(dit row).length<=14/\H p=some (.tup (a.map V.str))/\H q=some (.tup (b.map V.str))/\Ad row a=true/\Ad row b=true /\
 ∀H',Same H H'->Q (.int (wyI row b a)) H'
def spRef18 (T T2:ae) (p1 p2:bI):Sp:=λvs H Q _=>∃(r p q:ae) (row a b:Za),vs=[.ref r,.ref p,.ref q]/\Two H r p q row a b/\Bk row/\Tab2 T T2 p1 p2 H/\(Ad row a=false\/Ad row b=false)/\∀H',Same H H'->Q (.bl true) H'
def Trs (f:Za->Int) (H:Hp) (qs:List ae) (xs:List (ak×Za)):Prop:=qs.length=xs.length/\∀i,i<qs.length->∃p,H (qs.getD i 0)=some (.tup [.str (xs.getD i dN).1,.ref p,.int (f (xs.getD i dN).2)])/\H p=some (.tup ((xs.getD i dN).2.map V.str))
def Trs.keep{f:Za->Int}{H H':Hp}{qs:List ae}{xs:List (ak×Za)}(h:Trs f H qs xs)(k:∀b w,H b=some (.tup w)->H' b=some (.tup w)):Trs f H' qs xs:=⟨h.1,λi hi=>let ⟨p,a,b⟩:=h.2 i hi; ⟨p,k _ _ a,k _ _ b⟩⟩
def Trs.same{f:Za->Int}{H H':Hp}{qs:List ae}{xs:List (ak×Za)}(h:Trs f H qs xs)(s:Same H H'):Trs f H' qs xs:=h.keep λ_ _ e=>s _ _ e
def Trs.nil{f:Za->Int}(H:Hp):Trs f H [] []:=⟨rfl,λi hi=>absurd hi (Qk _)⟩
def Trs.snoc{f:Za->Int}{H:Hp}{qs:List ae}{xs:List (ak×Za)}{q p:ae}{x:ak×Za}(h:Trs f H qs xs)(h1:H q=some (.tup [.str x.1,.ref p,.int (f x.2)]))(h2:H p=some (.tup (x.2.map V.str))):Trs f H (qs++[q]) (xs++[x]):=by
 refine⟨by rw[Oh,Oh,h.1];rfl,λi hi=>?_⟩;rw[Oh] at hi;have hi:i<qs.length+1:=hi;by_cases z:i<qs.length
 ·have z2:i<xs.length:=by rw[<-h.1];exact z
  rw[List.getD,List.getD,Pt z,Pt z2];exact h.2 i z
 ·have e:i=qs.length:=by omega
  subst e;refine⟨p,?_,?_⟩
  ·rw[List.getD,Po (Og _),Sg,List.getD,h.1,Po (Og _),Sg];exact h1
  ·rw[List.getD,h.1,Po (Og _),Sg];exact h2
def Xp2{f:Za->Int}{cap:List (Option Nat)}{g:TG}{tt:TT}{te:TE}{J:It}{Z:L2.St}{H1:Hp}{F:ae->Hp->Prop}(n:Nat)(hn:n<sizeLine)(vs:Nat->V)(ok:Nat->Bool)(Us:Nat->ak×Za)(Es:L2.St->Prop)(h0:Es (Bs cap Z))
  (gu:∀i H2,i<n->Same H1 H2->J.go i H2/\∀x H3,J.yld i H2 x H3->H3=H2/\x=vs i)
  (bD:∀H2,Same H1 H2->J.stop n H2)
  (step:∀i Z1 H2 (Q1:L2.St->V->Hp->Prop) (Q0:L2.St->Hp->Prop),i<n->Es Z1->Same H1 H2->(∀Z2 t p H6,ok i=true->Es Z2->H6 t=some (.tup [.str (Us i).1,.ref p,.int (f (Us i).2)])->H6 p=some (.tup ((Us i).2.map V.str))->Same H2 H6->Q1 Z2 (.ref t) H6)->(∀Z2 H6,ok i=false->Es Z2->Same H2 H6->Q0 Z2 H6) ->
   g (vs i) Z1 H2 fun Z2 H4=>tt Z2 H4 λb H5=>if b=true then te Z2 H5 λy H6=>Q1 Z2 y H6 else Q0 Z2 H5)
  (hd:∀D ps H2,H1 D=none->Same H1 H2->H2 D=some (.lst (ps.map V.ref))->Trs f H2 ps (((List.range n).filter ok).map Us)->F D H2):Ee cap g tt te J Z H1 F:=by
 refine F8 n vs (λD i Z2 H2=>Es Z2/\Same H1 H2/\∃ps:List ae,ps.length<=i/\H2 D=some (.lst (ps.map V.ref))/\Trs f H2 ps (((List.range i).filter ok).map Us)) ?_ ?_ ?_ ?_ ?_
 ·intro D hD;exact⟨h0,(Same.refl H1).step hD,[],Og _,Ab,Trs.nil _⟩
 ·rintro D i Z2 H2 hD hi ⟨_,s2,_⟩;exact gu i H2 hi s2
 ·rintro D Z2 H2 hD ⟨_,s2,_⟩;exact bD H2 s2
 ·rintro D i Z2 H2 hD hi ⟨e,s2,ps,hl,hb,ht⟩;refine step i Z2 H2 _ _ hi e s2 (fun Z3 t p H4 hok e3 h4 h5 s4=>?_) (fun Z3 H4 hok e3 s4=>?_)
  ·have nA:=s4 _ _ hb;have ja:=ht.same s4;have keep:∀b w,H4 b=some (.tup w)->upd H4 D (.lst (ps.map V.ref++[.ref t])) b=some (.tup w):=λb w e=>by
    rw[Ae (λz=>by rw[z,nA] at e;cases e)];exact e
   refine wput hi nA (by rw[Od];omega) ⟨e3,λb u e'=>?_,ps++[t],by rw[Oh];show ps.length+1<=i+1;omega,by rw[Ab,Ot];rfl,?_⟩
   ·rw[Ae (Av e' hD)];exact s4 _ _ (s2 b u e')
   ·rw[Pq,O1,Ot];simp only[Pi,hok,if_true,Rt,O5,R0];exact(ja.keep keep).snoc (keep _ _ h4) (keep _ _ h5)
  ·refine wskip hi ⟨e3,s2.trans s4,ps,by omega,s4 _ _ hb,?_⟩;rw[Pq,O1,Ot];simp only[Pi,hok,Rt,Pe,if_false,R0,Pm];exact ht.same s4
 ·rintro D Z2 H2 hD ⟨_,s2,ps,_,hb,ht⟩;exact hd D ps H2 hD s2 hb ht
def D7 (f:Za->Nat):List (ak×Za)->Nat->Option ((ak×Za)×Nat)
 | [],_=>none
 | q::r,k=>if k<f q.2 then some (q,k) else D7 f r (k - f q.2)
theorem Xgj{f:Za->Nat}:∀{l:List (ak×Za)} {k:Nat},k<(l.map λq=>f q.2).sum->∃q k',D7 f l k=some (q,k')/\q∈l/\k'<f q.2
 | [],k,h=>by cases h
 | q::r,k,h=>by
  rw[O5,Qg] at h;by_cases c:k<f q.2
  ·exact⟨q,k,by unfold D7;rw[Tk c],Op,c⟩
  ·obtain⟨q',k',e,m,l⟩:=Xgj (f:=f) (l:=r) (k:=k - f q.2) (by omega);exact⟨q',k',by unfold D7;rw[Tj c];exact e,Ol _ m,l⟩
def wkN (row G:Za):Nat->Za->Nat->Za
 | 0,_,_=>[]
 | n+1,S,k=>match D7 (wy (Ad row) G) (waL row S (Af S G)) k with
  | some (q,k')=>q.1::wkN row G n q.2 k'
  | none=>[]
def wkL (row G S:Za) (k:Nat):Za:=wkN row G (Af S G).length S k
theorem Xgk{row G:Za}:∀{n:Nat} {S:Za} {k:Nat},(wkN row G n S k).length<=n
 | 0,_,_=>Og _
 | n+1,S,k=>by
  unfold wkN;split
  ·rw[O2];exact Nat.succ_le_succ Xgk
  ·exact Pf _
def Xp3{row S G:Za}(hS:Ad row S=true)(hG:Ad row G=true)(n:S≠G):((waL row S (Af S G)).map λq=>wy (Ad row) G q.2).sum=wy (Ad row) G S:=by
 have:=Xp0 hS hG n;unfold wyI at this;rw[K2 (λq:ak×Za=>wy (Ad row) G q.2)] at this;exact Int.ofNat.inj this
section
variable {row S G:Za}{k:Nat}
def Xgl(hS:Ad row S=true)(hG:Ad row G=true)(n:S≠G)(hk:k<wy (Ad row) G S):∃q k',D7 (wy (Ad row) G) (waL row S (Af S G)) k=some (q,k')/\q∈waL row S (Af S G)/\k'<wy (Ad row) G q.2/\wkL row G S k=q.1::wkL row G q.2 k'/\(Af q.2 G).length+1=(Af S G).length:=by
 obtain⟨q,k',e,m,l⟩:=Xgj (f:=wy (Ad row) G) (l:=waL row S (Af S G)) (k:=k) (by rw[Xp3 hS hG n];exact hk);obtain⟨a1,a2,a3⟩:=K4.mp m;have hl:=Iz (B9 hS) (B9 hG) a1;rw[<-a2] at hl;refine⟨q,k',e,m,l,?_,hl⟩;unfold wkL;rw[<-hl]
 conv=>lhs;unfold wkN
 rw[e]
end
def N4{row S G:Za}(h2:∀y∈row,row.count y=2)(hS:Ad row S=true)(hG:Ad row G=true)(n:S≠G):∃q r,waL row S (Af S G)=q::r/\q.1∈Af S G/\q.2=Ao S q.1/\Ad row q.2=true/\wkL row G S 0=q.1::wkL row G q.2 0:=by
 obtain⟨q,k',e,m,l,ew,_⟩:=Xgl (k:=0) hS hG n (K3 h2 hG _ hS rfl);cases hw:waL row S (Af S G) with
 | nil=>rw[hw] at m;cases m
 | cons q0 r=>
  have m0:q0∈waL row S (Af S G):=by rw[hw];exact Op
  obtain⟨a1,a2,a3⟩:=K4.mp m0;rw[hw] at e;unfold D7 at e;rw[Tk (show 0<wy (Ad row) G q0.2 from K3 h2 hG _ a3 rfl)] at e;have e:=Ox e;have e1:q0=q:=congrArg Prod.fst e;have e2:0=k':=congrArg Prod.snd e;subst e1;subst e2;exact⟨q0,r,rfl,a1,a2,a3,ew⟩
def Xgm(row G:Za)(k:Nat):wkL row G G k=[]:=by
 unfold wkL;rw[G0];rfl
theorem N5{row G:Za}(h2:∀y∈row,row.count y=2)(hG:Ad row G=true):∀(n:Nat) {S:Za},Ad row S=true->(Af S G).length=n->(wkL row G S 0).Perm (Af S G)
 | 0,S,hS,hn=>by
  have e:=N2 (Bj hS).2 (Bj hG).2 (Pr.mp hn);subst e;rw[Xgm,G0]
 | n+1,S,hS,hn=>by
  have ne:S≠G:=λz=>by rw[z,G0] at hn;cases hn
  obtain⟨q,r,_,hx,eq,hq,ew⟩:=N4 h2 hS hG ne;have hl:=Iz (B9 hS) (B9 hG) hx;rw[<-eq] at hl;rw[ew];refine((N5 h2 hG n hq (by omega)).cons q.1).trans ?_;rw[eq,Xgd (B9 hS) (B9 hG) hx];exact(Si hx).symm
def Xp4{row S G:Za}(h2:∀y∈row,row.count y=2)(hS:Ad row S=true)(hG:Ad row G=true):srt (wkL row G S 0)=Af S G:=by
 rw[Mf (N5 h2 hG _ hS rfl)];exact Ex (Cu _) (Dx _) ((Gm (B9 hS) (B9 hG)).imp λh=>Xcr h)
def Xp5{row S G:Za}(hS:Ad row S=true)(hG:Ad row G=true):(waL row S (dit row)).filter (λq=>decide (q.1∈Af S G))=waL row S (Af S G):=by
 unfold waL;rw[List.filter_map,List.filter_filter];have e:(dit row).filter (λx=>decide (x∈Af S G))=Af S G:=by
  refine lt_uniq ((Dm row).filter _) (Gm (B9 hS) (B9 hG)) λx=>?_;rw[Om,An,decide_eq_true_eq];refine⟨λh=>h.2,λh=>⟨?_,h⟩⟩;rcases E4.mp h with z | z
  ·exact(Bj hS).1 x z.1
  ·exact(Bj hG).1 x z.1
 conv=>rhs;rw[<-e,List.filter_filter]
 congr 1;refine S8 λx _=>?_;exact Bool.and_comm _ _
def _root_.SH.Nbs.filt{H:Hp}{qs:List ae}{xs:List (ak×Za)}(h:Nbs H qs xs)(ok:Nat->Bool):Nbs H (((List.range qs.length).filter ok).map λi=>qs.getD i 0) (((List.range qs.length).filter ok).map λi=>xs.getD i dN):=by
 refine⟨by rw[Od,Od],λj hj=>?_⟩;rw[Od] at hj;have hm:((List.range qs.length).filter ok)[j]∈(List.range qs.length).filter ok:=Ph hj;have hl:((List.range qs.length).filter ok)[j]<qs.length:=Ps.mp (Om.mp hm).1;obtain⟨p,a,b⟩:=h.2 _ hl;refine⟨p,?_,?_⟩
 ·rw[List.getD,List.getD,Ov,Ov,Oe hj];exact a
 ·rw[List.getD,Ov,Oe hj];exact b
def Xgn{T:ae}{pos:bI}{q:ak}{H:Hp}(t:Au T pos q H):∃o,H T=some o:=by
 rcases t with h | ⟨c,h,_⟩
 ·exact⟨_,h⟩
 ·exact⟨_,h⟩
def _root_.SH.Tab2.free{T T2:ae}{p1 p2:bI}{H H':Hp}(t:Tab2 T T2 p1 p2 H')(b:But3 T T2 H H'){l:ae}(n:H' l=none):H l=none:=by
 cases e:H l with
 | none=>rfl
 | some o=>
  obtain⟨o1,h1⟩:=Xgn t.a;obtain⟨o2,h2⟩:=Xgn t.b;have:=b l o e (λz=>by rw[z,h1] at n;cases n) (λz=>by rw[z,h2] at n;cases n);rw[this] at n;cases n
def Xp6{f:Za->Nat}{l:List (ak×Za)}{i k:Nat}(hi:i<l.length):D7 f (l.drop i) k=if k<f (l.getD i dN).2 then some (l.getD i dN,k) else D7 f (l.drop (i+1)) (k - f (l.getD i dN).2):=by
 have e:l.getD i dN=l[i]:=by simp[List.getD,hi]
 rw[e,Ql hi];rfl
def Xgo:Sp:=λvs H Q _=>∃(d p q:ae) (row S G:Za) (Us:List (Za)),vs=[.ref d,.ref p,.ref q]/\H d=some (.dT (kvT Us (wyI row G)))/\(∀S,S∈Us↔Ad row S=true)/\H p=some (.tup (S.map V.str))/\H q=some (.tup (G.map V.str))/\Ad row S=true/\Ad row G=true/\(dit row).length<=14 /\
 ∀(D:ae) (qs:List ae) (H':Hp),H D=none->H' D=some (.lst (qs.map V.ref))->Trs (wyI row G) H' qs (waL row S (Af S G))->Same H H'->Q (.ref D) H'
def Xgp (C T T2:ae) (p1 p2:bI):Sp:=λvs H Q E=>∃(r p q:ae) (row a b:Za) (k:Nat),vs=[.ref r,.ref p,.ref q,.int k]/\Two H r p q row a b/\Bk row/\(dit row).length<=14/\Tab2 T T2 p1 p2 H /\
 (Ad row a=true->Ad row b=true->k<wy (Ad row) b a/\∀l H',H l=none->H' l=some (.lst ((wkL row b a k).map V.str))->Tab2 T T2 p1 p2 H'->But3 T T2 H H'->Q (.ref l) H')/\((Ad row a=false\/Ad row b=false)->∀H',Same H H'->E (.ref C) none H')
def N6 (C T T2:ae) (p1 p2:bI):Sp:=λvs H Q E=>∃(r p q:ae) (row a b:Za),vs=[.ref r,.ref p,.ref q]/\Two H r p q row a b/\Bk row/\(dit row).length<=14/\Tab2 T T2 p1 p2 H /\
 (Ad row a=true->Ad row b=true->∀l H',H l=none->H' l=some (.lst ((wkL row b a 0).map V.str))->Tab2 T T2 p1 p2 H'->But3 T T2 H H'->Q (.ref l) H')/\((Ad row a=false\/Ad row b=false)->∀H',Same H H'->E (.ref C) none H')
def spOverD:Sp:=λvs H Q _=>∃(r p:ae) (row S:Za),vs=[.ref r,.ref p]/\H r=some (.lst (row.map V.str))/\Row2 row/\(dit row).length<=14/\H p=some (.tup (S.map V.str))/\Ad row S=true /\
 ∀(D:ae) (qs:List ae) (H':Hp),H D=none->H' D=some (.lst (qs.map V.ref))->Nbs H' qs (waL row S (dit row))->qs.length<=60->Same H H'->Q (.ref D) H'
def Xgq:Sp:=λvs H Q _=>∃(r p q:ae) (row S G:Za),vs=[.ref r,.ref p,.ref q]/\H r=some (.lst (row.map V.str))/\Row2 row/\(dit row).length<=14/\H p=some (.tup (S.map V.str))/\H q=some (.tup (G.map V.str))/\Ad row S=true/\Ad row G=true /\
 ∀(D:ae) (qs:List ae) (H':Hp),H D=none->H' D=some (.lst (qs.map V.ref))->Nbs H' qs (waL row S (Af S G))->Same H H'->Q (.ref D) H'
abbrev NOd17:Za:=["_law_row_here", "_law_here", "_law_there", "_law_apart_here"]
abbrev NOd171:Za:=["_law_pair", "_law_apart_here"]
abbrev NNr:Za:=["many", "plot", "goal", "sides"]
abbrev NNr1:Za:=["name", "plot"]
abbrev NNr2:Za:=["name", "over", "many"]
abbrev NWoT:Za:=["row", "one", "other", "number", "many", "steps", "here", "left", "name", "over", "ways"]
end SH
namespace K17
open L2 SH
def top (i:Nat):aM:=PySem.Challenge.pw_shoretold_k17_whole_a_shortest_walk.main.body.getD i (.Pass ⟨0,0,0,0⟩)
abbrev sAsk:aM:=top 6
abbrev sDitches:aM:=top 7
abbrev sEnds:aM:=top 8
abbrev sSpans:aM:=top 9
abbrev sLieOf:aM:=top 10
abbrev sCross:aM:=top 11
abbrev sTold:aM:=top 13
abbrev s_in_order:aM:=top 14
abbrev sAllows:aM:=top 15
abbrev sIsPlot:aM:=top 16
abbrev s_ask_plot:aM:=top 17
abbrev s_plots:aM:=top 18
abbrev s_parting:aM:=top 20
abbrev s_across:aM:=top 21
abbrev s_ways_to:aM:=top 23
abbrev s_walk:aM:=top 24
abbrev s_nearer:aM:=top 25
abbrev s_walk_of:aM:=top 26
abbrev sBegin:aM:=top 28
abbrev sPick:aM:=top 29
abbrev sPut:aM:=top 30
abbrev sWhere:aM:=top 31
abbrev sWord:aM:=top 32
abbrev sBarred:aM:=top 33
abbrev sRow:aM:=top 34
abbrev sNames:aM:=top 35
abbrev sIsland:aM:=top 36
abbrev s__law_bars:aM:=top 37
abbrev s__law_fits:aM:=top 38
abbrev s__law_plots:aM:=top 39
abbrev s__law_one:aM:=top 40
abbrev s__law_stranger:aM:=top 41
abbrev s__law_flip:aM:=top 42
abbrev s__law_odd_plot:aM:=top 43
abbrev s__law_good_plot:aM:=top 44
abbrev sTexts:aM:=top 45
abbrev s__law_apart:aM:=top 46
abbrev s__law_ways:aM:=top 47
abbrev s__law_over:aM:=top 48
abbrev s__law_onward:aM:=top 49
abbrev s__law_refused:aM:=top 50
abbrev s_law:aM:=top 51
abbrev NWo:Za:=["_law_where_here", "_law_one_here", "_law_other", "_law_low", "_law_high", "_law_inner"]
abbrev NBc:Za:=["_law_one_here", "_law_name", "_law_where_here"]
abbrev NFl1:Za:=["_law_one_here", "_law_name"]
abbrev NFi:Za:=["_law_bars_here", "_law_plot", "_law_one_here", "_law_other", "_law_word_here"]
abbrev NBr:Za:=["_law_row_here", "_law_where_here", "_law_told", "_law_one_here", "_law_other", "_law_word_here"]
abbrev NPl:Za:=["_law_row_here", "_law_bars_here", "_law_names_here", "_law_told", "_law_layer", "_law_k", "_law_fresh", "_law_plot", "_law_name", "_law_over_here"]
section
variable {P:ao}{w:aw}{K:LD}{mg:ak->Option aa}{base:am}
def Xp7:FnScope ["row", "name"] ["row", "name"] (defScope sAsk):=by walk_at "s"
def Xp8{f C:ae}{fd:au}(F:Fun K "ask_ditch" "ask_ditch" sAsk f fd)(hC:mg "NoDitch" = some (.ref C))(hc:LY K C bmV "ValueError.__new__" = true):
  FnOk P w K mg base (CX1 P w) 1 f fd ["row", "name"] (Xdl C):=by
 refine F.ok1 Xp7 (by walk_at "l") ?_
 ·walk_at "i"
  obtain⟨r,row,x,rfl,hR,⟨wB,oQ⟩,kq,ke⟩:=h;refine⟨_,Ah (Bb (Aw Jm (pv 1) (pv 0) (by rfl))
   (Ah (Xbz (C:=C) (E:=E) hc rfl leaves1 (by rfl) hC (Aa (Xb8 (Jr (by decide +kernel) (Xkj (pv 1) (Jr (by decide +kernel) Xb7)))) Ac))) Bc),?_⟩
  refine⟨_,rfl,_,rfl,r,_,rfl,.inl (SqL.of hR),rfl,C9 row,_,rfl,?_⟩;rw[C8];by_cases hx:x∈row
  ·refine Xi7 hx ?_;exact kq hx H (Same.refl H)
  ·rw[Tn hx];refine B3 ?_;refine⟨_,rfl,x,rfl,by omega,(λc h=>Qs (oQ c h) (by decide)),λz=>?_⟩;exact⟨by show 1<=sizeLine;decide,ke hx H (Same.refl H)⟩
def Xp9:FnScope ["row"] ["row"] (defScope sDitches):=by walk_at "s"
def Xqa{f:ae}{fd:au}(F:Fun K "ditches" "ditches" sDitches f fd)(T:Bl mg):FnOk P w K mg base CX0 1 f fd ["row"] spDitches:=by
 refine F.ok Xp9 (by walk_at "l") ?_
 ·walk_at "i"
  obtain⟨r,row,rfl,hR,hl,k⟩:=h;refine⟨_,Ah (Aq (A8 (Ju rfl) (by rfl) T.sorted (by rfl) (Aa (B1 (Ht rfl) (by rfl) T.set (by rfl) (Aa (pv 0) Ac)) Ac))),?_⟩;refine⟨_,rfl,r,row,rfl,.inl (SqL.of hR),by unfold aU;omega,λa na=>?_⟩;have fr:=Hs row;refine⟨a,ddup row,rfl,Ab,by omega,λl ls nl hp hs=>?_⟩;have s1:Same H (upd H a (Ew P w a (ddup row))):=(Same.refl H).step na;refine k l _ (s1.free nl) ?_ (s1.step nl);rw[Ab,Ga hp hs];rfl
def Xgr:FnScope NEn ["row", "name"] (defScope sEnds):=by walk_at "s"
def Xqb{f C:ae}{fd:au}(F:Fun K "ends" "ends" sEnds f fd)(T:Bl mg)(FA:Fn P w K mg base (CX1 P w) 1 "ask_ditch" ["row", "name"] (Xdl C)):
  FnOk P w K mg base (CX1 P w) 2 f fd ["row", "name"] (Xdm C):=by
 refine F.ok1 Xgr (by walk_at "l") ?_
 ·walk_at "i"
  obtain⟨r,row,x,rfl,hR,hx,hl,kq,ke⟩:=h;refine⟨_,Ag (Ea (Ak FA hr rfl pass1 (Aa (pv 0) (Aa (pv 1) Ac))))
   (Ag (Hz (i:=2) (N:=NEc) (cap:=[none,none,some 1]) (CompScope.of (defScope sEnds) NEn rfl rfl rfl (by decide +kernel)) rfl Xgr.nd rfl rfl
    (Xkh (by rfl) T.enum (Aa (pv 0) Ac))
    (λ_ _ _=>Jy K 2 rfl rfl (Ck (Ax (i:=0) (show NEc.Nodup by decide +kernel) rfl (.inl rfl) (.inr rfl)) (Ck (Ax (i:=1) (show NEc.Nodup by decide +kernel) rfl (.inl rfl) (.inr rfl)) F4)))
    (λ_ _ _=>Dl (Aw B5 (pv 1) (pv 2) (Az _))) (λ_ _ _=>pv 0))
   (Ah (Aq (B0 (Aa (A0 Bf (pv 2) Ai (λ_ _=>rfl)) (Aa (A0 Bf (pv 2) Ai (λ_ _=>rfl)) Ac)))))),?_⟩
  refine⟨_,rfl,_,rfl,r,row,x,rfl,hR,hx,λdh H1 s1=>?_,ke⟩;obtain⟨a,b,eU,kq⟩:=kq dh;refine⟨_,rfl,r,rfl,⟨_,SqL.of (s1 _ _ hR)⟩,?_⟩;refine Xks (K:=K) (p:=0) (q:=1) (by decide) (SqL.of (s1 _ _ hR)) (by rw[Od,Ti];omega) (λi=>decide (row.getD i ak.empty=x)) (λi=>.int i) ?_ ?_ ?_
  ·intro i v H2 Q' hv s2 k;obtain⟨y,rfl,hy⟩:∃y,v=V.str y/\row.getD i ak.empty=y:=by
    rw[Ov] at hv;cases q:row[i]? with
    | none=>rw[q] at hv;cases hv
    | some y=>rw[q] at hv;exact⟨y,(Ox hv).symm,by simp[List.getD,q]⟩
   refine⟨_,rfl,_,rfl,rfl,_,rfl,?_⟩;have:=k H2 (Same.refl _);rw[hy] at this;have e:decide (V.str y=V.str x)=decide (y=x):=by
    by_cases z:y=x
    ·rw[z];simp
    ·rw[Tn z,Tn (λq=>z (by injection q))]
   rw[e];exact this
  ·intro i v H2 Q' hv hk s2 k;exact⟨_,rfl,k H2 (Same.refl _)⟩
  ·intro D H2 nD s2 hD;have eA:H2 D=some (.lst [.int a,.int b]):=by
    rw[hD,Od];have:=congrArg (List.map V.int) ((M4 row x).trans eU);rw[Pg] at this;rw[show ((List.range row.length).filter λi=>decide (row.getD i ak.empty=x)).map (λi:Nat=>V.int (i:Int))=_ from this];rfl
   refine⟨_,rfl,_,_,_,_,rfl,rfl,SqL.of eA,rfl,_,rfl,_,_,_,_,rfl,rfl,SqL.of eA,rfl,by show 2<=sizeLine;decide,λp np=>?_⟩;have s3:=s1.trans s2;exact kq p _ (s3.free np) Ab (s3.step np)
def Xqc:FnScope ["row"] ["row"] (defScope sSpans):=by walk_at "s"
def Xqd{f C:ae}{fd:au}(F:Fun K "spans" "spans" sSpans f fd)(FD:Fn P w K mg base CX0 1 "ditches" ["row"] spDitches)(FE:Fn P w K mg base (CX1 P w) 2 "ends" ["row", "name"] (Xdm C)):
  FnOk P w K mg base CX0 3 f fd ["row"] spSpans:=by
 refine F.ok Xqc (by walk_at "l") ?_
 ·walk_at "i"
  obtain⟨r,row,rfl,hR,R2,k⟩:=h;have cr:Room 1 _:=hr.mono (by decide);refine⟨_,Ah (Aq (Xc6 (N:=NSp) (cap:=[none,some 0]) (CompScope.of (defScope sSpans) ["row"] rfl rfl rfl (by decide +kernel)) rfl
   (Bp (Ak FD cr (by rfl) Am (Aa (pv 0) Ac))) (λ_ _ _=>Ax (i:=0) (show NSp.Nodup by decide +kernel) rfl (.inl rfl) (.inr rfl)) (λ_ _ _=>Dk)
   (λ_ _ _=>pv 0) (λ_ _ _=>Ak (by exact FE) (by exact hr) (by rfl) Mg (Aa (pv 1) (Aa (pv 0) Ac))))),?_⟩
  have hl:=R2.len;refine⟨_,rfl,r,row,rfl,hR,hl,λdi H1 K' wR s1=>?_⟩;refine⟨di,rfl,⟨_,SqL.of wR⟩,λD nD=>?_⟩;have hn:∀i,i<(dit row).length->((dit row).map V.str).getD i .non = .str ((dit row).getD i ak.empty):=λi hi=>Bt V.str ak.empty _ hi;have wS:=s1 _ _ hR;have fr:=Fo row;refine⟨wN (dit row).length λi Z2 H2=>(∃v, Z2=[v,some (.ref r)])/\Same H1 H2/\∃kvs,H2 D=some (.dK kvs)/\Spn H2 kvs row ((dit row).take i),⟨(dit row).length,by simp,Pf _,⟨none,rfl⟩,(Same.refl H1).step nD,[],Ab,⟨rfl,λx hx=>by simp at hx⟩⟩,?_⟩;rintro i m Z1 H2 ⟨rfl,hi,⟨v,rfl⟩,s2,kvs,hD,sp⟩;by_cases aZ:i<(dit row).length
  ·have oY:i<((dit row).map V.str).length:=by rw[Od];exact aZ
   obtain⟨g1,g2⟩:=Ef (K:=K) (SqL.of (s2 _ _ wR)) oY;refine .inr ⟨g1,λx H3 y=>?_⟩;obtain⟨e1,e2⟩:=g2 x H3 y;subst e1 e2;rw[hn i aZ];generalize hx:(dit row).getD i ak.empty=x;have u4:x∈dit row:=by rw[<-hx];exact Cv aZ
   have h9:=An.mp u4;have gh:(dit row).take (i+1)=(dit row).take i++[x]:=by
    rw[O3 aZ,<-hx];simp[List.getD,aZ]
   have jk:x∉(dit row).take i:=by
    have nd:=Gb row;have h2:((dit row).take (i+1)).Nodup:=nd.sublist (P2 ..);rw[gh] at h2;exact λz=>(Qe.mp h2).2.2 x z x (by simp) rfl
   refine⟨_,rfl,_,rfl,_,rfl,r,row,x,rfl,s2 _ _ wS,R2.ok x h9,by omega,λ_=>⟨_,_,Fu (R2.two x h9),λl H4 nl l6 s4=>?_⟩,λz=>absurd h9 z⟩;have dq:=s4 _ _ hD;have kl:kvs.length<=60:=by
    have:=sp.len;rw[O0] at this;omega
   refine⟨kvs,Sum.inr x,rfl,dq,by rw[Ti];omega,?_⟩;refine wskip aZ ⟨⟨_,rfl⟩,λb u e=>?_,_,Ab,?_⟩
   ·rw[Ae (Av e nD)];exact s4 _ _ (s2 b u e)
   ·rw[gh];refine sp.snoc jk ?_ λb xs e=>?_
    ·rw[Ae (λz=>by rw[z,dq] at l6;cases l6)];exact l6
    ·have e4:=s4 _ _ e;rw[Ae (λz=>by rw[z,dq] at e4;cases e4)];exact e4
  ·have ei:i=(dit row).length:=by omega
   subst ei;refine .inl ⟨by have:=Eg (K:=K) (SqL.of (s2 _ _ wR));rwa [Od] at this,?_⟩;rw[P4] at sp;exact k D kvs H2 (s1.free nD) hD sp (s1.trans s2)
def N7:FnScope NLo ["here", "there"] (defScope sLieOf):=by walk_at "s"
def Xqe{f:ae}{fd:au}(F:Fun K "lie_of" "lie_of" sLieOf f fd):FnOk P w K mg base CX0 2 f fd ["here", "there"] spLieOf:=by
 refine F.ok N7 (by walk_at "l") ?_
 ·walk_at "i"
  obtain⟨p,q,a,b,c,e,rfl,hp,hq,l4,k⟩:=h;refine⟨_,Ag (Bb (Aw (Mq (hu3 hr)) (pv 0) (pv 1) (Az _)) (Ah (Aq Bg)) Bc)
   (Ag (Ap (i:=2) N7.nd rfl (.inl rfl) (Xat Cn Cn (A0 (Dy K (by rfl)) (pv 1) Ai (λ_ _=>rfl)) (A0 (Dy K (by rfl)) (pv 0) Ai (λ_ _=>rfl)) (A0 (Dy K (by rfl)) (pv 1) Ai (λ_ _=>rfl))))
   (Ag (Ap (i:=3) N7.nd rfl (.inl rfl) (Xat Cn Cn (A0 (Dy K (by rfl)) (pv 1) Ai (λ_ _=>rfl)) (A0 (Dy K (by rfl)) (pv 0) Ai (λ_ _=>rfl)) (A0 (Dy K (by rfl)) (pv 1) Ai (λ_ _=>rfl))))
   (Ag (Bb (Aw G5 (pv 2) (pv 3) (Az _)) (Ah (Aq Bg)) Bc)
   (Ag (Bb (En (pv 2)) (Ah (Aq Bg)) Bc)
   (Ah (Aq (Jf (Xau Cn Cn (A0 (Dy K (by rfl)) (pv 0) Ai (λ_ _=>rfl)) (A0 (Dy K (by rfl)) (pv 1) Ai (λ_ _=>rfl)) (A0 (Dy K (by rfl)) (pv 0) Ai (λ_ _=>rfl))) Bg Bg))))))),?_⟩
  have d2:∀{r:ae} {x y:Int},H r=some (.tup [.int x,.int y])->DAt H (.tuple [.int x,.int y]) (.ref r):=λ{r x y} h=>Mm h (Xk0 [x,y]);refine⟨_,rfl,_,rfl,.tuple [.int a,.int b],.tuple [.int c,.int e],d2 hp,d2 hq,rfl,rfl,(by show min (max 0 (max 0 0)+1) (max 0 (max 0 0)+1)<=3;decide),_,rfl,?_⟩;have ee:ar.eqv (.tuple [.int a,.int b]) (.tuple [.int c,.int e])=decide (a=c/\b=e):=by
   rw[Qj,J6 _ _ rfl rfl];simp
  rw[ee];have kk:=k H (Same.refl H);refine A2 (λh1=>?_) (λh1=>?_)
  ·unfold lieT at kk;rw[Tk (Tp h1)] at kk;exact kk
  ·have h1:=Tq h1;dsimp only[G2,Fc,F5,A7];refine M5 (x:=c) (y:=a) (z:=e) (λQ' h=>⟨_,rfl,q,_,_,_,rfl,rfl,SqT.of hq,rfl,h⟩) (λQ' h=>⟨_,rfl,p,_,_,_,rfl,rfl,SqT.of hp,rfl,h⟩) (λQ' h=>⟨_,rfl,q,_,_,_,rfl,rfl,SqT.of hq,rfl,h⟩) ?_;refine M5 (x:=c) (y:=b) (z:=e) (λQ' h=>⟨_,rfl,q,_,_,_,rfl,rfl,SqT.of hq,rfl,h⟩) (λQ' h=>⟨_,rfl,p,_,_,_,rfl,rfl,SqT.of hp,rfl,h⟩) (λQ' h=>⟨_,rfl,q,_,_,_,rfl,rfl,SqT.of hq,rfl,h⟩) ?_;refine⟨_,rfl,_,rfl,rfl,_,rfl,?_⟩;rw[Lg];refine A2 (λh2=>?_) (λh2=>?_)
   ·rw[Xlq h1 (by simpa using h2)] at kk;exact kk
   ·refine⟨_,rfl,_,rfl,?_⟩;refine A2 (λh3=>?_) (λh3=>?_)
    ·rw[Xlr h1 (by simpa using h2) h3] at kk;exact kk
    ·rw[Xls l4 h1 (by simpa using h2) h3] at kk;dsimp only[G2,Xae,tIf,Lh];refine M5 (x:=a) (y:=c) (z:=b) (λQ' h=>⟨_,rfl,p,_,_,_,rfl,rfl,SqT.of hp,rfl,h⟩) (λQ' h=>⟨_,rfl,q,_,_,_,rfl,rfl,SqT.of hq,rfl,h⟩) (λQ' h=>⟨_,rfl,p,_,_,_,rfl,rfl,SqT.of hp,rfl,h⟩) ⟨_,rfl,?_⟩;refine A2 (λh4=>?_) (λh4=>?_)
     ·rw[Tk h4] at kk;exact kk
     ·rw[Tj (by rw[h4];exact Ow)] at kk;exact kk
def Xgs:FnScope NCr ["row"] (defScope sCross):=by walk_at "s"
def Xqf{f:ae}{fd:au}(F:Fun K "crossings" "crossings" sCross f fd)(FS:Fn P w K mg base CX0 3 "spans" ["row"] spSpans)(FO:Fn P w K mg base CX0 2 "lie_of" ["here", "there"] spLieOf):
  FnOk P w K mg base CX0 4 f fd ["row"] Xdq:=by
 refine F.ok Xgs (by walk_at "l") ?_
 ·walk_at "i"
  obtain⟨r,row,rfl,hR,R2,k⟩:=h;have hu:=Ct hr;have fc:Room 2 _:=hr.mono (by decide);refine⟨_,Ag (Ap (i:=1) Xgs.nd rfl (.inr rfl) (Ak FS hr (by rfl) Am (Aa (pv 0) Ac)))
   (Ah (Aq (Xc7 (N:=NCc) (cap:=[none,none,some 1]) (CompScope.of (defScope sCross) NCr rfl rfl rfl (by decide +kernel)) rfl
    (Gg (pv 1)) (λ_ _ _=>Ax (i:=0) (show NCc.Nodup by decide +kernel) rfl (.inl rfl) (.inr rfl)) (λ_ _ _=>Dk)
    (λ_ _ _=>Gg (pv 2)) (λ_ _ _=>Ax (i:=1) (show NCc.Nodup by decide +kernel) rfl (.inl rfl) (.inr rfl))
    (λ_ _ _=>Dl (Fb (Aw Xas (pv 0) (pv 1) (Az _)) (Fa (Aw B5 (Ak (by exact FO) (by exact fc) (by rfl) Am (Aa (Ce hu (pv 2) (pv 0) (λ_ _=>rfl)) (Aa (Ce hu (pv 2) (pv 1) (λ_ _=>rfl)) Ac))) Bg (Az _)))).pt)
    (λ_ _ _=>B0 (Aa (pv 0) (Aa (pv 1) Ac)))))),?_⟩
  have hl:=R2.len;have fr:=Fo row;refine⟨_,rfl,r,row,rfl,hR,R2,λd kvs H1 nd hd sp s1=>?_⟩;refine⟨_,rfl,d,kvs,rfl,.inl ⟨hd,λo D nD=>?_⟩⟩;generalize kJ:upd H1 d (.frz o (.dK kvs))=H2 at nD;have s2:Same H H2:=λb u e=>by rw[<-kJ,Ae (Av e nd)];exact s1 b u e
  have cE:H2 d=some (.frz o (.dK kvs)):=by rw[<-kJ];exact Ab
  have jF:Spn H2 kvs row (dit row):=⟨sp.keys,λx hx=>let ⟨l,h1,h2⟩:=sp.val x hx; ⟨l,h1,by rw[<-kJ,Ae (λz=>by rw[z,hd] at h2;cases h2)];exact h2⟩⟩;have kl:=jF.len;have go:∀i H3,i<(dit row).length->Same H2 H3->(Itd d o kvs).go i H3/\∀x H4,(Itd d o kvs).yld i H3 x H4->H4=H3/\x = .str ((dit row).getD i ak.empty):=λi H3 hi s3=>by
   have:=Ho (kvs:=kvs) (s3 _ _ cE) (by omega:i<kvs.length);rw[jF.at i hi] at this;exact this
  have nh:∀H3,Same H2 H3->(Itd d o kvs).stop (dit row).length H3:=λH3 s3=>by
   have:=Hq (kvs:=kvs) (s3 _ _ cE)
   rwa [kl] at this
  let ns:=dit row
  let ok:Nat->Nat->Bool:=λi j=>decide (ltS (ns.getD i ak.empty) (ns.getD j ak.empty))&&decide (lieR row (ns.getD i ak.empty) (ns.getD j ak.empty) = "cross")
  let part:Nat->List ar:=λi=>((List.range ns.length).filter (ok i)).map λj=>prD (ns.getD i ak.empty,ns.getD j ak.empty)
  have bL:∀i,(part i).length<=60:=λi=>by
   show (List.map _ _).length<=60;rw[Od];refine Pj (Pl ..) ?_;rw[Qf];show (dit row).length<=60;omega
  have dI:∀i,((List.range i).flatMap part).length<=60 * i:=λi=>by
   induction i with
   | zero=>simp
   | succ i ih=>
    rw[Pq,Rj,Oh];have:=bL i;simp only[Ri,Ry,Pm];omega
  refine Xk3 (H0:=H2) (xs0:=[]) (n:=ns.length) (λi=>.str (ns.getD i ak.empty)) (λi=>(List.range i).flatMap part) nD ((Same.refl H2).step nD) Ab Dn (fun Z1=>∃v0 v1, Z1=[v0,v1,some (.ref d)]) ⟨none,none,rfl⟩ go nh ?_ ?_
  ·rintro i Z1 xs H3 Q' hi ⟨v0,v1,rfl⟩ s3 hD cU kk;have nN:=Cv hi;refine⟨_,rfl,d,kvs,rfl,.inr ⟨o,s3 _ _ cE,?_⟩⟩;refine Mt (H0:=H2) (n:=ns.length) (λj=>.str (ns.getD j ak.empty)) (ok i) (λj=>prD (ns.getD i ak.empty,ns.getD j ak.empty)) ((List.range i).flatMap part) nD s3 hD cU ?_ go nh ?_ ?_ ?_
   ·have:=dI i;have h2:i<60:=by have:i<(dit row).length:=hi;omega
    have h3:ns.length<=60:=by show (dit row).length<=60;omega
    rw[Ti];omega
   ·intro j H4 Q2 hj s4 k2;have qA:=Cv hj;refine⟨_,rfl,_,rfl,_,_,rfl,rfl,_,rfl,?_⟩;refine A2 (λq1=>?_) (λq1=>?_)
    ·obtain⟨l1,g1,t1⟩:=(jF.mono s4).get (.inr ⟨o,s4 _ _ cE⟩) nN;obtain⟨l2,g2,t2⟩:=(jF.mono s4).get (.inr ⟨o,s4 _ _ cE⟩) qA;refine⟨_,rfl,_,rfl,d,_,rfl,g1,_,rfl,_,rfl,d,_,rfl,g2,l1,l2,_,_,_,_,rfl,t1,t2,lie4 (R2.two _ (An.mp nN)) (R2.two _ (An.mp qA)),λH5 s5=>?_⟩;refine⟨rfl,_,rfl,?_⟩;rw[Ft];have:=k2 H5 s5;have e1:ok i j=decide (lieR row (ns.getD i ak.empty) (ns.getD j ak.empty) = "cross"):=by
      show (decide _&&decide _)=_;have oZ:decide (ltS (ns.getD i ak.empty) (ns.getD j ak.empty))=true:=q1;rw[oZ,P8]
     rw[e1] at this;exact this
    ·have:=k2 H4 (Same.refl _);have e1:ok i j=false:=by
      show (decide _&&decide _)=_;have oZ:decide (ltS (ns.getD i ak.empty) (ns.getD j ak.empty))=false:=q1;rw[oZ,P6]
     rw[e1] at this;exact this
   ·intro j i4 H4 Q2 hj hk s4 dq k2;refine⟨_,rfl,_,rfl,by show 2<=sizeLine;decide,λp np=>?_⟩;exact k2 _ _ ((Same.refl H4).step np) (Xc9 dq np (Ml [ns.getD i ak.empty,ns.getD j ak.empty]))
   ·intro Z' H4 i4 e s4 dq lX;refine kk Z' H4 i4 ?_ s4 dq ?_
    ·have l1 : Z'.length=3:=by
      have:=congrArg List.length (e none);simpa using this
     match Z',l1,e with
     | [w0,w1,w2],_,e=>
      have:=e none;simp at this;exact⟨w0,w1,by rw[this.2]⟩
    ·rw[Pq,Rj,Ri,Ry,Pm];exact lX
  ·intro Z' H3 xs s3 hD cU;refine k D xs H3 (s2.free nD) hD ?_ (s2.trans s3);have e:(List.range ns.length).flatMap part=(crs row).map prD:=by
    have e1:crs row=(List.range ns.length).flatMap λi=>((List.range ns.length).filter (ok i)).map λj=>(ns.getD i ak.empty,ns.getD j ak.empty):=by
     have em:dit row=(List.range ns.length).map λi=>ns.getD i ak.empty:=by
      have:=Cg ak.empty (λ_=>true) (dit row);rw[Pd.mpr (λ_ _=>rfl),Pd.mpr (λ_ _=>rfl)] at this;exact this.symm
     show (dit row).flatMap _=_
     conv=>lhs;rw[em]
     rw[List.flatMap_map];congr 1;funext i;have:=Cg ak.empty (λy=>decide (ltS (ns.getD i ak.empty) y)&&decide (lieR row (ns.getD i ak.empty) y = "cross")) (dit row);rw[<-em,<-this,Pg];rfl
    rw[e1,List.map_flatMap];congr 1;funext i;rw[Pg];rfl
   rw[<-e];exact cU
def Xqg:FnScope ["names"] ["names"] (defScope sTold):=by walk_at "s"
def Xqh{f:ae}{fd:au}(F:Fun K "told" "told" sTold f fd)(T:Bl mg):FnOk P w K mg base CX0 1 f fd ["names"] (spTold K):=by
 refine F.ok Xqg (by walk_at "l") ?_
 ·walk_at "i"
  obtain⟨p,ss,rfl,hR,hl,k⟩:=h;refine⟨_,Ah (Aq (B1 Hg (by rfl) T.tuple (by rfl) (Aa (A8 (Ju rfl) (by rfl) T.sorted (by rfl) (Aa (B1 (Ht rfl) (by rfl) T.set (by rfl) (Aa (pv 0) Ac)) Ac)) Ac))),?_⟩;refine⟨_,rfl,p,ss,rfl,hR,by unfold aU;omega,λa na=>?_⟩;have fr:=Hs ss;refine⟨a,ddup ss,rfl,Ab,by omega,λl ls nl hp hs=>?_⟩;have s1:Same H (upd H a (Ew P w a (ddup ss))):=(Same.refl H).step na;refine⟨l,_,rfl,.inl ⟨SqL.of Ab,λt nt=>?_⟩⟩;have s2:=s1.step (o:=.lst (ls.map V.str)) nl;refine k t _ (s2.free nt) ?_ (s2.step nt);rw[Ab,Ga hp hs];rfl
def Xqi:FnScope ["some"] ["some"] (defScope s_in_order):=by walk_at "s"
def Xqj{f T:ae}{fd:au}(F:FunT K "in_order" s_in_order f fd T)(B:Bl mg)(jB:BmOk mg base):FnOk P w K mg base CX0 4 f fd ["some"] (spInOrder T (lamPos s_in_order)):=by
 refine F.ok Xqi (λvs H Q E h=>?_) (λc0 hhd A outer s H vs Q E hr h=>?_)
 ·obtain⟨l,ps,Ts,rfl,_⟩:=h;rfl
 ·obtain⟨l,ps,Ts,rfl,hl,hT,nd,cq,tab,k⟩:=h;refine⟨_,Ah (Aq (Xoy (show (A.deeper (aO "in_order" (defScope s_in_order) s.heap.objs.size f (.ref c0))).units+1+1<bu by have:=hr.un;omega) (by rfl) B.sorted (by rfl) (Aa (pv 0) Ac) (Xax (Xnx (T:=T) (c0:=c0) (q:=qIn) jB rfl rfl rfl hhd rfl) Xaw))),?_⟩;refine⟨_,rfl,⟨tab,λf' c pm dB H' nf hf hc m8 kp=>?_⟩⟩;have zl:∀b o,H b=some o->(∀z,o ≠ .tbl z)->b≠T:=λb o e n z=>by
   rcases tab with q | ⟨_,q,_⟩<;>(rw[z,q] at e;cases e;exact n _ rfl)
  have m9:Tups H' ps Ts:=⟨hT.1,λi hi=>kp _ _ (hT.2 i hi) (zl _ _ (hT.2 i hi) λz=>by simp)⟩;refine⟨l,f',ps,Ts,rfl,rfl,kp _ _ hl (zl _ _ hl λz=>by simp),m9,nd,cq,?_,λD p H2 nD g so sm hD=>?_⟩
  ·refine Xoz (k:=0) (x := "plot") hf hc ⟨rfl,rfl,rfl,by decide +kernel,rfl,by decide +kernel,by decide +kernel⟩ hr (λu=>rfl) λA1 pc s1 H1 i hi sm cr=>?_;refine⟨_,B0 (Aa (A8 Cr (by rfl) B.len bG (Aa (pv 0) Ac)) (Aa (pv 0) Ac)),λQ1 kk=>?_⟩;have hp:=sm _ _ (m9.2 i hi);refine⟨_,rfl,ps.getD i 0,_,rfl,.inr (SqT.of hp),_,rfl,by show 2<=sizeLine;decide,λt nt=>?_⟩;refine kk t _ ?_ (Same.upd0 nt);rw[Ab,Od]
  ·obtain⟨DX,iA⟩:=Xo0 (Ts:=Ts) (by rw[<-hT.1];exact g) (by rw[<-hT.1];exact so);refine k D _ _ H2 ?_ hD ((Xo1 m9 g).same sm) DX iA (SH.Au.same m8 sm) λb o e n=>sm _ _ (kp b o e n);cases e:H D with
   | none=>rfl
   | some o=>
    by_cases z:D=T
    ·rcases m8 with q | ⟨_,q,_⟩<;>(rw[<-z,nD] at q;cases q)
    ·rw[kp D o e z] at nD;cases nD
def Xqk:FnScope ["how", "off"] ["how", "off"] (defScope sAllows):=by walk_at "s"
def Xql{f:ae}{fd:au}(F:Fun K "allows" "allows" sAllows f fd):FnOk P w K mg base CX0 1 f fd ["how", "off"] spAllows:=by
 refine F.ok Xqk (by walk_at "l") ?_
 ·walk_at "i"
  obtain⟨h8,ln,rfl,k⟩:=h;refine⟨_,Ag (Bb (Aw B5 (pv 0) Bg (Az _)) (Ah (Aq (pv 1))) Bc)
   (Ah (Aq (Xhh (Ep G5 (pv 0) Bg (Az _)) (Je (Xhi (pv 1)))))),?_⟩
  refine⟨_,rfl,rfl,_,rfl,?_⟩;rw[Ft];unfold Bz at k;refine A2 (λq=>?_) (λq=>?_)
  ·rw[Tk (Tp q)] at k;exact⟨_,rfl,k⟩
  ·rw[Tj (Tq q)] at k;refine⟨_,rfl,rfl,_,rfl,?_⟩;rw[Ft];refine A2 (λq2=>?_) (λq2=>?_)
   ·rw[q2,Bool.true_or] at k;exact k
   ·rw[q2,Bool.false_or] at k;exact⟨_,rfl,ln,rfl,k⟩
def Xgt:FnScope NIp ["row", "plot"] (defScope sIsPlot):=by walk_at "s"
def Xqm{f:ae}{fd:au}(F:Fun K "is_plot" "is_plot" sIsPlot f fd)(T:Bl mg)(FS:Fn P w K mg base CX0 3 "spans" ["row"] spSpans)(FO:Fn P w K mg base CX0 2 "lie_of" ["here", "there"] spLieOf)
  (FT:Fn P w K mg base CX0 1 "told" ["names"] (spTold K)) (FA:Fn P w K mg base CX0 1 "allows" ["how", "off"] spAllows):FnOk P w K mg base CX0 4 f fd ["row", "plot"] Xdu:=by
 refine F.ok Xgt (by walk_at "l") ?_
 ·walk_at "i"
  obtain⟨r,p,row,ss,rfl,hR,R2,hP,hok,j6,k⟩:=h;have hu:=Ct hr;have cr:Room 1 _:=hr.mono (by decide);have fc:Room 2 _:=hr.mono (by decide);refine⟨_,Ag (Ap (i:=2) Xgt.nd rfl (.inr rfl) (Ak FS hr (by rfl) Am (Aa (pv 0) Ac)))
   (Ag (Bb (F3 (Aw (Mr (hu3 hr)) (pv 1) (Ak FT cr (by rfl) Am (Aa (pv 1) Ac)) (Az _))
     (F2 (En (A8 (Xk7 rfl) (by rfl) T.any (by rfl) (Aa (Ei (N:=NI1) (cap:=[none,some 2]) (CompScope.of (defScope sIsPlot) NIp rfl rfl rfl (by decide +kernel)) rfl
      (G3 (pv 1)) (λ_ _ _=>Ax (i:=0) (show NI1.Nodup by decide +kernel) rfl (.inl rfl) (.inr rfl)) (λ_ _ _=>Dk) (λ_ _ _=>Xhd (Xiu (by exact hu) (pv 0) (pv 1)) (by rfl))) Ac))))).pt
    (Ah (Aq Dw)) Bc)
   (Ah (Aq (A8 (Xb5 rfl) (by rfl) T.all (by rfl) (Aa (Xc7 (N:=NI2) (cap:=[none,none,some 1,some 2]) (CompScope.of (defScope sIsPlot) NIp rfl rfl rfl (by decide +kernel)) rfl
    (G3 (pv 1)) (λ_ _ _=>Ax (i:=0) (show NI2.Nodup by decide +kernel) rfl (.inl rfl) (.inr rfl)) (λ_ _ _=>Dk)
    (λ_ _ _=>Gg (pv 3)) (λ_ _ _=>Ax (i:=1) (show NI2.Nodup by decide +kernel) rfl (.inl rfl) (.inr rfl)) (λ_ _ _=>Dk)
    (λ_ _ _=>Ak (by exact FA) (by exact cr) (by rfl) Am (Aa (Ak (by exact FO) (by exact fc) (by rfl) Am (Aa (Ce (by exact hu) (pv 3) (pv 0) (λ_ _=>rfl)) (Aa (Ce (by exact hu) (pv 3) (pv 1) (λ_ _=>rfl)) Ac)))
     (Aa (Ep (Jx K (by rfl)) (pv 1) (pv 2) (by rfl)) Ac)))) Ac))))),?_⟩
  have hl:=R2.len;have fr:=Fo row;refine⟨_,rfl,r,row,rfl,hR,R2,λd kvs H1 nd hd sp s1=>?_⟩;have nO:=s1 _ _ hP;refine⟨_,rfl,_,rfl,p,ss,rfl,.inr (SqT.of nO),j6,λt H2 nt ht s2=>?_⟩;have fe:=s1.trans s2;have jG:=s2 _ _ nO;refine⟨_,_,Dc jG,Dc ht,Da _ (C2 hok),Da _ (C2 (Xdv hok)),Ii _ _,_,rfl,?_⟩;rw[Ij hok (Xdv hok)];by_cases e1:ss=told ss
  ·rw[Tl e1];refine Bn ?_;refine⟨_,rfl,p,rfl,⟨_,SqT.of jG⟩,?_⟩;have cE:=s2 _ _ hd;have jF:=sp.mono s2;refine Xkq (n:=ss.length) (by rw[Ti];omega) (λi=>(ss.map V.str).getD i .non) (λi=>.bl (!decide (ss.getD i ak.empty∈row))) ?_ ?_ ?_ ?_
   ·intro i H3 hi s3;exact Hm (SqT.of (s3 _ _ jG)) (by rw[Od];exact hi)
   ·intro H3 s3;have:=Hn (K:=K) (SqT.of (s3 _ _ jG))
    rwa [Od] at this
   ·intro i H3 Q' hi s3 kk;rw[Bt V.str ak.empty ss hi];refine⟨_,rfl,_,rfl,d,_,rfl,.inl ⟨kvs,Sum.inr _,.inl (s3 _ _ cE),rfl,rfl⟩,?_⟩;rw[jF.has];exact kk H3 (Same.refl _)
   ·intro D H3 nD s3 hD;have eA:H3 D=some (.lst (((List.range ss.length).map λi => !decide (ss.getD i ak.empty∈row)).map V.bl)):=by rw[hD,Pg];rfl
    refine⟨D,_,rfl,eA,_,rfl,?_⟩;rw[Xlx ak.empty (λx => !decide (x∈row)) ss];have jf:=fe.trans s3;have e2:(ss.any λx => !decide (x∈row)) = !(ss.all λx=>decide (x∈row)):=by rw[List.not_all_eq_any_not]
    rw[e2];cases e3:ss.all (λx=>decide (x∈row)) with
    | false=>
     refine B3 ?_;have:=k H3 jf;unfold Ad at this;rw[e3,Sz,P6] at this;exact this
    | true=>
     refine Bn ?_;have dh:∀x∈ss,x∈row:=λx hx=>Tp (O8.mp e3 x hx);have hX:=s3 _ _ jG;have jq:=s3 _ _ cE;have wT:=jF.mono s3;refine⟨_,rfl,p,rfl,⟨_,SqT.of hX⟩,λD2 pe=>?_⟩;have kl:=wT.len;have sM:p≠d:=λz=>by rw[z,jq] at hX;cases hX
     have jH:D2≠d:=(Av jq pe).symm;have sN:hid d H3 D2=none:=by
      unfold hid;rw[Tj jH];exact pe
     have pf:hid d H3 p=some (.tup (ss.map V.str)):=Cz hX sM
     let part:Nat->List Bool:=λi=>(dit row).map λy=>Bz (lieR row (ss.getD i ak.empty) y) (decide (y∈ss))
     refine Xk4 (H0:=hid d H3) (xs0:=[]) (n:=ss.length) (λi=>.str (ss.getD i ak.empty)) (λi=>((List.range i).flatMap part).map ar.bool) (λH4=>Rd H4 d (.dK kvs)) sN ((Fq d H3).trans ((Same.refl H3).step pe)) (.inl (ku jq pe)) Ab Dn
      (fun Z1=>∃v0 v1, Z1=[v0,v1,some (.ref p),some (.ref d)]) ⟨none,none,rfl⟩ ?_ ?_ ?_ ?_
     ·intro i H4 hi s4;have:=Hm (K:=K) (SqT.of (s4 _ _ pf)) (show i<(ss.map V.str).length by rw[Od];exact hi)
      rwa [Bt V.str ak.empty ss hi] at this
     ·intro H4 s4;have:=Hn (K:=K) (SqT.of (s4 _ _ pf))
      rwa [Od] at this
     ·rintro i Z1 xs H4 Q' hi ⟨v0,v1,rfl⟩ s4 g4 dq cU kk;have h9:ss.getD i ak.empty∈row:=dh _ (Cv hi);have main:∀(wU:TE) (o:aK) (H5:Hp),(∀(j:Nat) (H6:Hp) (Q2:VK) (l1 l2:ae),j<(dit row).length->DGet H6 d (.str (ss.getD i ak.empty)) (some (.ref l1))->H6 l1=some (.tup [.int (pl row (ss.getD i ak.empty)).1,.int (pl row (ss.getD i ak.empty)).2]) ->
        DGet H6 d (.str ((dit row).getD j ak.empty)) (some (.ref l2))->H6 l2=some (.tup [.int (pl row ((dit row).getD j ak.empty)).1,.int (pl row ((dit row).getD j ak.empty)).2])->H6 p=some (.tup (ss.map V.str))->(∀H',Same H6 H'->Q2 (.bl (Bz (lieR row (ss.getD i ak.empty) ((dit row).getD j ak.empty)) (decide ((dit row).getD j ak.empty∈ss)))) H') ->
        wU [some (.str (ss.getD i ak.empty)),some (.str ((dit row).getD j ak.empty)),some (.ref p),some (.ref d)] H6 Q2)->H5 d=some (.frz o (.dK kvs))->Same (hid d H3) H5->H5 D2=some (.lst xs)->DAll (hid D2 H5) (((List.range i).flatMap part).map ar.bool) xs ->
        tLp (A7 1) Ed (Hy wU D2) (Itd d o kvs) ([some (.str (ss.getD i ak.empty)),v1,some (.ref p),some (.ref d)]:L2.St) H5 Q':=λwU o H5 DY mB s5 sO wV=>by
       have bL:∀j,(part j).length<=60:=λj=>by
        show (List.map _ _).length<=60;rw[Od];omega
       have dI:∀j,(((List.range j).flatMap part).map ar.bool).length<=60 * j:=λj=>by
        rw[Od]
        induction j with
        | zero=>simp
        | succ j ih=>
         rw[Pq,Rj,Oh,Ri,Ry,Pm];have:=bL j;omega
       have kK:hid D2 H5 d=some (.frz o (.dK kvs)):=Cz mB jH.symm;have gY:Spn (hid D2 H5) kvs row (dit row):=⟨wT.keys,λx hx=>let ⟨l,h1,h2⟩:=wT.val x hx; ⟨l,h1,Cz (s5 _ _ (Cz h2 (λz=>by rw[z,jq] at h2;cases h2))) (λz=>by rw[z,pe] at h2;cases h2)⟩⟩;have sP:hid D2 H5 p=some (.tup (ss.map V.str)):=Cz (s5 _ _ pf) (λz=>by rw[z,pe] at hX;cases hX);refine Mt (H0:=hid D2 H5) (n:=(dit row).length) (λj=>.str ((dit row).getD j ak.empty)) (λ_=>true) (λj=>.bool (Bz (lieR row (ss.getD i ak.empty) ((dit row).getD j ak.empty)) (decide ((dit row).getD j ak.empty∈ss)))) (((List.range i).flatMap part).map ar.bool)
        (Tk rfl) (Fq D2 H5) sO wV (by have:=dI i;have h2:i<60:=(by omega);rw[Ti];omega) ?_ ?_ ?_ ?_ ?_
       ·intro j H6 hj s6;have:=Ho (kvs:=kvs) (s6 _ _ kK) (by omega:j<kvs.length)
        rwa [gY.at j hj] at this
       ·intro H6 s6;have:=Hq (kvs:=kvs) (s6 _ _ kK)
        rwa [kl] at this
       ·intro j H6 Q2 hj s6 k2;exact k2 H6 (Same.refl _)
       ·intro j i4 H6 Q2 hj _ s6 sQ k2;have DZ:=Cv hj;obtain⟨l1,g1,t1⟩:=(gY.mono s6).get (.inr ⟨o,s6 _ _ kK⟩) (An.mpr h9);obtain⟨l2,g2,t2⟩:=(gY.mono s6).get (.inr ⟨o,s6 _ _ kK⟩) DZ;exact DY j H6 Q2 l1 l2 hj g1 t1 g2 t2 (s6 _ _ sP) λH' s'=>k2 _ _ s' (by unfold DAt;rfl)
       ·intro Z' H6 i4 e6 s6 sQ jr;refine kk Z' H6 i4 ?_ (λb u e=>?_) (.inr ⟨o,s6 _ _ kK⟩) sQ ?_
        ·have l1 : Z'.length=4:=by
          have:=congrArg List.length (e6 none);simpa using this
         match Z',l1,e6 with
         | [w0,w1,w2,w3],_,e6=>
          have:=e6 none;simp at this;exact⟨w0,w1,by rw[this.2.1,this.2.2]⟩
        ·refine s6 _ _ (Cz (s5 _ _ e) (λz=>?_));rw[z,sN] at e;cases e
        ·rw[Pd.mpr (λ_ _=>rfl)] at jr;have em:(List.range (dit row).length).map (λj=>ar.bool (Bz (lieR row (ss.getD i ak.empty) ((dit row).getD j ak.empty)) (decide ((dit row).getD j ak.empty∈ss))))=(part i).map ar.bool:=by
          show _=((dit row).map _).map _;have this:=Cg ak.empty (λ_=>true) (dit row);rw[Pd.mpr (λ_ _=>rfl),Pd.mpr (λ_ _=>rfl)] at this
          conv=>rhs;rw[<-this]
          rw[Pg,Pg];rfl
         rw[em] at jr;rw[Pq,Rj,Ot,Ri,Ry,Pm];exact jr
      rcases g4 with g4 | ⟨o,g4⟩
      ·refine⟨_,rfl,d,kvs,rfl,.inl ⟨g4,λo=>?_⟩⟩;refine main _ o _ (λj H6 Q2 l1 l2 hj g1 t1 g2 t2 qB k2=>⟨_,rfl,_,rfl,d,_,rfl,g1,_,rfl,_,rfl,d,_,rfl,g2,l1,l2,_,_,_,_,rfl,t1,t2,lie4 (R2.two _ h9) (R2.two _ (An.mp (Cv hj))),λH7 s7=>⟨_,rfl,_,rfl,p,_,rfl,.inr (SqT.of (s7 _ _ qB)),rfl,C9 ss,_,_,rfl,by rw[Tj (by decide),C8];exact k2 H7 s7⟩⟩) Ab (λb u e=>?_) (by rw[Ae jH];exact dq) ?_
       ·rw[Ae (λz=>by rw[z] at e;unfold hid at e;rw[Tk rfl] at e;cases e)];exact s4 _ _ e
       ·rw[Na cU];have gb:∀bs:List Bool,DAll (hid D2 (upd H4 d (.frz o (.dK kvs)))) (bs.map ar.bool) (bs.map V.bl):=λbs=>by
         induction bs with
         | nil=>exact Dn
         | cons b bs ih=>exact Ez (by unfold DAt;rfl) ih
        exact gb _
      ·exact⟨_,rfl,d,kvs,rfl,.inr ⟨o,g4,main _ o H4 (λj H6 Q2 l1 l2 hj g1 t1 g2 t2 qB k2=>⟨_,rfl,_,rfl,d,_,rfl,g1,_,rfl,_,rfl,d,_,rfl,g2,l1,l2,_,_,_,_,rfl,t1,t2,lie4 (R2.two _ h9) (R2.two _ (An.mp (Cv hj))),λH7 s7=>⟨_,rfl,_,rfl,p,_,rfl,.inr (SqT.of (s7 _ _ qB)),rfl,C9 ss,_,_,rfl,by rw[Tj (by decide),C8];exact k2 H7 s7⟩⟩) g4 s4 dq cU⟩⟩
     ·intro Z' H4 xs s4 g4 dq cU;have hx:=Na cU;subst hx;refine⟨D2,_,rfl,dq,?_⟩;have ef:((List.range ss.length).flatMap part).all id=ss.all λx=>(dit row).all λy=>Bz (lieR row x y) (decide (y∈ss)):=by
       have e5:(List.range ss.length).flatMap part=ss.flatMap λx=>(dit row).map λy=>Bz (lieR row x y) (decide (y∈ss)):=Xly ak.empty (λx=>(dit row).map λy=>Bz (lieR row x y) (decide (y∈ss))) ss;rw[e5,Xdw];congr 1;funext x;rw[List.all_map];rfl
      rw[ef];have rW:Same H H4:=λb u e=>s4 _ _ (Cz (jf _ _ e) (λz=>by rw[z,nd] at e;cases e));have:=k H4 rW;unfold Ad at this;rw[Tl e1,e3,P8,P8] at this;exact this
  ·rw[Tn e1];refine B3 ?_;have:=k H2 fe;unfold Ad at this;rw[Tn e1,P6,P6] at this;exact this
def Xqn:FnScope ["row", "plot"] ["row", "plot"] (defScope s_ask_plot):=by walk_at "s"
def Xqo{f C:ae}{fd:au}(F:Fun K "ask_plot" "ask_plot" s_ask_plot f fd)(hC:mg "NoPlot" = some (.ref C))(hc:LY K C bmV "ValueError.__new__" = true)(FX:Fn P w K mg base CX0 4 "is_plot" ["row", "plot"] Xdu):
  FnOk P w K mg base (CX1 P w) 5 f fd ["row", "plot"] (spAskPlot C):=by
 refine F.ok1 Xqn (by walk_at "l") ?_
 ·walk_at "i"
  obtain⟨r,p,row,ss,rfl,hR,R2,hP,hok,j6,kq,ke⟩:=h;refine⟨_,Ah (Bb (Jd (En (Ak FX hr (by rfl) Am (Aa (pv 0) (Aa (pv 1) Ac)))))
   (Ah (Xbz (C:=C) (E:=E) hc rfl leaves1 (by rfl) hC (Aa (Xb8 (Jr (by decide +kernel) (Xlg hr (pv 1) (Jr (by decide +kernel) Xb7)))) Ac))) Bc),?_⟩
  refine⟨_,rfl,_,rfl,r,p,row,ss,rfl,hR,R2,hP,hok,by omega,λH1 s1=>⟨_,rfl,?_⟩⟩;cases e:Ad row ss with
  | true=>exact Bn (kq e H1 s1)
  | false=>
   refine B3 ⟨_,rfl,p,ss,rfl,s1 _ _ hP,j6,Xl8 hok,λz=>?_⟩;exact⟨by show 1<=sizeLine;decide,ke e H1 s1⟩
def Ja:FnScope NPp ["row"] (defScope s_plots):=by walk_at "s"
def Xqp{f T:ae}{fd:au}(F:Fun K "plots" "plots" s_plots f fd)(FS:Fn P w K mg base CX0 3 "spans" ["row"] spSpans)(FO:Fn P w K mg base CX0 2 "lie_of" ["here", "there"] spLieOf)(FT:Fn P w K mg base CX0 1 "told" ["names"] (spTold K))(FC:Fn P w K mg base CX0 4 "crossings" ["row"] Xdq)
  (FI:Fn P w K mg base CX0 4 "in_order" ["some"] (spInOrder T (lamPos s_in_order))):FnOk P w K mg base CX0 5 f fd ["row"] (spPlotsA T (lamPos s_in_order)):=by
 refine F.ok Ja (by walk_at "l") ?_
 ·walk_at "i"
  obtain⟨r,row,rfl,hR,R2,h3,mC,tab,k⟩:=h;have hu:=Ct hr;have cr:Room 1 _:=hr.mono (by decide);have fc:Room 2 _:=hr.mono (by decide);have qC:Room 3 _:=hr.mono (by decide);refine⟨_,Ag (Ap (i:=1) Ja.nd rfl (.inr rfl) (Ak FS qC (by rfl) Am (Aa (pv 0) Ac)))
   (Ag (Ap (i:=2) Ja.nd rfl (.inr rfl) (Xc6 (N:=NPo) (cap:=[none,some 1]) (CompScope.of (defScope s_plots) NPp rfl rfl rfl (by decide +kernel)) rfl
    (Gg (pv 1)) (λ_ _ _=>Ax (i:=0) (show NPo.Nodup by decide +kernel) rfl (.inr rfl) (.inl rfl)) (λ_ _ _=>Dk) (λ_ _ _=>pv 0)
    (λs0 H0 ex=>Ei (N:=NPi) (cap:=[none,some 0,some 1]) (CompScope.of _ NPo rfl rfl rfl (by kernel_rfl)) rfl
     (Gg (pv 1)) (λ_ _ _=>Ax (i:=0) (show NPi.Nodup by decide +kernel) rfl (.inl rfl) (.inr rfl))
     (λ_ _ _=>Dl (Aw (Jx K (by rfl)) (Ak (by exact FO) (by exact fc) (by rfl) Am (Aa (Ce hu (pv 2) (pv 1) (λ_ _=>rfl)) (Aa (Ce hu (pv 2) (pv 0) (λ_ _=>rfl)) Ac))) (B0 (Aa Bg (Aa Bg Ac))) (by rfl)))
     (λ_ _ _=>pv 0))))
   (Ag (Xga (i:=3) (N:=NPs) (cap:=[none,some 2]) (CompScope.of (defScope s_plots) NPp rfl rfl rfl (by decide +kernel)) rfl Ja.nd rfl rfl
    (Gg (pv 2)) (λ_ _ _=>Ax (i:=0) (show NPs.Nodup by decide +kernel) rfl (.inl rfl) (.inr rfl)) (λ_ _ _=>Dk)
    (λ_ _ _=>Ak (by exact FT) (by exact cr) (by rfl) Am (Aa (Ce hu (pv 1) (pv 0) (λ_ _=>rfl)) Ac)))
   (Ag (Xga (i:=4) (N:=NPd) (cap:=[none,none,some 2]) (CompScope.of (defScope s_plots) NPp rfl rfl rfl (by decide +kernel)) rfl Ja.nd rfl rfl
    (Bp (Ak FC hr (by rfl) Am (Aa (pv 0) Ac))) (λ_ _ _=>Jy K 2 rfl rfl (Ck (Ax (i:=0) (show NPd.Nodup by decide +kernel) rfl (.inl rfl) (.inr rfl)) (Ck (Ax (i:=1) (show NPd.Nodup by decide +kernel) rfl (.inl rfl) (.inr rfl)) F4))) (λ_ _ _=>Dk)
    (λ_ _ _=>Ak (by exact FT) (by exact cr) (by rfl) Am (Aa (Ar B2 (Ce hu (pv 2) (pv 0) (λ_ _=>rfl)) (Ce hu (pv 2) (pv 1) (λ_ _=>rfl))) Ac)))
   (Ah (Aq (Ak FI hr (by rfl) Am (Aa (Ar B2 (Ar B2 (Bq (Aa (B0 Ac) Ac)) (pv 3)) (pv 4)) Ac))))))),?_⟩
  have hl:=R2.len;have fr:=Fo row;refine⟨_,rfl,r,row,rfl,hR,R2,λd kvs H1 nd hd sp s1=>?_⟩;refine⟨_,rfl,d,kvs,rfl,.inl ⟨hd,λo D nD=>?_⟩⟩;generalize kJ:upd H1 d (.frz o (.dK kvs))=H2 at nD;have s2:Same H H2:=λb u e=>by rw[<-kJ,Ae (Av e nd)];exact s1 b u e
  have cE:H2 d=some (.frz o (.dK kvs)):=by rw[<-kJ];exact Ab
  have jF:Spn H2 kvs row (dit row):=⟨sp.keys,λx hx=>let ⟨l,h1,h2⟩:=sp.val x hx; ⟨l,h1,by rw[<-kJ,Ae (λz=>by rw[z,hd] at h2;cases h2)];exact h2⟩⟩;have kl:=jF.len;have go:∀i H3,i<(dit row).length->Same H2 H3->(Itd d o kvs).go i H3/\∀x H4,(Itd d o kvs).yld i H3 x H4->H4=H3/\x = .str ((dit row).getD i ak.empty):=λi H3 hi s3=>by
   have:=Ho (kvs:=kvs) (s3 _ _ cE) (by omega:i<kvs.length);rw[jF.at i hi] at this;exact this
  have nh:∀H3,Same H2 H3->(Itd d o kvs).stop (dit row).length H3:=λH3 s3=>by
   have:=Hq (kvs:=kvs) (s3 _ _ cE)
   rwa [kl] at this
  refine⟨wN (dit row).length λi Z2 H3=>(∃v, Z2=[v,some (.ref d)])/\Same H2 H3/\∃jI,H3 D=some (.dK jI)/\Offs H3 jI row ((dit row).take i),⟨(dit row).length,by simp,Pf _,⟨none,rfl⟩,(Same.refl H2).step nD,[],Ab,⟨rfl,λx hx=>by simp at hx⟩⟩,?_⟩;rintro i m Z1 H3 ⟨rfl,hi,⟨v,rfl⟩,s3,jI,hD,sR⟩;by_cases aZ:i<(dit row).length
  ·obtain⟨g1,g2⟩:=go i H3 aZ s3;refine .inr ⟨g1,λx H4 y=>?_⟩;obtain⟨e1,e2⟩:=g2 x H4 y;subst e1 e2;generalize hx:(dit row).getD i ak.empty=x;have u4:x∈dit row:=by rw[<-hx];exact Cv aZ
   have h9:=An.mp u4;have gh:(dit row).take (i+1)=(dit row).take i++[x]:=by
    rw[O3 aZ,<-hx];simp[List.getD,aZ]
   have jk:x∉(dit row).take i:=by
    have nd:=Gb row;have h2:((dit row).take (i+1)).Nodup:=nd.sublist (P2 ..);rw[gh] at h2;exact λz=>(Qe.mp h2).2.2 x z x (by simp) rfl
   refine⟨_,rfl,_,rfl,d,kvs,rfl,.inr ⟨o,s3 _ _ cE,?_⟩⟩;refine Ey (n:=(dit row).length) (by rw[Ti];omega) (λj=>.str ((dit row).getD j ak.empty)) (λj=>upB row x ((dit row).getD j ak.empty)) (λj=>.str ((dit row).getD j ak.empty)) ?_ ?_ ?_ ?_ ?_
   ·exact λj H5 hj s5=>go j H5 hj (s3.trans s5)
   ·exact λH5 s5=>nh H5 (s3.trans s5)
   ·intro j H5 Q' hj s5 kk;have u5:=s3.trans s5;have qA:=Cv hj;obtain⟨l1,wW,t1⟩:=(jF.mono u5).get (.inr ⟨o,u5 _ _ cE⟩) u4;obtain⟨l2,wX,t2⟩:=(jF.mono u5).get (.inr ⟨o,u5 _ _ cE⟩) qA;refine⟨_,rfl,_,rfl,d,_,rfl,wW,_,rfl,_,rfl,d,_,rfl,wX,l1,l2,_,_,_,_,rfl,t1,t2,lie4 (R2.two x h9) (R2.two _ (An.mp qA)),λH6 s6=>?_⟩;refine⟨by show 2<=sizeLine;decide,λt nt=>?_⟩;refine⟨t,[ak.ofString "same",ak.ofString "within"].map V.str,rfl,.inr (SqT.of Ab),rfl,C9 _,_,rfl,?_⟩;rw[Tj (by decide),C8];have e:=Xo8 (row:=row) (x:=x) (y:=(dit row).getD j ak.empty) (R2.two x h9) (R2.two _ (An.mp qA));unfold lieR at e;rw[e];exact kk _ (s6.step nt)
   ·intro j H5 Q' hj hk s5 kk;exact⟨_,rfl,kk H5 (Same.refl _)⟩
   ·intro l H5 nl s5 iU;have ph:H5 l=some (.lst (((dit row).filter (upB row x)).map V.str)):=by
     rw[iU,<-Cg ak.empty (upB row x) (dit row),Pg];rfl
    have sO:=s5 _ _ hD;have zm:jI.length<=60:=by
     have:=sR.len;rw[O0] at this;omega
    refine⟨jI,Sum.inr x,rfl,sO,by rw[Ti];omega,?_⟩;refine wskip aZ ⟨⟨_,rfl⟩,λb u e=>?_,_,Ab,?_⟩
    ·rw[Ae (Av e nD)];exact s5 _ _ (s3 b u e)
    ·rw[gh];refine sR.snoc jk ?_ λb xs e=>?_
     ·rw[Ae (λz=>by rw[z,sO] at ph;cases ph)];exact ph
     ·have e4:=s5 _ _ e;rw[Ae (λz=>by rw[z,sO] at e4;cases e4)];exact e4
  ·have ei:i=(dit row).length:=by omega
   subst ei;refine .inl ⟨nh H3 s3,?_⟩;rw[P4] at sR;have u6:=s2.trans s3;refine⟨_,rfl,D,jI,rfl,.inl ⟨hD,λo2 L nL=>?_⟩⟩;generalize sS:upd H3 D (.frz o2 (.dK jI))=H4 at nL;have EA:H D=none:=s2.free nD;have s4:Same H H4:=λb u e=>by rw[<-sS,Ae (Av e EA)];exact u6 b u e
   have dq:H4 D=some (.frz o2 (.dK jI)):=by rw[<-sS];exact Ab
   have u7:Offs H4 jI row (dit row):=⟨sR.keys,λx hx=>let ⟨l,h1,h2⟩:=sR.val x hx; ⟨l,h1,by rw[<-sS,Ae (λz=>by rw[z,hD] at h2;cases h2)];exact h2⟩⟩;have zm:=u7.len;have fl:∀x,((dit row).filter (upB row x)).length<=14:=λx=>Pj (Pl ..) (by omega);refine Mt (H0:=H4) (xs0:=[]) (n:=(dit row).length) (λj=>.str ((dit row).getD j ak.empty)) (λ_=>true) (λj=>tupD ((dit row).filter (upB row ((dit row).getD j ak.empty)))) [] nL ((Same.refl H4).step nL) Ab Dn (by rw[Ti,Qr];omega) ?_ ?_ ?_ ?_ ?_
   ·intro j H5 hj s5;have:=Ho (kvs:=jI) (s5 _ _ dq) (by omega:j<jI.length);rw[u7.at j hj] at this;exact this
   ·intro H5 s5;have:=Hq (kvs:=jI) (s5 _ _ dq)
    rwa [zm] at this
   ·exact λj H5 Q' hj s5 kk=>kk H5 (Same.refl _)
   ·intro j xs H5 Q' hj _ s5 wY kk;obtain⟨l,gg,iU⟩:=(u7.mono s5).get (.inr ⟨o2,s5 _ _ dq⟩) (Cv hj);refine⟨_,rfl,_,rfl,D,_,rfl,gg,l,_,rfl,.inl (SqL.of iU),by have:=fl ((dit row).getD j ak.empty);omega,λt H6 nt ht s6=>?_⟩;rw[Ka ((Dm row).filter _)] at ht;refine kk _ H6 s6 (Dc ?_);have EB:=s6 _ _ wY;unfold hid;rw[Tj (λz=>by rw[z,EB] at ht;cases ht)];exact ht
   ·intro Z' H5 xs e s5 wY cU;have e1:([]:List ar)++((List.range (dit row).length).filter λ_=>true).map (λj=>tupD ((dit row).filter (upB row ((dit row).getD j ak.empty))))=((dit row).map λa=>(dit row).filter (upB row a)).map tupD:=by
     have:=Cg ak.empty (λ_=>true) (dit row);rw[Pd.mpr (λ_ _=>rfl),Pd.mpr (λ_ _=>rfl)] at this;have q:=congrArg (List.map λa=>tupD ((dit row).filter (upB row a))) this;rw[Pg] at q;rw[Rf,Pd.mpr (λ_ _=>rfl),Pg];exact q
    rw[e1] at cU;obtain⟨nP,rfl,qD⟩:=Xek cU;have qD:Tups H5 nP _:=qD.same (Fq L H5);have zn:=s4.trans s5;refine⟨_,rfl,r,row,rfl,zn _ _ hR,R2,λcl wZ H6 KA fK jr s6=>?_⟩;refine⟨cl,rfl,⟨_,SqL.of fK⟩,λM nM=>?_⟩;have qE:wZ.length=(crs row).length:=by
     have:=Gf jr;simpa using this
    have zo:=(u7.mono s5).mono s6;have sQ:=s6 _ _ (s5 _ _ dq);have KB:=Xd6 R2.two h3 (by omega);refine⟨wN (crs row).length λi Z2 H7=>(∃u v, Z2=[u,v,some (.ref D)])/\Same H6 H7/\∃qs:List ae,H7 M=some (.lst (qs.map V.ref))/\Tups H7 qs (((crs row).take i).map λq=>(dit row).filter λy=>upB row q.1 y||upB row q.2 y),⟨(crs row).length,by simp,Pf _,⟨none,none,rfl⟩,(Same.refl H6).step nM,[],Ab,Tups.nil _⟩,?_⟩;rintro i m Z1 H7 ⟨rfl,hi,⟨u,v,rfl⟩,s7,qs,hM,qF⟩;by_cases aZ:i<(crs row).length
    ·obtain⟨g1,g2⟩:=Ef (K:=K) (SqL.of (s7 _ _ fK)) (by omega:i<wZ.length);refine .inr ⟨g1,λx H8 y=>?_⟩;obtain⟨e1,e2⟩:=g2 x H8 y;subst e1 e2;obtain⟨v1,hv,pk⟩:=Mj (i:=i) (d:=prD ((crs row)[i])) jr (by rw[Ov,Oe aZ];rfl);have hq:=Ph aZ;generalize EC:(crs row)[i]=q at pk hq;obtain⟨l7,uA,_,_⟩:=Iy hq;have ev:wZ.getD i .non=v1:=by simp[List.getD,hv]
     rw[ev];unfold prD DAt at pk;obtain⟨pp,ys,rfl,ED,EE⟩:=pk;obtain rfl:=Ih (ss:=[q.1,q.2]) EE;have xa:=Fq cl H6 _ _ ED;have gh:(crs row).take (i+1)=(crs row).take i++[q]:=by
      rw[O3 aZ,EC]
     obtain⟨l1,wW,o5⟩:=(zo.mono s7).get (.inr ⟨o2,s7 _ _ sQ⟩) (An.mpr l7);obtain⟨l2,wX,lJ⟩:=(zo.mono s7).get (.inr ⟨o2,s7 _ _ sQ⟩) (An.mpr uA);have f1:=fl q.1;have f2:=fl q.2;refine⟨pp,_,rfl,SqT.of (s7 _ _ xa),rfl,_,_,rfl,_,_,rfl,rfl,?_⟩;refine⟨_,rfl,_,rfl,D,_,rfl,wW,_,rfl,_,rfl,D,_,rfl,wX,l1,l2,_,_,rfl,rfl,o5,lJ,by rw[Od,Od,Ti];omega,λc nc=>?_⟩;refine⟨c,(dit row).filter (upB row q.1)++(dit row).filter (upB row q.2),rfl,.inl (by rw[Ot];exact SqL.of Ab),by rw[Oh];omega,λt H9 nt ht s9=>?_⟩;have xb:Same H8 H9:=((Same.refl H8).step nc).trans s9;have zp:=xb _ _ hM;have et:told ((dit row).filter (upB row q.1)++(dit row).filter (upB row q.2))=(dit row).filter λy=>upB row q.1 y||upB row q.2 y:=by
      refine lt_uniq (M8 _) ((Dm row).filter _) λz=>?_;rw[Xdr,Oq,Om,Om,Om,Q3,<-and_or_left]
     rw[et] at ht;have xc:qs.length<=49:=by
      have:=qF.1;rw[Od,O0] at this;omega
     refine⟨_,zp,by rw[Od,Ti];omega,?_⟩;have nQ:∀b w,H9 b=some (.tup w)->upd H9 M (.lst (qs.map V.ref++[.ref t])) b=some (.tup w):=λb w e=>by
      rw[Ae (λz=>by rw[z,zp] at e;cases e)];exact e
     refine wskip aZ ⟨⟨_,_,rfl⟩,λb w e=>?_,qs++[t],by rw[Ab,Ot];rfl,?_⟩
     ·rw[Ae (Av e nM)];exact xb _ _ (s7 b w e)
     ·rw[gh,Ot];refine Tups.app ⟨qF.1,λj hj=>nQ _ _ (xb _ _ (qF.2 j hj))⟩ (Tups.cons (nQ _ _ ht) (Tups.nil _))
    ·have ei:i=(crs row).length:=by omega
     subst ei;refine .inl ⟨by have:=Eg (K:=K) (SqL.of (s7 _ _ fK));rwa [qE] at this,?_⟩;rw[P4] at qF;have sT:=s6.trans s7;have EF:=sT _ _ wY;have EG:=qD.same sT;have EH:=zn.trans sT;refine⟨Pf _,λe0 xf=>⟨by show 1<=sizeLine;decide,λz nz=>?_⟩⟩;generalize zq:upd H7 e0 (.tup [])=Ha at nz;have sa:Same H7 Ha:=by rw[<-zq];exact(Same.refl H7).step xf
     have EI:Ha e0=some (.tup (([]:Za).map V.str)):=by rw[<-zq];exact Ab
     generalize zr:upd Ha z (.lst [.ref e0])=Hb;have sb:Same Ha Hb:=by rw[<-zr];exact(Same.refl Ha).step nz
     have hz:Hb z=some (.lst [.ref e0]):=by rw[<-zr];exact Ab
     have l1:nP.length=(dit row).length:=by have:=qD.1;simpa using this
     have l2:qs.length=(crs row).length:=by have:=qF.1;simpa using this
     have zt:=sa.trans sb;refine⟨_,rfl,z,L,_,_,rfl,rfl,hz,zt _ _ EF,by rw[Od,Pn,Ti];omega,λc1 n1=>?_⟩;generalize zu:upd Hb c1 (.lst ([.ref e0]++nP.map V.ref))=Hc;have sc:Same Hb Hc:=by rw[<-zu];exact(Same.refl Hb).step n1
     have EJ:Hc c1=some (.lst ([.ref e0]++nP.map V.ref)):=by rw[<-zu];exact Ab
     have zw:=zt.trans sc;refine⟨_,rfl,c1,M,_,_,rfl,rfl,EJ,zw _ _ hM,by rw[Oh,Od,Od,Pn,Ti];omega,λc2 n2=>?_⟩;generalize zx:upd Hc c2 (.lst (([.ref e0]++nP.map V.ref)++qs.map V.ref))=Hd;have sd:Same Hc Hd:=by rw[<-zx];exact(Same.refl Hc).step n2
     have gl:Hd c2=some (.lst ((e0::(nP++qs)).map V.ref)):=by
      rw[<-zx,Ab,O5,Ot];rfl
     have xg:=zw.trans sd;have xh:=EH.trans xg;have li:Tups Hd (e0::(nP++qs)) ([]::cands row):=Tups.cons ((sb.trans (sc.trans sd)) _ _ EI) (Tups.app (EG.same xg) (qF.same xg));refine⟨c2,e0::(nP++qs),[]::cands row,rfl,gl,li,Xf9 R2.two,by rw[O2,Oh];omega,SH.Au.same tab xh,λD' iS sJ H' EK eA m9 pm so m8 bt=>?_⟩;refine k D' iS sJ H' (xh.free EK) eA m9 (λS=>(pm.mem_iff).trans (Xf8 R2.two h3 S)) so ?_ m8 λb w e n=>bt _ _ (xh _ _ e) n;rw[m9.1,pm.length_eq,<-li.1,O2,Oh];omega
def Xqq:FnScope ["one", "other"] ["one", "other"] (defScope s_parting):=by walk_at "s"
def Xqr{f:ae}{fd:au}(F:Fun K "parting" "parting" s_parting f fd)(T:Bl mg):FnOk P w K mg base CX0 1 f fd ["one", "other"] spParting:=by
 refine F.ok Xqq (by walk_at "l") ?_
 ·walk_at "i"
  obtain⟨p,q,a,b,rfl,hP,hQ,na,nb,la,lb,k⟩:=h;refine⟨_,Ah (Aq (A8 (Ju rfl) (by rfl) T.sorted (by rfl) (Aa (Ar Xno (B1 (Ht rfl) (by rfl) T.set (by rfl) (Aa (pv 0) Ac)) (B1 (Ht rfl) (by rfl) T.set (by rfl) (Aa (pv 1) Ac))) Ac))),?_⟩;refine⟨_,rfl,p,a,rfl,.inr (SqT.of hP),by unfold aU;omega,λa1 n1=>?_⟩;refine⟨_,rfl,q,b,rfl,.inr (SqT.of (ku hQ n1)),by unfold aU;omega,λa2 n2=>?_⟩;have pa:=J9 na;have pb:=J9 nb;refine⟨a1,a2,_,_,rfl,rfl,ku Ab n2,Ab,Hr a,Hr b,by rw[pa.length_eq];exact la,by rw[pb.length_eq];exact lb,λc zs nc wo lz mz=>?_⟩;refine⟨c,zs,rfl,Ab,by omega,λl ls nl pl so=>?_⟩;refine k l _ ?_ ?_ ?_
  ·exact(((Same.refl H).step n1).step n2).free ((Same.refl _).step nc |>.free nl)
  ·rw[Ab,Ga pl so,xor_srt na nb wo λy=>by rw[mz,pa.mem_iff,pb.mem_iff]]
  ·exact((((Same.refl H).step n1).step n2).step nc).step nl
def Xqs:FnScope ["plot", "name"] ["plot", "name"] (defScope s_across):=by walk_at "s"
def Xqt{f:ae}{fd:au}(F:Fun K "across" "across" s_across f fd)(B:Bl mg)(FP:Fn P w K mg base CX0 1 "parting" ["one", "other"] spParting):FnOk P w K mg base CX0 2 f fd ["plot", "name"] spAcross:=by
 refine F.ok Xqs (by walk_at "l") ?_
 ·walk_at "i"
  obtain⟨p,ss,x,rfl,hp,nd,hl,k⟩:=h;have cr:Room 1 _:=hr.mono (by decide);refine⟨_,Ah (Aq (B1 Hg (by rfl) B.tuple (by rfl) (Aa (Ak FP cr (by rfl) Am (Aa (pv 0) (Aa (B0 (Aa (pv 1) Ac)) Ac))) Ac))),?_⟩;refine⟨_,rfl,_,rfl,by show 1<=sizeLine;decide,λt nt=>?_⟩;refine⟨p,t,ss,[x],rfl,ku hp nt,Ab,nd,by simp,hl,by show 1<16;decide,λl H1 nl o5 s1=>?_⟩;rw[Xe5] at o5;refine⟨l,_,rfl,.inl ⟨SqL.of o5,λq nq=>?_⟩⟩;have s0:=((Same.refl H).step nt (o:=.tup [.str x])).trans s1;exact k q _ (s0.free nq) Ab (s0.step nq)
def N8:FnScope Xgh ["row", "goal"] (defScope s_ways_to):=by walk_at "s"
def Xqu{f T T2:ae}{fd:au}(F:FunT K "ways_to" s_ways_to f fd T2)(B:Bl mg)(jB:BmOk mg base)(FP:Fn P w K mg base CX0 5 "plots" ["row"] (spPlotsA T (lamPos s_in_order)))(FX:Fn P w K mg base CX0 2 "across" ["plot", "name"] spAcross)(FG:Fn P w K mg base CX0 1 "parting" ["one", "other"] spParting):
  FnOk P w K mg base CX0 6 f fd ["row", "goal"] (spWyTo T T2 (lamPos s_in_order) (lamPosW s_ways_to)):=by
 refine F.ok N8 (λvs H Q E h=>?_) (λc0 hhd A outer s H vs Q E hr h=>?_)
 ·obtain⟨r,g,row,G,rfl,_⟩:=h;rfl
 ·obtain⟨r,g,row,G,rfl,hR,R2,h3,sU,tab,hg,hG,k⟩:=h;have hu:=Ct hr;have cr:Room 1 _:=hr.mono (by decide);have fc:Room 2 _:=hr.mono (by decide);refine⟨_,Ag (Ap (i:=2) N8.nd rfl (.inr rfl) (Xpt hu (pv 1) Ai))
   (Ag (Ca aT.never rfl (Bp (Xpp (by rfl) B.sorted (by rfl) (Aa (Ak FP hr (by rfl) Am (Aa (pv 0) Ac)) Ac) (Xax (Xpg (T:=T2) (c0:=c0) (q:=qWy) (cl:=[("goal",s.heap.objs.size+1)]) jB rfl (λ_=>rfl) rfl hhd rfl) Xaw))) (Ax (i:=3) N8.nd rfl (.inr rfl))
    (Ah (Bb (Aw (Mr (hu3 hr)) (pv 3) (pv 1) (Az _))
     (Ah (Xbp hu (pv 2) (pv 3) (A8 (Xpu rfl) (by rfl) B.sum (by rfl) (Aa (Ei (N:=Xgi) (cap:=[none,some 2,some 3]) (CompScope.of (defScope s_ways_to) Xgh rfl rfl rfl (by decide +kernel)) rfl
      (Bp (Ak FG cr (by rfl) Am (Aa (pv 3) (Aa (pv 1) Ac)))) (λ_ _ _=>Ax (i:=0) (show Xgi.Nodup by decide +kernel) rfl (.inl rfl) (.inr rfl)) (λ_ _ _=>Dk)
      (λ_ _ _=>Xbr (by exact hu) (pv 1) (Ak (by exact FX) (by exact fc) (by rfl) Am (Aa (pv 2) (Aa (pv 0) Ac))) Ai ⟨rfl,rfl,rfl,rfl⟩)) Ac)) rfl)) Bc)))
   (Ah (Aq (pv 2)))),?_⟩
  have qG:∀{S:Za},Ad row S=true->S.Pairwise ltS/\S.Nodup/\S.length<16/\∀y∈S,okN y:=λ{S} hS=>⟨(Bj hS).2,B9 hS,by have:=El hS;omega,λy hy=>R2.ok y ((Bj hS).1 y hy)⟩;obtain⟨lG,sV,uB,zy⟩:=qG hG;intro d nd;have s0:Same H (upd H d (.dT [])):=Same.upd0 nd;refine⟨_,rfl,Ab,g,kOf G,rfl,by rw[Gy];exact s0 _ _ hg,?_⟩;rw[Xg7];generalize z4:upd H d (.dT [(kOf G,V.int 1)])=H1;have s1:Same H H1:=by rw[<-z4];exact Same.upd0 nd
  have oI:H1 d=some (.dT (kvT [G] (wyI row G))):=by
   rw[<-z4,Ab];unfold kvT wyI;rw[O5,Xge];rfl
  have uC:=tab.same s1;dsimp only[A7];refine⟨_,rfl,r,row,rfl,s1 _ _ hR,R2,h3,sU,uC.a,λl ps Ts H2 nl hl hT bT pw hle xi b2=>?_⟩;have b2:But T H1 H2:=b2;have xj:=SH.Au.butT2 uC.b uC.a tab.n.symm b2;have k2:∀{b:ae} {o:HO},H1 b=some o->(∀z,o ≠ .tbl z)->H2 b=some o:=λe n=>b2 _ _ e (SH.Au.ne uC.a e n);have uD:=k2 (s1 _ _ hR) λz=>by simp
  have rV:=k2 (s1 _ _ hg) λz=>by simp
  have cE:=k2 oI λz=>by simp
  have qH:=Xpd pw;have cq:=Xpw R2.two h3 sU qH bT;refine⟨xj,λf' c pm dB H3 nf hf hc js kp=>?_⟩;have b3:But T2 H2 H3:=kp;have k3:∀{b:ae} {o:HO},H2 b=some o->(∀z,o ≠ .tbl z)->H3 b=some o:=λe n=>b3 _ _ e (SH.Au.ne xj e n);have z5:=k3 rV λz=>by simp
  have jq:=k3 cE λz=>by simp
  have qI:=k3 hl λz=>by simp
  have z6:Tups H3 ps Ts:=⟨hT.1,λi hi=>k3 (hT.2 i hi) λz=>by simp⟩;have EL:=SH.Au.butT2 xi xj tab.n b3;refine⟨l,f',ps,Ts.map λS=>(Af S G).length,rfl,rfl,qI,by rw[Od,hT.1],by rw[hT.1];exact cq,?_,λD out H4 nD oN s4 dq=>?_⟩
  ·refine Xpq (k:=1) (j:=1) (x := "one") (y := "goal") (vg:=.ref g) (cg:=s.heap.objs.size+1) hf hc ⟨rfl,rfl,rfl,by decide +kernel,rfl⟩ (by decide +kernel) rfl rfl rfl rfl (.inr (.inl rfl)) rfl (hr.mono (by decide)) (λu=>rfl) λA1 pc KC KD i hi sm EM=>?_;refine⟨_,A8 Cr (by rfl) B.len bG (Aa (Ak (by exact FG) (by exact EM) (by rfl) Am (Aa (pv 0) (Aa (pv 1) Ac))) Ac),λQ1 kk=>?_⟩;have hS:Ad row (Ts.getD i [])=true:=(bT _).mp (SH.Tups.at hT hi);obtain⟨lS,nR,pr,xk⟩:=qG hS;refine⟨_,rfl,_,rfl,_,g,Ts.getD i [],G,rfl,sm _ _ (z6.2 i hi),sm _ _ z5,nR,sV,pr,uB,λlx Hx uE iV sx=>?_⟩;refine⟨lx,_,rfl,.inl (SqL.of iV),?_⟩;have dg:i<Ts.length:=by rw[<-hT.1];exact hi
   have e:((Ts.map λS=>(Af S G).length).getD i 0:Nat)=((Af (Ts.getD i []) G).map V.str).length:=by
    rw[Od];simp[List.getD,dg]
   rw[<-e];exact kk Hx sx
  ·obtain⟨Us,hU,xl,EN⟩:=Xpx z6 (λS=>(Af S G).length) oN;have sW:=hU.same s4;have sX:=s4 _ _ jq;have xm:=s4 _ _ z5;have EO:Us.Nodup:=xl.nodup_iff.mpr qH;have mD:∀S,S∈Us↔Ad row S=true:=λS=>(xl.mem_iff).trans (bT S);have EQ:D≠d:=(Av jq nD).symm;have ER:Us.length<=64:=by rw[xl.length_eq];omega
   have ES:=SH.Au.same EL s4;have ET:=SH.Au.same js s4
   let Vs:Nat->List (Za):=λi=>G::(Us.take i).filter λS=>decide (S≠G)
   refine⟨D,rfl,⟨_,SqL.of dq⟩,?_⟩;refine Dh (K:=K) (a:=D) (xs:=out.map V.ref) (λi Z H5=>(∃v, Z=[some (.ref r),some (.ref g),some (.ref d),v])/\But d H4 H5/\H5 d=some (.dT (kvT (Vs i) (wyI row G)))) ?_ ?_ ?_ ?_
   ·exact⟨⟨_,rfl⟩,But.refl _ _,sX⟩
   ·rintro i Z H5 _ ⟨_,b5,_⟩;exact SqL.of (b5 _ _ dq EQ)
   ·rintro i x Z H5 nN ⟨⟨v,rfl⟩,b5,mB⟩;obtain⟨hi,rfl⟩:=Xgc nN;have dg:i<Us.length:=by rw[<-sW.1];exact hi
    have uF:=b5 _ _ (sW.2 i hi) (λz=>by have:=sW.2 i hi;rw[z,sX] at this;cases this);have z7:=b5 _ _ xm (λz=>by rw[z,sX] at xm;cases xm);have gh:Us.take (i+1)=Us.take i++[Us.getD i []]:=by
     rw[O3 dg];simp[List.getD,dg]
    have hS:Ad row (Us.getD i [])=true:=(mD _).mp (SH.Tups.at sW hi);have sY:∀W,W∈Us->(Af W G).length<(Af (Us.getD i []) G).length->W∈Us.take i:=λW hW aZ=>by
     obtain⟨j,hj,rfl⟩:=P0.mp hW;have e:Us.getD i []=Us[i]:=by simp[List.getD,dg]
     by_cases z:j<i
     ·exact List.mem_take_iff_getElem.mpr ⟨j,by omega,rfl⟩
     ·by_cases z2:j=i
      ·subst z2;rw[e] at aZ;exact absurd aZ (Pz _)
      ·have:=P9.mp EN i j dg hj (by omega);rw[e] at aZ;omega
    have jk:Us.getD i []∉Us.take i:=by
     have h2:(Us.take (i+1)).Nodup:=EO.sublist (P2 ..);rw[gh] at h2;exact λz=>(Qe.mp h2).2.2 _ z _ (by simp) rfl
    generalize Us.getD i []=S at uF gh hS sY jk;obtain⟨lS,nR,pr,xk⟩:=qG hS;dsimp only[A7];refine⟨_,rfl,_,rfl,_,_,Dc uF,Dc z7,Da _ (C2 xk),Da _ (C2 zy),Ii _ _,_,rfl,?_⟩;rw[Ij xk zy];by_cases e:S=G
    ·rw[Tl e];refine Bn ⟨⟨_,rfl⟩,b5,?_⟩;have:Vs (i+1)=Vs i:=by
      show G::(Us.take (i+1)).filter _=G::(Us.take i).filter _;rw[gh,O1];simp[e]
     rw[this];exact mB
    ·rw[Tn e];refine B3 ?_;refine⟨_,rfl,_,rfl,_,g,S,G,rfl,uF,z7,nR,sV,pr,uB,λlx H6 uE iV s6=>?_⟩;have xn:=s6 _ _ mB;have qB:=s6 _ _ uF;refine⟨lx,rfl,⟨_,SqL.of iV⟩,?_⟩;have qE:(Af S G).length<=32:=by have:=Kk S G;omega
     refine Ey (n:=(Af S G).length) (by rw[Ti];omega) (λj=>.str ((Af S G).getD j ak.empty)) (λ_=>true) (λj=>.int ((if Ad row (Ao S ((Af S G).getD j ak.empty))=true then wy (Ad row) G (Ao S ((Af S G).getD j ak.empty)) else 0:Nat):Int)) ?_ ?_ ?_ ?_ ?_
     ·intro j H7 hj s7;have:=Ef (K:=K) (SqL.of (s7 _ _ iV)) (by rw[Od];exact hj);rw[Bt V.str ak.empty (Af S G) hj] at this;exact this
     ·intro H7 s7;have:=Eg (K:=K) (SqL.of (s7 _ _ iV))
      rwa [Od] at this
     ·exact λj H7 Q' hj s7 kk=>kk H7 (Same.refl _)
     ·intro j H7 Q' hj _ s7 kk;have hx:(Af S G).getD j ak.empty∈Af S G:=Cv hj;generalize (Af S G).getD j ak.empty=x at hx kk ⊢;refine⟨_,rfl,d,rfl,.inr ⟨_,.inl (s7 _ _ xn)⟩,?_⟩;refine⟨_,rfl,_,rfl,_,S,x,rfl,s7 _ _ qB,nR,pr,λq H8 nq hq s8=>?_⟩;refine⟨_,.inr ⟨_,kOf (Ao S x),q,.inl (s8 _ _ (s7 _ _ xn)),rfl,by rw[Gy];exact hq,rfl⟩,?_⟩;rw[Gz];have z8:=Iz nR sV hx;by_cases bL:Ad row (Ao S x)=true
      ·have dh:Ao S x∈Vs i:=by
        by_cases z:Ao S x=G
        ·exact Ou.mpr (.inl z)
        ·exact Ol _ (Om.mpr ⟨sY _ ((mD _).mpr bL) (by omega),Tl z⟩)
       rw[Tk dh];rw[Tk bL] at kk;exact kk H8 s8
      ·have dh:Ao S x∉Vs i:=λz=>by
        rcases Ou.mp z with z | z
        ·exact bL (by rw[z];exact hG)
        ·exact bL ((mD _).mp (Pp (Om.mp z).1))
       rw[Tj dh];rw[Tj bL] at kk;exact kk H8 s8
     ·intro L H7 nL s7 hL;refine⟨L,((Af S G).map λx=>(((if Ad row (Ao S x)=true then wy (Ad row) G (Ao S x) else 0:Nat)):Int)),rfl,?_,?_⟩
      ·have q:=congrArg (List.map λx=>V.int ((if Ad row (Ao S x)=true then wy (Ad row) G (Ao S x) else 0:Nat):Int)) (Cg ak.empty (λ_=>true) (Af S G));rw[Pg,Pd.mpr (λ_ _=>rfl),Pd.mpr (λ_ _=>rfl)] at q;rw[hL,Pd.mpr (λ_ _=>rfl),Pg];exact congrArg (λz=>some (HO.lst z)) q
      ·rw[K2,<-N3 lS lG e];have EU:=s7 _ _ xn;have iU:(kvT (Vs i) (wyI row G)).length<sizeLine:=by
        rw[Xpb];show ((Us.take i).filter _).length+1<sizeLine;have h1:=Pl (λS=>decide (S≠G)) (Us.take i);have h2:=List.length_take_le i Us;rw[Ti];omega
       refine⟨_,rfl,_,rfl,d,_,rfl,.inr ⟨_,kOf S,_,EU,rfl,by rw[Gy];exact s7 _ _ qB,iU,rfl⟩,?_⟩;have sT:=s6.trans s7;refine⟨⟨_,rfl⟩,λb o eb nb=>?_,?_⟩
       ·rw[Ae nb];exact sT _ _ (b5 b o eb nb)
       ·rw[Ab];have EV:S∉Vs i:=λz=>by
         rcases Ou.mp z with z | z
         ·exact e z
         ·exact jk (Om.mp z).1
        have eV:Vs (i+1)=Vs i++[S]:=by
         show G::(Us.take (i+1)).filter _=(G::(Us.take i).filter _)++[S];rw[gh,O1];simp[e]
        rw[eV,<-Xpy EV];rfl
   ·rintro Z H5 ⟨⟨v,rfl⟩,b5,mB⟩;rw[Od] at mB;refine⟨_,rfl,?_⟩;have tk:∀S,S∈Vs out.length↔Ad row S=true:=λS=>by
     show S∈G::(Us.take out.length).filter _↔_;rw[Pk (by rw[sW.1];exact Og _),Ou,Om,mD];by_cases z:S=G
     ·subst z;simp[hG]
     ·simp[z]
    refine k d (Vs out.length) H5 nd mB tk ⟨SH.Au.but' ES sX (λz=>by simp) (λz=>by simp) b5,SH.Au.but' ET sX (λz=>by simp) (λz=>by simp) b5,tab.n⟩ λb o eb n1 n2=>?_;exact b5 _ _ (s4 _ _ (b3 _ _ (b2 _ _ (s1 _ _ eb) n1) n2)) (Av eb nd)
def Xqv:FnScope ["row", "one", "other"] ["row", "one", "other"] (defScope s_walk):=by walk_at "s"
def Xqw{f C T T2:ae}{fd:au}(F:Fun K "walk" "walk" s_walk f fd)(FO:Fn P w K mg base (CX1 P w) 7 "walk_of" ["row", "one", "other", "number"] (Xgp C T T2 (lamPos s_in_order) (lamPosW s_ways_to))):
  FnOk P w K mg base (CX1 P w) 8 f fd ["row", "one", "other"] (N6 C T T2 (lamPos s_in_order) (lamPosW s_ways_to)):=by
 refine F.ok1 Xqv (by walk_at "l") ?_
 ·walk_at "i"
  obtain⟨r,p,q,row,a,b,rfl,t2,h3,hd,tab,kq,ke⟩:=h;refine⟨_,Ah (Aq (Ak FO hr (by rfl) pass1 (Aa (pv 0) (Aa (pv 1) (Aa (pv 2) (Aa Ai Ac)))))),?_⟩;exact⟨_,rfl,_,rfl,_,rfl,r,p,q,row,a,b,0,rfl,t2,h3,hd,tab,λha hb=>⟨K3 t2.r2.two hb _ ha rfl,kq ha hb⟩,ke⟩
def Xgu:FnScope NNr ["many", "plot", "goal"] (defScope s_nearer):=by walk_at "s"
def Xqx{f:ae}{fd:au}(F:Fun K "nearer" "nearer" s_nearer f fd)(FG:Fn P w K mg base CX0 1 "parting" ["one", "other"] spParting)(FX:Fn P w K mg base CX0 2 "across" ["plot", "name"] spAcross):
  FnOk P w K mg base CX0 3 f fd ["many", "plot", "goal"] Xgo:=by
 refine F.ok Xgu (by walk_at "l") ?_
 ·walk_at "i"
  obtain⟨d,p,q,row,S,G,Us,rfl,hd,hU,hp,hq,hS,hG,mC,k⟩:=h;have hu:=Ct hr;have cr:Room 1 _:=hr.mono (by decide);refine⟨_,Ag (Hz (i:=3) (N:=NNr1) (cap:=[none,some 1]) (CompScope.of (defScope s_nearer) NNr rfl rfl rfl (by decide +kernel)) rfl Xgu.nd rfl rfl (Bp (Ak FG cr (by rfl) Am (Aa (pv 1) (Aa (pv 2) Ac)))) (λ_ _ _=>Ax (i:=0) (show NNr1.Nodup by decide +kernel) rfl (.inl rfl) (.inr rfl)) (λ_ _ _=>Dk)
    (λ_ _ _=>B0 (Aa (pv 0) (Aa (Ak (by exact FX) (by exact hr) (by rfl) Am (Aa (pv 1) (Aa (pv 0) Ac))) Ac))))
   (Ah (Aq (Ei (N:=NNr2) (cap:=[none,none,some 0]) (CompScope.of (defScope s_nearer) NNr rfl rfl rfl (by decide +kernel)) rfl (Bp (pv 3))
    (λ_ _ _=>Jy K 2 rfl rfl (Ck (Ax (i:=0) (show NNr2.Nodup by decide +kernel) rfl (.inl rfl) (.inr rfl)) (Ck (Ax (i:=1) (show NNr2.Nodup by decide +kernel) rfl (.inl rfl) (.inr rfl)) F4))) (λ_ _ _=>Dl (Xhe (Xit (by exact hu) (pv 1) (pv 2)) (by rfl)))
    (λ_ _ _=>B0 (Aa (pv 0) (Aa (pv 1) (Aa (Ce (by exact hu) (pv 2) (pv 1) (λ_ _=>rfl)) Ac))))))),?_⟩
  have qG:∀{S:Za},Ad row S=true->S.Nodup/\S.length<16:=λ{S} hS=>⟨B9 hS,by have:=El hS;omega⟩;obtain⟨nR,pr⟩:=qG hS;obtain⟨sV,uB⟩:=qG hG;have qE:=Kk S G;refine⟨_,rfl,_,rfl,p,q,S,G,rfl,hp,hq,nR,sV,pr,uB,λlx H1 uE iV s1=>?_⟩;refine⟨lx,rfl,⟨_,SqL.of iV⟩,?_⟩;have px:=s1 _ _ hp;refine Xo9 (n:=(Af S G).length) (by rw[Ti];omega) (λj=>.str ((Af S G).getD j ak.empty)) (λ_=>true) (λj=>((Af S G).getD j ak.empty,Ao S ((Af S G).getD j ak.empty))) (fun Z=>∃v, Z=[v,some (.ref p)]) ⟨_,rfl⟩ ?_ ?_ ?_ ?_
  ·intro j H5 hj s5;have:=Ef (K:=K) (SqL.of (s5 _ _ iV)) (by rw[Od];exact hj);rw[Bt V.str ak.empty (Af S G) hj] at this;exact this
  ·intro H5 s5;have:=Eg (K:=K) (SqL.of (s5 _ _ iV))
   rwa [Od] at this
  ·rintro j Z1 H5 Q1 Q0 hj ⟨v,rfl⟩ s5 kk _;generalize (Af S G).getD j ak.empty=x at kk ⊢;dsimp only[A7,Ed];rw[Tk rfl];refine⟨_,rfl,_,rfl,_,rfl,p,S,x,rfl,s5 _ _ px,nR,pr,λq H6 nq hq s6=>?_⟩;refine⟨by show 2<=sizeLine;decide,λt nt=>?_⟩;exact kk _ t q _ rfl ⟨_,rfl⟩ Ab (ku hq nt) (s6.step nt)
  intro sd qs H2 KE s2 xo xp;have eN:(((List.range (Af S G).length).filter λ_=>true).map λj=>((Af S G).getD j ak.empty,Ao S ((Af S G).getD j ak.empty)))=(Af S G).map λx=>(x,Ao S x):=by
   have q:=congrArg (List.map λx=>(x,Ao S x)) (Cg ak.empty (λ_=>true) (Af S G));rw[Pg,Pd.mpr (λ_ _=>rfl),Pd.mpr (λ_ _=>rfl)] at q;rw[Pd.mpr (λ_ _=>rfl)];exact q
  rw[eN] at xp;have xc:qs.length=(Af S G).length:=by rw[xp.1,Od]
  have pB:=s1.trans s2;have cE:=pB _ _ hd;dsimp only[A7];refine⟨_,rfl,sd,rfl,⟨_,SqL.of xo⟩,?_⟩;refine Xp2 (f:=wyI row G) (n:=qs.length) (by rw[Ti];omega) (λj=>.ref (qs.getD j 0)) (λj=>Ad row (Ao S ((Af S G).getD j ak.empty))) (λj=>((Af S G).getD j ak.empty,Ao S ((Af S G).getD j ak.empty))) (fun Z=>∃u v, Z=[u,v,some (.ref d)]) ⟨_,_,rfl⟩ ?_ ?_ ?_ ?_
  ·intro j H5 hj s5;have:=Ef (K:=K) (SqL.of (s5 _ _ xo)) (by rw[Od];exact hj);rw[Bt V.ref 0 qs hj] at this;exact this
  ·intro H5 s5;have:=Eg (K:=K) (SqL.of (s5 _ _ xo))
   rwa [Od] at this
  ·rintro j Z1 H5 Q1 Q0 hj ⟨u,v,rfl⟩ s5 k1 k0;obtain⟨pq,h1,h2⟩:=xp.2 j hj;have fV:j<(Af S G).length:=by omega
   have ex:((Af S G).map λx=>(x,Ao S x)).getD j dN=((Af S G).getD j ak.empty,Ao S ((Af S G).getD j ak.empty)):=by
    rw[List.getD,Ov,Oe fV,List.getD,Oe fV];rfl
   rw[ex] at h1 h2;generalize (Af S G).getD j ak.empty=x at *;have EW:=s5 _ _ h1;have xq:=s5 _ _ h2;refine⟨_,_,rfl,SqT.of EW,rfl,_,_,rfl,_,_,rfl,rfl,?_⟩;refine⟨_,rfl,_,rfl,d,_,rfl,.inr ⟨_,kOf (Ao S x),pq,.inl (s5 _ _ cE),rfl,by rw[Gy];exact xq,rfl⟩,?_⟩;rw[Gz];cases e:Ad row (Ao S x) with
   | true=>
    rw[Tk ((hU _).mpr e)];refine⟨true,rfl,B3 ⟨_,rfl,_,rfl,_,rfl,_,rfl,d,.int (wyI row G (Ao S x)),rfl,.inr ⟨_,kOf (Ao S x),pq,.inl (s5 _ _ cE),rfl,by rw[Gy];exact xq,by rw[Gz,Tk ((hU _).mpr e)]⟩,by show 3<=sizeLine;decide,λt nt=>?_⟩⟩;exact k1 _ t pq _ e ⟨_,_,rfl⟩ Ab (ku xq nt) ((Same.refl H5).step nt)
   | false=>
    rw[Tj (λz=>by rw[(hU _).mp z] at e;cases e)];exact⟨false,rfl,Bn (k0 _ _ e ⟨_,_,rfl⟩ (Same.refl H5))⟩
  ·intro L us H5 nL s5 hL z9;have e2:(((List.range qs.length).filter λj=>Ad row (Ao S ((Af S G).getD j ak.empty))).map λj=>((Af S G).getD j ak.empty,Ao S ((Af S G).getD j ak.empty)))=waL row S (Af S G):=by
    have q:=congrArg (List.map λx=>(x,Ao S x)) (Cg ak.empty (λx=>Ad row (Ao S x)) (Af S G));rw[Pg] at q;rw[xc];exact q
   rw[e2] at z9;exact k L us H5 (pB.free nL) hL z9 (pB.trans s5)
def D8:FnScope NWoT ["row", "one", "other", "number"] (defScope s_walk_of):=by walk_at "s"
def Xqy{f C T T2:ae}{fd:au}(F:Fun K "walk_of" "walk_of" s_walk_of f fd)(FA:Fn P w K mg base (CX1 P w) 5 "ask_plot" ["row", "plot"] (spAskPlot C))(FW:Fn P w K mg base CX0 6 "ways_to" ["row", "goal"] (spWyTo T T2 (lamPos s_in_order) (lamPosW s_ways_to)))(FN:Fn P w K mg base CX0 3 "nearer" ["many", "plot", "goal"] Xgo):
  FnOk P w K mg base (CX1 P w) 7 f fd ["row", "one", "other", "number"] (Xgp C T T2 (lamPos s_in_order) (lamPosW s_ways_to)):=by
 refine F.ok1 D8 (by walk_at "l") ?_
 ·walk_at "i"
  obtain⟨r,p,q,row,a,b,n,rfl,t2,h3,hd,tab,kq,ke⟩:=h;have hu:=Ct hr;have qC:Room 3 _:=hr.mono (by decide);have zA:Room 5 _:=hr.mono (by decide);refine⟨_,Ag (Ea (Ak FA zA (by rfl) pass1 (Aa (pv 0) (Aa (pv 1) Ac))))
   (Ag (Ea (Ak FA zA (by rfl) pass1 (Aa (pv 0) (Aa (pv 2) Ac))))
   (Ag (Ap (i:=4) D8.nd rfl (.inl rfl) (Ak FW hr (by rfl) Am (Aa (pv 0) (Aa (pv 2) Ac))))
   (Ag (Bb (Jd (Xau Xhx Cn Ai (pv 3) (Ce hu (pv 4) (pv 1) (λ_ _=>rfl)))) (Ah Xnp) Bc)
   (Ag (Ap (i:=5) D8.nd rfl (.inl rfl) (Bq Ac))
   (Ag (Ap (i:=6) D8.nd rfl (.inl rfl) (pv 1))
   (Ag (Ap (i:=7) D8.nd rfl (.inl rfl) (pv 3))
   (Ag (Xho aT.leaving (Aw (Mr (hu3 hr)) (pv 6) (pv 2) (Az _))
    (Ah (Ca aT.leaving rfl (Bp (Ak FN qC (by rfl) Am (Aa (pv 4) (Aa (pv 6) (Aa (pv 2) Ac))))) (Jy K 3 rfl rfl (Ck (Ax (i:=8) D8.nd rfl (.inl rfl)) (Ck (Ax (i:=9) D8.nd rfl (.inl rfl)) (Ck (Ax (i:=10) D8.nd rfl (.inl rfl)) F4))))
     (Ag (Bb (Aw Cn (pv 7) (pv 10) (Az _)) (Ag (Ea (Hh PySem.F.plainAttrs_list PySem.F.slot_list_append PySem.F.type_list_append F7 (pv 5) (Aa (pv 8) Ac))) (Ag (Ap (i:=6) D8.nd rfl (.inl rfl) (pv 9)) (Ah Xhk))) Bc)
     (Ah (Xhl (i:=7) D8.nd rfl (.inl rfl) (pv 10) Xhm))))))
   (Ah (Aq (pv 5)))))))))),?_⟩
  refine⟨_,rfl,_,rfl,r,p,row,a,rfl,t2.hr,t2.r2,t2.hp,t2.oa,t2.la,λha H1 s1=>?_,λha H1 s1=>ke (.inl ha) H1 s1⟩;have t3:=t2.same s1;refine⟨_,rfl,_,rfl,r,q,row,b,rfl,t3.hr,t2.r2,t3.hq,t2.ob,t2.lb,λhb H2 s2=>?_,λhb H2 s2=>ke (.inr hb) H2 (s1.trans s2)⟩;have fe:=s1.trans s2;have t4:=t3.same s2;obtain⟨hn,kq⟩:=kq ha hb;refine⟨_,rfl,_,rfl,r,q,row,b,rfl,t4.hr,t2.r2,h3,hd,tab.same fe,t4.hq,hb,λd Us H3 nd jq hU js b3=>?_⟩;have zB:=(tab.same fe).but3 b3 t4.hp λz=>by simp
  have mE:=(tab.same fe).but3 b3 t4.hq λz=>by simp
  dsimp only[A7];have aZ:((n:Int)<wyI row b a):=by unfold wyI;exact Int.ofNat_lt.mpr hn
  refine⟨_,rfl,0,(n:Int),rfl,rfl,true,congrArg V.bl (Tl (Int.natCast_nonneg n)),B3 ?_⟩;refine⟨_,rfl,_,rfl,d,.int (wyI row b a),rfl,.inr ⟨_,kOf a,p,.inl jq,rfl,by rw[Gy];exact zB,by rw[Gz,Tk ((hU a).mpr ha)]⟩,?_⟩;refine⟨(n:Int),_,rfl,rfl,true,congrArg V.bl (Tl aZ),?_⟩;refine Bn ?_;refine⟨Pf _,λl nl=>?_⟩;refine⟨_,rfl,?_⟩;dsimp only[A7];refine⟨_,rfl,?_⟩;dsimp only[A7];have sl:Same H3 (upd H3 l (.lst [])):=Same.upd0 nl;generalize sS:upd H3 l (.lst [])=H4 at sl;have l6:H4 l=some (.lst (([]:Za).map V.str)):=by rw[<-sS];exact Ab
  have EX:d≠l:=Av jq nl;have kL:=js.same sl;have nU:H l=none:=fe.free (js.free b3 nl);refine⟨λm Z H5=>∃(fc:ae) (S:Za) (k:Nat) (dn:Za) (v8 v9 mF:Option V), Z=[some (.ref r),some (.ref p),some (.ref q),some (.int n),some (.ref d),some (.ref l),some (.ref fc),some (.int k),v8,v9,mF]/\But l H4 H5/\H5 l=some (.lst (dn.map V.str))/\H5 fc=some (.tup (S.map V.str))/\Ad row S=true/\k<wy (Ad row) b S/\dn++wkL row b S k=wkL row b a n/\m=(Af S b).length,?_,?_⟩
  ·exact⟨_,p,a,n,[],_,_,_,rfl,But.refl _ _,l6,sl _ _ zB,ha,hn,rfl,rfl⟩
  rintro m Z H5 ⟨h,S,k,dn,v8,v9,mF,rfl,b5,iU,zC,hS,hk,ew,rfl⟩;have gH:∀{S:Za},Ad row S=true->∀y∈S,okN y:=λ{S} hS y hy=>t2.r2.ok y ((Bj hS).1 y hy);have EY:q≠l:=Av mE nl;have qJ:=b5 _ _ (sl _ _ mE) EY;have mB:=b5 _ _ (sl _ _ jq) EX;refine⟨_,rfl,_,rfl,_,_,Dc zC,Dc qJ,Da _ (C2 (gH hS)),Da _ (C2 (gH hb)),Ii _ _,_,rfl,?_⟩;rw[Ij (gH hS) (gH hb)];by_cases e:S=b
  ·rw[Tl e];refine Bn ⟨_,rfl,?_⟩;subst e;have ex:wkL row S S k=[]:=by
    unfold wkL;rw[G0];rfl
   rw[ex,Pm] at ew;rw[ew] at iU;refine kq l H5 nU iU ⟨SH.Au.but' kL.a l6 (λz=>by simp) (λz=>by simp) b5,SH.Au.but' kL.b l6 (λz=>by simp) (λz=>by simp) b5,kL.n⟩ λb o eb n1 n2=>?_;exact b5 _ _ (sl _ _ (b3 _ _ (fe _ _ eb) n1 n2)) (Av eb nU)
  ·rw[Tn e];refine B3 ⟨fun Z' H'=>∃m',m'<(Af S b).length/\_,λ_ _ z=>z,?_⟩;refine⟨_,rfl,_,rfl,_,rfl,d,h,q,row,S,b,Us,rfl,mB,hU,zC,qJ,hS,hb,hd,λD qs H6 nD hD hT s6=>?_⟩;refine⟨D,rfl,⟨_,SqL.of hD⟩,?_⟩;generalize FH:waL row S (Af S b)=ws at hT;obtain⟨qq,k',ep,mq,lk,eh,el⟩:=Xgl hS hb e hk;refine Dh (K:=K) (a:=D) (xs:=qs.map V.ref) (λi Z H7=>H7=H6/\∃(ki:Nat) (v8 v9 mF:Option V), Z=[some (.ref r),some (.ref p),some (.ref q),some (.int n),some (.ref d),some (.ref l),some (.ref h),some (.int ki),v8,v9,mF]/\D7 (wy (Ad row) b) (ws.drop i) ki=some (qq,k')) ?_ ?_ ?_ ?_
   ·exact⟨rfl,k,_,_,_,rfl,by rw[Rc,<-FH];exact ep⟩
   ·rintro i Z H7 _ ⟨rfl,_⟩;exact SqL.of hD
   ·rintro i x Z H7 nN ⟨rfl,ki,u8,u9,FJ,rfl,mG⟩;obtain⟨hi,rfl⟩:=Xgc nN;obtain⟨pi,g1,g2⟩:=hT.2 i hi;have dg:i<ws.length:=by rw[<-hT.1];exact hi
    rw[Xp6 dg] at mG;generalize ws.getD i dN=x at g1 g2 mG;refine⟨_,_,rfl,SqT.of g1,rfl,_,_,rfl,_,_,rfl,_,_,rfl,rfl,?_⟩;have ed:(decide ((ki:Int)<wyI row b x.2))=decide (ki<wy (Ad row) b x.2):=by
     unfold wyI;rw[decide_eq_decide];exact Int.ofNat_lt
    by_cases c:ki<wy (Ad row) b x.2
    ·rw[Tk c] at mG;refine⟨_,rfl,_,rfl,_,_,rfl,rfl,true,congrArg V.bl (ed.trans (Tl c)),B3 ?_⟩;have ex:=Ox mG;have FL:x=qq:=congrArg Prod.fst ex;have FM:ki=k':=congrArg Prod.snd ex;subst FL;subst FM;have sZ:=s6 _ _ iU;have fr:dn.length<=28:=by
      have h1:=congrArg List.length ew;rw[Oh] at h1;have h2:(wkL row b a n).length<=(Af a b).length:=Xgk;have h3:=Kk a b;have h4:=El ha;have h5:=El hb;omega
     refine⟨_,rfl,.inl ⟨rfl,_,SqL.of sZ⟩,_,rfl,l,_,_,rfl,rfl,sZ,by rw[Od,Ti];omega,?_⟩;refine⟨_,rfl,?_⟩;have kt:∀{c:ae} {u:HO} {o:HO},H7 c=some u->(∀z,u ≠ .lst z)->upd H7 l o c=some u:=λ{c u o} e n=>by
      rw[Ae (λz=>by rw[z,sZ] at e;exact n _ (Ox e).symm)];exact e
     refine⟨(Af x.2 b).length,by omega,pi,x.2,ki,dn++[x.1],_,_,_,rfl,λc o ec nc=>?_,?_,kt g2 (λz=>by simp),(K4.mp mq).2.2,lk,?_,rfl⟩
     ·rw[Ae nc];exact s6 _ _ (b5 _ _ ec nc)
     ·rw[Ab,Ot];rfl
     ·rw[O7];show dn++x.1::wkL row b x.2 ki=_;rw[<-eh];exact ew
    ·rw[Tj c] at mG;refine⟨_,rfl,_,rfl,_,_,rfl,rfl,false,congrArg V.bl (ed.trans (Tn c)),Bn ?_⟩;have es:(ki:Int) - wyI row b x.2=((ki - wy (Ad row) b x.2:Nat):Int):=by
      unfold wyI;omega
     refine⟨_,rfl,_,rfl,_,_,rfl,rfl,rfl,ki - wy (Ad row) b x.2,some (.str x.1),some (.ref pi),some (.int (wyI row b x.2)),?_,mG⟩;rw[<-es];rfl
   ·rintro Z H7 ⟨rfl,ki,u8,u9,FJ,rfl,mG⟩;rw[Od,hT.1,List.drop_of_length_le (Og _)] at mG;cases mG
def Xqz:FnScope ["_law_script"] ["_law_script"] (defScope sBegin):=by walk_at "s"
def Xq0{f:ae}{fd:au}(F:Fun K "_law_begin" "_law_begin" sBegin f fd)(T:Bl mg):FnOk P w K mg base CX0 1 f fd ["_law_script"] (Xdc K):=by
 refine F.ok Xqz (by walk_at "l") ?_
 ·walk_at "i"
  obtain⟨a,ns,rfl,hS,hl,k⟩:=h;refine⟨_,Ah (Aq (Bq (Aa (B1 G9 rfl T.list fw (Aa (Cd Eb (pv 0) Cp (B6 Ai)) Ac)) (Aa Ai (Aa Ai (Aa Ai (Aa Ai Ac))))))),?_⟩;refine⟨_,rfl,_,rfl,a,_,rfl,hS,λp hp=>?_⟩;have FQ:Bx (ns.map V.int) none (some 63)=ns.map V.int:=by
   unfold Bx;rw[HT.sIx_none,Rc,show (some (63:Int))=some ((63:Nat):Int) from rfl,HT.sIx_nat];exact Pk (by rw[Od];omega)
  rw[FQ];refine⟨p,_,rfl,.inl (SqL.of Ab),λq hq=>?_⟩;refine⟨by show 5<=sizeLine;decide,λdr fO=>?_⟩;have zD:p≠q:=Av (o:=.lst (ns.map V.int)) Ab hq;have pD:q≠dr:=Av (o:=.lst (ns.map V.int)) Ab fO;have zF:H q=none:=by rw[Ae zD.symm] at hq;exact hq
  have FV:p≠dr:=Av (H:=upd (upd H p (.lst (ns.map V.int))) q (.lst (ns.map V.int))) (o:=.lst (ns.map V.int)) (by rw[Ae zD,Ab]) fO;have zG:H dr=none:=by rw[Ae pD.symm,Ae FV.symm] at fO;exact fO
  refine k dr q _ zG zF ⟨⟨ns,0,0,1,0,Ab,by rw[Ae pD,Ab],Pf _,hl,by decide,by decide⟩⟩ ((((Same.refl H).upd hp).upd zF).upd zG)
def N9:FnScope NP ["_law_draw", "_law_many"] (defScope sPick):=by walk_at "s"
def Xq1{f:ae}{fd:au}(F:Fun K "_law_pick" "_law_pick" sPick f fd)(T:Bl mg):FnOk P w K mg base CX0 1 f fd ["_law_draw", "_law_many"] Xdd:=by
 refine F.ok N9 (by walk_at "l") ?_
 ·walk_at "i"
  obtain⟨dr,sc,n,rfl,pF,yY,⟨ns,p,c,m,k,hd,hs,hp,hl,zH,oF⟩,kk⟩:=h;have tj:dr≠sc:=by
   intro e;subst e;rw[hd] at hs;cases ns with
   | nil=>cases hs
   | cons a r=>cases hs
  refine Xkm (fun Z' H'=>∃x y p c m, Z'=[some (.ref dr),some (.int n),x,y]/\H' dr=some (.lst [.ref sc,.int (p:Nat),.int c,.int m,.int k])/\p<=ns.length/\0<=m/\m<1000000007/\∀b o,H b=some o->b≠dr->H' b=some o) ?_ ?_
  ·-- FY rest
   refine⟨_,Ag (Bb (Aw Xar (A0 Bf (pv 0) Ai (λ_ _=>rfl)) (pv 1) (Az _))
     (Ag (Ap (i:=3) N9.nd rfl (.inl rfl) (Ar F6 (A0 Bf (pv 0) Ai (λ_ _=>rfl)) (pv 1)))
     (Ag (Eo (Ar Xal (A0 Bf (pv 0) Ai (λ_ _=>rfl)) (pv 1)) (Fd (pv 0) Ai Fg))
     (Ah (Aq (pv 3))))) Bc)
    (Ag (Eo (Ar Cb (A0 Bf (pv 0) Ai (λ_ _=>rfl)) Ai) (Fd (pv 0) Ai Fg))
    (Ag (Eo (Ar F6 (Ar Cb (Ar Cb (Ar Xam (A0 Bf (pv 0) Ai (λ_ _=>rfl)) Ai) (Ar Xak Ai (A0 Bf (pv 0) Ai (λ_ _=>rfl)))) Ai) Ai) (Fd (pv 0) Ai Fg))
    (Ah (Aq (Ar F6 (Ar Xal (A0 Bf (pv 0) Ai (λ_ _=>rfl)) Ai) (pv 1)))))),?_⟩
   rintro Z' H' ⟨x,y,p,c,m,rfl,gU,lR,t0,t8,kp⟩;refine⟨_,rfl,dr,_,_,_,rfl,rfl,SqL.of gU,rfl,_,rfl,_,_,rfl,rfl,_,rfl,?_⟩;refine A2 (λhc=>?_) (λhc=>?_)
   ·-- KF
    refine⟨_,rfl,dr,_,_,_,rfl,rfl,SqL.of gU,rfl,_,rfl,_,_,rfl,rfl,pF,?_⟩;refine⟨_,rfl,dr,_,_,_,rfl,rfl,SqL.of gU,rfl,_,rfl,_,_,rfl,rfl,⟨pF,by omega⟩,?_⟩;refine⟨_,rfl,dr,_,_,2,rfl,rfl,gU,rfl,?_⟩;refine⟨_,rfl,?_⟩;refine kk _ _ (R8 _ (by omega)) (Ro _ pF) ⟨⟨ns,p,c / n,m,k,Ab,?_,lR,hl,t0,t8⟩⟩ λb o e hb=>by rw[Ae hb];exact kp b o e hb
    rw[Ae tj.symm];exact kp _ _ hs tj.symm
   ·refine⟨_,rfl,dr,_,_,_,rfl,rfl,SqL.of gU,rfl,_,_,rfl,rfl,?_⟩;refine⟨_,rfl,dr,_,_,4,rfl,rfl,gU,rfl,?_⟩;refine⟨_,rfl,dr,_,_,_,rfl,rfl,SqL.of Ab,rfl,_,_,rfl,rfl,cpow3 t0 t8,?_⟩;refine⟨_,rfl,dr,_,_,_,rfl,rfl,SqL.of Ab,rfl,_,_,rfl,rfl,.inl ⟨by decide,by decide⟩,_,_,rfl,rfl,_,_,rfl,rfl,_,_,rfl,rfl,(by show (0:Int)<1000000007;decide),?_⟩;refine⟨_,rfl,dr,_,_,3,rfl,rfl,Ab,rfl,?_⟩;refine⟨_,rfl,dr,_,_,_,rfl,rfl,SqL.of Ab,rfl,_,_,rfl,rfl,⟨by decide,by decide⟩,_,rfl,_,_,rfl,rfl,pF,?_⟩;refine kk _ _ (R8 _ (by omega)) (Ro _ pF) ⟨⟨ns,p,c,_,k+1,Ab,?_,lR,hl,R8 _ (by decide),Ro _ (by decide)⟩⟩ λb o e hb=>by rw[Ae hb,Ae hb];exact kp b o e hb
    rw[Ae tj.symm,Ae tj.symm];exact kp _ _ hs tj.symm
  ·intro nx jk;refine⟨_,Bb (Fb (Aw Cn (A0 Bf (pv 0) Ai (λ_ _=>rfl)) (pv 1) (Az _)) (Fa (Aw Cn (A0 Bf (pv 0) Ai (λ_ _=>rfl)) (A8 Cr (by rfl) T.len bG (Aa (A0 Bf (pv 0) Ai (λ_ _=>rfl)) Ac)) (Az _)))).pt
     (Ag (Ap (i:=2) N9.nd rfl (.inl rfl) (A0 Bf (A0 Bf (pv 0) Ai (λ_ _=>rfl)) (A0 Bf (pv 0) Ai (λ_ _=>rfl)) (λ_ _=>rfl)))
     (Ag (Eo (Ar Cb (A0 Bf (pv 0) Ai (λ_ _=>rfl)) Ai) (Fd (pv 0) Ai Fg))
     (Ag (Eo Ai (Fd (pv 0) Ai Fg))
     (Ah (Bb (Aw Xar (pv 2) (Ar Xam Ai Ai) (Az _))
      (Ah (Eo (pv 2) (Fd (pv 0) Ai Fg)))
      (Ah (Eo (Ar F6 (Ar Cb (A0 Bf (pv 0) Ai (λ_ _=>rfl)) (pv 2)) Ai) (Fd (pv 0) Ai Fg)))))))) Bc,?_⟩
   refine⟨_,rfl,dr,_,_,_,rfl,rfl,SqL.of hd,rfl,_,rfl,_,_,rfl,rfl,_,rfl,?_⟩;have skip:nx [some (.ref dr),some (.int n),none,none] H:=jk _ _ ⟨none,none,p,c,m,rfl,hd,hp,zH,oF,λb o e _=>e⟩;refine A2 (λ_=>?_) (λ_=>Bn skip);refine⟨_,rfl,dr,_,_,_,rfl,rfl,SqL.of hd,rfl,_,rfl,dr,_,_,_,rfl,rfl,SqL.of hd,rfl,sc,_,rfl,.inl (SqL.of hs),_,_,rfl,rfl,_,rfl,?_⟩;refine A2 (λaZ=>?_) (λ_=>skip);have oY:(p:Int)<((ns.map V.int).length:Nat):=Tp aZ;rw[Od] at oY;have bL:p<ns.length:=by omega
   have hV:(ns.map V.int)[p]? = some (.int (ns[p]'bL)):=by rw[Ov,Oe bL];rfl
   refine⟨_,rfl,dr,_,_,_,rfl,rfl,SqL.of hd,rfl,_,rfl,dr,_,_,_,rfl,rfl,SqL.of hd,rfl,sc,_,_,_,rfl,rfl,SqL.of hs,Ff hV,?_⟩;refine⟨_,rfl,dr,_,_,_,rfl,rfl,SqL.of hd,rfl,_,_,rfl,rfl,?_⟩;refine⟨_,rfl,dr,_,_,1,rfl,rfl,hd,rfl,?_⟩;refine⟨_,rfl,dr,_,_,2,rfl,rfl,Ab,rfl,?_⟩;refine⟨_,rfl,_,_,rfl,rfl,⟨by decide,by decide,by decide⟩,_,_,rfl,rfl,_,rfl,?_⟩;refine A2 (λ_=>?_) (λ_=>?_)
   ·refine⟨_,rfl,_,rfl,dr,_,_,2,rfl,rfl,Ab,rfl,?_⟩;refine jk _ _ ⟨_,none,p+1,_,m,rfl,Ab,bL,zH,oF,λb o e hb=>by rw[Ae hb,Ae hb,Ae hb];exact e⟩
   ·refine⟨_,rfl,dr,_,_,_,rfl,rfl,SqL.of Ab,rfl,_,rfl,_,_,rfl,rfl,_,_,rfl,rfl,(by show (0:Int)<1000000007;decide),?_⟩;refine⟨_,rfl,dr,_,_,3,rfl,rfl,Ab,rfl,?_⟩;refine jk _ _ ⟨_,none,p+1,_,_,rfl,Ab,bL,R8 _ (by decide),Ro _ (by decide),λb o e hb=>by rw[Ae hb,Ae hb,Ae hb];exact e⟩
def Xgv:FnScope NPut ["_law_row_here", "_law_name", "_law_at", "_law_to"] (defScope sPut):=by walk_at "s"
def Xq2{f:ae}{fd:au}(F:Fun K "_law_put" "_law_put" sPut f fd):FnOk P w K mg base CX0 1 f fd ["_law_row_here", "_law_name", "_law_at", "_law_to"] Xdf:=by
 refine F.ok Xgv (by walk_at "l") ?_
 ·walk_at "i"
  obtain⟨r,row,x,a,b,rfl,hR,hl,eU,hb,k⟩:=h;refine⟨_,Ag (Ap (i:=4) Xgv.nd rfl (.inl rfl) (Ar B2 (Ar B2 (Cd Eb (pv 0) Cp (B6 (pv 2))) (Bq (Aa (pv 1) Ac))) (Cd Eb (pv 0) (B6 (pv 2)) (B6 (pv 3)))))
   (Ah (Aq (Ar B2 (Ar B2 (pv 4) (Bq (Aa (pv 1) Ac))) (Cd Eb (pv 0) (B6 (pv 3)) Cp)))),?_⟩
  have fz:∀n,n<=100000->n<=sizeLine:=λn h=>by rw[Ti];omega
  refine⟨_,rfl,_,rfl,_,rfl,r,_,rfl,SqL.of hR,λp1 n1=>?_⟩;rw[Gc _ _ _ (by omega)];refine⟨_,rfl,by show 1<=sizeLine;decide,λp2 n2=>?_⟩;refine⟨p1,p2,_,_,rfl,rfl,ku Ab n2,Ab,fz _ (by simp;omega),λp3 n3=>?_⟩;refine⟨_,rfl,_,rfl,_,rfl,_,rfl,_,rfl,r,_,rfl,SqL.of (ku (ku (ku hR n1) n2) n3),λp4 n4=>?_⟩;rw[Xkn _ _ _ _ eU hb];refine⟨p3,p4,_,_,rfl,rfl,ku Ab n4,Ab,fz _ (by simp;omega),λp5 n5=>?_⟩;refine⟨_,rfl,_,rfl,by show 1<=sizeLine;decide,λp6 n6=>?_⟩;refine⟨p5,p6,_,_,rfl,rfl,ku Ab n6,Ab,fz _ (by simp;omega),λp7 n7=>?_⟩;refine⟨_,rfl,_,rfl,_,rfl,r,_,rfl,SqL.of (ku (ku (ku (ku (ku (ku (ku hR n1) n2) n3) n4) n5) n6) n7),λp8 n8=>?_⟩;rw[Ge _ _ _ hb];refine⟨p7,p8,_,_,rfl,rfl,ku Ab n8,Ab,fz _ (by simp;omega),λp9 n9=>?_⟩;have s8:=((((((((Same.refl H).go n1 n2).go n2 n3).go n3 n4).go n4 n5).go n5 n6).go n6 n7).go n7 n8).go n8 n9;refine k p9 _ (s8.free n9) (Ab.trans ?_) (s8.step n9);unfold Dz;simp
def Oa:FnScope NWh ["_law_row_here"] (defScope sWhere):=by walk_at "s"
def Xq3{f:ae}{fd:au}(F:Fun K "_law_where" "_law_where" sWhere f fd)(T:Bl mg):FnOk P w K mg base CX0 1 f fd ["_law_row_here"] Mz:=by
 refine F.ok Oa (by walk_at "l") ?_
 ·walk_at "i"
  obtain⟨r,row,rfl,hR,hl,k⟩:=h;have hu:=Ct hr;refine⟨_,Ag (Ap (i:=1) Oa.nd rfl (.inl rfl) Xix)
   (Ag (Ca aT.never rfl (Jh rfl T.range (Aa (A8 Cr (by rfl) T.len bG (Aa (pv 0) Ac)) Ac)) (Ax (i:=2) Oa.nd rfl (.inl rfl))
    (Ah (Xbp hu (pv 1) (A0 Bf (pv 0) (pv 2) (λ_ _=>rfl))
     (Ar B2 (Xbr hu (pv 1) (A0 Bf (pv 0) (pv 2) (λ_ _=>rfl)) (Bq Ac) ⟨rfl,rfl,rfl,rfl⟩) (Bq (Aa (pv 2) Ac))) rfl)))
   (Ah (Aq (pv 1)))),?_⟩
  intro d nd;have s0:Same H (upd H d (.dK [])):=(Same.refl H).step nd;refine⟨_,rfl,r,_,rfl,.inl (SqL.of (s0 _ _ hR)),((row.map V.str).length:Int),rfl,by omega,by rw[Od];omega,?_⟩;have hn:((row.map V.str).length:Int).toNat=row.length:=by rw[Od];simp
  rw[hn];refine Jj (lo:=0) (n:=row.length) (λi Z H2=>∃kvs v, Z=[some (.ref r),some (.ref d),v]/\Same H H2/\H2 d=some (.dK kvs)/\Wh H2 kvs (row.take i)) ?_ ?_ ?_
  ·exact⟨[],none,rfl,s0,Ab,⟨λk hk=>by simp at hk,λx hx=>by simp at hx,λ_ _=>rfl,by simp,by simp⟩⟩
  ·rintro i Z H2 hi ⟨kvs,v,rfl,s2,hd,wh⟩;have hV:(row.map V.str)[i]? = some (.str (row[i]'hi)):=by rw[Ov,Oe hi];rfl
   have mH:atI (row.map V.str) (0+(i:Int))=some (.str (row[i]'hi)):=by rw[Int.zero_add];exact Ff hV
   have tk:row.take (i+1)=row.take i++[row[i]'hi]:=by rw[O3 hi]
   have kl:=wh.len;rw[O0] at kl;have ll:(plc (row.take i) (row[i]'hi)).length<=1000:=by
    rw[Mx];have:=List.count_le_length (a:=row[i]'hi) (l:=row.take i);rw[O0] at this;omega
   have fz:∀n,n<=100000->n<=sizeLine:=λn h=>by rw[Ti];omega
   refine⟨_,rfl,d,rfl,.inl ⟨kvs,.inl hd⟩,_,rfl,_,rfl,r,_,_,_,rfl,rfl,SqL.of (s2 _ _ hR),mH,by show 0<=sizeLine;decide,λp1 n1=>?_⟩;refine⟨_,DGet.k (k:=Sum.inr (row[i]'hi)) (ku hd n1),?_⟩;obtain⟨q,xs,e1,hq,iQ⟩:∃q xs,(Ay kvs (Sum.inr (row[i]'hi):Key)).getD (V.ref p1)=V.ref q/\upd H2 p1 (.lst []) q=some (.lst (xs.map V.int))/\plc (row.take i) (row[i]'hi)=xs:=by
    by_cases hx:row[i]'hi∈row.take i
    ·obtain⟨l,e1,e2⟩:=wh.val _ hx;exact⟨l,_,by rw[e1];rfl,ku e2 n1,rfl⟩
    ·refine⟨p1,[],by rw[wh.none _ hx];rfl,Ab,?_⟩;have:(plc (row.take i) (row[i]'hi)).length=0:=by rw[Mx];exact Rm.mpr hx
     exact Pr.mp this
   have iV:xs.length<=1000:=by rw[<-iQ];exact ll
   rw[e1];refine⟨_,rfl,by show 1<=sizeLine;decide,λp2 n2=>?_⟩;refine⟨q,p2,_,_,rfl,rfl,ku hq n2,Ab,fz _ (by simp;omega),λp3 n3=>?_⟩;refine⟨_,rfl,_,rfl,_,rfl,r,_,_,_,rfl,rfl,SqL.of (ku (ku (ku (s2 _ _ hR) n1) n2) n3),mH,?_⟩;have cE:=ku (u:=.lst [V.int (0+(i:Int))]) (ku (u:=.lst []) hd n1) n2;have jq:=ku (u:=.lst (xs.map V.int++[V.int (0+(i:Int))])) cE n3;refine⟨d,_,rfl,DPut.k (k:=Sum.inr (row[i]'hi)) jq (by rw[Ti];omega),_,_,rfl,?_,Ab,?_⟩
   ·have s3:=((s2.go n1 n2).go n2 n3).step (o:=.lst (xs.map V.int++[V.int (0+(i:Int))])) n3;exact s3.upd nd
   ·rw[tk];refine wh.snoc _ p3 ?_ λb ys e=>?_
    ·have ne:p3≠d:=(Av cE n3).symm;rw[Ae ne,Ab,My,Tk rfl,iQ,Ot,O0,Qz (Rp hi)];simp
    ·have ne:b≠d:=λz=>by rw[z,hd] at e;cases e
     rw[Ae ne];exact ku (ku (ku e n1) n2) n3
  ·rintro Z H2 ⟨kvs,v,rfl,s2,hd,wh⟩;rw[P4] at wh;exact⟨_,rfl,k d kvs H2 nd hd wh s2⟩
def K5:FnScope NWo ["_law_where_here", "_law_one_here", "_law_other"] (defScope sWord):=by walk_at "s"
def Xq4{f:ae}{fd:au}(F:Fun K "_law_word" "_law_word" sWord f fd)(T:Bl mg):FnOk P w K mg base CX0 1 f fd ["_law_where_here", "_law_one_here", "_law_other"] spWord:=by
 refine F.ok K5 (by walk_at "l") ?_
 ·walk_at "i"
  obtain⟨d,l1,l2,kvs,x,y,a,b,c,e,rfl,hd,v1,v2,h1,h2,k⟩:=h;have hu:=Ct hr;refine⟨_,Ag (Eo (Ce hu (pv 0) (pv 1) (λ_ _=>rfl)) (Xjj rfl (Ck (Ax (i:=3) K5.nd rfl (.inr rfl)) (Ck (Ax (i:=4) K5.nd rfl (.inr rfl)) F4))))
   (Ag (Hz (i:=5) (N:=["_law_at", "_law_high", "_law_low"]) (cap:=[none,some 4,some 3]) (CompScope.of (defScope sWord) NWo rfl rfl rfl (by decide +kernel)) rfl K5.nd rfl rfl
     (Bp (Ce hu (pv 0) (pv 2) (λ_ _=>rfl))) (λ_ _ _=>Ax (i:=0) (show (["_law_at", "_law_high", "_law_low"]:Za).Nodup by decide +kernel) rfl (.inl rfl) (.inr rfl))
     (λ_ _ _=>Dl (Fb (Aw Cn (pv 2) (pv 0) (Az _)) (Fa (Aw Cn (pv 0) (pv 1) (Az _)))).pt) (λ_ _ _=>pv 0))
   (Ag (Bb (F3 (Aw B5 (pv 1) (pv 2) (Az _)) (F2 (Aw Xhy (A8 Cr (by rfl) T.len bG (Aa (pv 5) Ac)) Ai (Az _)))).pt
    (Ah (Aq (A0 G6 (B0 (Aa Bg (Aa Bg (Aa Bg Ac)))) (A8 Cr (by rfl) T.len bG (Aa (pv 5) Ac)) (λ_ _=>rfl)))) Bc)
   (Ah (Aq (Jf (Fb (Aw Cn (A0 Bf (Ce hu (pv 0) (pv 2) (λ_ _=>rfl)) Ai (λ_ _=>rfl)) (pv 3) (Az _)) (Fa (Aw Cn (pv 4) (A0 Bf (Ce hu (pv 0) (pv 2) (λ_ _=>rfl)) Ai (λ_ _=>rfl)) (Az _)))).pt Bg Bg))))),?_⟩
  refine⟨_,rfl,_,rfl,d,_,rfl,DGet.rd hd v1,l1,_,rfl,SqL.of h1,rfl,?_⟩;refine⟨_,_,rfl,_,_,rfl,rfl,?_⟩;refine⟨_,rfl,_,rfl,d,_,rfl,DGet.rd hd v2,l2,rfl,⟨_,SqL.of h2⟩,?_⟩;refine F8 (n:=2) (λi=>([V.int c,V.int e]:List V).getD i .non) (λD i Z2 H2=>∃v, Z2=[v,some (.int b),some (.int a)]/\Same H H2/\H2 D=some (.lst ((inn a b (([c,e]:List Int).take i)).map V.int))) ?_ ?_ ?_ ?_ ?_
  ·intro D hD;exact⟨none,rfl,(Same.refl H).step hD,Ab⟩
  ·rintro D i Z2 H2 hD hi ⟨v,rfl,s2,hl⟩;exact Ef (SqL.of (s2 _ _ h2)) hi
  ·rintro D Z2 H2 hD ⟨v,rfl,s2,hl⟩;exact Eg (SqL.of (s2 _ _ h2))
  ·rintro D i Z2 H2 hD hi ⟨v,rfl,s2,hl⟩;obtain⟨t,qD,oB⟩:∃t,([V.int c,V.int e]:List V).getD i .non = .int t/\([c,e]:List Int).take (i+1)=([c,e]:List Int).take i++[t]:=by
    match i,hi with
    | 0,_=>exact⟨c,rfl,rfl⟩
    | 1,_=>exact⟨e,rfl,rfl⟩
   rw[qD];have fE:(inn a b (([c,e]:List Int).take i)).length<=2:=Pj (M0 ..) (by rw[O0];simp;omega);refine⟨_,rfl,_,rfl,_,_,rfl,rfl,_,rfl,?_⟩;refine A2 (λq1=>?_) (λq1=>Bn (wskip hi ⟨_,rfl,s2,?_⟩))
   ·refine⟨_,rfl,_,rfl,_,_,rfl,rfl,_,rfl,?_⟩;refine A2 (λq2=>?_) (λq2=>wskip hi ⟨_,rfl,s2,?_⟩)
    ·refine⟨_,rfl,wput hi hl (by rw[Od,Ti];omega) ⟨_,rfl,?_,?_⟩⟩
     ·intro b' o e';rw[Ae (Av e' hD)];exact s2 b' o e'
     ·rw[Ab,oB];unfold inn;rw[O1,Ot,Pi,Tk (by rw[q1,q2];rfl)];rfl
    ·rw[hl,oB];unfold inn;rw[O1,Pi,Tj (by rw[q1,q2];decide)];simp
   ·rw[hl,oB];unfold inn;rw[O1,Pi,Tj (by rw[q1];simp)];simp
  ·rintro D Z2 H2 hD ⟨v,rfl,s2,hl⟩;have o8:H2 D=some (.lst ((inn a b [c,e]).map V.int)):=hl;have fE:(inn a b [c,e]).length<=2:=M0 ..;have nV:∀p,H2 p=none->atI ([V.str "same",V.str "cross",V.str "around"]:List V) (((inn a b [c,e]).map V.int).length:Int)=some (.str (words3.getD (inn a b [c,e]).length "apart")):=λp _=>by
    rw[Od];generalize (inn a b [c,e]).length=n at fE
    match n,fE with
    | 0,_=>rfl
    | 1,_=>rfl
    | 2,_=>rfl
   have t9:(decide (x=y)||decide (0<(inn a b [c,e]).length))=true->∀p,H2 p=none->∀H',Same H H'->Q (.str (words3.getD (inn a b [c,e]).length "apart")) H':=λhc p _ H' s'=>by
    have:=k H' s';unfold D0 at this;rw[Tk hc] at this;exact this
   refine⟨_,rfl,_,rfl,rfl,_,rfl,?_⟩;refine A2 (λq1=>?_) (λq1=>?_)
   ·refine B3 ⟨by show 3<=sizeLine;decide,λp hp=>?_⟩;refine⟨_,rfl,D,_,rfl,.inl (SqL.of (ku o8 hp)),p,_,_,_,rfl,rfl,SqT.of Ab,nV p hp,?_⟩;refine t9 ?_ p hp _ (s2.step hp);have oZ:decide (x=y)=true:=by
     have:=Tp q1;injection this with this
     exact Tl this
    rw[oZ];rfl
   ·refine⟨_,rfl,D,_,rfl,.inl (SqL.of o8),_,_,rfl,rfl,_,rfl,?_⟩;have oZ:decide (x=y)=false:=by
     have:=Tq q1;exact Tn λz=>this (by rw[z])
    refine A2 (λq2=>?_) (λq2=>?_)
    ·have xr:0<(inn a b [c,e]).length:=by
      have:=Tp q2;rw[Od] at this;omega
     refine⟨by show 3<=sizeLine;decide,λp hp=>?_⟩;refine⟨_,rfl,D,_,rfl,.inl (SqL.of (ku o8 hp)),p,_,_,_,rfl,rfl,SqT.of Ab,nV p hp,?_⟩;exact t9 (by rw[Tl xr,Tc]) p hp _ (s2.step hp)
    ·have xr:¬ 0<(inn a b [c,e]).length:=by
      have:=Tq q2;rw[Od] at this;omega
     have dX:∀z:ak,(if c<a/\b<e then ("within" : ak) else "apart")=z->Q (.str z) H2:=λz hz=>by
      have:=k H2 s2;unfold D0 at this;rw[Tj (by rw[oZ,Tn xr];decide),hz] at this;exact this
     refine⟨_,rfl,_,rfl,d,_,rfl,DGet.rd (Rd.same hd s2) v2,l2,_,_,_,rfl,rfl,SqL.of (s2 _ _ h2),rfl,_,rfl,_,_,rfl,rfl,_,rfl,?_⟩;refine A2 (λq3=>?_) (λq3=>?_)
     ·refine⟨_,rfl,_,rfl,_,rfl,d,_,rfl,DGet.rd (Rd.same hd s2) v2,l2,_,_,_,rfl,rfl,SqL.of (s2 _ _ h2),rfl,_,_,rfl,rfl,_,rfl,?_⟩;refine A2 (λq4=>?_) (λq4=>?_)
      ·exact dX _ (Tk ⟨Tp q3,Tp q4⟩)
      ·exact dX _ (Tj λz=>Tq q4 z.2)
     ·exact Bn (dX _ (Tj λz=>Tq q3 z.1))
def Jb:FnScope NBa ["_law_row_here", "_law_name"] (defScope sBarred):=by walk_at "s"
def Xq5{f:ae}{fd:au}(F:Fun K "_law_barred" "_law_barred" sBarred f fd)(T:Bl mg)(FW:Fn P w K mg base CX0 1 "_law_where" ["_law_row_here"] Mz)
  (FO:Fn P w K mg base CX0 1 "_law_word" ["_law_where_here", "_law_one_here", "_law_other"] spWord):FnOk P w K mg base CX0 2 f fd ["_law_row_here", "_law_name"] spBarredN:=by
 refine F.ok Jb (by walk_at "l") ?_
 ·walk_at "i"
  obtain⟨r,row,x,rfl,hR,hl,h2,hx,k⟩:=h;have hu:=Ct hr;refine⟨_,Ag (Ap (i:=2) Jb.nd rfl (.inr rfl) (Ak FW hr rfl Am (Aa (pv 0) Ac)))
   (Ag (Hz (i:=3) (N:=NBc) (cap:=[none,some 1,some 2]) (CompScope.of (defScope sBarred) NBa rfl rfl rfl (by decide +kernel)) rfl Jb.nd rfl rfl
     (Xjp (pv 2)) (λ_ _ _=>Ax (i:=0) (show NBc.Nodup by decide +kernel) rfl (.inl rfl) (.inr rfl))
     (λ_ _ _=>Dl (Aw B5 (Ak FO hr rfl Am (Aa (pv 2) (Aa (pv 1) (Aa (pv 0) Ac)))) Bg (Az _))) (λ_ _ _=>pv 0))
   (Ag (Ca aT.never rfl (Jh rfl T.range (Aa (A8 Cr (by rfl) T.len bG (Aa (pv 3) Ac)) Ac)) (Ax (i:=4) Jb.nd rfl (.inl rfl))
    (Ah (Ca aT.never rfl (Bp (Cd Eb (pv 3) (B6 (Ar Cb (pv 4) Ai)) Cp)) (Ax (i:=5) Jb.nd rfl (.inl rfl))
     (Ah (Bb (Aw B5 (Ak FO hr rfl Am (Aa (pv 2) (Aa (A0 Bf (pv 3) (pv 4) (λ_ _=>rfl)) (Aa (pv 5) Ac)))) Bg (Az _)) (Ah (Aq Dw)) Bc)))))
   (Ah (Aq Dw)))),?_⟩
  refine⟨_,rfl,r,row,rfl,hR,hl,λd kvs H1 nd hd wh s1=>?_⟩;refine⟨_,rfl,d,kvs,rfl,hd,λo=>?_⟩;generalize kJ:upd H1 d (.frz o (.dK kvs))=H2;have s2:Same H H2:=λb u e=>by rw[<-kJ,Ae (Av e nd)];exact s1 b u e
  have cE:H2 d=some (.frz o (.dK kvs)):=by rw[<-kJ];exact Ab
  have uG:Wh H2 kvs row:=⟨wh.keys,λy hy=>let ⟨l,e1,e2⟩:=wh.val y hy; ⟨l,e1,by rw[<-kJ,Ae (λz=>by rw[z,hd] at e2;cases e2)];exact e2⟩,wh.none,wh.nd,wh.len⟩;have je:=wh.len;refine F8 (n:=kvs.length) (λi=>(kvs.map λp=>kV p.1).getD i .non) (λD i Z2 H3=>∃(v:Option V) (ms:Za), Z2=[v,some (.str x),some (.ref d)]/\Same H2 H3/\H3 D=some (.lst (ms.map V.str))/\(∀m∈ms,m∈row)/\ms.length<=i/\∀(j:Nat) (y:ak),j<i->(kvs.map λp=>kV p.1).getD j .non = .str y->A3 row x y->y∈ms) ?_ ?_ ?_ ?_ ?_
  ·intro D hD;exact⟨none,[],rfl,(Same.refl H2).step hD,Ab,by simp,Og _,λj y h=>absurd h (Qk _)⟩
  ·rintro D i Z2 H3 hD hi ⟨v,ms,rfl,s3,hm,dh,xt,bT⟩;exact Ho (s3 _ _ cE) hi
  ·rintro D Z2 H3 hD ⟨v,ms,rfl,s3,hm,dh,xt,bT⟩;exact Hq (s3 _ _ cE)
  ·rintro D i Z2 H3 hD hi ⟨v,ms,rfl,s3,hm,dh,xt,bT⟩;obtain⟨y,ka,km⟩:∃y,(kvs.map λp=>kV p.1).getD i .non = .str y/\y∈row:=by
    obtain⟨y,e1,e2⟩:=wh.keys (kvs[i]'hi).1 (Pa.mpr ⟨kvs[i]'hi,Ph hi,rfl⟩);refine⟨y,?_,e2⟩;simp only[List.getD,Ov,Oe hi,Qy,Option.getD_some];rw[e1];rfl
   rw[ka];obtain⟨l1,e1,g1⟩:=uG.pl hx (h2 x hx);obtain⟨l2,e2,g2⟩:=uG.pl km (h2 y km);refine⟨_,rfl,_,rfl,_,rfl,d,l1,l2,kvs,x,y,_,_,_,_,rfl,.inr ⟨o,s3 _ _ cE⟩,e1,e2,s3 _ _ g1,s3 _ _ g2,λH4 s4=>?_⟩;have zI:=s3.trans s4;refine⟨rfl,_,rfl,?_⟩;rw[<-Gj (h2 x hx) (h2 y km)];refine A2 (λhc=>?_) (λhc=>wskip hi ⟨_,ms,rfl,zI,s4 _ _ hm,dh,by omega,λj z hj hz kz=>?_⟩);rotate_left
   ·by_cases ej:j=i
    ·subst ej;rw[ka] at hz;injection hz with hz
     subst hz;exact absurd (by rw[show lieR row x y = "cross" from kz]) (Xd2 hc)
    ·exact bT j z (by omega) hz kz
   refine⟨_,rfl,wput hi (s4 _ _ hm) (by rw[Od,Ti];omega) ⟨_,ms++[y],rfl,?_,by rw[Ab,Ot];rfl,?_,by rw[Oh,Pn];omega,λj z hj hz kz=>?_⟩⟩
   ·intro b u e;rw[Ae (Av e hD)];exact zI b u e
   ·intro m hm;rcases Oq.mp hm with z | z
    ·exact dh m z
    ·rw[Oj.mp z];exact km
   ·by_cases ej:j=i
    ·subst ej;rw[ka] at hz;injection hz with hz
     subst hz;simp
    ·exact Qa _ (bT j z (by omega) hz kz)
  ·rintro D Z2 H3 hD ⟨v,ms,rfl,s3,hm,dh,xt,bT⟩;refine⟨_,rfl,D,_,rfl,.inl (SqL.of hm),((ms.map V.str).length:Int),rfl,by omega,by rw[Od];omega,?_⟩;have hn:((ms.map V.str).length:Int).toNat=ms.length:=by rw[Od];simp
   rw[hn];refine Jj (lo:=0) (n:=ms.length) (λi Z H4=>∃v1 v2, Z=[some (.ref r),some (.str x),some (.ref d),some (.ref D),v1,v2]/\Same H3 H4/\∀(p q:Nat) (y z:ak),p<i->p<q->ms[p]? = some y->ms[q]? = some z->¬A3 row y z) ?_ ?_ ?_
   ·exact⟨none,none,rfl,Same.refl _,λp q y z h=>absurd h (Qk _)⟩
   ·rintro i Z H4 hi ⟨v1,v2,rfl,s4,ho⟩;refine⟨_,rfl,_,rfl,_,_,rfl,rfl,_,rfl,D,_,rfl,SqL.of (s4 _ _ hm),λp np=>?_⟩;have e0:(0:Int)+(i:Int)+1=((i+1:Nat):Int):=by omega
    rw[e0,Ge _ _ _ (by omega)];have s5:Same H3 (upd H4 p (.lst ((ms.drop (i+1)).map V.str))):=s4.step np;refine⟨p,rfl,⟨_,SqL.of Ab⟩,?_⟩;refine Dh (K:=K) (a:=p) (xs:=(ms.drop (i+1)).map V.str) (λj Z H5=>∃v2, Z=[some (.ref r),some (.str x),some (.ref d),some (.ref D),some (.int (0+(i:Int))),v2]/\Same (upd H4 p (.lst ((ms.drop (i+1)).map V.str))) H5/\∀(q:Nat) (z:ak),q<j->ms[i+1+q]? = some z->¬A3 row (ms[i]'hi) z) ?_ ?_ ?_ ?_
    ·exact⟨_,rfl,Same.refl _,λq z h=>absurd h (Qk _)⟩
    ·rintro j Z H5 _ ⟨v2,rfl,s6,eQ⟩;exact SqL.of (s6 _ _ Ab)
    ·rintro j y Z H5 hj ⟨v2,rfl,s6,eQ⟩;obtain⟨z,rfl,hz,FZ⟩:∃z,y=V.str z/\z∈ms/\ms[i+1+j]? = some z:=by
      rw[Ov] at hj;cases q:(ms.drop (i+1))[j]? with
      | none=>rw[q] at hj;cases hj
      | some z=>
       rw[q] at hj;exact⟨z,(Ox hj).symm,P1 (Qn q),by rw[<-q,R9]⟩
     have qK:=s5.trans s6;have hV:(ms.map V.str)[i]? = some (.str (ms[i]'hi)):=by rw[Ov,Oe hi];rfl
     have mH:atI (ms.map V.str) (0+(i:Int))=some (.str (ms[i]'hi)):=by rw[Int.zero_add];exact Ff hV
     obtain⟨l1,e1,g1⟩:=uG.pl (dh _ (Ph hi)) (h2 _ (dh _ (Ph hi)));obtain⟨l2,e2,g2⟩:=uG.pl (dh _ hz) (h2 _ (dh _ hz));have xu:=s3.trans qK;refine⟨_,rfl,_,rfl,_,rfl,D,_,_,_,rfl,rfl,SqL.of (qK _ _ hm),mH,_,rfl,d,l1,l2,kvs,_,z,_,_,_,_,rfl,.inr ⟨o,xu _ _ cE⟩,e1,e2,xu _ _ g1,xu _ _ g2,λH6 s7=>?_⟩;refine⟨rfl,_,rfl,?_⟩;rw[<-Gj (h2 _ (dh _ (Ph hi))) (h2 _ (dh _ hz))];refine A2 (λ_=>?_) (λhc=>?_)
     ·exact k true H6 (λe=>by cases e) ((s2.trans s3).trans (qK.trans s7))
     ·refine⟨_,rfl,s6.trans s7,λq u hq hu=>?_⟩;by_cases eq:q=j
      ·subst eq;rw[FZ] at hu;have hu:=Ox hu;subst hu;exact λkz=>absurd (by rw[show lieR row (ms[i]'hi) z = "cross" from kz]) (Xd2 hc)
      ·exact eQ q u (by omega) hu
    ·rintro Z H5 ⟨v2,rfl,s6,eQ⟩;refine⟨_,_,rfl,s5.trans s6,λp q y z hp vC hy hz=>?_⟩;by_cases ep:p=i
     ·subst ep;rw[Oe hi] at hy;rw[<-Ox hy];refine eQ (q - (p+1)) z ?_ (by rw[show p+1+(q - (p+1))=q by omega];exact hz);have:=(Oz.mp hz).1;rw[Od,Pw];omega
     ·exact ho p q y z (by omega) vC hy hz
   ·rintro Z H4 ⟨v1,v2,rfl,s4,ho⟩;refine k false H4 (λ_ y hy z hz k1 k2 k3=>?_) ((s2.trans s3).trans s4);have mem:∀u∈row,A3 row x u->u∈ms:=λu hu ku=>by
     obtain⟨l,e,_⟩:=wh.val u hu;obtain⟨j,hj,ej⟩:=P0.mp (Hj e);rw[Od] at hj;refine bT j u hj ?_ ku;rw[Qo] at ej;simp only[List.getD,Ov,Oe hj,Qy,Option.getD_some];rw[ej];rfl
    obtain⟨p,hp,ep⟩:=P0.mp (mem y hy k1);obtain⟨q,hq,eq⟩:=P0.mp (mem z hz k2);have lf:ms[p]? = some y:=by rw[Oe hp,ep]
    have uH:ms[q]? = some z:=by rw[Oe hq,eq]
    rcases Nat.lt_trichotomy p q with h | h | h
    ·exact ho p q y z hp h lf uH k3
    ·subst h;rw[lf] at uH;have e:=Ox uH;subst e;exact Ej (h2 y hy) k3
    ·exact ho q p z y hq h uH lf (De (h2 y hy) (h2 z hz) k3)
def Em:FnScope NRo ["_law_draw", "_law_names_here"] (defScope sRow):=by walk_at "s"
def Xq6{f:ae}{fd:au}(F:Fun K "_law_row" "_law_row" sRow f fd)(T:Bl mg)(FP:FnPick P w K mg base)(xv:Fn P w K mg base CX0 1 "_law_put" ["_law_row_here", "_law_name", "_law_at", "_law_to"] Xdf)
  (FB:Fn P w K mg base CX0 2 "_law_barred" ["_law_row_here", "_law_name"] spBarredN):FnOk P w K mg base CX0 3 f fd ["_law_draw", "_law_names_here"] spRowN:=by
 refine F.ok Em (by walk_at "l") ?_
 ·walk_at "i"
  obtain⟨dr,sc,nl,ns,rfl,dk,hN,xw,uI,xx,k⟩:=h;have cr:Room 1 _:=hr.mono (by decide);have fz:∀m,m<=100000->m<=sizeLine:=λm h=>by rw[Ti];omega
  refine⟨_,Ag (Bb (Aw B5 (Ak FP cr rfl Am (Aa (pv 0) (Aa Ai Ac))) Ai (Az _))
    (Ag (Ap (i:=2) Em.nd rfl (.inl rfl) (Ak FP cr rfl Am (Aa (pv 0) (Aa (Ar Cb (A8 Cr (by rfl) T.len bG (Aa (pv 1) Ac)) Ai) Ac))))
    (Ah (Aq (Ar B2 (Ar B2 (pv 1) (Xb0 (Cd Eb (pv 1) Cp (B6 (pv 2))))) (Xb0 (Cd Eb (pv 1) (B6 (pv 2)) Cp)))))) Bc)
   (Ag (Ap (i:=3) Em.nd rfl (.inl rfl) (Bq Ac))
   (Ag (Ca aT.never rfl (Bp (pv 1)) (Ax (i:=4) Em.nd rfl (.inl rfl))
    (Ag (Ap (i:=5) Em.nd rfl (.inl rfl) (Ak FP cr rfl Am (Aa (pv 0) (Aa (Ar Cb (A8 Cr (by rfl) T.len bG (Aa (pv 3) Ac)) Ai) Ac))))
    (Ag (Ap (i:=6) Em.nd rfl (.inl rfl) (Ar Cb (pv 5) (Ak FP cr rfl Am (Aa (pv 0) (Aa (Ar Xhw (Ar Cb (A8 Cr (by rfl) T.len bG (Aa (pv 3) Ac)) Ai) (pv 5)) Ac)))))
    (Ag (Ap (i:=7) Em.nd rfl (.inl rfl) (Ak xv cr rfl Am (Aa (pv 3) (Aa (pv 4) (Aa (pv 5) (Aa (pv 6) Ac))))))
    (Ag (Bb (En (Ak FB hr rfl Am (Aa (pv 7) (Aa (pv 4) Ac))))
     (Ah (Ap (i:=7) Em.nd rfl (.inl rfl) (Ar B2 (Ar B2 (Cd Eb (pv 3) Cp (B6 (pv 5))) (Bq (Aa (pv 4) (Aa (pv 4) Ac)))) (Cd Eb (pv 3) (B6 (pv 5)) Cp)))) Bc)
    (Ah (Ap (i:=3) Em.nd rfl (.inl rfl) (pv 7))))))))
   (Ah (Aq (pv 3))))),?_⟩
  refine⟨_,rfl,dr,sc,4,rfl,by decide,by decide,dk,λr1 H1 _ _ d1 b1=>?_⟩;refine⟨rfl,_,rfl,?_⟩;have b1:But dr H H1:=b1;have x4:=b1 _ _ hN xw;refine A2 (λ_=>?_) (λ_=>?_)
  ·-- FY Go
   refine⟨_,rfl,_,rfl,nl,_,rfl,.inl (SqL.of x4),_,_,rfl,rfl,dr,sc,_,rfl,by omega,by rw[Od];omega,d1,λc H2 c0 c1 d2 b2=>?_⟩;obtain⟨c,rfl⟩:=P3 c0;rw[Od] at c1;have hc:c<=ns.length:=by omega
   have jJ:=But.trans b1 b2;have x5:=b2 _ _ x4 xw;obtain⟨xs,fO⟩:=d2.at;refine⟨_,rfl,_,rfl,_,rfl,_,rfl,nl,_,rfl,SqL.of x5,λp1 n1=>?_⟩;rw[Gc _ _ _ hc];refine⟨p1,_,rfl,SqL.of Ab,λp2 n2=>?_⟩;refine⟨nl,p2,_,_,rfl,rfl,ku (ku x5 n1) n2,Ab,fz _ (by simp;omega),λp3 n3=>?_⟩;refine⟨_,rfl,_,rfl,_,rfl,nl,_,rfl,SqL.of (ku (ku (ku x5 n1) n2) n3),λp4 n4=>?_⟩;rw[Ge _ _ _ hc];refine⟨p4,_,rfl,SqL.of Ab,λp5 n5=>?_⟩;refine⟨p3,p5,_,_,rfl,rfl,ku (ku Ab n4) n5,Ab,fz _ (by simp;omega),λp6 n6=>?_⟩;have s5:=(((((Same.refl H2).go n1 n2).go n2 n3).go n3 n4).go n4 n5).go n5 n6;have f6:=s5.free n6;have nj:(ns++(ns.take c).reverse++(ns.drop c).reverse).Perm (ns++ns):=by
    rw[O7];refine P7 ns ?_;refine((List.reverse_perm _).append (List.reverse_perm _)).trans ?_;rw[Pb]
   refine k p6 (ns++(ns.take c).reverse++(ns.drop c).reverse) _ (jJ.free fO f6) (Ab.trans (by simp)) nj (noThree_grid uI c λz hz=>Gh uI nj z ?_) (d2.same (s5.step n6)) (jJ.same (s5.step n6));exact nj.mem_iff.mpr (Qa _ hz)
  ·-- KG one by one
   refine⟨by show 0<=sizeLine;decide,λp np=>?_⟩;obtain⟨KH,tD⟩:=d1.at;have s0:Same H1 (upd H1 p (.lst [])):=(Same.refl H1).step np;refine⟨_,rfl,nl,rfl,⟨_,SqL.of (s0 _ _ x4)⟩,?_⟩;refine Dh (K:=K) (a:=nl) (xs:=ns.map V.str) (λi Z H2=>∃(v2 v4 v5 v6 v7:Option V) (q:ae) (row:Za), Z=[some (.ref dr),some (.ref nl),v2,some (.ref q),v4,v5,v6,v7]/\H2 q=some (.lst (row.map V.str))/\H q=none/\q≠dr/\row.Perm (ns.take i++ns.take i)/\Bk row/\DrawOk H2 dr sc/\But dr H H2) ?_ ?_ ?_ ?_
   ·exact⟨_,_,_,_,_,p,[],rfl,Ab,b1.free tD np,(Av tD np).symm,by simp,Xmb,d1.same s0,b1.same s0⟩
   ·rintro i Z H2 _ ⟨v2,v4,v5,v6,v7,q,row,rfl,hq,nq,pD,hp,fm,d2,b2⟩;exact SqL.of (b2 _ _ hN xw)
   ·rintro i y Z H2 hi ⟨v2,v4,v5,v6,v7,q,row,rfl,hq,nq,pD,hp,fm,d2,b2⟩;have fE:i<ns.length:=by
     have:=(Oz.mp hi).1
     rwa [Od] at this
    obtain⟨x,rfl,hx⟩:∃x,y=V.str x/\ns[i]? = some x:=by
     rw[Ov] at hi;cases z:ns[i]? with
     | none=>rw[z] at hi;cases hi
     | some x=>rw[z] at hi;exact⟨x,(Ox hi).symm,rfl⟩
    have tk:ns.take (i+1)=ns.take i++[x]:=by
     rw[O3 fE];rw[Oe fE] at hx;rw[Ox hx]
    have oV:row.length<=28:=by
     have:=hp.length_eq;rw[Oh,O0] at this;omega
    have qH:(ns.take i++[x]).Nodup:=by rw[<-tk];exact uI.sublist (P2 ..)
    refine⟨_,rfl,_,rfl,q,_,rfl,.inl (SqL.of hq),_,_,rfl,rfl,dr,sc,_,rfl,by omega,by rw[Od];omega,d2,λa H3 a0 a1 d3 b3=>?_⟩;obtain⟨a,rfl⟩:=P3 a0;rw[Od] at a1;have mE:=b3 _ _ hq pD;refine⟨_,rfl,_,rfl,_,rfl,q,_,rfl,.inl (SqL.of mE),_,_,rfl,rfl,_,rfl,_,_,rfl,rfl,dr,sc,_,rfl,by rw[Od];omega,by rw[Od];omega,d3,λc H4 c0 c1 d4 b4=>?_⟩;obtain⟨c,rfl⟩:=P3 c0;rw[Od] at c1;refine⟨_,_,rfl,rfl,?_⟩;have G':(a:Int)+(c:Int)=((a+c:Nat):Int):=by omega
    dsimp only;rw[G'];have lq:a+c<=row.length:=by omega
    have nW:=b4 _ _ mE pD;have zJ:=But.trans b2 (But.trans b3 b4);obtain⟨GA,mI⟩:=d4.at;refine⟨_,rfl,_,rfl,_,rfl,_,rfl,q,row,x,a,a+c,rfl,nW,by omega,by omega,lq,λl H5 zK iU s5=>?_⟩;have d5:=d4.same s5;have GB:=zJ.same s5;have nU:=zJ.free mI zK;have jK:l≠dr:=(Av mI zK).symm;have gI:(Dz row x a (a+c)).Perm ((ns.take i++[x])++(ns.take i++[x])):=Xdj hp (Xde row x a (a+c) (by omega));have rG:(Dz row x a (a+c)).length<=1000:=by
     have:=gI.length_eq;rw[Oh,Oh,O0,Pn] at this;omega
    refine⟨_,rfl,_,rfl,l,_,x,rfl,iU,rG,Gh qH gI,gI.mem_iff.mpr (by simp),λbb H6 x6 s6=>?_⟩;have d6:=d5.same s6;have x8:=GB.same s6;refine⟨bb,rfl,?_⟩;have tE:∀y∈row,row.count y=2:=Gh (uI.sublist (P2 ..)) hp;refine A2 (λ_=>?_) (λGC=>?_)
    ·have zL:=s6 _ _ (s5 _ _ nW);refine⟨_,rfl,_,rfl,_,rfl,q,_,rfl,SqL.of zL,λp1 n1=>?_⟩;rw[Gc _ _ _ (by omega)];refine⟨_,rfl,_,rfl,by show 2<=sizeLine;decide,λp2 n2=>?_⟩;refine⟨p1,p2,_,_,rfl,rfl,ku Ab n2,Ab,fz _ (by simp;omega),λp3 n3=>?_⟩;refine⟨_,rfl,_,rfl,_,rfl,q,_,rfl,SqL.of (ku (ku (ku zL n1) n2) n3),λp4 n4=>?_⟩;rw[Ge _ _ _ (by omega)];refine⟨p3,p4,_,_,rfl,rfl,ku Ab n4,Ab,fz _ (by simp;omega),λp5 n5=>?_⟩;have kM:=((((Same.refl H6).go n1 n2).go n2 n3).go n3 n4).go n4 n5;have f5:=kM.free n5;obtain⟨KI,tF⟩:=d6.at;have pN:(row.take a++[x,x]++row.drop a).Perm (x::x::row):=by
      have e:row.take a++[x,x]++row.drop a=row.take a++x::x::row.drop a:=by simp
      rw[e];refine Rl.trans (List.Perm.cons x (Rl.trans (List.Perm.cons x ?_)));rw[Pb]
     have pM:=Xdj hp pN;have pG:=Gh qH pM;refine⟨_,rfl,_,_,_,_,_,p5,row.take a++[x,x]++row.drop a,rfl,Ab.trans (by simp),x8.free tF f5,(Av tF f5).symm,by rw[tk];exact pM,?_,d6.same (kM.step n5),x8.same (kM.step n5)⟩;refine Xd0 (x:=x) fm tE pG (λy hy=>?_) (λp hp=>Xme hp) (λy hy z hz ky=>absurd ky (Xmd (pG x (by simp)) (pG y hy)));have:=pN.mem_iff.mp hy;simp only[Ou] at this;rcases this with h | h | h
     ·exact .inl h
     ·exact .inl h
     ·exact .inr h
    ·refine⟨_,rfl,_,_,_,_,_,l,_,rfl,s6 _ _ iU,nU,jK,by rw[tk];exact gI,?_,d6,x8⟩;refine Xd0 (x:=x) fm tE (Gh qH gI) (λy hy=>?_) (λp hp=>Xmc (by omega) hp) (x6 GC);have:=(Xde row x a (a+c) (by omega)).mem_iff.mp hy;simp only[Ou] at this;rcases this with h | h | h
     ·exact .inl h
     ·exact .inl h
     ·exact .inr h
   ·rintro Z H2 ⟨v2,v4,v5,v6,v7,q,row,rfl,hq,nq,pD,hp,fm,d2,b2⟩;rw[Od,P4] at hp;exact⟨_,rfl,k q row H2 nq hq hp fm d2 b2⟩
def E8:FnScope NNa ["_law_draw", "_law_many"] (defScope sNames):=by walk_at "s"
def Xq7{f:ae}{fd:au}(F:Fun K "_law_names" "_law_names" sNames f fd)(T:Bl mg)(FP:FnPick P w K mg base):FnOk P w K mg base CX0 2 f fd ["_law_draw", "_law_many"] Xdi:=by
 refine F.ok E8 (by walk_at "l") ?_
 ·walk_at "i"
  obtain⟨dr,sc,n,rfl,hn,dk,k⟩:=h;refine⟨_,Ag (Ap (i:=2) E8.nd rfl (.inl rfl) Bg)
   (Ag (Ap (i:=3) E8.nd rfl (.inl rfl) (Ak FP hr rfl Am (Aa (pv 0) (Aa Ai Ac))))
   (Ag (Ap (i:=4) E8.nd rfl (.inl rfl) (Ep B5 (Ak FP hr rfl Am (Aa (pv 0) (Aa Ai Ac))) Ai (Az _)))
   (Ag (Ap (i:=5) E8.nd rfl (.inl rfl) (Bq Ac))
   (Ag (Ca aT.never rfl (Jh rfl T.range (Aa (pv 1) Ac)) (Ax (i:=6) E8.nd rfl (.inl rfl))
    (Ag (Ap (i:=7) E8.nd rfl (.inl rfl) (A0 Xie (pv 2) (Ar F6 (Ar Cb (pv 3) (pv 6)) Ai) (λ_ _=>rfl)))
    (Ag (Ap (i:=8) E8.nd rfl (.inl rfl) (Ar Xjm Bg (Ar F6 (Ar Cb (pv 3) (Ar Xak (pv 6) (pv 6))) Ai)))
    (Ah (Ea (Hh PySem.F.plainAttrs_list PySem.F.slot_list_append PySem.F.type_list_append F7 (pv 5)
     (Aa (Jf (En (pv 4)) (Ar Jl (Ar Jl (pv 8) (pv 7)) Bg) (Ar Jl (pv 7) (pv 8))) Ac)))))))
   (Ah (Aq (pv 5))))))),?_⟩
  refine⟨_,rfl,dr,sc,26,rfl,by decide,by decide,dk,λr1 H1 zM KJ d1 b1=>?_⟩;refine⟨_,rfl,dr,sc,2,rfl,by decide,by decide,d1,λr2 H2 zN KL d2 b2=>?_⟩;refine⟨rfl,?_⟩;refine⟨by show 0<=sizeLine;decide,λl nl=>?_⟩;obtain⟨st,rfl⟩:=P3 zM;have bD:st<26:=by omega
  generalize aZ:decide (V.int r2=V.int 1)=aV;have jJ:But dr H H2:=But.trans b1 b2;obtain⟨xs,fO⟩:=d2.at;have nU:H l=none:=jJ.free fO nl;obtain⟨jK,uJ⟩:=d2.ne nl;refine⟨_,rfl,(n:Int),rfl,by omega,by omega,?_⟩;rw[Ru];refine Jj (lo:=0) (n:=n) (λi Z H3=>∃v1 v2 v3, Z=[some (.ref dr),some (.int n),some (.str Fs),some (.int st),some (.bl aV),some (.ref l),v1,v2,v3]/\H3 l=some (.lst ((Bd st aV i).map V.str))/\DrawOk H3 dr sc/\But dr H H3) ?_ ?_ ?_
  ·exact⟨none,none,none,rfl,Ab,d2.upd jK uJ,jJ.upd nU⟩
  ·rintro i Z H3 hi ⟨v1,v2,v3,rfl,qI,d3,b3⟩;have GD:((st:Int)+(0+(i:Int))) % 26=(((st+i) % 26:Nat):Int):=by omega
   have GE:(st+i) % 26<26:=S7 _ (by decide);have GF:((0:Int)+(i:Int)) * (0+(i:Int))=((i * i:Nat):Int):=by rw[Int.zero_add];exact(Int.natCast_mul i i).symm
   have h7:(st+i * i) % 7<7:=S7 _ (by decide);have e7:((st:Int)+((i * i:Nat):Int)) % 7=(((st+i * i) % 7:Nat):Int):=by
    generalize i * i=j;omega
   refine⟨_,rfl,_,rfl,_,rfl,_,_,rfl,rfl,_,_,rfl,rfl,(by show (0:Int)<26;decide),_,_,_,rfl,rfl,(by show 26<=sizeLine;decide),by rw[GD];exact Xlj GE,?_⟩;refine⟨_,rfl,_,rfl,_,rfl,_,_,rfl,rfl,.inl ⟨by omega,by omega⟩,_,_,rfl,rfl,_,_,rfl,rfl,(by show (0:Int)<7;decide),?_⟩;have x9:((st:Int)+((0:Int)+(i:Int)) * (0+(i:Int))) % 7=(((st+i * i) % 7:Nat):Int):=by rw[GF,e7]
   refine⟨_,_,rfl,rfl,by rw[x9];omega,by rw[x9];omega,by show 1<=1000;decide,?_⟩;rw[x9,Ru];have oV:(repS "m" ((st+i * i) % 7)).length<=6:=by
    rw[L5];have:(ak.ofString "m").length=1:=rfl;rw[this];omega
   have j6:(signOf ((st+i) % 26)).length=1:=rfl;have xx:(Bd st aV i).length=i:=by unfold Bd;simp
   have tG:Bd st aV (i+1)=Bd st aV i++[Ig st aV i]:=by unfold Bd;rw[Pq,Ot];rfl
   have fz:∀m,m<=100000->m<=sizeLine:=λm h=>by rw[Ti];omega
   have fin:∀z:ak,Ig st aV i=z->Lu (.ref l) [.str z] H3 λ_ H4=>∃v1 v2 v3,[some (V.ref dr),some (.int n),some (.str Fs),some (.int st),some (.bl aV),some (.ref l),some (.int (0+(i:Int))),some (.str (signOf ((st+i) % 26))),some (.str (repS "m" ((st+i * i) % 7)))]=[some (.ref dr),some (.int n),some (.str Fs),some (.int st),some (.bl aV),some (.ref l),v1,v2,v3]/\H4 l=some (.lst ((Bd st aV (i+1)).map V.str))/\DrawOk H4 dr sc/\But dr H H4:=λz hz=>by
    refine⟨l,_,_,rfl,rfl,qI,by rw[Od,xx,Ti];omega,_,_,_,rfl,?_,d3.upd jK uJ,b3.upd nU⟩;rw[Ab,tG,Ot,<-hz];rfl
   refine⟨_,rfl,.inl ⟨rfl,_,SqL.of qI⟩,_,rfl,aV,rfl,?_⟩;refine A2 (λhL=>?_) (λhL=>?_)
   ·refine⟨_,rfl,_,rfl,_,_,rfl,rfl,fz _ (by show (repS "m" ((st+i * i) % 7)).length+1<=100000;omega),_,_,rfl,rfl,fz _ ?_,fin _ (by unfold Ig;rw[Tk hL];rfl)⟩;rw[Fl];show (repS "m" ((st+i * i) % 7)).length+1+1<=100000;omega
   ·exact⟨_,rfl,_,rfl,_,_,rfl,rfl,fz _ (by show 1+(repS "m" ((st+i * i) % 7)).length<=100000;omega),fin _ (by unfold Ig;rw[Tj (by rw[hL];decide)];rfl)⟩
  ·rintro Z H3 ⟨v1,v2,v3,rfl,qI,d3,b3⟩;exact⟨_,rfl,k l st aV H3 nU bD qI uJ d3 b3⟩
def Ob:FnScope NIs ["_law_draw", "_law_most"] (defScope sIsland):=by walk_at "s"
def Xq8{f:ae}{fd:au}(F:Fun K "_law_island" "_law_island" sIsland f fd)(T:Bl mg)(FP:FnPick P w K mg base)(FN:Fn P w K mg base CX0 2 "_law_names" ["_law_draw", "_law_many"] Xdi)
  (FR:Fn P w K mg base CX0 3 "_law_row" ["_law_draw", "_law_names_here"] spRowN):FnOk P w K mg base CX0 4 f fd ["_law_draw", "_law_most"] spIslandN:=by
 refine F.ok Ob (by walk_at "l") ?_
 ·walk_at "i"
  obtain⟨dr,sc,m,rfl,hm,dk,k⟩:=h;have cr:Room 1 _:=hr.mono (by decide);have fc:Room 2 _:=hr.mono (by decide);refine⟨_,Ag (Ap (i:=2) Ob.nd rfl (.inl rfl) (Ar Cb Ai (Ak FP cr rfl Am (Aa (pv 0) (Aa Ai Ac)))))
   (Ag (Ap (i:=3) Ob.nd rfl (.inl rfl) (A0 G6 (B0 (Aa (Ak FP cr rfl Am (Aa (pv 0) (Aa Ai Ac))) (Aa (pv 2) (Aa (Ak FP cr rfl Am (Aa (pv 0) (Aa (Ar Cb (pv 1) Ai) Ac))) Ac))))
    (Ak FP cr rfl Am (Aa (pv 0) (Aa Ai Ac))) (λ_ _=>rfl)))
   (Ah (Aq (Ak FR hr rfl Am (Aa (pv 0) (Aa (Ak FN fc rfl Am (Aa (pv 0) (Aa (A8 (Xhz rfl) (by rfl) T.min boot_min (Aa (pv 3) (Aa (pv 1) Ac))) Ac))) Ac)))))),?_⟩
  refine⟨_,rfl,dr,sc,5,rfl,by decide,by decide,dk,λr1 H1 zM _ d1 b1=>⟨_,_,rfl,rfl,?_⟩⟩;refine⟨_,rfl,dr,sc,5,rfl,by decide,by decide,d1,λr2 H2 zN _ d2 b2=>?_⟩;refine⟨_,rfl,_,rfl,_,rfl,_,_,rfl,rfl,dr,sc,_,rfl,by omega,by omega,d2,λr3 H3 GG _ d3 b3=>?_⟩;have b1:But dr H H1:=b1;have tH:But dr H H3:=But.trans b1 (But.trans b2 b3);refine⟨by show 3<=sizeLine;decide,λp np=>?_⟩;obtain⟨tI,ne2⟩:=d3.ne np;obtain⟨KM,xA⟩:=d3.at;have GH:=tH.free xA np;refine⟨_,rfl,dr,sc,3,rfl,by decide,by decide,d3.upd tI ne2,λr4 H4 GI KN d4 b4=>?_⟩;have b4:But dr (L2.upd H3 p (.tup [.int r2,.int (2+r1),.int r3])) H4:=b4;have GJ:=b4 p _ Ab tI;have qL:But dr H H4:=But.trans (tH.upd GH) b4;obtain⟨mm,xB,GK⟩:∃mm:Int,0<=mm/\atI ([.int r2,.int (2+r1),.int r3]:List V) r4=some (.int mm):=by
   obtain⟨i,rfl⟩:=P3 GI;have hi:i<3:=by omega
   match i,hi with
   | 0,_=>exact⟨r2,zN,rfl⟩
   | 1,_=>exact⟨2+r1,by omega,rfl⟩
   | 2,_=>exact⟨r3,GG,rfl⟩
  refine⟨p,_,_,_,rfl,rfl,SqT.of GJ,GK,?_⟩;obtain⟨n,hn,GL⟩:∃n:Nat,(if (m:Int)<mm then (m:Int) else mm)=(n:Int)/\n<=m:=by
   obtain⟨j,rfl⟩:=P3 xB;by_cases hj:(m:Int)<(j:Int)
   ·exact⟨m,Tk hj,Og _⟩
   ·exact⟨j,Tj hj,by omega⟩
  refine⟨_,rfl,_,rfl,_,rfl,_,rfl,_,_,rfl,?_⟩;rw[hn];refine⟨dr,sc,n,rfl,by omega,d4,λl st aV H5 nl bD iU uJ d5 b5=>?_⟩;obtain⟨GA,mI⟩:=d4.at;have jK:l≠dr:=(Av mI nl).symm;have zO:=But.trans qL b5;refine⟨dr,sc,l,_,rfl,d5,iU,jK,M3 bD (by omega),by unfold Bd;simp;omega,λl2 row H6 qM sZ hp fm d6 b6=>?_⟩;obtain⟨KO,xC⟩:=d5.at;exact k l2 row n st aV H6 (zO.free xC qM) GL bD sZ hp fm d6 (But.trans zO b6)
def G1:FnScope NBr ["_law_row_here"] (defScope s__law_bars):=by walk_at "s"
def Xq9{f:ae}{fd:au}(F:Fun K "_law_bars" "_law_bars" s__law_bars f fd)(T:Bl mg)(FW:Fn P w K mg base CX0 1 "_law_where" ["_law_row_here"] Mz)
  (FO:Fn P w K mg base CX0 1 "_law_word" ["_law_where_here", "_law_one_here", "_law_other"] spWord):FnOk P w K mg base CX0 2 f fd ["_law_row_here"] spBars:=by
 refine F.ok G1 (by walk_at "l") ?_
 ·walk_at "i"
  obtain⟨r,row,rfl,hR,R2,k⟩:=h;refine⟨_,Ag (Ap (i:=1) G1.nd rfl (.inl rfl) (Ak FW hr (by rfl) Am (Aa (pv 0) Ac)))
   (Ag (Ap (i:=2) G1.nd rfl (.inl rfl) (Bq Ac))
   (Ag (Ca aT.never rfl (Bp (A8 (Xco rfl) (by rfl) T.sorted (by rfl) (Aa (pv 1) Ac))) (Ax (i:=3) G1.nd rfl (.inl rfl))
    (Ah (Ca aT.never rfl (Bp (A8 (Xco rfl) (by rfl) T.sorted (by rfl) (Aa (pv 1) Ac))) (Ax (i:=4) G1.nd rfl (.inl rfl))
     (Ag (Ap (i:=5) G1.nd rfl (.inl rfl) (Ak FO hr (by rfl) Am (Aa (pv 1) (Aa (pv 3) (Aa (pv 4) Ac)))))
     (Ah (Bb (F3 (Aw B5 (pv 5) Bg (Az _)) (F2 (Fb (Aw B5 (pv 5) Bg (Az _)) (Fa (Aw Xas (pv 3) (pv 4) (Az _)))).pt)).pt
      (Ah (Ea (Hh PySem.F.plainAttrs_list PySem.F.slot_list_append PySem.F.type_list_append F7 (pv 2) (Aa (B0 (Aa (pv 3) (Aa (pv 4) (Aa (pv 5) Ac)))) Ac)))) Bc))))))
   (Ah (Aq (pv 2))))),?_⟩
  have oV:=R2.len;have fr:=Fo row;refine⟨_,rfl,r,row,rfl,hR,by omega,λd kvs H1 nd hd wh s1=>?_⟩;obtain⟨ss,j9,zP,zQ⟩:=wh.names;have j6:ss.length<=60:=by
   have h1:=congrArg List.length j9;rw[Od,Od] at h1;have:=wh.len;omega
  refine⟨by show 0<=sizeLine;decide,λu nu=>?_⟩;refine⟨_,rfl,d,kvs,ss,rfl,.inl (ku hd nu),j9,by omega,λsn ls xD px GM=>?_⟩;rw[Xcu px GM zP zQ];have GN:∀{xs:List V},upd (upd H1 u (.lst [])) sn (.lst xs) u=some (.lst []):=λ{xs}=>ku Ab xD;have s2:Same H1 (upd (upd H1 u (.lst [])) sn (.lst ((dit row).map V.str))):=((Same.refl H1).step nu).step xD;have pH:upd (upd H1 u (.lst [])) sn (.lst ((dit row).map V.str)) sn=some (.lst ((dit row).map V.str)):=Ab;have GO:sn≠u:=(Av (H:=upd H1 u (.lst [])) Ab xD).symm;have nK:upd (upd H1 u (.lst [])) sn (.lst ((dit row).map V.str)) u=some (.lst []):=GN;generalize upd (upd H1 u (.lst [])) sn (.lst ((dit row).map V.str))=H2 at s2 pH nK;have GP:∀(i j:Nat),i<=60->∀x,((Dd row i++C3 row x ((dit row).take j)).map trD).length<=5000:=λi j hi x=>by
   rw[Od,Oh];have h1:=Xl6 row i;have h2:=Xdx row x ((dit row).take j);rw[O0] at h2;have h3:i * (dit row).length<=60 * 60:=Sy hi (by omega);omega
  have gm:∀b o,H1 b=some o->hid u H2 b=some o:=λb o e=>Cz (s2 _ _ e) (Av e nu);refine⟨sn,rfl,⟨_,SqL.of pH⟩,?_⟩;refine Dh (K:=K) (a:=sn) (xs:=(dit row).map V.str) (λi Z H9=>∃v3 v4 v5, Z=[some (.ref r),some (.ref d),some (.ref u),v3,v4,v5]/\Same (hid u H2) H9/\∃xs,H9 u=some (.lst xs)/\DAll (hid u H9) ((Dd row i).map trD) xs) ?_ ?_ ?_ ?_
  ·exact⟨none,none,none,rfl,Fq u H2,[],nK,Dn⟩
  ·rintro i Z H9 _ ⟨v3,v4,v5,rfl,s9,_⟩;exact SqL.of (s9 _ _ (Cz pH GO))
  ·rintro i y Z H9 hi ⟨v3,v4,v5,rfl,s9,xs,uK,cU⟩;have fE:i<(dit row).length:=by
    have:=(Oz.mp hi).1
    rwa [Od] at this
   obtain⟨x,rfl,hx⟩:∃x,y=V.str x/\(dit row).getD i ak.empty=x:=by
    rw[Ov,Oe fE] at hi;exact⟨_,(Ox hi).symm,by simp[List.getD,fE]⟩
   have h9:x∈row:=An.mp (by rw[<-hx];exact Cv fE);refine⟨_,rfl,d,kvs,ss,rfl,.inl (s9 _ _ (gm _ _ hd)),j9,by omega,λpI KP tJ lK vI=>?_⟩;rw[Xcu lK vI zP zQ];have uL:Same H9 (upd H9 pI (.lst ((dit row).map V.str))):=(Same.refl H9).step tJ;have kN:upd H9 pI (.lst ((dit row).map V.str)) pI=some (.lst ((dit row).map V.str)):=Ab;have xE:pI≠u:=(Av uK tJ).symm;generalize upd H9 pI (.lst ((dit row).map V.str))=uM at uL kN;have tK:=DAll.same (Ia (D:=u) uL) _ _ cU;have xF:=uL _ _ uK;have zR:=s9.trans uL;refine⟨pI,rfl,⟨_,SqL.of kN⟩,?_⟩;refine Dh (K:=K) (a:=pI) (xs:=(dit row).map V.str) (λj Z pJ=>∃v4 v5, Z=[some (.ref r),some (.ref d),some (.ref u),some (.str x),v4,v5]/\Same (hid u uM) pJ/\∃xs,pJ u=some (.lst xs)/\DAll (hid u pJ) ((Dd row i++C3 row x ((dit row).take j)).map trD) xs) ?_ ?_ ?_ ?_
   ·exact⟨v4,v5,rfl,Fq u uM,xs,xF,by simpa [C3] using tK⟩
   ·rintro j Z pJ _ ⟨v4,v5,rfl,qN,_⟩;exact SqL.of (qN _ _ (Cz kN xE))
   ·rintro j z Z pJ hj ⟨v4,v5,rfl,qN,xs,pL,iW⟩;have uN:j<(dit row).length:=by
     have:=(Oz.mp hj).1
     rwa [Od] at this
    obtain⟨y,rfl,hy⟩:∃x,z=V.str x/\(dit row).getD j ak.empty=x:=by
     rw[Ov,Oe uN] at hj;exact⟨_,(Ox hj).symm,by simp[List.getD,uN]⟩
    have oE:y∈row:=An.mp (by rw[<-hy];exact Cv uN);have c1:=R2.two x h9;have c2:=R2.two y oE;have bb:∀b o,H1 b=some o->pJ b=some o:=λb o e=>qN _ _ (Cz (zR _ _ (gm b o e)) (Av e nu));obtain⟨l1,e1,g1⟩:=wh.two' h9 c1;obtain⟨l2,e2,g2⟩:=wh.two' oE c2;refine⟨_,rfl,_,rfl,_,rfl,d,l1,l2,kvs,x,y,_,_,_,_,rfl,.inl (bb _ _ hd),e1,e2,bb _ _ g1,bb _ _ g2,λtL fe=>?_⟩;rw[<-Gj c1 c2];have mJ:=fe _ _ pL;have kO:=DAll.same (Ia (D:=u) fe) _ _ iW;have jJ:=qN.trans fe;have jd:=Xl5 row x uN;rw[hy] at jd;have stay:Cw row x y=false->∃v4 v5,[some (V.ref r),some (.ref d),some (.ref u),some (.str x),some (.str y),some (.str (lieR row x y))]=[some (.ref r),some (.ref d),some (.ref u),some (.str x),v4,v5]/\Same (hid u uM) tL/\∃xs,tL u=some (.lst xs)/\DAll (hid u tL) ((Dd row i++C3 row x ((dit row).take (j+1))).map trD) xs:=λhk=>by
     refine⟨_,_,rfl,jJ,xs,mJ,?_⟩;rw[jd,hk,Tj Ow,Pm];exact kO
    have app:Cw row x y=true->Xad (tBM K "list" Lu (C7 2) (Er (Ll (Er (C7 3) (Er (C7 4) (Er (C7 5) Fe)))) Fe)) {nx:=fun Z H=>∃v4 v5, Z=[some (.ref r),some (.ref d),some (.ref u),some (.str x),v4,v5]/\Same (hid u uM) H/\∃xs,H u=some (.lst xs)/\DAll (hid u H) ((Dd row i++C3 row x ((dit row).take (j+1))).map trD) xs,rt:=Q} [some (V.ref r),some (.ref d),some (.ref u),some (.str x),some (.str y),some (.str (lieR row x y))] tL:=λhk=>by
     refine⟨_,rfl,.inl ⟨rfl,_,SqL.of mJ⟩,_,rfl,_,rfl,_,rfl,by show 3<=sizeLine;decide,λp np=>?_⟩;have qE:xs.length<=5000:=by
      rw[Gf kO];exact GP i j (by omega) x
     refine⟨u,_,_,rfl,rfl,ku mJ np,by rw[Ti];omega,?_⟩;refine⟨_,_,rfl,?_,xs++[.ref p],Ab,?_⟩
     ·intro b o e;have nb:b≠u:=λz=>by rw[z] at e;unfold hid at e;rw[Tk rfl] at e;cases e
      rw[Ae nb,Ae (Av (jJ _ _ e) np)];exact jJ _ _ e
     ·rw[Xc8,jd,hk,Tk rfl,<-O7,Ot];refine J4 (DAll.same (Ia (D:=u) ((Same.refl tL).step np)) _ _ kO) ?_;exact Xc9 mJ np (Ml [x,y,lieR row x y])
    refine⟨_,rfl,rfl,_,rfl,?_⟩;rw[Ft];refine A2 (λq1=>?_) (λq1=>?_)
    ·exact B3 (app (by unfold Cw;rw[q1];rfl))
    ·refine⟨_,rfl,rfl,_,rfl,?_⟩;rw[Ft];refine A2 (λq2=>?_) (λq2=>?_)
     ·refine⟨_,rfl,_,rfl,_,_,rfl,rfl,_,rfl,?_⟩;refine A2 (λq3=>?_) (λq3=>?_)
      ·refine app ?_;unfold Cw;have xG:decide (ltS x y)=true:=q3;rw[q2,xG,R7,Tc]
      ·refine stay ?_;unfold Cw;have xG:decide (ltS x y)=false:=q3;rw[q1,xG,Sz,Ta]
     ·refine Bn (stay ?_);unfold Cw;rw[q1,q2,P6,Ta]
   ·rintro Z pJ ⟨v4,v5,rfl,qN,xs,pL,iW⟩;rw[Od,P4] at iW;refine⟨_,_,_,rfl,λb o e=>?_,xs,pL,?_⟩
    ·have nb:b≠u:=λz=>by rw[z] at e;unfold hid at e;rw[Tk rfl] at e;cases e
     exact qN _ _ (Cz (zR _ _ e) nb)
    ·rw[Xl4 row fE,hx];exact iW
  ·rintro Z H9 ⟨v3,v4,v5,rfl,s9,xs,uK,cU⟩;rw[Od,Xl3] at cU;refine⟨_,rfl,k u xs H9 (s1.free nu) uK (DAll.same (Fq u H9) _ _ cU) (λb o e=>s9 _ _ (gm _ _ (s1 _ _ e)))⟩
def K6:FnScope NFi ["_law_bars_here", "_law_plot"] (defScope s__law_fits):=by walk_at "s"
def Xra{f:ae}{fd:au}(F:Fun K "_law_fits" "_law_fits" s__law_fits f fd):FnOk P w K mg base CX0 1 f fd ["_law_bars_here", "_law_plot"] spFits:=by
 refine F.ok K6 (by walk_at "l") ?_
 ·walk_at "i"
  obtain⟨b,p,xs,bs,ss,rfl,hB,cU,hP,k⟩:=h;refine⟨_,Ag (Ca aT.never rfl (Bp (pv 0)) (Xah (n:=3) rfl (Ck (Ax (i:=2) K6.nd rfl (.inl rfl)) (Ck (Ax (i:=3) K6.nd rfl (.inl rfl)) (Ck (Ax (i:=4) K6.nd rfl (.inl rfl)) F4))))
    (Ah (Bb (Fb (Aw Ls (pv 2) (pv 1) (by rfl)) (Fa (Aw G5 (Ep Ls (pv 3) (pv 1) (by rfl)) (Ep B5 (pv 4) Bg (Az _)) (Az _)))).pt (Ah (Aq Dw)) Bc)))
   (Ah (Aq Dw)),?_⟩
  refine⟨_,rfl,b,rfl,⟨_,SqL.of hB⟩,?_⟩;have qE:xs.length=bs.length:=by rw[Gf cU,Od]
  refine Dh (K:=K) (a:=b) (xs:=xs) (λi Z H2=>∃v2 v3 v4, Z=[some (.ref b),some (.ref p),v2,v3,v4]/\Same H H2/\C0 (bs.take i) ss=true) ?_ ?_ ?_ ?_
  ·exact⟨none,none,none,rfl,Same.refl H,rfl⟩
  ·rintro i Z H2 _ ⟨v2,v3,v4,rfl,s2,_⟩;exact SqL.of (s2 _ _ hB)
  ·rintro i y Z H2 hi ⟨v2,v3,v4,rfl,s2,hf⟩;have fE:i<xs.length:=(Oz.mp hi).1;have zS:i<bs.length:=by omega
   obtain⟨v,hv,dv⟩:=Mj cU (show (bs.map trD)[i]? = some (trD bs[i]) by rw[Ov,Oe zS];rfl);rw[hi] at hv;cases hv;obtain⟨q,rfl,hq⟩:=Xl2 dv;have gh:bs.take (i+1)=bs.take i++[bs[i]]:=O3 zS;generalize bs[i]=t at *;have mo:C0 (bs.take (i+1)) ss = !(decide (t.1∈ss) && !decide (decide (t.2.1∈ss)=decide (t.2.2 = "within"))):=by
    rw[gh];unfold C0 at hf ⊢;rw[List.all_append,hf,P8];simp
   have xH:(decide (t.1∈ss) && !decide (decide (t.2.1∈ss)=decide (t.2.2 = "within")))=true->C0 bs ss=false:=λhb=>by
    rw[Rv];intro z;have hz:C0 (bs.take (i+1)) ss=true:=by
     unfold C0 at z ⊢;rw[O8] at z ⊢;exact λx hx=>z x (Pp hx)
    rw[mo,hb] at hz;cases hz
   refine⟨q,_,rfl,SqT.of (s2 _ _ hq),rfl,_,_,rfl,_,_,rfl,_,_,rfl,rfl,?_⟩;refine⟨_,rfl,_,rfl,p,_,rfl,.inr (SqT.of (s2 _ _ hP)),rfl,C9 ss,_,rfl,?_⟩;rw[Tj (by decide),C8];refine A2 (λq1=>?_) (λq1=>?_)
   ·refine⟨_,rfl,_,rfl,p,_,rfl,.inr (SqT.of (s2 _ _ hP)),rfl,C9 ss,_,rfl,rfl,rfl,_,rfl,?_⟩;rw[Tj (by decide),C8,Ft];have eb:(!decide (V.bl (decide (t.2.1∈ss))=V.bl (decide (t.2.2 = "within")))) = !decide (decide (t.2.1∈ss)=decide (t.2.2 = "within")):=by
     congr 1;rw[Qj,decide_eq_true_eq,decide_eq_true_eq];exact⟨λz=>by injection z,λz=>by rw[z]⟩
    rw[eb];refine A2 (λq2=>?_) (λq2=>?_)
    ·have:=k H2 s2;rw[xH (by rw[q1,q2];rfl)] at this;exact this
    ·exact⟨_,_,_,rfl,s2,by rw[mo,q1,q2];rfl⟩
   ·exact Bn ⟨_,_,_,rfl,s2,by rw[mo,q1];rfl⟩
  ·rintro Z H2 ⟨v2,v3,v4,rfl,s2,hf⟩;rw[qE,P4] at hf;have:=k H2 s2;rw[hf] at this;exact this
def C5:FnScope NPl ["_law_row_here"] (defScope s__law_plots):=by walk_at "s"
def Xrb{f:ae}{fd:au}(F:Fun K "_law_plots" "_law_plots" s__law_plots f fd)(T:Bl mg)(tM:Fn P w K mg base CX0 1 "_law_fits" ["_law_bars_here", "_law_plot"] spFits)
  (tN:Fn P w K mg base CX0 2 "_law_bars" ["_law_row_here"] spBars):FnOk P w K mg base CX0 3 f fd ["_law_row_here"] spPlots:=by
 refine F.ok C5 (by walk_at "l") ?_
 ·walk_at "i"
  obtain⟨r,row,rfl,hR,R2,h3,mC,k⟩:=h;have GQ:_+4<bu:=R1 (Nat.add_le_add_left (by decide:4<=64) _) hr.units;have cr:Room 1 _:=hr.mono (by decide);have fc:Room 2 _:=hr.mono (by decide);refine⟨_,Ag (Ap (i:=1) C5.nd rfl (.inl rfl) (Ak tN fc (by rfl) Am (Aa (pv 0) Ac)))
   (Ag (Ap (i:=2) C5.nd rfl (.inl rfl) (Nb (i:=0) rfl (by rfl) T.sorted (by rfl) T.set (pv 0)))
   (Ag (Ap (i:=3) C5.nd rfl (.inl rfl) (Bq (Aa (B0 Ac) Ac)))
   (Ag (Ap (i:=4) C5.nd rfl (.inl rfl) (Bq (Aa (B0 Ac) Ac)))
   (Ag (Ca aT.never rfl (Jh rfl T.range (Aa (A8 Cr (by rfl) T.len bG (Aa (pv 2) Ac)) Ac)) (Ax (i:=5) C5.nd rfl (.inl rfl))
    (Ag (Ap (i:=6) C5.nd rfl (.inl rfl) (Bq Ac))
    (Ag (Ca aT.never rfl (Bp (pv 4)) (Ax (i:=7) C5.nd rfl (.inl rfl))
     (Ah (Ca aT.never rfl (Bp (pv 2)) (Ax (i:=8) C5.nd rfl (.inl rfl))
      (Ag (Ap (i:=9) C5.nd rfl (.inl rfl) (B1 Hg (by rfl) T.tuple (by rfl) (Aa (A8 Xmp (by rfl) T.sorted (by rfl) (Aa (Ar Ib (pv 7) (B0 (Aa (pv 8) Ac))) Ac)) Ac)))
      (Ah (Bb (Fb (Aw Jm (pv 8) (pv 7) (by rfl)) (Fa (Aw (Xmq GQ) (pv 9) (pv 6) (by rfl)))).pt
       (Ah (Ap (i:=6) C5.nd rfl (.inl rfl) (Ar B2 (pv 6) (Ar Xbf (Bq (Aa (pv 9) Ac)) (B1 Xav (by rfl) T.int (by rfl) (Aa (Ak tM cr (by rfl) Am (Aa (pv 1) (Aa (pv 9) Ac))) Ac))))))
       Bc))))))
    (Ag (Ap (i:=4) C5.nd rfl (.inl rfl) (A8 Xmo (by rfl) T.sorted (by rfl) (Aa (pv 6) Ac)))
    (Ah (Ap (i:=3) C5.nd rfl (.inl rfl) (Ar B2 (pv 3) (pv 4))))))))
   (Ah (Aq (pv 3))))))),?_⟩
  have oV:=R2.len;have fr:=Fo row;refine⟨_,rfl,r,row,rfl,hR,R2,λb xs0 H1 nb hb bT s1=>?_⟩;refine⟨_,rfl,r,row,rfl,.inl (SqL.of (s1 _ _ hR)),R2.len,λnl H2 nn xI s2=>?_⟩;have vz:=s2 _ _ hb;have tO:=DAll.same s2 _ _ bT;have fe:=s1.trans s2;refine⟨by show 0<=sizeLine;decide,λe1 tI=>?_⟩;refine⟨by show 1<=sizeLine;decide,λuO pO=>?_⟩;refine⟨by show 0<=sizeLine;decide,λe2 ne2=>?_⟩;refine⟨by show 1<=sizeLine;decide,λxJ mK=>?_⟩;generalize qO:upd (upd (upd (upd H2 e1 (.tup [])) uO (.lst [.ref e1])) e2 (.tup [])) xJ (.lst [.ref e2])=H3;have f1:Same H2 H3:=by
   rw[<-qO];exact((((Same.refl H2).step tI).step pO).step ne2).step mK
  have GR:H3 uO=some (.lst ([e1].map V.ref)):=by
   rw[<-qO];exact ku (ku Ab ne2) mK
  have GS:H3 xJ=some (.lst ([e2].map V.ref)):=by
   rw[<-qO];exact Ab
  have nO:Plts row H3 [e1]:=λp hp=>by
   rw[Oj.mp hp];exact⟨[],by rw[<-qO];exact ku (ku (ku Ab pO) ne2) mK,Nj row⟩
  have jG:Plts row H3 [e2]:=λp hp=>by
   rw[Oj.mp hp];exact⟨[],by rw[<-qO];exact ku Ab mK,Nj row⟩
  have GT:H uO=none:=fe.free (((Same.refl H2).step tI).free pO);clear qO;have tP:=f1 _ _ xI;refine⟨_,rfl,nl,_,rfl,.inl (SqL.of tP),(((dit row).map V.str).length:Int),rfl,by omega,by rw[Od];omega,?_⟩;have GU:(((dit row).map V.str).length:Int).toNat=(dit row).length:=by rw[Od];simp
  rw[GU];refine Jj (lo:=0) (n:=(dit row).length) (λi Z H4=>∃(v5 v6 v7 v8 v9:Option V) (tl ly:ae) (ps qs:List ae), Z=[some (.ref r),some (.ref b),some (.ref nl),some (.ref tl),some (.ref ly),v5,v6,v7,v8,v9]/\Same H3 H4/\H tl=none/\H4 tl=some (.lst (ps.map V.ref))/\H4 ly=some (.lst (qs.map V.ref))/\ps≠[]/\ps.length<=1+63 * i/\Plts row H4 ps/\Plts row H4 qs) ?_ ?_ ?_
  ·exact⟨_,_,_,_,_,uO,xJ,[e1],[e2],rfl,Same.refl _,GT,GR,GS,by simp,by simp,nO,jG⟩
  ·rintro i Z H4 hi ⟨v5,v6,v7,v8,v9,tl,ly,ps,qs,rfl,s4,zT,ja,xK,fo,bL,tQ,zU⟩;refine⟨by show 0<=sizeLine;decide,λf0 GV=>?_⟩;have g1:Same H4 (upd H4 f0 (.lst [])):=(Same.refl H4).step GV;have ux:Fresh row (upd H4 f0 (.lst [])) f0 [] []:=⟨Ab,rfl,.nil,λ_ h=>by cases h⟩;generalize upd H4 f0 (.lst [])=H5 at g1 ux;have tR:=s4.trans g1;have zV:=tR _ _ tP;have GW:=tR _ _ (f1 _ _ vz);have GX:=DAll.same tR _ _ (DAll.same f1 _ _ tO);have GY:=zU.same g1;refine⟨_,rfl,ly,rfl,⟨_,SqL.of (g1 _ _ xK)⟩,?_⟩;refine Dh (K:=K) (a:=ly) (xs:=qs.map V.ref) (λj Z H6=>∃(v7 v8 v9:Option V) (f:ae) (xs:List V) (Ts:List (Za)), Z=[some (.ref r),some (.ref b),some (.ref nl),some (.ref tl),some (.ref ly),some (.int (0+(i:Int))),some (.ref f),v7,v8,v9]/\Same H5 H6/\Fresh row H6 f xs Ts) ?_ ?_ ?_ ?_
   ·exact⟨_,_,_,f0,[],[],rfl,Same.refl _,ux⟩
   ·rintro j Z H6 _ ⟨v7,v8,v9,f,xs,Ts,rfl,s6,hf⟩;exact SqL.of (s6 _ _ (g1 _ _ xK))
   ·rintro j y Z H6 hj ⟨v7,v8,v9,f,xs,Ts,rfl,s6,hf⟩;obtain⟨q,rfl,hq⟩:∃q,y=V.ref q/\q∈qs:=by
     rw[Ov] at hj;cases z:qs[j]? with
     | none=>rw[z] at hj;cases hj
     | some q=>rw[z] at hj;exact⟨q,(Ox hj).symm,Qn z⟩
    obtain⟨ss,zW,xL⟩:=GY q hq;have GZ:=El xL;obtain⟨HC,HE⟩:=Bj xL;refine⟨_,rfl,nl,rfl,⟨_,SqL.of (s6 _ _ zV)⟩,?_⟩;refine Dh (K:=K) (a:=nl) (xs:=(dit row).map V.str) (λm Z H7=>∃(v8 v9:Option V) (f:ae) (xs:List V) (Ts:List (Za)), Z=[some (.ref r),some (.ref b),some (.ref nl),some (.ref tl),some (.ref ly),some (.int (0+(i:Int))),some (.ref f),some (.ref q),v8,v9]/\Same H5 H7/\Fresh row H7 f xs Ts) ?_ ?_ ?_ ?_
    ·exact⟨_,_,f,xs,Ts,rfl,s6,hf⟩
    ·rintro m Z H7 _ ⟨v8,v9,f,xs,Ts,rfl,s7,hf⟩;exact SqL.of (s7 _ _ zV)
    ·rintro m y Z H7 hm ⟨v8,v9,f,xs,Ts,rfl,s7,hf⟩;obtain⟨x,rfl,hx⟩:∃x,y=V.str x/\x∈row:=by
      rw[Ov] at hm;cases z:(dit row)[m]? with
      | none=>rw[z] at hm;cases hm
      | some x=>rw[z] at hm;exact⟨x,(Ox hm).symm,An.mp (Qn z)⟩
     refine⟨_,rfl,_,rfl,by show 1<=sizeLine;decide,λt1 zX=>?_⟩;have s8:Same H5 (upd H7 t1 (.tup [.str x])):=s7.step zX;have HF:Same H7 (upd H7 t1 (.tup [.str x])):=(Same.refl H7).step zX;refine⟨q,t1,_,_,rfl,rfl,s8 _ _ zW,Ab,by rw[Od,Ti];show ss.length+1<=_;omega,λp1 H9 s9 px=>?_⟩;have xM:H9 p1=some (.tup ((ss++[x]).map V.str)):=by rw[px,Ot];rfl
     refine⟨p1,_,rfl,xM,by rw[Oh];show ss.length+1<64;omega,λl2 qM=>?_⟩;refine⟨l2,_,rfl,.inl ⟨SqL.of Ab,λov HG=>?_⟩⟩;have k7:Same H7 (upd (upd H9 l2 (.lst ((srt (ss++[x])).map V.str))) ov (.tup ((srt (ss++[x])).map V.str))):=((HF.trans s9).step qM).step HG;have uP:upd (upd H9 l2 (.lst ((srt (ss++[x])).map V.str))) ov (.tup ((srt (ss++[x])).map V.str)) ov=some (.tup ((srt (ss++[x])).map V.str)):=Ab;generalize upd (upd H9 l2 (.lst ((srt (ss++[x])).map V.str))) ov (.tup ((srt (ss++[x])).map V.str))=HA at k7 uP;have pQ:=s7.trans k7;have mL:=hf.same k7;have xN:∀y∈srt (ss++[x]),okN y:=λy hy=>by
      rcases Oq.mp (Fm.mp hy) with z | z
      ·exact R2.ok y (HC y z)
      ·rw[Oj.mp z];exact R2.ok x hx
     have HH:∀T∈Ts,∀y∈T,okN y:=λT hT y hy=>R2.ok y ((Bj (hf.ok T hT).2).1 y hy);have HI:ar.depth (tupD (srt (ss++[x])))<=3:=by
      have:=Ii (srt (ss++[x])) (srt (ss++[x]))
      rwa [Td] at this
     have KQ:xs.length=Ts.length:=by rw[Gf mL.all,Od]
     have aZ:=Xd9 R2.two h3 mC hf.nd hf.ok;dsimp only[A7];refine⟨_,rfl,_,rfl,q,_,rfl,.inr (SqT.of (pQ _ _ zW)),rfl,C9 ss,_,rfl,?_⟩;rw[Tk rfl,C8];refine A2 (λhc=>?_) (λhc=>Bn ⟨_,_,f,xs,Ts,rfl,pQ,mL⟩);have iQ:x∉ss:=by simpa using hc
     refine⟨_,rfl,_,rfl,tupD (srt (ss++[x])),Ts.map tupD,Dc uP,Mn mL.at' mL.all,Da _ (C2 xN),J5 _ (plainAll_map tupD Ts λT hT=>C2 (HH T hT)),HI,_,rfl,?_⟩;refine A2 (λhd=>?_) (λhd=>⟨_,_,f,xs,Ts,rfl,pQ,mL⟩);have jS:srt (ss++[x])∉Ts:=λhm=>by
      have:((Ts.map tupD).any λe=>ar.eqv e (tupD (srt (ss++[x]))))=true:=by
       rw[Rk];refine⟨_,Pa.mpr ⟨_,hm,rfl⟩,?_⟩;show ar.eqv (.tuple _) (.tuple _)=true;rw[Ij xN xN];exact Tl rfl
      rw[this] at hd;exact absurd hd (by decide)
     refine⟨_,rfl,_,rfl,by show 1<=sizeLine;decide,λc nc=>?_⟩;have kA:Same HA (upd HA c (.lst [.ref ov])):=(Same.refl HA).step nc;refine⟨_,rfl,_,rfl,b,ov,xs0,bars row,srt (ss++[x]),rfl,kA _ _ (pQ _ _ GW),DAll.same kA _ _ (DAll.same pQ _ _ GX),kA _ _ uP,λHB sB=>?_⟩;have zY:=sB _ _ (show upd HA c (.lst [.ref ov]) c=_ from Ab);refine .inr ⟨_,rfl,?_⟩;cases oq:C0 (bars row) (srt (ss++[x])) with
     | false=>
      refine⟨c,_,_,rfl,rfl,zY,by simp,by simp,by simp,λc2 xO=>?_⟩;have e0:(if True then (List.replicate ((if (false:Bool)=true then (1:Int) else 0)).toNat [V.ref ov]).flatten else ([]:List V))=[]:=by simp
      have kB:Same HA (upd HB c2 (.lst [])):=(kA.trans sB).step xO;refine⟨f,c2,xs,[],rfl,rfl,kB _ _ mL.at',Ab,by rw[Ti];simp;omega,λg ng=>?_⟩;have kC:Same HA (upd (upd HB c2 (.lst [])) g (.lst (xs++[]))):=kB.step ng;refine⟨_,_,g,xs++[],Ts,rfl,pQ.trans kC,⟨Ab,?_,hf.nd,hf.ok⟩⟩;exact(congrArg (DAll _ _) (Pm xs)).mpr (DAll.same kC _ _ mL.all)
     | true=>
      refine⟨c,_,_,rfl,rfl,zY,by simp,by simp,by show 1 * 1<=sizeLine;decide,λc2 xO=>?_⟩;have kB:Same HA (upd HB c2 (.lst [V.ref ov])):=(kA.trans sB).step xO;refine⟨f,c2,xs,[V.ref ov],rfl,rfl,kB _ _ mL.at',Ab,by rw[Ti];simp;omega,λg ng=>?_⟩;have kC:Same HA (upd (upd HB c2 (.lst [V.ref ov])) g (.lst (xs++[V.ref ov]))):=kB.step ng;refine⟨_,_,g,xs++[V.ref ov],Ts++[srt (ss++[x])],rfl,pQ.trans kC,⟨Ab,?_,?_,?_⟩⟩
      ·rw[Ot];exact J4 (DAll.same kC _ _ mL.all) (Dc (kC _ _ uP))
      ·rw[Qe];exact⟨hf.nd,by simp,λa ha b hb e=>jS (by rw[Oj.mp hb] at e;exact e ▸ ha)⟩
      ·intro T hT;rcases Oq.mp hT with z | z
       ·exact hf.ok T z
       ·rw[Oj.mp z];exact⟨Xms,Xmr R2.two xL hx iQ oq⟩
    ·rintro Z H7 ⟨v8,v9,f,xs,Ts,rfl,s7,hf⟩;exact⟨_,_,_,f,xs,Ts,rfl,s7,hf⟩
   ·rintro Z H6 ⟨v7,v8,v9,f,xs,Ts,rfl,s6,hf⟩;have aZ:=Xd9 R2.two h3 mC hf.nd hf.ok;obtain⟨fs,rfl,oy,mo⟩:=Xef hf.all;refine⟨_,rfl,f,fs,rfl,hf.at',λp hp=>?_,by omega,λpR fZ xP nj=>?_⟩
    ·obtain⟨T,hT,xQ⟩:=mo p hp;exact⟨T,xQ,(hf.ok T hT).1⟩
    have g6:Same H6 (upd H6 pR (.lst (fZ.map V.ref))):=(Same.refl H6).step xP;have pS:=(g1.trans s6).trans g6;have xR:Plts row (upd H6 pR (.lst (fZ.map V.ref))) fZ:=λp hp=>by
     obtain⟨T,hT,xQ⟩:=mo p (nj.mem_iff.mp hp);exact⟨T,g6 _ _ xQ,(hf.ok T hT).2⟩
    have pT:upd H6 pR (.lst (fZ.map V.ref)) pR=some (.lst (fZ.map V.ref)):=Ab;generalize upd H6 pR (.lst (fZ.map V.ref))=H8 at g6 pS xR pT;have HJ:=nj.length_eq;refine⟨_,rfl,_,rfl,tl,pR,_,_,rfl,rfl,pS _ _ ja,pT,by rw[Od,Od,Ti];omega,λuQ tS=>?_⟩;have g8:Same H8 (upd H8 uQ (.lst (ps.map V.ref++fZ.map V.ref))):=(Same.refl H8).step tS;have e8:upd H8 uQ (.lst (ps.map V.ref++fZ.map V.ref)) uQ=some (.lst ((ps++fZ).map V.ref)):=by rw[Ab,Ot]
    refine⟨_,_,_,_,_,uQ,pR,ps++fZ,fZ,rfl,(s4.trans pS).trans g8,?_,e8,g8 _ _ pT,by simp[fo],by rw[Oh];omega,λp hp=>?_,xR.same g8⟩
    ·exact fe.free (f1.free (s4.free (pS.free tS)))
    ·rcases Oq.mp hp with z | z
     ·exact(tQ.same (pS.trans g8)) p z
     ·exact(xR.same g8) p z
  ·rintro Z H4 ⟨v5,v6,v7,v8,v9,tl,ly,ps,qs,rfl,s4,zT,ja,xK,fo,bL,tQ,zU⟩;exact⟨_,rfl,k tl ps H4 zT ja fo (by omega) tQ ((fe.trans f1).trans s4)⟩
def Xrc:FnScope ["_law_draw", "_law_some"] ["_law_draw", "_law_some"] (defScope s__law_one):=by walk_at "s"
def Xrd{f:ae}{fd:au}(F:Fun K "_law_one" "_law_one" s__law_one f fd)(T:Bl mg)(FP:FnPick P w K mg base):FnOk P w K mg base CX0 2 f fd ["_law_draw", "_law_some"] Xem:=by
 refine F.ok Xrc (by walk_at "l") ?_
 ·walk_at "i"
  obtain⟨dr,sc,l,xs,rfl,d,hl,jK,h0,h1,k⟩:=h;have cr:Room 1 _:=hr.mono (by decide);refine⟨_,Ah (Aq (A0 Bf (pv 1) (Ak FP cr (by rfl) Am (Aa (pv 0) (Aa (A8 Cr (by rfl) T.len bG (Aa (pv 1) Ac)) Ac))) (λ_ _=>rfl))),?_⟩;refine⟨_,rfl,_,rfl,_,rfl,l,_,rfl,.inl (SqL.of hl),dr,sc,_,rfl,by omega,by omega,d,λgi H4 g0 g1 d4 b4=>?_⟩;have b4:But dr H H4:=b4;obtain⟨gi,rfl⟩:=P3 g0;have xS:gi<xs.length:=by omega
  have hV:atI xs (gi:Int)=some (xs.getD gi .non):=Ff (by rw[Oe xS];simp[List.getD,xS]);exact⟨l,_,_,_,rfl,rfl,SqL.of (b4 _ _ hl jK),hV,k gi H4 xS d4 b4⟩
def Xre:FnScope ["_law_row_here"] ["_law_row_here"] (defScope s__law_stranger):=by walk_at "s"
def Xrf{f:ae}{fd:au}(F:Fun K "_law_stranger" "_law_stranger" s__law_stranger f fd):FnOk P w K mg base CX0 1 f fd ["_law_row_here"] M6:=by
 refine F.ok Xre (by walk_at "l") ?_
 ·walk_at "i"
  obtain⟨r,row,rfl,hR,hl,k⟩:=h;have hu:=Ct hr;refine⟨_,Ah (Aq (Jf (Aw (L4 (Rw hu)) (pv 0) (Bq Ac) (Az _))
   (Ar Jl (Cd Xkk (A0 Bf (pv 0) Ai (λ_ _=>rfl)) Cp (B6 Ai)) Bg) Bg)),?_⟩
  refine⟨_,rfl,by show 0<=sizeLine;decide,λp np=>?_⟩;have s1:Same H (upd H p (.lst [])):=(Same.refl H).step np;refine⟨r,p,_,_,rfl,rfl,SqL.of (s1 _ _ hR),SqL.of Ab,E1 row,by simp,_,rfl,?_⟩;have e:B4 (row.map V.str) []=decide (row=[]):=Hl row [];rw[e];cases row with
  | nil=>exact k _ s1
  | cons y r'=>
   refine B3 ?_;refine⟨_,rfl,r,_,_,_,rfl,rfl,SqL.of (s1 _ _ hR),(show atI ((y::r').map V.str) ((0:Nat):Int)=some (.str y) from Ff rfl),_,rfl,y,rfl,rfl,⟨_,rfl⟩,by have:=hl y Op;omega,?_⟩;refine⟨_,_,rfl,rfl,?_,k _ s1⟩;have h1:=Txt.slice_le y none (some 7);have h2:=hl y Op;have h3:(ak.ofString "q").length=1:=rfl;rw[Ti,h3];omega
def Xrg:FnScope NFl ["_law_plot", "_law_name"] (defScope s__law_flip):=by walk_at "s"
def Xrh{f:ae}{fd:au}(F:Fun K "_law_flip" "_law_flip" s__law_flip f fd)(T:Bl mg):FnOk P w K mg base CX0 1 f fd ["_law_plot", "_law_name"] spFlip:=by
 refine F.ok Xrg (by walk_at "l") ?_
 ·walk_at "i"
  obtain⟨p,ss,x,rfl,hP,hl,k⟩:=h;refine⟨_,Ah (Aq (B1 Hg (by rfl) T.tuple (by rfl) (Aa (A8 Mu (by rfl) T.sorted (by rfl) (Aa (Ar B2
   (Ei (N:=NFl1) (cap:=[none,some 1]) (CompScope.of (defScope s__law_flip) NFl rfl rfl rfl (by decide +kernel)) rfl
    (G3 (pv 0)) (λ_ _ _=>Ax (i:=0) (show NFl1.Nodup by decide +kernel) rfl (.inl rfl) (.inr rfl)) (λ_ _ _=>Dl (Aw G5 (pv 0) (pv 1) (Az _))) (λ_ _ _=>pv 0))
   (Ar Xbf (Bq (Aa (pv 1) Ac)) (B1 Xav (by rfl) T.int (by rfl) (Aa (Ep Jm (pv 1) (pv 0) (by rfl)) Ac)))) Ac)) Ac))),?_⟩
  refine⟨_,rfl,p,rfl,⟨_,SqT.of hP⟩,?_⟩;refine Ey (n:=ss.length) (by rw[Ti];omega) (λi=>(ss.map V.str).getD i .non) (λi=>decide (ss.getD i ak.empty≠x)) (λi=>.str (ss.getD i ak.empty)) ?_ ?_ ?_ ?_ ?_
  ·intro i H2 hi s2;exact Hm (SqT.of (s2 _ _ hP)) (by rw[Od];exact hi)
  ·intro H2 s2;have:=Hn (K:=K) (SqT.of (s2 _ _ hP))
   rwa [Od] at this
  ·intro i H2 Q' hi s2 kk;rw[Bt V.str ak.empty _ hi];refine⟨_,rfl,_,rfl,rfl,_,rfl,?_⟩;rw[Ft];have:=kk H2 (Same.refl _);have e:(!decide (ss.getD i ak.empty=x))=decide (ss.getD i ak.empty≠x):=by
    by_cases z:ss.getD i ak.empty=x
    ·simp[z]
    ·simp[z]
   rw[e];exact this
  ·intro i H2 Q' hi hk s2 kk;rw[Bt V.str ak.empty _ hi];exact⟨_,rfl,kk H2 (Same.refl _)⟩
  ·intro D H2 nD s2 hD;have eA:H2 D=some (.lst ((ss.filter λy=>decide (y≠x)).map V.str)):=by
    rw[hD,<-Cg ak.empty (λy=>decide (y≠x)) ss,Pg];rfl
   have oy:=Pl (λy=>decide (y≠x)) ss;refine⟨_,rfl,by show 1<=sizeLine;decide,λb nb=>?_⟩;refine⟨_,rfl,_,rfl,p,_,rfl,.inr (SqT.of (ku (s2 _ _ hP) nb)),rfl,C9 ss,.inr ⟨_,rfl,?_⟩⟩;rw[C8];show Xbe _ _ _ _;have tT:(if (!decide (x∈ss))=true then (1:Int) else 0).toNat=(if x∈ss then 0 else 1):=by
    by_cases hx:x∈ss
    ·simp[hx]
    ·simp[hx]
   have xT:(List.replicate (if x∈ss then 0 else 1) [V.str x]).flatten=(if x∈ss then ([]:Za) else [x]).map V.str:=by
    by_cases hx:x∈ss
    ·simp[hx]
    ·simp[hx]
   refine⟨b,_,_,rfl,rfl,Ab,?_,?_,?_,λc nc=>?_⟩
   ·by_cases hx:x∈ss<;>simp[hx]
   ·by_cases hx:x∈ss<;>simp[hx]
   ·rw[Tk rfl,tT,Ti];by_cases hx:x∈ss<;>simp[hx]
   ·rw[Tk rfl,tT,xT];have HK:(if x∈ss then ([]:Za) else [x]).length<=1:=by by_cases hx:x∈ss<;>simp[hx]
    have s3:=(s2.step (o:=.lst [V.str x]) nb);refine⟨D,c,_,_,rfl,rfl,ku (ku eA nb) nc,Ab,by rw[Od,Od,Ti];omega,λe ne=>?_⟩;have s4:=s3.step (o:=.lst ((if x∈ss then ([]:Za) else [x]).map V.str)) nc;rw[<-Ot];refine⟨e,_,rfl,Ab,by rw[Oh];omega,λt nt=>?_⟩;have s5:=s4.step (o:=.lst ((ss.filter (λy=>decide (y≠x))++(if x∈ss then [] else [x])).map V.str)) ne;refine⟨t,_,rfl,.inl ⟨SqL.of Ab,λq nq=>?_⟩⟩;have s6:=s5.step (o:=.lst ((srt (ss.filter (λy=>decide (y≠x))++(if x∈ss then [] else [x]))).map V.str)) nt;exact k q _ (s6.free nq) Ab (s6.step nq)
def K7:FnScope NOd ["_law_draw", "_law_row_here", "_law_plot"] (defScope s__law_odd_plot):=by walk_at "s"
def Xri{f:ae}{fd:au}(F:Fun K "_law_odd_plot" "_law_odd_plot" s__law_odd_plot f fd)(T:Bl mg)(FP:FnPick P w K mg base)(FS:Fn P w K mg base CX0 1 "_law_stranger" ["_law_row_here"] M6)
  (FF:Fn P w K mg base CX0 1 "_law_flip" ["_law_plot", "_law_name"] spFlip):FnOk P w K mg base CX0 2 f fd ["_law_draw", "_law_row_here", "_law_plot"] spOdd:=by
 refine F.ok K7 (by walk_at "l") ?_
 ·walk_at "i"
  obtain⟨dr,sc,r,p,row,ss,rfl,dk,hR,jH,hI,hP,hok,j6,k⟩:=h;have hu:=Rw (Ct hr);have fz:∀m,m<=100000->m<=sizeLine:=λm h=>by rw[Ti];omega
  refine⟨_,Ag (Ap (i:=3) K7.nd rfl (.inl rfl) (Ak FP hr (by rfl) Am (Aa (pv 0) (Aa Ai Ac))))
   (Ag (Ap (i:=4) K7.nd rfl (.inl rfl) (Ak FP hr (by rfl) Am (Aa (pv 0) (Aa (Ar Cb (A8 Cr (by rfl) T.len bG (Aa (pv 2) Ac)) Ai) Ac))))
   (Ag (Bb (F3 (Aw B5 (pv 3) Ai (Az _)) (F2 (Aw (Xb3 hu) (pv 1) (Bq Ac) (Az _)))).pt
    (Ah (Aq (Ar Ib (Ar Ib (Cd Ie (pv 2) Cp (B6 (pv 4))) (B0 (Aa (Ak FS hr (by rfl) Am (Aa (pv 1) Ac)) Ac))) (Cd Ie (pv 2) (B6 (pv 4)) Cp)))) Bc)
   (Ag (Ap (i:=5) K7.nd rfl (.inl rfl) (A0 Bf (pv 1) (Ak FP hr (by rfl) Am (Aa (pv 0) (Aa (A8 Cr (by rfl) T.len bG (Aa (pv 1) Ac)) Ac))) (λ_ _=>rfl)))
   (Ag (Bb (Aw B5 (pv 3) Ai (Az _)) (Ah (Aq (Ar Ib (Ar Ib (Cd Ie (pv 2) Cp (B6 (pv 4))) (B0 (Aa (pv 5) Ac))) (Cd Ie (pv 2) (B6 (pv 4)) Cp)))) Bc)
   (Ag (Bb (Aw B5 (pv 3) Ai (Az _)) (Ah (Aq (Xld (pv 2)))) Bc)
   (Ag (Bb (Aw B5 (pv 3) Ai (Az _)) (Ah (Aq (B1 Hg (by rfl) T.tuple (by rfl) (Aa (Ar B2 (B1 G9 (by rfl) T.list fw (Aa (pv 2) Ac)) (B1 G9 (by rfl) T.list fw (Aa (Cd Ie (pv 2) Cp (B6 Ai)) Ac))) Ac)))) Bc)
   (Ah (Aq (Ak FF hr (by rfl) Am (Aa (pv 2) (Aa (pv 5) Ac))))))))))),?_⟩
  refine⟨_,rfl,dr,sc,5,rfl,by decide,by decide,dk,λwy H1 w0 w1 d1 b1=>?_⟩;have sM:∀{H0:Hp} {q:ae} {xs:List V},DrawOk H0 dr sc->H0 q=some (.tup xs)->q≠dr:=λ{H0 q xs} d e z=>by
   obtain⟨ys,h⟩:=d.at;rw[z,h] at e;cases e
  have b1:But dr H H1:=b1;have nO:=b1 _ _ hP (sM dk hP);have wS:=b1 _ _ hR jH;refine⟨_,rfl,_,rfl,p,_,rfl,.inr (SqT.of nO),_,_,rfl,rfl,dr,sc,_,rfl,by omega,by rw[Od];omega,d1,λjN H2 a0 a1 d2 b2=>?_⟩;obtain⟨jN,rfl⟩:=P3 a0;rw[Od] at a1;have hV:jN<=ss.length:=by omega
  have b2:But dr H1 H2:=b2;have jJ:=b1.trans b2;have jG:=b2 _ _ nO (sM d1 nO);have uD:=b2 _ _ wS jH;have put:∀(x:ak) (H3:Hp),okN x->DrawOk H3 dr sc->But dr H H3->H3 p=some (.tup (ss.map V.str))->∀(q:ae) (H4:Hp),Same H3 H4->H4 q=some (.tup ((ss.take jN++[x]++ss.drop jN).map V.str))->Q (.ref q) H4:=λx H3 hx d3 b3 _ q H4 s4 hq=>by
   refine k q _ H4 hq (λy hy=>?_) ?_ (d3.same s4) (b3.same s4)
   ·rcases Oq.mp hy with hy | hy
    ·rcases Oq.mp hy with hy | hy
     ·exact hok y (Pp hy)
     ·rw[Oj.mp hy];exact hx
    ·exact hok y (P1 hy)
   ·rw[Oh,Oh,O0,Pw,Pn];omega
  have mM:∀H3,DrawOk H3 dr sc->But dr H H3->H3 p=some (.tup (ss.map V.str))->H3 r=some (.lst (row.map V.str)) ->
    ∀(q:ae) (H4:Hp),Same H3 H4->H4 q=some (.tup ((ss.take jN++[Gi row]++ss.drop jN).map V.str))->Q (.ref q) H4:=λH3 d3 b3 hX _=>put _ H3 hI.stranger.1 d3 b3 hX
  have nX:∀H3,DrawOk H3 dr sc->But dr H H3->H3 p=some (.tup (ss.map V.str))->H3 r=some (.lst (row.map V.str)) ->
    tSl Mw (C7 2) Lo (Lp (C7 4)) [some (.ref dr),some (.ref r),some (.ref p),some (.int wy),some (.int jN),none] H3 λx H4=>Ll (Er (Lm M6 [] E0 (Er (C7 1) Fe)) Fe) [some (.ref dr),some (.ref r),some (.ref p),some (.int wy),some (.int jN),none] H4 λy H5=>Mv x y H5 λz H6=>
     tSl Mw (C7 2) (Lp (C7 4)) Lo [some (.ref dr),some (.ref r),some (.ref p),some (.int wy),some (.int jN),none] H6 λu H7=>Mv z u H7 Q:=λH3 d3 b3 hX mO=>by
   refine⟨_,rfl,_,rfl,_,rfl,p,_,rfl,hX,λq1 H4 s4 l7=>?_⟩;rw[Gc _ _ _ hV] at l7;refine⟨_,rfl,r,row,rfl,s4 _ _ mO,λy hy=>(hI.ok y hy).1,λH5 s5=>⟨by show 1<=sizeLine;decide,λq2 n2=>?_⟩⟩;have tR:=(s4.trans s5).step (o:=.tup [.str (Gi row)]) n2;refine⟨q1,q2,_,[.str (Gi row)],rfl,rfl,ku (s5 _ _ l7) n2,Ab,fz _ (by simp;omega),λq3 H6 s6 mE=>?_⟩;have qK:=tR.trans s6;refine⟨_,rfl,_,rfl,_,rfl,p,_,rfl,qK _ _ hX,λq4 H7 s7 nW=>?_⟩;rw[Ge _ _ _ hV] at nW;refine⟨q3,q4,_,_,rfl,rfl,s7 _ _ mE,nW,fz _ (by simp;omega),λq5 H8 s8 qJ=>?_⟩;refine mM H3 d3 b3 hX mO q5 H8 (qK.trans (s7.trans s8)) (qJ.trans ?_);rw[Ot,Ot];rfl
  refine⟨_,rfl,rfl,_,rfl,?_⟩;refine A2 (λ_=>?_) (λ_=>?_)
  ·exact B3 (nX H2 d2 jJ jG uD)
  ·refine⟨_,rfl,by show 0<=sizeLine;decide,λe ne=>?_⟩;have s3:Same H2 (upd H2 e (.lst [])):=(Same.refl H2).step ne;refine⟨r,e,_,_,rfl,rfl,SqL.of (s3 _ _ uD),SqL.of Ab,E1 row,by simp,_,rfl,?_⟩;generalize upd H2 e (.lst [])=H3 at s3;have d3:=d2.same s3;have tH:=jJ.same s3;have hX:=s3 _ _ jG;have mO:=s3 _ _ uD;have ee:B4 (row.map V.str) []=decide (row=[]):=Hl row [];rw[ee];refine A2 (λ_=>nX H3 d3 tH hX mO) (λfo=>?_);have fo:=Tq fo;have oV:=hI.len;have jW:0<row.length:=List.length_pos_iff.mpr fo;refine⟨_,rfl,_,rfl,_,rfl,r,_,rfl,.inl (SqL.of mO),dr,sc,_,rfl,by rw[Od];omega,by rw[Od];omega,d3,λi H4 i0 i1 d4 b4=>?_⟩;obtain⟨i,rfl⟩:=P3 i0;rw[Od] at i1;have hi:i<row.length:=by omega
   have b4:But dr H3 H4:=b4;have qL:=tH.trans b4;have pU:=b4 _ _ hX (sM d3 hX);have HL:=b4 _ _ mO jH;refine⟨r,_,_,_,rfl,rfl,SqL.of HL,Xlk V.str ak.empty row hi,?_⟩;have hx:row.getD i ak.empty∈row:=Cv hi;generalize row.getD i ak.empty=x at hx;have zZ:=hI.ok x hx;refine⟨_,rfl,rfl,_,rfl,?_⟩;refine A2 (λ_=>?_) (λ_=>?_)
   ·refine⟨_,rfl,_,rfl,_,rfl,p,_,rfl,pU,λq1 H5 s5 l7=>?_⟩;rw[Gc _ _ _ hV] at l7;refine⟨_,rfl,by show 1<=sizeLine;decide,λq2 n2=>?_⟩;have pS:=s5.step (o:=.tup [.str x]) n2;refine⟨q1,q2,_,[.str x],rfl,rfl,ku l7 n2,Ab,fz _ (by simp;omega),λq3 H6 s6 mE=>?_⟩;have As:=pS.trans s6;refine⟨_,rfl,_,rfl,_,rfl,p,_,rfl,As _ _ pU,λq4 H7 s7 nW=>?_⟩;rw[Ge _ _ _ hV] at nW;refine⟨q3,q4,_,_,rfl,rfl,s7 _ _ mE,nW,fz _ (by simp;omega),λq5 H8 s8 qJ=>?_⟩;refine put x H4 zZ d4 qL pU q5 H8 (As.trans (s7.trans s8)) (qJ.trans ?_);rw[Ot,Ot];rfl
   ·refine⟨_,rfl,rfl,_,rfl,?_⟩;refine A2 (λ_=>?_) (λ_=>?_)
    ·refine⟨_,rfl,p,_,rfl,pU,λq nq=>?_⟩;have s5:Same H4 (upd H4 q (.tup (ss.map V.str).reverse)):=(Same.refl H4).step nq;refine k q ss.reverse _ (Ab.trans (by rw[List.map_reverse])) (λy hy=>hok y (List.mem_reverse.mp hy)) (by rw[Rz];omega) (d4.same s5) (qL.same s5)
    ·refine⟨_,rfl,rfl,_,rfl,?_⟩;refine A2 (λ_=>?_) (λ_=>?_)
     ·refine⟨_,rfl,p,_,rfl,.inr (SqT.of pU),λl1 n1=>?_⟩;have s5:Same H4 (upd H4 l1 (.lst (ss.map V.str))):=(Same.refl H4).step n1;refine⟨_,rfl,_,rfl,p,_,rfl,s5 _ _ pU,λq1 H6 s6 l7=>?_⟩;have e1:(some (1:Int))=some ((1:Nat):Int):=rfl;rw[e1,Xl7] at l7;refine⟨q1,_,rfl,.inr (SqT.of l7),λl2 n2=>?_⟩;have s7:=(s5.trans s6).step (o:=.lst ((ss.take 1).map V.str)) n2;refine⟨l1,l2,_,_,rfl,rfl,ku (s6 _ _ Ab) n2,Ab,fz _ (by simp;omega),λl3 n3=>?_⟩;have s8:=s7.step (o:=.lst (ss.map V.str++(ss.take 1).map V.str)) n3;refine⟨l3,_,rfl,.inl ⟨SqL.of Ab,λq nq=>?_⟩⟩;have s9:=s8.step (o:=.tup (ss.map V.str++(ss.take 1).map V.str)) nq;refine k q (ss++ss.take 1) _ (Ab.trans (by rw[Ot])) (λy hy=>?_) (by rw[Oh,O0];omega) (d4.same s9) (qL.same s9);rcases Oq.mp hy with hy | hy
      ·exact hok y hy
      ·exact hok y (Pp hy)
     ·refine⟨_,rfl,_,rfl,p,ss,x,rfl,pU,by omega,λq H5 nq hq s5=>?_⟩;refine k q _ H5 hq (λy hy=>?_) (Xl1 ss x) (d4.same s5) (qL.same s5);rcases Xl0 hy with h | h
      ·exact hok y h
      ·rw[h];exact zZ
def Xrj:FnScope NGo ["_law_row_here", "_law_plot"] (defScope s__law_good_plot):=by walk_at "s"
def Xrk{f:ae}{fd:au}(F:Fun K "_law_good_plot" "_law_good_plot" s__law_good_plot f fd)(T:Bl mg)(FF:Fn P w K mg base CX0 1 "_law_fits" ["_law_bars_here", "_law_plot"] spFits)
    (FB:Fn P w K mg base CX0 2 "_law_bars" ["_law_row_here"] spBars):FnOk P w K mg base CX0 3 f fd ["_law_row_here", "_law_plot"] spGood:=by
  refine F.ok Xrj (by walk_at "l") ?_
  . walk_at "i"
    obtain⟨r,p,row,ss,rfl,hR,R2,hP,hok,j6,k⟩:=h;have hu:=Rw (Ct hr);have cr:Room 1 _:=hr.mono (by decide);refine⟨_,Ag (Bb (Aw (L4 hu) (B1 G9 (by rfl) T.list fw (Aa (pv 1) Ac)) (Ei (N:=NGo1) (cap:=[none,some 1]) (CompScope.of (defScope s__law_good_plot) NGo rfl rfl rfl (by decide +kernel)) rfl
          (Bp (Nb (i:=0) rfl (by rfl) T.sorted (by rfl) T.set (pv 0))) (λ_ _ _=>Ax (i:=0) (show NGo1.Nodup by decide +kernel) rfl (.inl rfl) (.inr rfl))
          (λ_ _ _=>Dl (Aw (Jx K (by rfl)) (pv 0) (pv 1) (by rfl))) (λ_ _ _=>pv 0)) (Az _)) (Ah (Aq Dw)) Bc)
      (Ah (Aq (Ak FF cr (by rfl) Am (Aa (Ak FB hr (by rfl) Am (Aa (pv 0) Ac)) (Aa (pv 1) Ac))))),?_⟩
    have oV:=R2.len;have fr:=Fo row;refine⟨_,rfl,p,_,rfl,.inr (SqT.of hP),λl1 n1=>?_⟩;have s1:Same H (upd H l1 (.lst (ss.map V.str))):=(Same.refl H).step n1;have h1:upd H l1 (.lst (ss.map V.str)) l1=some (.lst (ss.map V.str)):=Ab;generalize upd H l1 (.lst (ss.map V.str))=H1 at s1 h1;refine⟨_,rfl,r,row,rfl,.inl (SqL.of (s1 _ _ hR)),oV,λl H2 nl lJ s2=>?_⟩;have jG:=s2 _ _ (s1 _ _ hP);refine⟨l,rfl,⟨_,SqL.of lJ⟩,?_⟩;refine Ey (n:=(dit row).length) (by rw[Ti];omega) (λi=>((dit row).map V.str).getD i .non) (λi=>decide ((dit row).getD i ak.empty∈ss)) (λi=>.str ((dit row).getD i ak.empty)) ?_ ?_ ?_ ?_ ?_
    . intro i H3 hi s3;exact Ef (SqL.of (s3 _ _ lJ)) (by rw[Od];exact hi)
    . intro H3 s3;have:=Eg (K:=K) (SqL.of (s3 _ _ lJ))
      rwa [Od] at this
    . intro i H3 Q' hi s3 kk;rw[Bt V.str ak.empty _ hi];refine⟨_,rfl,_,rfl,p,_,rfl,.inr (SqT.of (s3 _ _ jG)),rfl,C9 ss,_,rfl,?_⟩;rw[Tj (by decide),C8];exact kk H3 (Same.refl _)
    . intro i H3 Q' hi hk s3 kk;rw[Bt V.str ak.empty _ hi];exact⟨_,rfl,kk H3 (Same.refl _)⟩
    . intro D H3 nD s3 hD;have eA:H3 D=some (.lst (((dit row).filter λy=>decide (y∈ss)).map V.str)):=by
        rw[hD,<-Cg ak.empty (λy=>decide (y∈ss)) (dit row),Pg];rfl
      have jf:=s1.trans (s2.trans s3);refine⟨l1,D,_,_,rfl,rfl,SqL.of (s3 _ _ (s2 _ _ h1)),SqL.of eA,E1 _,E1 _,_,rfl,?_⟩;rw[Hl];by_cases e:ss=(dit row).filter λy=>decide (y∈ss)
      . rw[Tl e];refine Bn ?_;refine⟨_,rfl,r,row,rfl,jf _ _ hR,R2,λb xs H4 nb hb cU s4=>?_⟩;refine⟨_,rfl,b,p,xs,bars row,ss,rfl,hb,cU,s4 _ _ (jf _ _ hP),λH5 s5=>?_⟩;have:=k H5 (jf.trans (s4.trans s5));unfold E2 at this;rw[Tl e,P8] at this;exact this
      . rw[Tn e];refine B3 ?_;have:=k H3 jf;unfold E2 at this;rw[Tn e,P6] at this;exact this
def Xrl:FnScope ["_law_found"] ["_law_found"] (defScope sTexts):=by walk_at "s"
def Xgw{f:ae}{fd:au}(F:Fun K "_law_texts" "_law_texts" sTexts f fd)(T:Bl mg):FnOk P w K mg base CX0 1 f fd ["_law_found"] spTexts:=by
 refine F.ok Xrl (by walk_at "l") ?_
 ·walk_at "i"
  obtain⟨a,row,rfl,hR,hl,k⟩:=h;refine⟨_,Ah (Aq (Lc (A8 Xb9 (by rfl) T.isi qP (Aa (pv 0) (Aa (Xac (v:=.ty "list") (by rfl) T.list fw rfl) Ac)))
   (Je (A8 (Xb5 rfl) (by rfl) T.all (by rfl) (Aa (Ei (N:=["_law_one_here"]) (cap:=[none]) (CompScope.of (defScope sTexts) ["_law_found"] rfl rfl rfl (by decide +kernel)) rfl
    (Bp (pv 0)) (λ_ _ _=>Ax (i:=0) (show (["_law_one_here"]:Za).Nodup by decide +kernel) rfl (.inl rfl) (.inr rfl)) (λ_ _ _=>Dk)
    (λ_ _ _=>A8 (Xko K rfl) (by rfl) T.isi qP (Aa (pv 0) (Aa (Xac (v:=.ty "str") (by rfl) T.str boot_str rfl) Ac)))) Ac))))),?_⟩
  refine⟨_,rfl,_,_,_,_,true,rfl,.lst hR,rfl,Xdk K "list",true,rfl,B3 ?_⟩;refine⟨_,rfl,a,rfl,⟨_,SqL.of hR⟩,?_⟩;refine Xkp (n:=(row.map V.str).length) (λi=>(row.map V.str).getD i .non) (λD i Z2 H2=>∃v:Option V, Z2=[v]/\Same H H2/\H2 D=some (.lst ((List.replicate i true).map V.bl))) ?_ ?_ ?_ ?_ ?_
  ·intro D hD;exact⟨none,rfl,(Same.refl H).step hD,Ab⟩
  ·rintro D i Z2 H2 hD hi ⟨v,rfl,s2,hb⟩;exact Ef (SqL.of (s2 _ _ hR)) hi
  ·rintro D Z2 H2 hD ⟨v,rfl,s2,hb⟩;exact Eg (SqL.of (s2 _ _ hR))
  ·rintro D i Z2 H2 hD hi ⟨v,rfl,s2,hb⟩;have dg:i<row.length:=by rwa [Od] at hi
   have e:(row.map V.str).getD i .non = .str (row[i]'dg):=by simp[List.getD,dg]
   rw[e];refine⟨_,rfl,_,_,_,_,true,rfl,.str _,rfl,Xdk K "str",?_⟩;refine wput hi hb (by rw[Od,List.length_replicate,Ti];omega) ⟨_,rfl,λb u e'=>?_,?_⟩
   ·rw[Ae (Av e' hD)];exact s2 b u e'
   ·rw[Ab,List.replicate_succ',Ot];rfl
  ·rintro D Z2 H2 hD ⟨v,rfl,s2,hb⟩;refine⟨D,_,rfl,hb,?_⟩;have e:(List.replicate (row.map V.str).length true).all id=true:=by
    rw[O8];intro b hb;rw[(List.mem_replicate.mp hb).2];rfl
   rw[e];exact k H2 s2
def Xgx:FnScope NAp ["_law_one_here", "_law_other"] (defScope s__law_apart):=by walk_at "s"
def Xrm{f:ae}{fd:au}(F:Fun K "_law_apart" "_law_apart" s__law_apart f fd)(T:Bl mg):FnOk P w K mg base CX0 1 f fd ["_law_one_here", "_law_other"] spApart:=by
  refine F.ok Xgx (by walk_at "l") ?_
  . walk_at "i"
    obtain⟨p,q,a,b,rfl,hP,hQ,la,lb,k⟩:=h;refine⟨_,Ag (Hz (i:=2) (N:=NAp1) (cap:=[none,some 1]) (CompScope.of (defScope s__law_apart) NAp rfl rfl rfl (by decide +kernel)) rfl Xgx.nd rfl rfl
          (G3 (pv 0)) (λ_ _ _=>Ax (i:=0) (show NAp1.Nodup by decide +kernel) rfl (.inl rfl) (.inr rfl))
          (λ_ _ _=>Dl (Aw (Xcw K (by rfl)) (pv 0) (pv 1) (by rfl))) (λ_ _ _=>pv 0))
      (Ah (Aq (A8 Mu (by rfl) T.sorted (by rfl) (Aa (Ar B2 (pv 2)
        (Ei (N:=NAp2) (cap:=[none,some 0]) (CompScope.of (defScope s__law_apart) NAp rfl rfl rfl (by decide +kernel)) rfl
          (G3 (pv 1)) (λ_ _ _=>Ax (i:=0) (show NAp2.Nodup by decide +kernel) rfl (.inl rfl) (.inr rfl))
          (λ_ _ _=>Dl (Aw (Xcw K (by rfl)) (pv 0) (pv 1) (by rfl))) (λ_ _ _=>pv 0))) Ac)))),?_⟩
    refine⟨_,rfl,p,rfl,⟨_,SqT.of hP⟩,?_⟩;refine Ey (n:=a.length) (by rw[Ti];omega) (λi=>(a.map V.str).getD i .non) (λi => !decide (a.getD i ak.empty∈b)) (λi=>.str (a.getD i ak.empty)) ?_ ?_ ?_ ?_ ?_
    . intro i H3 hi s3;exact Hm (SqT.of (s3 _ _ hP)) (by rw[Od];exact hi)
    . intro H3 s3;have:=Hn (K:=K) (SqT.of (s3 _ _ hP))
      rwa [Od] at this
    . intro i H3 Q' hi s3 kk;rw[Bt V.str ak.empty _ hi];refine⟨_,rfl,_,rfl,q,_,rfl,.inr (SqT.of (s3 _ _ hQ)),rfl,C9 b,_,rfl,?_⟩;rw[Tk rfl,C8];exact kk H3 (Same.refl _)
    . intro i H3 Q' hi hk s3 kk;rw[Bt V.str ak.empty _ hi];exact⟨_,rfl,kk H3 (Same.refl _)⟩
    . intro D H3 nD s3 hD;have eA:H3 D=some (.lst ((a.filter λx => !decide (x∈b)).map V.str)):=by
        rw[hD,<-Cg ak.empty (λx => !decide (x∈b)) a,Pg];rfl
      have KR:(a.filter λx => !decide (x∈b)).length<=24:=Pj (Pl ..) la;refine⟨_,rfl,_,rfl,q,rfl,⟨_,SqT.of (s3 _ _ hQ)⟩,?_⟩;refine Ey (n:=b.length) (by rw[Ti];omega) (λi=>(b.map V.str).getD i .non) (λi => !decide (b.getD i ak.empty∈a)) (λi=>.str (b.getD i ak.empty)) ?_ ?_ ?_ ?_ ?_
      . intro i H4 hi s4;exact Hm (SqT.of (s4 _ _ (s3 _ _ hQ))) (by rw[Od];exact hi)
      . intro H4 s4;have:=Hn (K:=K) (SqT.of (s4 _ _ (s3 _ _ hQ)))
        rwa [Od] at this
      . intro i H4 Q' hi s4 kk;rw[Bt V.str ak.empty _ hi];refine⟨_,rfl,_,rfl,p,_,rfl,.inr (SqT.of (s4 _ _ (s3 _ _ hP))),rfl,C9 a,_,rfl,?_⟩;rw[Tk rfl,C8];exact kk H4 (Same.refl _)
      . intro i H4 Q' hi hk s4 kk;rw[Bt V.str ak.empty _ hi];exact⟨_,rfl,kk H4 (Same.refl _)⟩
      . intro D2 H4 pe s4 HM;have xU:H4 D2=some (.lst ((b.filter λx => !decide (x∈a)).map V.str)):=by
          rw[HM,<-Cg ak.empty (λx => !decide (x∈a)) b,Pg];rfl
        have KS:(b.filter λx => !decide (x∈a)).length<=24:=Pj (Pl ..) lb;refine⟨D,D2,_,_,rfl,rfl,s4 _ _ eA,xU,by rw[Od,Od,Ti];omega,λl nl=>?_⟩;refine⟨l,_,rfl,by rw[Ab,<-Ot],by rw[Oh];omega,λl2 qM=>?_⟩;refine k l2 _ ?_ Ab ?_
        . exact((s3.trans s4).step nl).free qM
        . exact((s3.trans s4).step nl).step qM
def K8:FnScope NWy ["_law_bars_here", "_law_names_here", "_law_plot"] (defScope s__law_ways):=by walk_at "s"
def Xrn{f:ae}{fd:au}(F:Fun K "_law_ways" "_law_ways" s__law_ways f fd)(FF:Fn P w K mg base CX0 1 "_law_flip" ["_law_plot", "_law_name"] spFlip)(FI:Fn P w K mg base CX0 1 "_law_fits" ["_law_bars_here", "_law_plot"] spFits):FnOk P w K mg base CX0 2 f fd ["_law_bars_here", "_law_names_here", "_law_plot"] spWaysG:=by
 refine F.ok K8 (by walk_at "l") ?_
 ·walk_at "i"
  obtain⟨b,l,p,row,S,ns,xs,rfl,hb,iQ,hl,lO,xx,R2,mC,hp,hS,k⟩:=h;refine⟨_,Ag (Ap (i:=3) K8.nd rfl (.inl rfl) (Bq Ac))
   (Ag (Ca aT.never rfl (Bp (pv 1)) (Ax (i:=4) K8.nd rfl (.inl rfl))
    (Ag (Ap (i:=5) K8.nd rfl (.inl rfl) (Ak FF hr (by rfl) Am (Aa (pv 2) (Aa (pv 4) Ac))))
    (Ah (Bb (En (Ak FI hr (by rfl) Am (Aa (pv 0) (Aa (pv 5) Ac)))) (Ah (Ea (Hh PySem.F.plainAttrs_list PySem.F.slot_list_append PySem.F.type_list_append F7 (pv 3) (Aa (B0 (Aa (pv 4) (Aa (pv 5) Ac))) Ac)))) Bc))))
   (Ah (Aq (pv 3)))),?_⟩
  refine⟨by show 0<=sizeLine;decide,λD nD=>?_⟩;have s1:Same H (upd H D (.lst [])):=(Same.refl H).step nD;have At:upd H D (.lst []) D=some (.lst (([]:List ae).map V.ref)):=Ab;dsimp only[A7];generalize upd H D (.lst [])=H1 at s1 At;refine⟨_,rfl,l,rfl,⟨_,SqL.of (s1 _ _ hl)⟩,?_⟩;refine Dh (K:=K) (a:=l) (xs:=ns.map V.str) (λi Z H'=>∃(v4 v5:Option V) (qs:List ae), Z=[some (.ref b),some (.ref l),some (.ref p),some (.ref D),v4,v5]/\Same H H'/\H' D=some (.lst (qs.map V.ref))/\Nbs H' qs (waT row S ns i)/\qs.length<=i) ?_ ?_ ?_ ?_
  ·exact⟨_,_,[],rfl,s1,At,by unfold waT;rw[List.take_zero];exact Nbs.nil _,Pf _⟩
  ·rintro i Z H' _ ⟨v4,v5,qs,rfl,s',_⟩;exact SqL.of (s' _ _ hl)
  ·rintro i v Z H' hv ⟨v4,v5,qs,rfl,s',eA,hn,hq⟩;obtain⟨x,rfl,hx,nN⟩:∃x,v=V.str x/\x∈ns/\ns[i]? = some x:=by
    rw[Ov] at hv;cases z:ns[i]? with
    | none=>rw[z] at hv;cases hv
    | some x=>rw[z] at hv;exact⟨x,(Ox hv).symm,Qn z,rfl⟩
   have A':=Xp1 (row:=row) (S:=S) nN;have hx:=lO x hx;have fE:i<ns.length:=by
    have:=(Oz.mp hv).1
    rwa [Od] at this
   have KU:=El hS;dsimp only[A7];refine⟨_,rfl,_,rfl,p,S,x,rfl,s' _ _ hp,by omega,λq H2 nq uA s2=>?_⟩;have pB:=s'.trans s2;dsimp only[A7];refine⟨_,rfl,_,rfl,b,q,xs,bars row,Ao S x,rfl,pB _ _ hb,DAll.same pB _ _ iQ,uA,λH3 s3=>⟨_,rfl,?_⟩⟩;rw[Xnr R2.two hS hx];have u6:=pB.trans s3;have xV:=s3 _ _ (s2 _ _ eA);have tP:=hn.same (s2.trans s3);refine A2 (λbL=>?_) (λbL=>⟨_,_,qs,rfl,u6,xV,by rw[A',Tj (by rw[bL];decide),Pm];exact tP,by omega⟩);refine⟨_,rfl,.inl ⟨rfl,_,SqL.of xV⟩,_,rfl,_,rfl,by show 2<=sizeLine;decide,λt nt=>?_⟩;have s4:Same H3 (upd H3 t (.tup [.str x,.ref q])):=(Same.refl H3).step nt;have ht:upd H3 t (.tup [.str x,.ref q]) t=some (.tup [.str x,.ref q]):=Ab;generalize upd H3 t (.tup [.str x,.ref q])=H4 at s4 ht;have dq:=s4 _ _ xV;refine⟨D,_,_,rfl,rfl,dq,by rw[Od,Ti];omega,?_⟩;have kt:∀{a:ae} {w:List V},H4 a=some (.tup w)->upd H4 D (.lst (qs.map V.ref++[.ref t])) a=some (.tup w):=λ{a w} e=>by
    rw[Ae (λz=>by rw[z,dq] at e;cases e)];exact e
   refine⟨_,_,qs++[t],rfl,λa o e=>?_,by rw[Ab,Ot];rfl,?_,by rw[Oh,Pn];omega⟩
   ·rw[Ae (Av e nD)];exact s4 _ _ (u6 _ _ e)
   ·rw[A',Tk bL];exact((tP.same s4).keep λa w e=>kt e).snoc (kt ht) (kt (s4 _ _ (s3 _ _ uA)))
  ·rintro Z H' ⟨v4,v5,qs,rfl,s',eA,hn,hq⟩;rw[Od] at hq;rw[Od] at hn;unfold waT at hn;rw[P4] at hn;exact⟨_,rfl,k D qs H' nD eA hn (by omega) s'⟩
def Xro:FnScope ["_law_row_here", "_law_plot"] ["_law_row_here", "_law_plot"] (defScope s__law_over):=by walk_at "s"
def Xrp{f:ae}{fd:au}(F:Fun K "_law_over" "_law_over" s__law_over f fd)(T:Bl mg)(FB:Fn P w K mg base CX0 2 "_law_bars" ["_law_row_here"] spBars)(FW:Fn P w K mg base CX0 2 "_law_ways" ["_law_bars_here", "_law_names_here", "_law_plot"] spWaysG):FnOk P w K mg base CX0 3 f fd ["_law_row_here", "_law_plot"] spOverD:=by
 refine F.ok Xro (by walk_at "l") ?_
 ·walk_at "i"
  obtain⟨r,p,row,S,rfl,hR,R2,mC,hp,hS,k⟩:=h;refine⟨_,Ah (Aq (Ak FW hr (by rfl) Am (Aa (Ak FB hr (by rfl) Am (Aa (pv 0) Ac)) (Aa (Nb (i:=0) rfl (by rfl) T.sorted (by rfl) T.set (pv 0)) (Aa (pv 1) Ac))))),?_⟩;have hl:=R2.len;refine⟨_,rfl,r,row,rfl,hR,R2,λb xs H1 nb hb iQ s1=>?_⟩;refine⟨_,rfl,r,row,rfl,.inl (SqL.of (s1 _ _ hR)),hl,λl H2 nl lJ s2=>?_⟩;have fe:=s1.trans s2;exact⟨_,rfl,b,l,p,row,S,dit row,xs,rfl,s2 _ _ hb,DAll.same s2 _ _ iQ,lJ,λx hx=>An.mp hx,by omega,R2,mC,fe _ _ hp,hS,λD qs H3 nD hD hn hq s3=>k D qs H3 (fe.free nD) hD hn hq (fe.trans s3)⟩
def Xgy:FnScope NOd17 ["_law_row_here", "_law_here", "_law_there"] (defScope s__law_onward):=by walk_at "s"
def Xrq{f:ae}{fd:au}(F:Fun K "_law_onward" "_law_onward" s__law_onward f fd)(FA:Fn P w K mg base CX0 1 "_law_apart" ["_law_one_here", "_law_other"] spApart)(FO:Fn P w K mg base CX0 3 "_law_over" ["_law_row_here", "_law_plot"] spOverD):FnOk P w K mg base CX0 4 f fd ["_law_row_here", "_law_here", "_law_there"] Xgq:=by
 refine F.ok Xgy (by walk_at "l") ?_
 ·walk_at "i"
  obtain⟨r,p,q,row,S,G,rfl,hR,R2,mC,hp,hq,hS,hG,k⟩:=h;have hu:=Ct hr;have cr:Room 1 _:=hr.mono (by decide);refine⟨_,Ag (Ap (i:=3) Xgy.nd rfl (.inr rfl) (Ak FA cr (by rfl) Am (Aa (pv 1) (Aa (pv 2) Ac))))
   (Ah (Aq (Ei (N:=NOd171) (cap:=[none,some 3]) (CompScope.of (defScope s__law_onward) NOd17 rfl rfl rfl (by decide +kernel)) rfl (Bp (Ak FO hr (by rfl) Am (Aa (pv 0) (Aa (pv 1) Ac))))
    (λ_ _ _=>Ax (i:=0) (show NOd171.Nodup by decide +kernel) rfl (.inl rfl) (.inr rfl)) (λ_ _ _=>Dl (Aw (Jx K (by rfl)) (A0 (Dy K (by rfl)) (pv 0) Ai (λ_ _=>rfl)) (pv 1) (by rfl)))
    (λ_ _ _=>pv 0)))),?_⟩
  have lS:=El hS;have lG:=El hG;refine⟨_,rfl,_,rfl,p,q,S,G,rfl,hp,hq,by omega,by omega,λlx H1 uE iV s1=>?_⟩;dsimp only[A7];refine⟨_,rfl,_,rfl,r,p,row,S,rfl,s1 _ _ hR,R2,mC,s1 _ _ hp,hS,λD qs H2 nD hD hn xc s2=>?_⟩;refine⟨D,rfl,⟨_,SqL.of hD⟩,?_⟩;have xW:=s2 _ _ iV;refine Ey (j:=0) (n:=qs.length) (by rw[Ti];omega) (λi=>.ref (qs.getD i 0)) (λi=>decide (((waL row S (dit row)).getD i dN).1∈Af S G)) (λi=>.ref (qs.getD i 0)) ?_ ?_ ?_ ?_ ?_
  ·intro j H5 hj s5;have:=Ef (K:=K) (SqL.of (s5 _ _ hD)) (by rw[Od];exact hj);rw[Bt V.ref 0 qs hj] at this;exact this
  ·intro H5 s5;have:=Eg (K:=K) (SqL.of (s5 _ _ hD))
   rwa [Od] at this
  ·intro j H5 Q' hj s5 kk;obtain⟨pj,g1,_⟩:=hn.2 j hj;refine⟨_,rfl,_,_,_,_,rfl,rfl,SqT.of (s5 _ _ g1),rfl,_,rfl,lx,_,rfl,.inl (SqL.of (s5 _ _ xW)),rfl,C9 _,_,rfl,?_⟩;rw[Tj (by decide),C8];exact kk H5 (Same.refl _)
  ·intro j H5 Q' hj _ s5 kk;exact⟨_,rfl,kk H5 (Same.refl _)⟩
  ·intro L H5 nL s5 hL;have hf:=(hn.same s5).filt λi=>decide (((waL row S (dit row)).getD i dN).1∈Af S G);have e:=Cg dN (λq:ak×Za=>decide (q.1∈Af S G)) (waL row S (dit row));rw[Xp5 hS hG,<-hn.1] at e;rw[e] at hf;refine k L _ H5 (s1.free (s2.free nL)) (by rw[hL,Pg];rfl) hf ((s1.trans s2).trans s5)
abbrev NRf:Za:=["_law_row_here", "_law_one_here", "_law_other", "_law_refused_here"]
def Oc:FnScope NRf ["_law_row_here", "_law_one_here", "_law_other"] (defScope s__law_refused):=by walk_at "s"
def Xrr{f C T T2 fa:ae}{fd xX:au}(F:Fun K "_law_refused" "_law_refused" s__law_refused f fd)(hC:mg "NoPlot" = some (.ref C))
  (xY:mg "walk" = some (.ref fa)) (xZ:LL K (.ref fa)=true) (ya:Binds K xX ["row", "one", "other"] []) (FA:FnOk P w K mg base (CX1 P w) 8 fa xX ["row", "one", "other"] (N6 C T T2 (lamPos s_in_order) (lamPosW s_ways_to))) (e1:LG K (.ref C) (.ref C)=some true):
  FnOk P w K mg base CX0 9 f fd ["_law_row_here", "_law_one_here", "_law_other"] (spRef18 T T2 (lamPos s_in_order) (lamPosW s_ways_to)):=by
 refine F.ok Oc (by walk_at "l") ?_
 ·walk_at "i"
  obtain⟨r,p,q,row,a,b,rfl,t2,h3,tab,xH,k⟩:=h;refine⟨_,Ag (Ap (i:=3) Oc.nd rfl (.inl rfl) Dw)
   (Ag (Xk6 (Cc:=C) rfl rfl (by rfl) hC
     (λpn R=>Ah (Ea (Xjh FA hr (by rfl) xY xZ ya .nil (Aa (pv 0) (Aa (pv 1) (Aa (pv 2) Ac))))))
     (λpn ex=>Ah (Ap (i:=3) Oc.nd rfl (.inl rfl) Dw)))
   (Ah (Aq (pv 3)))),?_⟩
  refine⟨λC1 Z1 H1=>C1=C /\ Z1=[some (.ref r),some (.ref p),some (.ref q),some (.bl false)]/\Same H H1,?_,?_⟩
  ·refine⟨_,rfl,_,rfl,_,rfl,r,p,q,row,a,b,rfl,t2,h3,t2.hd,tab,λia ib=>?_,λ_ H' s'=>⟨C,rfl,rfl,rfl,s'⟩⟩;rcases xH with e | e
   ·rw[ia] at e;cases e
   ·rw[ib] at e;cases e
  ·rintro C1 Z1 H1 ⟨rfl,rfl,s1⟩;exact⟨e1,_,rfl,k H1 s1⟩
end
end K17
set_option maxHeartbeats 8000000
namespace SH
open L2
def Tab2.butD{H H':Hp}{T T2 dr sc:ae}{p1 p2:bI}(t:Tab2 T T2 p1 p2 H)(d:DrawOk H dr sc)(b:But dr H H'):Tab2 T T2 p1 p2 H':=by
 obtain⟨xs,h⟩:=d.at;exact⟨SH.Au.but t.a h b,SH.Au.but t.b h b,t.n⟩
structure Ev18 (H:Hp) (T T2:ae) (p1 p2:bI) (r p q:ae) (row a b:Za):Prop where
 two:Two H r p q row a b
 tab:Tab2 T T2 p1 p2 H
section
variable {H H':Hp}{T T2:ae}{p1 p2:bI}{r p q:ae}{row a b:Za}
def Ev18.same(e:Ev18 H T T2 p1 p2 r p q row a b)(s:Same H H'):Ev18 H' T T2 p1 p2 r p q row a b:=⟨e.two.same s,e.tab.same s⟩
def Ev18.but3(e:Ev18 H T T2 p1 p2 r p q row a b)(t:Tab2 T T2 p1 p2 H')(b3:But3 T T2 H H'):Ev18 H' T T2 p1 p2 r p q row a b:=
 ⟨⟨e.tab.but3 b3 e.two.hr λz=>by simp,e.two.r2,e.two.hd,e.tab.but3 b3 e.two.hp λz=>by simp,e.tab.but3 b3 e.two.hq λz=>by simp,e.two.oa,e.two.ob,e.two.la,e.two.lb⟩,t⟩
def Two.swap(t:Two H r p q row a b):Two H r q p row b a:=⟨t.hr,t.r2,t.hd,t.hq,t.hp,t.ob,t.oa,t.lb,t.la⟩
end
end SH
namespace K17
open L2 SH
def K9 (K:LD) (T T2:ae):Sp:=λvs H Q _=>∃(a:ae) (ns:List Int),vs=[.ref a]/\SqL K H a (ns.map V.int)/\ns.length<=63/\H T=some (.tbl #[])/\H T2=some (.tbl #[])/\∀H',Q (.bl true) H'
def Xrs{t u:TS}{D:Ends}{Z:L2.St}{H:Hp}(P:L2.St->Hp->Prop)(h2:∀Z' H',P Z' H'->u D Z' H')(h1:∀nx,(∀Z' H',P Z' H'->nx Z' H')->t {D with nx:=nx} Z H):Fc t u D Z H:=h1 (u D) h2
section
variable {P:ao}{w:aw}{K:LD}{mg:ak->Option aa}{base:am}
abbrev NL17:Za:=["_law_script", "_law_draw", "_law_row_here", "_law_some", "_law_one_here", "_law_other", "_law_odd", "_law_found", "_law_here", "_law_name", "_law_ways_here", "_law_kept"]
def C6:FnScope NL17 ["_law_script"] (defScope s_law):=by walk_at "s"
def Xrt{f C T T2:ae}{fd:au}(nT:T≠T2)(F:Fun K "law" "law" s_law f fd)(B:Bl mg)(FB:Fn P w K mg base CX0 1 "_law_begin" ["_law_script"] (Xdc K))(FP:FnPick P w K mg base)
  (FI:Fn P w K mg base CX0 4 "_law_island" ["_law_draw", "_law_most"] spIslandN) (yb:Fn P w K mg base CX0 3 "_law_plots" ["_law_row_here"] spPlots) (uR:Fn P w K mg base CX0 2 "_law_one" ["_law_draw", "_law_some"] Xem)
  (FO:Fn P w K mg base CX0 2 "_law_odd_plot" ["_law_draw", "_law_row_here", "_law_plot"] spOdd) (FG:Fn P w K mg base CX0 3 "_law_good_plot" ["_law_row_here", "_law_plot"] spGood) (FT:Fn P w K mg base CX0 1 "_law_texts" ["_law_found"] spTexts) (FA:Fn P w K mg base CX0 1 "_law_apart" ["_law_one_here", "_law_other"] spApart)
  (yc:Fn P w K mg base CX0 4 "_law_onward" ["_law_row_here", "_law_here", "_law_there"] Xgq)
  (uS:Fn P w K mg base CX0 9 "_law_refused" ["_law_row_here", "_law_one_here", "_law_other"] (spRef18 T T2 (lamPos s_in_order) (lamPosW s_ways_to)))
  (tU:Fn P w K mg base (CX1 P w) 8 "walk" ["row", "one", "other"] (N6 C T T2 (lamPos s_in_order) (lamPosW s_ways_to))):
  FnOk P w K mg base CX0 10 f fd ["_law_script"] (K9 K T T2):=by
 refine F.ok C6 (by walk_at "l") ?_
 ·walk_at "i"
  obtain⟨a,ns,rfl,hS,aN,vy,HN,k⟩:=h;have hu:=Ct hr;have cr:Room 1 _:=hr.mono (by decide);have fc:Room 2 _:=hr.mono (by decide);have qC:Room 3 _:=hr.mono (by decide);have AA:Room 4 _:=hr.mono (by decide);have AB:Room 8 _:=hr.mono (by decide);refine⟨_,Ag (Ap (i:=1) C6.nd rfl (.inl rfl) (Ak FB cr (by rfl) Am (Aa (pv 0) Ac)))
   (Ag (Ap (i:=2) C6.nd rfl (.inl rfl) (Ak FI AA (by rfl) Am (Aa (pv 1) (Aa Ai Ac))))
   (Ag (Ap (i:=3) C6.nd rfl (.inl rfl) (Ak yb qC (by rfl) Am (Aa (pv 2) Ac)))
   (Ag (Ap (i:=4) C6.nd rfl (.inl rfl) (Ak uR fc (by rfl) Am (Aa (pv 1) (Aa (pv 3) Ac))))
   (Ag (Ap (i:=5) C6.nd rfl (.inl rfl) (Ak uR fc (by rfl) Am (Aa (pv 1) (Aa (pv 3) Ac))))
   (Ag (Bb (Aw B5 (Ak FP cr (by rfl) Am (Aa (pv 1) (Aa Ai Ac))) Ai (Az _)) (Ag (Ap (i:=6) C6.nd rfl (.inl rfl) (Ak FO fc (by rfl) Am (Aa (pv 1) (Aa (pv 2) (Aa (pv 5) Ac)))))
   (Ah (Bb (Jd (En (Ak FG qC (by rfl) Am (Aa (pv 2) (Aa (pv 6) Ac))))) (Ah (Aq (Lc (Ak uS hr (by rfl) Am (Aa (pv 2) (Aa (pv 4) (Aa (pv 6) Ac)))) (Je (Ak uS hr (by rfl) Am (Aa (pv 2) (Aa (pv 6) (Aa (pv 4) Ac)))))))) Bc))) Bc)
   (Ag (Ap (i:=7) C6.nd rfl (.inl rfl) (Ak tU AB (by rfl) Mg (Aa (pv 2) (Aa (pv 4) (Aa (pv 5) Ac)))))
   (Ag (Bb (F3 (Jd (En (Ak FT cr (by rfl) Am (Aa (pv 7) Ac)))) (F2 (Aw (L4 (Rw hu)) (A8 Mu (by rfl) B.sorted (by rfl) (Aa (pv 7) Ac)) (Ak FA cr (by rfl) Am (Aa (pv 4) (Aa (pv 5) Ac))) (Az _)))).pt (Ah (Aq Dw)) Bc)
   (Ag (Ap (i:=8) C6.nd rfl (.inl rfl) (pv 4))
   (Ag (Ca aT.never rfl (Bp (pv 7)) (Ax (i:=9) C6.nd rfl (.inl rfl)) (Ag (Ap (i:=10) C6.nd rfl (.inl rfl) (Ak yc AA (by rfl) Am (Aa (pv 2) (Aa (pv 8) (Aa (pv 5) Ac)))))
   (Ag (Bb (F3 (Aw (Mq (hu3 hr)) (pv 10) (Bq Ac) (Az _)) (F2 (Aw G5 (A0 G6 (A0 Bf (pv 10) Ai (λ_ _=>rfl)) Ai (λ_ _=>rfl)) (pv 9) (Az _)))).pt (Ah (Aq Dw)) Bc)
   (Ah (Ap (i:=8) C6.nd rfl (.inl rfl) (A0 G6 (A0 Bf (pv 10) Ai (λ_ _=>rfl)) Ai (λ_ _=>rfl)))))))
   (Ag (Ap (i:=11) C6.nd rfl (.inl rfl) (B1 G9 (by rfl) B.list (by rfl) (Aa (pv 7) Ac)))
   (Ag (Ea (Hh PySem.F.plainAttrs_list PySem.F.slot_list_append PySem.F.type_list_append F7 (pv 7) (Aa Bg Ac)))
   (Ah (Aq (Lc (Ep (Mq (hu3 hr)) (pv 8) (pv 5) (Az _)) (Je (Ep (Xb3 (Rw hu)) (Ak tU AB (by rfl) Mg (Aa (pv 2) (Aa (pv 4) (Aa (pv 5) Ac)))) (pv 11) (Az _))))))))))))))))),?_⟩
  refine⟨_,rfl,a,ns,rfl,hS,aN,λdr sc H1 yS KW d1 s1=>?_⟩;have yd:Tab2 T T2 (lamPos s_in_order) (lamPosW s_ways_to) H1:=⟨.inl (s1 _ _ vy),.inl (s1 _ _ HN),nT⟩;refine⟨_,rfl,dr,sc,14,rfl,by decide,d1,λr row n0 cc tV H3 HP pF ye mO HQ fm d3 b2=>?_⟩;have js:=yd.butD d1 b2;have jH:r≠dr:=(d1.ne HP).1;have hI:Isl row:=⟨n0,cc,tV,pF,ye,HQ⟩;have R2:=hI.row2;have fr:=hI.dlen;have gH:∀t,Ad row t=true->(∀y∈t,okN y)/\t.length<=14:=λt ht=>⟨λy hy=>R2.ok y ((Bj ht).1 y hy),Pj (El ht) fr⟩;dsimp only[Fc,F5,A7];refine⟨_,rfl,r,row,rfl,mO,R2,fm,fr,λl ps H4 nl l6 fo KY tQ s4=>?_⟩;have d4:=d3.same s4;have kL:=js.same s4;have jK:l≠dr:=(d3.ne nl).1;have AC:0<ps.length:=List.length_pos_iff.mpr fo;have tW:∀i,i<ps.length->∃t,H4 (ps.getD i 0)=some (.tup (t.map V.str))/\Ad row t=true:=λi hi=>by
   have e:ps.getD i 0=ps[i]:=by simp[List.getD,hi]
   obtain⟨t,h1,h2⟩:=tQ (ps.getD i 0) (by rw[e];exact Ph hi);exact⟨t,h1,h2⟩
  refine⟨_,rfl,_,rfl,dr,sc,l,_,rfl,d4,l6,jK,by rw[Od];exact AC,by rw[Od];omega,λi1 H5 qx d5 b5=>?_⟩;rw[Od] at qx;rw[Bt V.ref 0 ps qx];have b5:But dr H4 H5:=b5;refine⟨_,rfl,_,rfl,dr,sc,l,_,rfl,d5,b5 _ _ l6 jK,jK,by rw[Od];exact AC,by rw[Od];omega,λi2 H6 eQ d6 b6=>?_⟩;rw[Od] at eQ;rw[Bt V.ref 0 ps eQ];have uT:But dr H4 H6:=b5.trans b6;obtain⟨x,px,ix⟩:=tW i1 qx;obtain⟨y,lK,iy⟩:=tW i2 eQ;generalize ps.getD i1 0=p at *;generalize ps.getD i2 0=q at *;have kt:∀{H':Hp} {p:ae} {t:Za},But dr H4 H'->H4 p=some (.tup (t.map V.str))->H' p=some (.tup (t.map V.str)):=λb h=>b _ _ h (d4.ntup _ _ h);have AD:=uT _ _ (s4 _ _ mO) jH;have yf:=kL.butD d4 uT;have t6:Two H6 r p q row x y:=⟨AD,R2,fr,kt uT px,kt uT lK,(gH x ix).1,(gH y iy).1,by have:=(gH x ix).2;omega,by have:=(gH y iy).2;omega⟩;refine Xrs (t:=Xaf _ _ _) (fun Z H7=>∃(v6:Option V), Z=[some (.ref a),some (.ref dr),some (.ref r),some (.ref l),some (.ref p),some (.ref q),v6,none,none,none,none,none]/\Ev18 H7 T T2 (lamPos s_in_order) (lamPosW s_ways_to) r p q row x y) ?_ ?_
  ·rintro Z H7 ⟨v6,rfl,e7⟩;dsimp only[Fc,F5,A7];refine⟨_,rfl,_,rfl,_,rfl,r,p,q,row,x,y,rfl,e7.two,fm,fr,e7.tab,λ_ _ fl H8 yg oy yh b8=>?_,λz=>by rw[ix,iy] at z;rcases z with z | z<;>cases z⟩;have e8:=e7.but3 yh b8;have hW:=N5 R2.two iy _ ix rfl;have KZ:(wkL row y x 0).length<=28:=by
    rw[hW.length_eq];have h1:=Kk x y;have h2:=(gH x ix).2;have h3:=(gH y iy).2;omega
   refine⟨_,rfl,fl,_,rfl,oy,by omega,λH9 s9=>⟨_,rfl,?_⟩⟩;have e9:=e8.same s9;have tX:=s9 _ _ oy;refine Bn ?_;refine⟨_,rfl,fl,_,rfl,tX,by omega,λsl HR=>?_⟩;rw[Xp4 R2.two ix iy];have sa:Same H9 (upd H9 sl (.lst ((Af x y).map V.str))):=Same.upd0 HR;have j6:upd H9 sl (.lst ((Af x y).map V.str)) sl=some (.lst ((Af x y).map V.str)):=Ab;generalize upd H9 sl (.lst ((Af x y).map V.str))=Ha at sa j6;have ea:=e9.same sa;refine⟨_,rfl,_,rfl,p,q,x,y,rfl,ea.two.hp,ea.two.hq,ea.two.la,ea.two.lb,λlx Hb uE iV sb=>?_⟩;have eb:=ea.same sb;refine⟨sl,lx,_,_,rfl,rfl,SqL.of (sb _ _ j6),SqL.of iV,E1 _,E1 _,_,rfl,?_⟩;rw[Hl,Tl rfl];refine Bn ?_;dsimp only[G2];have pV:=sb _ _ (sa _ _ tX);refine⟨_,rfl,?_⟩;refine⟨_,rfl,fl,rfl,⟨_,SqL.of pV⟩,?_⟩;refine Dh (K:=K) (a:=fl) (xs:=(wkL row y x 0).map V.str) (λi Z Hc=>∃(h:ae) (S:Za) (v9 mF:Option V), Z=[some (.ref a),some (.ref dr),some (.ref r),some (.ref l),some (.ref p),some (.ref q),v6,some (.ref fl),some (.ref h),v9,mF,none]/\Same Hb Hc/\Hc h=some (.tup (S.map V.str))/\Ad row S=true/\(wkL row y x 0).drop i=wkL row y S 0) ?_ ?_ ?_ ?_
   ·exact⟨p,x,_,_,rfl,Same.refl _,eb.two.hp,ix,rfl⟩
   ·rintro i Z Hc _ ⟨h,S,v9,mF,rfl,nY,_⟩;exact SqL.of (nY _ _ pV)
   ·rintro i v Z Hc hv ⟨h,S,v9,mF,rfl,nY,hh,o4,fO⟩;obtain⟨z,rfl,hz⟩:∃z,v=V.str z/\(wkL row y x 0)[i]? = some z:=by
     rw[Ov] at hv;cases e:(wkL row y x 0)[i]? with
     | none=>rw[e] at hv;cases hv
     | some z=>rw[e] at hv;exact⟨z,(Ox hv).symm,rfl⟩
    have fE:i<(wkL row y x 0).length:=(Oz.mp hz).1;have HS:(wkL row y x 0)[i]=z:=(Oz.mp hz).2;rw[Ql fE,HS] at fO;have HU:S≠y:=λe=>by rw[e,Xgm] at fO;cases fO
    obtain⟨yi,rs,yj,Le,L',bL,HV⟩:=N4 R2.two o4 iy HU;rw[HV] at fO;have ez:z=yi.1:=(List.cons.inj fO).1;have HW:=(List.cons.inj fO).2;dsimp only[A7];refine⟨_,rfl,_,rfl,_,rfl,r,h,q,row,S,y,rfl,nY _ _ eb.two.hr,R2,fr,hh,nY _ _ eb.two.hq,o4,iy,λD qs Hd nD hD hn sd=>?_⟩;have yk:0<qs.length:=by rw[hn.1,yj];exact Nat.succ_pos _
    obtain⟨pz,g1,g2⟩:=hn.2 0 yk;have eg:(waL row S (Af S y)).getD 0 dN=yi:=by rw[yj];rfl
    rw[eg] at g1 g2;have AE:∀z∈waL row S (Af S y),okN z.1/\∀y∈z.2,okN y:=λz hz=>by
     obtain⟨a1,a2,a3⟩:=K4.mp hz;refine⟨R2.ok _ ?_,(gH _ a3).1⟩;rcases E4.mp a1 with t | t
     ·exact(Bj o4).1 _ t.1
     ·exact(Bj iy).1 _ t.1
    dsimp only[A7];refine⟨_,rfl,by show 0<=sizeLine;decide,λe0 xf=>?_⟩;have kM:Same Hd (upd Hd e0 (.lst [])):=(Same.refl Hd).step xf;have he:upd Hd e0 (.lst []) e0=some (.lst []):=Ab;dsimp only[Fe];generalize upd Hd e0 (.lst [])=He at kM he;have AF:Bo (.list (([]:List (ak×Za)).map dNb))=true:=Nq (xs:=[]) λ_ h=>(nomatch h);have dq:=kM _ _ hD;refine⟨.list ((waL row S (Af S y)).map dNb),.list (([]:List (ak×Za)).map dNb),Xnu dq (hn.same kM),Mn he Dn,Da _ (Nq AE),Da _ AF,Pj (Nat.min_le_right _ _) (by decide),_,rfl,?_⟩;have ef:ar.eqv (.list ((waL row S (Af S y)).map dNb)) (.list (([]:List (ak×Za)).map dNb))=false:=by
     cases hq:ar.eqv (.list ((waL row S (Af S y)).map dNb)) (.list (([]:List (ak×Za)).map dNb)) with
     | false=>rfl
     | true=>
      have:=(J6 _ _ (Nq AE) AF).mp hq;injection this with this
      rw[yj] at this;cases this
    rw[ef];refine Bn ?_;have AG:atI (qs.map V.ref) 0=some (.ref (qs.getD 0 0)):=by
     unfold atI ixN;rw[Od,Tk (by decide),Tk (by omega)];show (qs.map V.ref)[0]? = _;rw[Ov,Oe yk,List.getD,Oe yk];rfl
    refine⟨_,rfl,D,_,_,_,rfl,rfl,SqL.of dq,AG,_,_,_,_,rfl,rfl,SqT.of (kM _ _ g1),rfl,_,rfl,rfl,_,rfl,?_⟩;rw[<-ez,Tl rfl];refine Bn ?_;dsimp only[G2];refine⟨_,rfl,D,_,_,_,rfl,rfl,SqL.of dq,AG,_,_,_,_,rfl,rfl,SqT.of (kM _ _ g1),rfl,?_⟩;exact⟨pz,yi.2,_,_,rfl,(nY.trans sd).trans kM,kM _ _ g2,bL,HW⟩
   ·rintro Z Hc ⟨h,S,v9,mF,rfl,nY,hh,o4,fO⟩;rw[Od,List.drop_length] at fO;have HX:S=y:=by
     by_cases e:S=y
     ·exact e
     ·obtain⟨q0,_,_,_,_,_,ew⟩:=N4 R2.two o4 iy e;rw[ew] at fO;cases fO
    subst HX;have ec:=eb.same nY;have pY:=nY _ _ pV;refine⟨_,rfl,fl,_,rfl,.inl (SqL.of pY),λkp AH=>?_⟩;have sk:Same Hc (upd Hc kp (.lst ((wkL row S x 0).map V.str))):=Same.upd0 AH;have AI:upd Hc kp (.lst ((wkL row S x 0).map V.str)) kp=some (.lst ((wkL row S x 0).map V.str)):=Ab;generalize upd Hc kp (.lst ((wkL row S x 0).map V.str))=Hd at sk AI;have ed:=ec.same sk;have kP:=sk _ _ pY;dsimp only[A7];refine⟨_,rfl,.inl ⟨rfl,_,SqL.of kP⟩,fl,_,_,rfl,rfl,kP,by rw[Od,Ti];omega,?_⟩;have HY:kp≠fl:=(Av pY AH).symm;have hhd:=sk _ _ hh;have HZ:h≠fl:=λe=>by rw[e,kP] at hhd;cases hhd
    have bf:But fl Hd (upd Hd fl (.lst ((wkL row S x 0).map V.str++[.str "none"]))):=λb o e n=>by rw[Ae n];exact e
    generalize upd Hd fl (.lst ((wkL row S x 0).map V.str++[.str "none"]))=He at bf;have Is:=bf _ _ hhd HZ;have IA:=bf _ _ AI HY;have nr:r≠fl:=Av e7.two.hr yg;have np:p≠fl:=Av e7.two.hp yg;have nq:q≠fl:=Av e7.two.hq yg;have te:Tab2 T T2 (lamPos s_in_order) (lamPosW s_ways_to) He:=⟨SH.Au.but' ed.tab.a kP (λz=>by simp) (λz=>by simp) bf,SH.Au.but' ed.tab.b kP (λz=>by simp) (λz=>by simp) bf,ed.tab.n⟩;have tw:Two He r p q row x S:=⟨bf _ _ ed.two.hr nr,R2,fr,bf _ _ ed.two.hp np,bf _ _ ed.two.hq nq,ed.two.oa,ed.two.ob,ed.two.la,ed.two.lb⟩;refine⟨_,rfl,_,rfl,_,_,Dc Is,Dc tw.hq,Da _ (C2 (gH S iy).1),Da _ (C2 (gH S iy).1),Ii _ _,_,rfl,?_⟩;rw[Ij (gH S iy).1 (gH S iy).1,Tl rfl,Tk rfl];refine⟨_,rfl,_,rfl,_,rfl,r,p,q,row,x,S,rfl,tw,fm,fr,te,λ_ _ f2 Hf LA IB tf IC=>?_,λz=>by rw[ix,iy] at z;rcases z with z | z<;>cases z⟩;have ID:=te.but3 IC IA λz=>by simp
    refine⟨_,rfl,f2,kp,_,_,rfl,rfl,SqL.of IB,SqL.of ID,E1 _,E1 _,?_⟩;rw[Hl,Tl rfl];exact k Hf
  ·intro nx kn;refine⟨_,rfl,dr,sc,8,rfl,by decide,by decide,d6,λm H7 m0 m1 d7 b7=>?_⟩;have b7:But dr H6 H7:=b7;have tY:=yf.butD d6 b7;have t7:Two H7 r p q row x y:=⟨b7 _ _ AD jH,R2,fr,b7 _ _ t6.hp (d6.ntup _ _ t6.hp),b7 _ _ t6.hq (d6.ntup _ _ t6.hq),t6.oa,t6.ob,t6.la,t6.lb⟩;refine⟨rfl,_,rfl,?_⟩;refine A2 (λ_=>?_) (λ_=>kn _ _ ⟨_,rfl,t7,tY⟩);dsimp only[Fc,F5,A7];refine⟨_,rfl,_,rfl,_,rfl,dr,sc,r,q,row,y,rfl,d7,t7.hr,jH,hI,t7.hq,t7.ob,by have:=t7.lb;omega,λo ss H8 ho hok ul d8 b8=>?_⟩;have b8:But dr H7 H8:=b8;have e8:Ev18 H8 T T2 (lamPos s_in_order) (lamPosW s_ways_to) r p q row x y:=⟨⟨b8 _ _ t7.hr jH,R2,fr,b8 _ _ t7.hp (d7.ntup _ _ t7.hp),b8 _ _ t7.hq (d7.ntup _ _ t7.hq),t7.oa,t7.ob,t7.la,t7.lb⟩,tY.butD d7 b8⟩;have LB:y.length<=14:=(gH y iy).2;refine⟨_,rfl,_,rfl,r,o,row,ss,rfl,e8.two.hr,R2,ho,hok,by omega,λH9 s9=>⟨_,rfl,?_⟩⟩;rw[Kc R2.two];have e9:=e8.same s9;cases hg:Ad row ss with
   | true=>exact Bn (kn _ _ ⟨_,rfl,e9⟩)
   | false=>
    refine B3 ?_;have tq:Two H9 r p o row x ss:=⟨e9.two.hr,R2,fr,e9.two.hp,s9 _ _ ho,e9.two.oa,hok,e9.two.la,by omega⟩;refine⟨_,rfl,_,rfl,_,rfl,r,p,o,row,x,ss,rfl,tq,fm,e9.tab,.inr hg,λHa sa=>?_⟩;refine⟨_,rfl,?_⟩;rw[Tk rfl];exact⟨_,rfl,_,rfl,_,rfl,r,o,p,row,ss,x,rfl,(tq.same sa).swap,fm,e9.tab.same sa,.inl hg,λHb sb=>k Hb⟩
end
end K17
set_option maxHeartbeats 4000000
namespace PySem.OldK
def of_tabs{h₀ h:am}{L:List ae}(ht:∀T∈L,isCodeTable h₀ T)(hT:∀T∈L,h₀.get? T=some (LP #[]))(m9:∀T∈L,∃ps,h.get? T=some (LP ps))(k:∀b o,b∉L->h₀.get? b=some o->h.get? b=some o):AY h₀ h:=by
 refine⟨λb o e=>?_,λb o e=>?_⟩
 ·by_cases z:b∈L
  ·obtain⟨ps,jd⟩:=m9 b z;rw[hT b z] at e;cases e;exact .inr (.inl ⟨ht b z,rfl, #[],ps,rfl,by simpa using jd⟩)
  ·exact .inl (k b o z e)
 ·by_cases z:b∈L
  ·obtain⟨ps,jd⟩:=m9 b z;exact⟨_,jd⟩
  ·exact⟨o,k b o z e⟩
end PySem.OldK
namespace L2
def Xru{P:ao}{w:aw}{K:LD}{mg mb:ak->Option aa}{CX:CXT}{k:Nat}{fa a:ae}{fd:au}{x:ak}{sp:Sp}{s₁ : af}{vs:List aa}{ns:List Int}{L:List ae}
  (hT:∀T∈L,s₁.heap.get? T=some (LP #[])) (hTK:∀T∈L,K.lookup T=none) (hhd:∀T∈L,∃c0,LO K c0 T=true) (jB:BmOk mg s₁.heap)
  (KX:K.In s₁.heap) (lO:s₁.heap.Ns ap mg) (hb:s₁.heap.Ns cP mb) (x6:∀x:ak,x ≠ "__name__" -> mb x=bA x) (yl:s₁.heap.NoLimit) (hg:s₁.gens = #[])
  (ha:s₁.heap.get? a=some {cls:=.type "list",data:=.seq vs.toArray}) (hi:cS vs ns) (hl:ns.length<=sizeLine) (hr:Room k eK)
  (F:∀base:am,K.In base->base.Ns ap mg->BmOk mg base->FnOk P w K mg base CX k fa fd [x] sp) (tZ:∀(s:af) (u:aa),eC s fd ⟨[u],[]⟩ [(x,u)])
  (gY:∀H:Hp,(∀T∈L,H T=some (.tbl #[]))->SqL K H a (ns.map V.int)->sp [.ref a] H (λv _=>v = .bl true) λ_ _ _=>False)
  (ym:∀H e s',CX [] H s₁ (λ_ _ _=>False) e s'->False):
  bw (ag P w) eK (.call (.ref fa) ⟨[.ref a],[]⟩) (λr s'=>r = .ok (.ret (.bool true))/\AY s₁.heap s'.heap/\s'.os=s₁.os/\c6 s'.gens) s₁:=by
 have rv:=Xbs hi;have yn:=hi.length;have ua:∀H:Hp,(∀T∈L,H T=some (.tbl #[]))->(∀b,b∉L->H b=none \/ ∃o xs,H b=some (.frz o (.lst xs)))->SqL K H a (ns.map V.int)->HOk P w H s₁.heap->(∀b,H b≠none->b=a\/b∈L)->(H a≠none->K.lookup a=none) ->
   bw (ag P w) eK (.call (.ref fa) ⟨[.ref a],[]⟩) (λr s'=>r = .ok (.ret (.bool true))/\AY s₁.heap s'.heap/\s'.os=s₁.os/\c6 s'.gens) s₁:=by
  intro H AJ hO hS hok hA hK;have fP:∀{b:ae} {o:aK},s₁.heap.get? b=some o->H b=none->(Dv s₁.heap H).get? b=some o:=λe n=>Xg9 e n;have lD:∀{b:ae} {o:aK} {es:Array fj} {ep:Nat},s₁.heap.get? b=some o->o.data = .dict es ep->H b=none:=λ{b o es ep} e d=>by
   cases q:H b with
   | none=>rfl
   | some u=>
    rcases hA b (by rw[q];simp) with e' | e'
    ·subst e';rw[ha] at e;cases e;have d':vb.seq vs.toArray _=vb.dict es ep:=d;cases d'
    ·rw[hT b e'] at e;cases e;cases d
  have uU:∀{b:ae} {m:ak->Option aa},s₁.heap.Ns b m->(Dv s₁.heap H).Ns b m:=λ{b m} ⟨o,es,ep,e,d,r⟩=>⟨o,es,ep,fP e (lD e d),d,r⟩;have AK:K.In (Dv s₁.heap H):=λb o e=>fP (KX b o e) (by
   cases q:H b with
   | none=>rfl
   | some u=>
    rcases hA b (by rw[q];simp) with e' | e'
    ·subst e';rw[hK (by rw[q];simp)] at e;cases e
    ·rw[hTK b e'] at e;cases e)
  have yo:BmOk mg (Dv s₁.heap H):=by
   obtain⟨bm,ob,b1,b2,b3,b4,b5,b6⟩:=jB;refine⟨bm,ob,b1,b2,fP b3 ?_,b4,b5,b6⟩;cases q:H bm with
   | none=>rfl
   | some u=>
    rcases hA bm (by rw[q];simp) with e' | e'
    ·subst e';rw[ha] at b3;cases b3;exact absurd (show aa.type "list" = aa.type "module" from b4) (by decide)
    ·rw[hT bm e'] at b3;cases b3;cases b4
  have hM:Mod K mg (Dv s₁.heap H):=⟨AK,uU lO,⟨mb,uU hb,x6⟩,let ⟨mc,h1,h2⟩:=yl; ⟨mc,uU h1,h2⟩⟩;have e0:Env0 P w K mg (Dv s₁.heap H) eK [] s₁ H:=⟨rfl,hM,λb o e=>Xha e,Nat.le_of_eq (Xg8 _ _),trivial,λb hb=>absurd (show b∈([]:List ae) from hb) (by simp),hok,.of_eq hg⟩;refine bi ((F _ AK (uU lO) yo).run eK [] s₁ H ⟨[.ref a],[]⟩ [.ref a] [.ref a] _ _ hr e0 (tZ s₁ (.ref a)) (.cons rfl .nil) (gY H AJ hS)) λr s' h=>?_;cases r with
  | error e=>exact(ym H e s' h).elim
  | ok fl=>
   cases fl with
   | next=>exact False.elim h
   | brk=>exact False.elim h
   | cont=>exact False.elim h
   | ret u=>
    obtain⟨v,H',os,bare,un,ub,r',q⟩:=h;have q':v = .bl true:=q;subst q';obtain rfl:u=aa.bool true:=r';refine⟨rfl,AY.of_tabs (L:=L) (λT hm=>by obtain⟨c0,hh⟩:=hhd T hm;have C:=LW KX hh;exact(C.tab (hT T hm)).isCodeTable) hT (λT hm=>?_) λb o nb e=>?_,os,bare⟩
    ·obtain⟨bZ,IE⟩:=un.tbls T #[] (AJ T hm);exact⟨#[]++bZ,ub T _ IE⟩
    cases q:H b with
    | none=>exact un.keep b o e q (by intro z;exact absurd (show b∈([]:List ae) from z) (by simp)) (by simp)
    | some u=>
     rcases hO b nb with z | ⟨ob,xs,z⟩
     ·rw[q] at z;cases z
     ·have z2:=un.frzs b ob _ z;obtain⟨e1,_⟩:=hok b _ z;obtain⟨e2,_⟩:=ub b _ z2;rw[e] at e1;cases e1;exact e2
 cases hk:K.lookup a with
 | some o=>
  have e:=KX a o hk;rw[ha] at e;cases e;have yp:a∉L:=λz=>by rw[hTK a z] at hk;cases hk
  refine ua (λb=>if b∈L then some (.tbl #[]) else none) (λT hm=>Tk hm) (λb n=>.inl (Tj n)) (.inr ⟨_,vs.toArray,_,hk,rfl,rfl,rfl,by rw[Oi,yn];exact hl,by simpa using rv⟩) (λb u z=>?_) (λb z=>.inr (Classical.byContradiction λn=>z (Tj n))) λz=>absurd (Tj yp) z;by_cases hb:b∈L
  ·have z':=(Tk hb).symm.trans z;cases z';exact hT b hb
  ·have z':=(Tj hb).symm.trans z;cases z'
 | none=>
  have yp:a∉L:=λz=>by have:=hT a z;rw[ha] at this;cases this
  refine ua (λb=>if b∈L then some (.tbl #[]) else if b=a then some (.frz {cls:=.type "list",data:=.seq vs.toArray} (.lst (ns.map V.int))) else none) (λT hm=>Tk hm) (λb n=>?_) (.inl (.inr ⟨{cls:=.type "list",data:=.seq vs.toArray},(Tj yp).trans (Tk rfl)⟩)) (λb u z=>?_) (λb z=>?_) λ_=>hk
  ·by_cases hb:b=a
   ·exact .inr ⟨_,_,(Tj n).trans (Tk hb)⟩
   ·exact .inl ((Tj n).trans (Tj hb))
  ·by_cases hb:b∈L
   ·have z':=(Tk hb).symm.trans z;cases z';exact hT b hb
   ·have z1:=(Tj hb).symm.trans z;by_cases hb:b=a
    ·have z':=(Tk hb).symm.trans z1;cases z';subst hb;exact⟨ha,by rw[Od];exact hl,vs,_,rv,ha⟩
    ·have z':=(Tj hb).symm.trans z1;cases z'
  ·by_cases hb:b∈L
   ·exact .inr hb
   ·by_cases hc:b=a
    ·exact .inl hc
    ·exact absurd ((Tj hb).trans (Tj hc)) z
def Xrv{l:MU}{n k:Nat}{q:ao}{loose:Za}{XP:(ak->Option aa)->am->Prop}{YP:aw->am->Prop}{d:DefRec}{K:IF->LD}{CX:aw->CXT}{sp:aw->Sp}{x:ak}{L:List ae}
  (hn:l.most=some n) (xI:n<=sizeLine) (rm:d.params.defaults=[]) (hr:Room k eK)
  (hY:∀(w:aw) (h:am),YP w h->(K w.params).In h) (yq:∀(w:aw) (h:am),YP w h->∀T∈L,h.get? T=some (LP #[])) (hTK:∀P,∀T∈L,(K P).lookup T=none) (hhd:∀P,∀T∈L,∃c0,LO (K P) c0 T=true)
  (F:∀(w:aw) (mg:ak->Option aa) (fa:ae) (h:am),(K w.params).In h->h.Ns ap mg->mg d.name=some (.ref fa) ->
   ∃fd:au,(∀(s:af) (u:aa),eC s fd ⟨[u],[]⟩ [(x,u)]) /\
    ∀base:am,(K w.params).In base->base.Ns ap mg->BmOk mg base->FnOk l.prog w (K w.params) mg base (CX w) k fa fd [x] (sp w))
  (gY:∀(w:aw) (H:Hp) (a:ae) (ns:List Int),ns.length<=n->(∀T∈L,H T=some (.tbl #[]))->SqL (K w.params) H a (ns.map V.int)->sp w [.ref a] H (λv _=>v = .bl true) λ_ _ _=>False)
  (ym:∀(w:aw) (H:Hp) (s:af) (e:aa) (s':af),CX w [] H s (λ_ _ _=>False) e s'->False):
  MY q loose XP YP l.row.toRowW d [] (λf vs=>PySem.call f vs):=by
 refine Att.attach_call hn rm λw s₀ s₁ mg mb fa o pm cd cX a vs ns G Y ho hd gW hmg ou jT aN hg=>?_;have KX:=hY w _ Y;obtain⟨fd,hb,hF⟩:=F w mg fa _ KX G.T.g hmg;exact Xru (yq w _ Y) (hTK _) (hhd _) G.T.bmain KX G.T.g G.T.b G.T.builtins G.T.nolimit hg ou jT (Pj aN xI) hr hF hb (λH hO hS=>gY w H a ns aN hO hS) λH e s'=>ym w H s₁ e s'
def Fn.ofT{P:ao}{w:aw}{K:LD}{h:am}{mg:ak->Option aa}{base:am}{CX:CXT}{k:Nat}{x:ak}{st:aM}{ps:Za}{sp:Sp}{T:ae}(X:K.In h)(G:h.Ns ap mg)(D:DefT K x st T)
  (hb:∀(kV cX pm:aa) (an:Option ae) (cdv ct:aa) (us:List aa),us.length=ps.length->cL (LS x x (Ec st) (Cs st) (defScope st) .none kV cX pm an cdv ct) ⟨us,[]⟩=pure (ps.zip us))
  (ok:∀f fd,FunT K x st f fd T->FnOk P w K mg base CX k f fd ps sp):Fn P w K mg base CX k x ps sp:=by
 obtain⟨f,fd,a,hk,F,F'⟩:=D.ex;exact⟨⟨f,fd,LZ X G a,hk,F'.binds hb,ok f fd F⟩⟩
end L2
namespace HD
open PySem PySem.W PySem.Calls PyProof.Rows
abbrev O:=Option SharedT
noncomputable abbrev B (a b:O) (c:Bool):O := @Bool.rec (λ_=>O) a b c
noncomputable def go (F:SharedT->dY->Option (SharedT×dY)) (ok:dY->Bool) (n:Nat):SharedT->dY->O := @Nat.rec (λ_=>SharedT->dY->O) (λ_ _=>none) (λ_ ih s t=>B (B none (@Option.rec (SharedT×dY) (λ_=>O) none (λx=>@Prod.rec SharedT dY (λ_=>O) ih x) (F s t)) (ok t)) (some s) (through t)) n
def Xrw{tb p w m a z}:∀n s t,go (stepT (denote tb) p w) (stepOk m a) n s t=some z->topRun tb p w m a n s.abs t=some z.abs:=by
 intro n
 induction n with
 | zero=>intro s t h;cases h
 | succ n ih=>
  intro s t h;unfold topRun;have h':B (B none (@Option.rec (SharedT×dY) (λ_=>O) none (λx=>@Prod.rec SharedT dY (λ_=>O) (go (stepT (denote tb) p w) (stepOk m a) n) x) (stepT (denote tb) p w s t)) (stepOk m a t)) (some s) (through t)=some z:=h;cases ht:through t with
  | true=>rw[ht] at h';cases h';rfl
  | false=>
   cases hk:stepOk m a t with
   | false=>rw[ht,hk] at h';cases h'
   | true=>
    cases hs:stepT (denote tb) p w s t with
    | none=>rw[ht,hk,hs] at h';cases h'
    | some x=>
     rw[ht,hk,hs] at h';rw[stepT_spec hs];exact ih _ _ h'
noncomputable def tree (P:IF):BT:=((boot_heap P).objs.toList.foldl (λ(x:BT×Nat) o=>(x.1.ins x.2 o,x.2+1)) (.nil,0)).1
def Xrx(P):absHeap (tree P) 11 {}=boot_heap P:=by kernel_rfl
def Xry(P):((boot_heap P).isNs ap,(boot_heap P).objs.size,(boot_heap P).nsMap ap "__annotations__")=(true,11,some (.ref 6)):=by kernel_rfl
abbrev ck (p:ao) (g h:am) (z:af):=staticsOk (qQ p.main.body) g h&&namesBound p h&&gensDone z&&laidKept g h
def left{p q loose Xt α}{Yf:af->α}{Ya N g}(e:opening p=plainProg p.main.scope.names)(hN:Nat.ble 600 N=true)(f:∀s,fenceModules? p s=some s)
 (h:∀w:aw,(λos=>(go (Fast.tw10156331382660048174 (Fast.tw11892475500146522536 Fast.tw14364793385576792824) p w) (Fast.tw6613529449190102663 11 (some (.ref 6))) N ⟨tree w.params,11,{},#[],boot_drawn,boot_toks,os⟩ (topStub p)).map λz=>(ck p (boot_heap w.params) z.abs.heap z.abs,Fast.tw4187177175401517315 q loose (qQ p.main.body) Xt g z.abs,Yf z.abs))=λ_=>some (true,openGood q loose,Ya w)):LeftO p q loose Xt Yf Ya N g:=λw=>by
 rw[<-Fast.te10156331382660048174,<-Fast.te11892475500146522536,<-Fast.te14364793385576792824,<-Fast.te6613529449190102663,<-Fast.te4187177175401517315] at h;obtain⟨⟨hp,gs,d,k,os⟩,e1,e2⟩:=Sa.mp (boot_open e hN f w);obtain⟨rfl,rfl,rfl,rfl⟩:hp=boot_heap w.params/\gs=#[]/\d=boot_drawn/\k=boot_toks:=by simpa using e2
 obtain⟨z1,z2,z3⟩:_/\_/\_:=by simpa only[Prod.mk.injEq] using Xry w.params
 obtain⟨z,hz,l⟩:=Sa.mp (congrFun (h w) os);obtain⟨l1,l2,l3⟩:_/\_/\_:=by simpa only[Prod.mk.injEq] using l
 have r:=Xrw _ _ _ hz;rw[show (SharedT.mk (tree w.params) 11 {} #[] boot_drawn boot_toks os).abs=⟨boot_heap w.params,#[],boot_drawn,boot_toks,os⟩ by show af.mk (absHeap (tree w.params) 11 {}) _ _ _ _=_;rw[Xrx]] at r;unfold openEnds;rw[e1];show (topFrom LC p w N _).map _=_;rw[show topFrom LC p w N ⟨boot_heap w.params,#[],boot_drawn,boot_toks,os⟩=some z.abs by
  unfold topFrom;dsimp only;rw[z1,z2,z3,r];show (match ck p (boot_heap w.params) z.abs.heap z.abs with | true=>_ | false=>_)=_;rw[l1]]
 exact congrArg some (Prod.ext l2 l3)
def isDef:aM->Bool
 | .Assign _ (.Constant (.str _) _ _) _=>false
 | _=>true
end HD
namespace L2
open PySem
def len1{us:List aa}(h:us.length=1):∃a,us=[a]:=List.length_eq_one_iff.mp h
def len2{us:List aa}(h:us.length=2):∃a b,us=[a,b]:=by
 cases us with
 | nil=>cases h
 | cons a r=>
  obtain⟨b,rfl⟩:=len1 (Nat.succ.inj h);exact⟨a,b,rfl⟩
def len3{us:List aa}(h:us.length=3):∃a b c,us=[a,b,c]:=by
 cases us with
 | nil=>cases h
 | cons a r=>
  obtain⟨b,c,rfl⟩:=len2 (Nat.succ.inj h);exact⟨a,b,c,rfl⟩
def len4{us:List aa}(h:us.length=4):∃a b c d,us=[a,b,c,d]:=by
 cases us with
 | nil=>cases h
 | cons a r=>
  obtain⟨b,c,d,rfl⟩:=len3 (Nat.succ.inj h);exact⟨a,b,c,d,rfl⟩
end L2
local macro_rules | `(tactic| walk_at "1") => `(tactic| (intro _ _ _ _ _ _ us hl;obtain⟨a,e⟩:=L2.len1 hl;subst e;rfl))
local macro_rules | `(tactic| walk_at "2") => `(tactic| (intro _ _ _ _ _ _ us hl;obtain⟨a,b,e⟩:=L2.len2 hl;subst e;rfl))
local macro_rules | `(tactic| walk_at "3") => `(tactic| (intro _ _ _ _ _ _ us hl;obtain⟨a,b,c,e⟩:=L2.len3 hl;subst e;rfl))
local macro_rules | `(tactic| walk_at "4") => `(tactic| (intro _ _ _ _ _ _ us hl;obtain⟨a,b,c,d,e⟩:=L2.len4 hl;subst e;rfl))
namespace K17
open L2 SH
def Xrz{P:ao}{w:aw}{K:LD}{h:am}{mg:ak->Option aa}{fa jt kQ kT T_ uV:ae}(X:K.In h)(G:h.Ns ap mg)(IG:mg "law" = some (.ref fa))
  (gJ:DefAt K "ask_ditch" sAsk)
  (ju:DefAt K "ditches" sDitches)
  (pZ:DefAt K "ends" sEnds)
  (mP:DefAt K "spans" sSpans)
  (kU:DefAt K "lie_of" sLieOf)
  (gK:DefAt K "crossings" sCross)
  (qa:DefAt K "told" sTold)
  (d_in_order:DefT K "in_order" s_in_order T_)
  (kW:DefAt K "allows" sAllows)
  (jv:DefAt K "is_plot" sIsPlot)
  (iB:DefAt K "ask_plot" s_ask_plot)
  (mQ:DefAt K "plots" s_plots)
  (jw:DefAt K "parting" s_parting)
  (kX:DefAt K "across" s_across)
  (d_ways_to:DefT K "ways_to" s_ways_to uV)
  (qb:DefAt K "walk" s_walk)
  (kY:DefAt K "nearer" s_nearer)
  (jx:DefAt K "walk_of" s_walk_of)
  (fQ:DefAt K "_law_begin" sBegin)
  (gM:DefAt K "_law_pick" sPick)
  (iC:DefAt K "_law_put" sPut)
  (fR:DefAt K "_law_where" sWhere)
  (gN:DefAt K "_law_word" sWord)
  (f7:DefAt K "_law_barred" sBarred)
  (iD:DefAt K "_law_row" sRow)
  (fS:DefAt K "_law_names" sNames)
  (f8:DefAt K "_law_island" sIsland)
  (gO:DefAt K "_law_bars" s__law_bars)
  (gP:DefAt K "_law_fits" s__law_fits)
  (fT:DefAt K "_law_plots" s__law_plots)
  (iE:DefAt K "_law_one" s__law_one)
  (dZ:DefAt K "_law_stranger" s__law_stranger)
  (gQ:DefAt K "_law_flip" s__law_flip)
  (en:DefAt K "_law_odd_plot" s__law_odd_plot)
  (dO:DefAt K "_law_good_plot" s__law_good_plot)
  (dD:DefAt K "_law_texts" sTexts)
  (fU:DefAt K "_law_apart" s__law_apart)
  (gR:DefAt K "_law_ways" s__law_ways)
  (gT:DefAt K "_law_over" s__law_over)
  (f9:DefAt K "_law_onward" s__law_onward)
  (eW:DefAt K "_law_refused" s__law_refused)
  (uc:DefAt K "law" s_law)
  (x_NoDitch:ExcAt K "NoDitch" jt)
  (x_NoPlot:ExcAt K "NoPlot" kQ)
  (x_NoWalk:ExcAt K "NoWalk" kT)
  (IH:T_≠uV)
  (z_len:LJ K ap "len" = some none)
  (z_range:LJ K ap "range" = some none)
  (z_list:LJ K ap "list" = some none)
  (z_min:LJ K ap "min" = some none)
  (z_isinstance:LJ K ap "isinstance" = some none)
  (z_all:LJ K ap "all" = some none)
  (z_str:LJ K ap "str" = some none)
  (z_ValueError:LJ K ap "ValueError" = some none)
  (z_sorted:LJ K ap "sorted" = some none)
  (z_set:LJ K ap "set" = some none)
  (z_enumerate:LJ K ap "enumerate" = some none)
  (z_int:LJ K ap "int" = some none)
  (z_bool:LJ K ap "bool" = some none)
  (z_tuple:LJ K ap "tuple" = some none)
  (z_any:LJ K ap "any" = some none)
  (z_dict:LJ K ap "dict" = some none)
  (z_sum:LJ K ap "sum" = some none)
  (z_max:LJ K ap "max" = some none)
  : ∃fd:au,(∀(s:af) (v:aa),eC s fd ⟨[v],[]⟩ [("_law_script",v)])/\∀base:am,K.In base->base.Ns ap mg->BmOk mg base->FnOk P w K mg base CX0 10 fa fd ["_law_script"] (K9 K T_ uV):=by
 have T:Bl mg:=⟨LF X G z_len,LF X G z_range,LF X G z_list,LF X G z_min,LF X G z_isinstance,LF X G z_all,LF X G z_str,LF X G z_ValueError,LF X G z_sorted,LF X G z_set,LF X G z_enumerate,LF X G z_int,LF X G z_bool,LF X G z_tuple,LF X G z_any,LF X G z_dict,LF X G z_sum,LF X G z_max⟩;obtain⟨f,fd,a,hk,F⟩:=uc.ex;have e:=IG.symm.trans (LZ X G a);cases e;refine⟨fd,?_,λbase hB hG jB=>?_⟩
 ·obtain⟨oc,od,kV,cX,pm,an,cdv,ct,iM,rfl,lk,gW⟩:=F.ex;exact λs v=>.of_eq rfl
 ·have FB:Fn P w K mg base _ _ _ _ _:=Fn.of X G fQ (by walk_at "1") λf fd F=>Xq0 F T;have FP:FnPick P w K mg base:=Fn.of X G gM (by walk_at "2") λf fd F=>Xq1 F T;have FU:Fn P w K mg base _ _ _ _ _:=Fn.of X G iC (by walk_at "4") λf fd F=>Xq2 F;have FW:Fn P w K mg base _ _ _ _ _:=Fn.of X G fR (by walk_at "1") λf fd F=>Xq3 F T;have FO:Fn P w K mg base _ _ _ _ _:=Fn.of X G gN (by walk_at "3") λf fd F=>Xq4 F T;have FA:Fn P w K mg base _ _ _ _ _:=Fn.of X G f7 (by walk_at "2") λf fd F=>Xq5 F T FW FO;have FR:Fn P w K mg base _ _ _ _ _:=Fn.of X G iD (by walk_at "2") λf fd F=>Xq6 F T FP FU FA;have FN:Fn P w K mg base _ _ _ _ _:=Fn.of X G fS (by walk_at "2") λf fd F=>Xq7 F T FP;have FI:Fn P w K mg base _ _ _ _ _:=Fn.of X G f8 (by walk_at "2") λf fd F=>Xq8 F T FP FN FR;have FX:Fn P w K mg base _ _ _ _ _:=Fn.of X G dD (by walk_at "1") λf fd F=>Xgw F T;have FK:Fn P w K mg base _ _ _ _ _:=Fn.of X G gJ (by walk_at "2") λf fd F=>Xp8 F (LZ X G x_NoDitch.a) x_NoDitch.e;have FD:Fn P w K mg base _ _ _ _ _:=Fn.of X G ju (by walk_at "1") λf fd F=>Xqa F T;have FE:Fn P w K mg base _ _ _ _ _:=Fn.of X G pZ (by walk_at "2") λf fd F=>Xqb F T FK;have yr:Fn P w K mg base _ _ _ _ _:=Fn.of X G mP (by walk_at "1") λf fd F=>Xqd F FD FE;have yt:Fn P w K mg base _ _ _ _ _:=Fn.of X G kU (by walk_at "2") λf fd F=>Xqe F;have II:Fn P w K mg base _ _ _ _ _:=Fn.of X G gK (by walk_at "1") λf fd F=>Xqf F yr yt;have AL:Fn P w K mg base _ _ _ _ _:=Fn.of X G qa (by walk_at "1") λf fd F=>Xqh F T;have IJ:Fn P w K mg base _ _ _ _ _:=Fn.of X G kW (by walk_at "2") λf fd F=>Xql F;have IK:Fn P w K mg base _ _ _ _ _:=Fn.of X G jv (by walk_at "2") λf fd F=>Xqm F T yr yt AL IJ;have IL:Fn P w K mg base _ _ _ _ _:=Fn.ofT X G d_in_order (by walk_at "1") λf fd F=>Xqj F T jB;have yb:Fn P w K mg base _ _ _ _ _:=Fn.of X G mQ (by walk_at "1") λf fd F=>Xqp F yr yt AL II IL;have FS:Fn P w K mg base _ _ _ _ _:=Fn.of X G dZ (by walk_at "1") λf fd F=>Xrf F;have AM:Fn P w K mg base _ _ _ _ _:=Fn.of X G gQ (by walk_at "2") λf fd F=>Xrh F T;have IM:Fn P w K mg base _ _ _ _ _:=Fn.of X G en (by walk_at "3") λf fd F=>Xri F T FP FS AM;have tM:Fn P w K mg base _ _ _ _ _:=Fn.of X G gP (by walk_at "2") λf fd F=>Xra F;have tN:Fn P w K mg base _ _ _ _ _:=Fn.of X G gO (by walk_at "1") λf fd F=>Xq9 F T FW FO;have IN:Fn P w K mg base _ _ _ _ _:=Fn.of X G dO (by walk_at "2") λf fd F=>Xrk F T tM tN;have IP:Fn P w K mg base _ _ _ _ _:=Fn.of X G iB (by walk_at "2") λf fd F=>Xqo F (LZ X G x_NoPlot.a) x_NoPlot.e IK;have yu:Fn P w K mg base _ _ _ _ _:=Fn.of X G jw (by walk_at "2") λf fd F=>Xqr F T;have AN:Fn P w K mg base _ _ _ _ _:=Fn.of X G kX (by walk_at "2") λf fd F=>Xqt F T yu;have IQ:Fn P w K mg base _ _ _ _ _:=Fn.ofT X G d_ways_to (by walk_at "2") λf fd F=>Xqu F T jB yb AN yu;have IR:Fn P w K mg base _ _ _ _ _:=Fn.of X G kY (by walk_at "3") λf fd F=>Xqx F yu AN;have IS:Fn P w K mg base _ _ _ _ _:=Fn.of X G jx (by walk_at "4") λf fd F=>Xqy F IP IQ IR;have tU:Fn P w K mg base _ _ _ _ _:=Fn.of X G qb (by walk_at "3") λf fd F=>Xqw F IS;have FT:Fn P w K mg base _ _ _ _ _:=Fn.of X G dD (by walk_at "1") λf fd F=>Xgw F T;have IT:Fn P w K mg base _ _ _ _ _:=Fn.of X G fT (by walk_at "1") λf fd F=>Xrb F T tM tN;have uR:Fn P w K mg base _ _ _ _ _:=Fn.of X G iE (by walk_at "2") λf fd F=>Xrd F T FP;have AO:Fn P w K mg base _ _ _ _ _:=Fn.of X G fU (by walk_at "2") λf fd F=>Xrm F T;have IU:Fn P w K mg base _ _ _ _ _:=Fn.of X G gR (by walk_at "3") λf fd F=>Xrn F AM tM;have IV:Fn P w K mg base _ _ _ _ _:=Fn.of X G gT (by walk_at "2") λf fd F=>Xrp F T tN IU;have yc:Fn P w K mg base _ _ _ _ _:=Fn.of X G f9 (by walk_at "3") λf fd F=>Xrq F AO IV;have uS:Fn P w K mg base CX0 9 "_law_refused" ["_law_row_here", "_law_one_here", "_law_other"] (spRef18 T_ uV (lamPos s_in_order) (lamPosW s_ways_to)):=Fn.of X G eW (by walk_at "3") λf fd F=>by
   obtain⟨fa,xX,xY,xZ,ya,IW⟩:=tU.ex;exact Xrr F (LZ X G x_NoPlot.a) xY xZ ya IW x_NoPlot.self
  exact Xrt IH F T FB FP FI IT uR IM IN FT AO yc uS tU
def walk{l:MU}{q:ao}{loose:Za}{XP:(ak->Option aa)->am->Prop}{YP:aw->am->Prop}{d:DefRec}{K:IF->LD}(hn:l.most=some 63)(rm:d.params.defaults=[])
  (hY:∀(w:aw) (h:am),YP w h->(K w.params).In h) (yq:∀(w:aw) (h:am),YP w h->∀T∈[108,153],h.get? T=some (LP #[])) (hTK:∀P,∀T∈[108,153],(K P).lookup T=none) (hhd:∀P,∀T∈[108,153],∃c0,LO (K P) c0 T=true)
  (F:∀(w:aw) (mg:ak->Option aa) (fa:ae) (h:am),(K w.params).In h->h.Ns ap mg->mg d.name=some (.ref fa) ->
   ∃fd:au,(∀(s:af) (u:aa),eC s fd ⟨[u],[]⟩ [("_law_script",u)])/\∀base:am,(K w.params).In base->base.Ns ap mg->BmOk mg base->FnOk l.prog w (K w.params) mg base CX0 10 fa fd ["_law_script"] (K9 (K w.params) 108 153)):
  MY q loose XP YP l.row.toRowW d [] (λf vs=>PySem.call f vs):=
 L2.Xrv (L:=[108,153]) (n:=63) (k:=10) (x := "_law_script") (CX:=λ_=>CX0) (sp:=λw=>K9 (K w.params) 108 153) hn (by decide) rm ⟨rfl,by decide,by decide,rfl⟩ hY yq hTK hhd F (λ_ _ a ns hl hT hS=>⟨a,ns,rfl,hS,hl,hT 108 (by decide),hT 153 (by decide),λ_=>rfl⟩) λ_ _ _ _ _ z=>z
end K17
open PySem PySem.W PyProof.Rows
local macro_rules | `(tactic| walk_at "D") => `(tactic| (refine' L2.DefAt.of ?a ?l ?c ?k;(case a=>k_is);(case l=>k_is);(case c=>k_is);(case k=>k_is)))
local macro_rules | `(tactic| walk_at "X") => `(tactic| (refine' ⟨?a,?e,?ga,?gn,?cl,?sb,?so,?sv,?ss,?ic,?ty⟩;(case a=>k_is);(case e=>k_exc);(case ga=>k_is);(case gn=>k_is);(case cl=>k_is);(case sb=>k_is);(case so=>k_is);(case sv=>k_is);(case ss=>k_is);(case ic=>k_is);(case ty=>k_is)))
def HD.q:Program:={PySem.Challenge.pw_shoretold_k17_whole_a_shortest_walk with main:={PySem.Challenge.pw_shoretold_k17_whole_a_shortest_walk.main with body:=PySem.Challenge.pw_shoretold_k17_whole_a_shortest_walk.main.body.filter HD.isDef}}
theorem HD.said:PySem.Challenge.rw_shoretold_k17_whole_a_shortest_walk.wellSaid=true:=by
 rw[Fast.te9446332074065402090]
 kernel_rfl
local macro_rules | `(tactic| o_head $H) => `(tactic| refine PySem.W.holds_open (q:=HD.q) (loose:=[]) (Xt:=λs=>xlAt HD.q [] s&&recOk [] s) (XP:=XL HD.q []) (N:=1000000) ?hl (Hook.of $H) (Hook.keeps $H) (λs e=>xl_of s (Bool.and_eq_true_iff.mp e).1) XL.keeps (by rfl) (by rfl) (by rfl) (λs e=>recFacts_of (Bool.and_eq_true_iff.mp e).2) (by rfl) (by assumption) (by decide +kernel) ⟨rfl,rfl,rfl,rfl,rfl,by decide +kernel⟩ ?hw ?hc)
set_option maxRecDepth 100000 in
set_option maxHeartbeats 0 in
theorem PySem.Challenge.cw_shoretold_k17_whole_a_shortest_walk_holds : PySem.Challenge.rw_shoretold_k17_whole_a_shortest_walk.Holds := by
 w_on
 refine holds_law HD.said λsaid=>?_
 k_head
 case hw=>w_witness2
 case hl=>exact HD.left (by kernel_rfl) (by kernel_rfl) (λs=>by kernel_rfl) (λw=>by kernel_rfl)
 k_fill
 refine K17.walk (l:=PySem.Challenge.rw_shoretold_k17_whole_a_shortest_walk) rfl rfl (λw h Y=>PySem.W.km_in_of Y) (λw h Y T hm=>PySem.W.km_tabs_of Y T hm) ?hTK ?hhd ?F
 case hTK=>
  intro P T hm;rcases Ou.mp hm with e | e
  ·subst e;kernel_rfl
  ·rw[Oj.mp e];kernel_rfl
 case hhd=>
  intro P T hm;rcases Ou.mp hm with e | e
  ·subst e;exact⟨112,by kernel_rfl⟩
  ·rw[Oj.mp e];exact⟨155,by kernel_rfl⟩
 case F=>
  intro w mg fa h KX G hmg;refine' K17.Xrz KX G hmg ?_ ?_ ?_ ?_ ?_ ?_ ?_ ?d_in_order ?_ ?_ ?_ ?_ ?_ ?_ ?d_ways_to ?_ ?_ ?_ ?_ ?_ ?_ ?_ ?_ ?_ ?_ ?_ ?_ ?_ ?_ ?_ ?_ ?_ ?_ ?_ ?_ ?_ ?_ ?_ ?_ ?_ ?_ ?_ ?x_NoDitch ?x_NoPlot ?x_NoWalk (by decide) ?z_len ?z_range ?z_list ?z_min ?z_isinstance ?z_all ?z_str ?z_ValueError ?z_sorted ?z_set ?z_enumerate ?z_int ?z_bool ?z_tuple ?z_any ?z_dict ?z_sum ?z_max
  any_goals walk_at "D"
  (case d_in_order=>(refine' L2.DefT.of ?a ?l ?c ?k ?t;(case a=>k_is);(case l=>k_is);(case c=>k_is);(case k=>k_is);(case t=>kernel_rfl)))
  (case d_ways_to=>(refine' L2.DefT.of ?a ?l ?c ?k ?t;(case a=>k_is);(case l=>k_is);(case c=>k_is);(case k=>k_is);(case t=>kernel_rfl)))
  (case x_NoDitch=>walk_at "X")
  (case x_NoPlot=>walk_at "X")
  (case x_NoWalk=>walk_at "X")
  (case z_len=>k_is);(case z_range=>k_is);(case z_list=>k_is);(case z_min=>k_is);(case z_isinstance=>k_is);(case z_all=>k_is);(case z_str=>k_is);(case z_ValueError=>k_is);(case z_sorted=>k_is);(case z_set=>k_is);(case z_enumerate=>k_is);(case z_int=>k_is);(case z_bool=>k_is);(case z_tuple=>k_is);(case z_any=>k_is);(case z_dict=>k_is);(case z_sum=>k_is);(case z_max=>k_is)
#print axioms PySem.Challenge.cw_shoretold_k17_whole_a_shortest_walk_holds
