import PyProof.Rows.All
import Wide.All
import OpenK.AllK
import Wide.FinOn
import PySem.Challenge.RW_shoretold_k18_how_many_shortest_walks
set_option bootstrap.genMatcherCode false
noncomputable section
set_option Elab.async false
set_option linter.all false
set_option maxRecDepth 100000
abbrev Tq := @if_neg
abbrev Tr := @if_pos
abbrev Tt := @decide_eq_true
abbrev Tu := @decide_eq_false
abbrev Tv := @of_decide_eq_true
abbrev Tw := @of_decide_eq_false
local macro_rules | `(tactic| walk_at "s") => `(tactic| exact ⟨rfl,rfl,rfl,by decide +kernel,rfl,by decide +kernel,by decide +kernel⟩)
local macro_rules | `(tactic| walk_at "l") => `(tactic| (intro vs H Q E h;(repeat (obtain ⟨_,h⟩ := h));subst_vars;rfl))
local macro_rules | `(tactic| walk_at "i") => do let v:=#["cdv","A","outer","s","H","vs","Q","E","hr","h"].map fun x=>Lean.mkIdent (.mkSimple x);`(tactic| intro $[$v]*)
open PySem in
abbrev Za:=List Str
open PySem in
abbrev Zb:=Value→Shared→Prop
open List renaming length_map→Oh,getElem?_eq_getElem→Oj,size_toArray→Ol,mem_singleton→Om,length_append→Oo,mem_cons_of_mem→Op,mem_filter→Ot,mem_append→Ou,mem_cons_self→Ov,map_append→Ow,mem_cons→Ox,map_cons→O0,take_succ_eq_append_getElem→O1,getElem?_map→O2,length_take→O3,length_cons→O5,getElem?_eq_some_iff→O6,filter_append→O8,getD_eq_getElem?_getD→O9,take_append_drop→Pa,append_assoc→Pb,mem_append_right→Pc,mem_map→Pd,pairwise_append→Pe,all_eq_true→Pg,take_of_length_le→Ph,map_congr_left→Pj,getElem_mem→Pk,filter_eq_self→Pl,map_map→Pn,length_filter_le→Po,length_singleton→Pp,filter_cons→Pq,mem_of_mem_take→Pr,sum_cons→Ps,nodup_cons→Pu,append_nil→Pw,length_eq_zero_iff→Px,length_drop→Pz,lookup_cons→P0,mem_range→P2,mem_iff_getElem→P3,mem_of_mem_drop→P4,take_sublist→P5,mem_append_left→P7,take_length→P8,range_succ→P9,getElem?_append_right→Qb,getElem_map→Qd,getElem?_append_left→Qe,nodup_append→Qf,length_range→Qg,pairwise_iff_getElem→Qh,filterMap_cons→Qj,drop_eq_nil_of_le→Qm,mem_singleton_self→Qp,mem_of_getElem?→Qq,replicate_succ→Qs,drop_sublist→Qt,length_nil→Qu,perm_append_comm→Qw,countP_cons→Qy,pairwise_map→Qz,dropWhile_cons→Q6,takeWhile_cons→Q7,filter_eq_nil_iff→Q8,length_eraseIdx_of_lt→Q9,ext_getElem→Ra,pairwise_cons→Rc,getElem?_toArray→Rg,drop_eq_getElem_cons→Rh,nil_append→Rj,find?_cons→Rk,count_append→Rl,flatMap_cons→Rm,flatMap_append→Ro,any_eq_true→Rp,perm_middle→Rq,drop_zero→Rr,count_eq_zero→Rs,foldl_cons→Rv,getElem?_eq_none→Rw,count_cons_self→Ry,flatMap_nil→Rz,length_reverse→R0,length_erase_of_mem→R1,forIn_cons→R5,findIdx?_eq_some_iff_getElem→R6,getElem?_drop→Sa,length_pos_of_mem→Sc,flatten_cons→Sd,getElem_take→Se,reverse_perm→Sf,forIn_nil→Sg,drop_take→Sh,map_snd_zip→Sj,mem_erase_of_ne→Sk,any_cons→Sl,of_mem_zip→Sm,sum_append→Sq,length_zip→Ss,mem_filterMap→Su,filterMap_map→Sv,count_pos_iff→Sy,map_inj_right→Sz,getElem?_take→S0,reverse_cons→S7,getElem_drop→Ta,map_nil→Td,set_set→Te
open Nat renaming le_refl→Oi,ne_of_lt→Os,lt_of_lt_of_le→O7,zero_le→Pi,le_trans→Pm,lt_succ_of_lt→Py,lt_irrefl→P1,zero_add→Qi,le_succ→Ql,not_lt_zero→Qo,lt_trans→Qv,min_eq_left→Q4,le_of_lt→Ru,lt_of_le_of_lt→R4,ne_of_gt→Si,sub_zero→Sx,mul_le_mul→S5,mod_lt→S9,lt_of_succ_lt→Tb,min_self→Tg
open Array renaming length_toList→Oq,getElem?_toList→Rb,forIn_toList→Rf,getElem?_eq_getElem→Ri
open Bool renaming false_ne_true→Oy,and_eq_true→Oz,false_eq_true→Pf,false_and→Qa,true_and→Qc,eq_iff_iff→Qn,or_eq_true→Q5,eq_false_iff→Rx,not_true→R7,and_self→R8,or_eq_true_iff→Sn,and_false→S6,not_eq_true'→S8,or_false→Tc,or_true→Tf
open Option.some renaming inj→O4
open Int renaming eq_ofNat_of_zero_le→Pt,toNat_natCast→Qr,emod_lt_of_pos→Rt,emod_nonneg→R9,zero_add→Ti
open List.Perm renaming append_left→P6,refl→Qk,of_eq→Sr
open Option renaming isSome_iff_exists→Qx,map_some→Q3,map_eq_some_iff→Sb,isSome_some→Sw
open Sum.inr renaming inj→Q0
open Array.Perm renaming refl→So
open Nat.succ renaming inj→Th
open PySem renaming wpAny_bind→Tj,wpAny_pure→Tk,sizeLine_eq→Tp
open PyProof.Rows renaming wpS_bind→Tl,wpS_pure→Tn
open PySem.Heap renaming lt_size→Tx,get?_push_of_some→Tz
open PySem.Heap.SameBut renaming update→T0
open PySem PySem.Spec PyProof.Rows
open PySem renaming Value→aa,Addr→ae,Shared→af,SetTable→ag,model→ah,wpAny→ai,Builtin→ak,Heap→am,Str→ao,Program→ap,mainGlobals→aq,PyData→au,Around→av,FuncData→aw,World→ax,wpAny_holding→a7,starEach→aB,wpAny_newObj_type→aC,wpAny_setState_of→aD,Expr→aF,wpAny_call_entry→aG,foldedSetIterable→aH,NameKind→aI,wpAny_mono→aJ,compareOp→aL,Obj→aM,Stmt→aP,wpAny_askSetting→aQ,wpAny_rule→aR,wpAny_truthy_bool→aS,wpAny_callSpecial?_slot→aT,rawInt→aU,PassesOwn→aW,scanBound→aX,fits_of_scanBound→aY,wpAny_standAt→bh,sysModules→bj,wpAny_setField→bo,binaryOp→bq,codeAny_mono→br,keywordEach→bu,wpAny_typeOf→bv,wpAny_storeSet_of→bw,boot_len→bx,codeAny→bB,backTo→bC,cLine→bD,wpAny_typeNameOfWhole_keyiter→bE,bootBuiltins→bF,assignEach→bG,wpAny_Call_Name_kw→bH,Scope→bI,wpAny_ite_split→bJ,cellsFrom→bL,Pos→bN,setField→bO,wpAny_attempt→bP,wpAny_newList→bQ,codeAny_builtin→bR,tupleKind→bU,pushCells→bV,putSet_of→bW,pickOrder→bX,getItem→bZ,backToKw→ca,wpAny_setEpoch_of→cb,DictEntry→cn,setsByText→cr,wpAny_isInstance→cu,sliceBounds→cx,letOwnedTupleGo→c5,wpAny_passesOwn→c6,wpAny_setEntries_of→c8,pyNext→cB,tupleKind_room_in1→cC,evalEach→cD,isSubtype_type→cE,compTurn→cF,wpAny_pyIter_list→cJ,wpAny_field→cL,wpAny_pyIter_slot→cM,behindInMarks→cO,plainId_quiet→cP,bindArgs→cQ,Arguments→cR,builtinsNs→cU,standAt→cV,Keyword→cW,setAddHashed→cY,wpAny_execs_nil→dm,pushCells_keeps→dt,Env→dz,IsPart→d9,relayAll→dC,wpAny_of_eq→dD,wpAny_newTuple→dE,firstArgMember→dF,swapsWith→dJ,clausesOf→dM,evalPart_none→dX,ExceptHandler→dY,wpAny_call→dZ,Thread→er,BindsTo→eI,wpAny_sequenceKey→eM,slot_list_getitem→eN,valueAt→eP,callerA→eQ,wpAny_pyIter_dict→eR,ElemsOf→eS,raiseNew→eT,reprText→fe,wpAny_dictEntries→fh,pyIter→fq,noFill_tuple_add→fu,setDiscardHashed→f8,Sem→fK,codeAny_of_tree→fO,wpAny_dictEpoch→fP,entryOfKey→gh,wpAny_newFunctionEnv_cells→gm,atKey→gr,closureFor→gt,newFunctionEnv→gu,strKind_is→gy,storeSet→gz,wpAny_runValue→g7,entryFor_alias→g9,wpAny_fieldsOf→gA,checkCount→gC,setState→gD,wpAny_FormattedValue_repr→h8,seq_tuple_add→il,evalPart_some→io,wpAny_getItem_list_slice→ir,attributeBase→iu,strLen_append→i5,wpAny_comprehension_free→i7,setWalkUnseen→iC,bindL→iR,bindC→iS,drawOrder→iW,tupleText→iX,concat_meets→je,sub_set_self→ji,setNext→jj,newExc→jk,builtinLookup_eq_fast→jB,wpAny_isOneOf_keyiter→jI,Walks→jQ,wpAny_Slice→jS,seqIndex_of→jU,wpAny_alloc→jY,entryFor→km,wpAny_Name→l9,wpAny_load→lA,wpAny_pyIter_tuple→lB,typeLookup→lE,typeIs_str→lF,typeIs_int→lH,call_meets→lI,isInstance→lV,setRoomFor→mj,wpAny_assign_Name→mO,setWalk→mT,wpAny_pyIter_enum→mX,numAt→nh,wpAny_eqBool_int→nU,wpAny_execs_cons→nW,wpAny_Dict_empty→oi,wpAny_setScan_of→on,wpAny_specialOf→qd,typeLookup_type→qh,wpAny_updateSeq→qj,importedModules→qJ,wpAny_Compare1→qN,recursionLimit→qP,Result→qQ,cellOf→rg,compEnvC→rh,GenState→rq,Drawn→r6,argsOk→rD,slotArgs→rE,wpAny_seqItems→rF,isSubtype_stop→rG,preSum→rZ,intItems→sE,intBits_le_64→uc,call_list_seq→ue,wpAny_handled→uk,setItem→uU,Data→uX,call_meetsIn→ve,OsState→vi,setNextDrawn→vm,IsRangeIter→yD,Moved→yK,wpAny_throw→yN,Model→zh,OldK→BC,layNew→BI,defaultsOf→DF,Params→IW,storeName→JL,lastMarks→JN,seqIndex?→JO,slicePick→JP,byScan_of→JT,isSubtype→JU,updateSeq→JV,noteFrame→JW,compStart→JX,ClassData→JZ,setsQuiet→KB,codeAmong→KH,treeTable→LX
open PyProof.Rows renaming seqObj→ar,Keyed→ay,StrsAre→aE,wpS_forRange→aK,envOfC→aO,SortSt→aV,pendingOf→aZ,wpS_mono→bg,arrOf→bi,failedOf→bp,size_push'→bz,listUpdate_at→b9,wpS_get→bM,wpS_modify→bT,SortKind→cc,reverseSlice'→cw,AllBare→cA,seqEpoch_at→cN,wpS_lift→cS,IntsAre→cX,listItems_at→dg,IsTup→dh,entry_list_sort→du,get?_update_seq→dw,slicePart_none→dA,slot_list_sort→dG,gallopOf→dI,entry_tuple_getitem→dO,wpS→dR,args_tuple_getitem→eh,Subscript_→el,plain_sorted→eZ,entry_sorted→fc,kind_sorted→fG,wpS_reverse→fH,sortedS→fZ,joinParts_cons→gx,tupleItemsOf_→im,subscriptTail→ip,sortRuns'→ja,boot_list→jc,subscriptTail_builtinR→jf,collect_list→jp,setArr→jt,call_function_entry_kw→jx,tail_any→jT,bubble_perm→kE,ksk_rest→kL,oneType'→kM,getElem?_mirror_all→lu,wpAny_call_entry_kw→l5,keyLt'→mi,setPending→m6,strOf→mS,ltAt'→ni,ksk_end→ny,sortedAll→o6,formatField_str→qk,getElem?_bubble→qq,boot_isinstance→qI,args_list_sort→rJ,mergeAt'→sr,slicePart_int→ud,sortedAll_old→ut,args_sorted1→vw,sortedAll_at→vM,strsAre_map→yI,mirror_perm→zg,callWith_kw→zu,isTrue_and→AY,sortedHeap→BW,isTrue_or→JM
open PySem.W renaming Frag→LY,mg_none_of→LZ,exmOne→M',kitOne→MA,findIn→MB,nsIn→MC,kla_fn→MD,keepIn→ME,kia_one→MF,cellsFrom_some→MG,codeHdIn→MH,tabObj→MK,subIn→ML,fnOf→MM,kla_makeFunctionHit→MN,codeIn→MO,codeHd_of_K→MP,kla_makeFunction→MQ,excIn→MR,mg_of→MS,isClsIn→MT,methodObj→MU,typeIn→MV,kla_callFunE→MW,kla_codeExpr→MX,hideAll_get→MY,instObj→MZ,hideAll→No,of_hideAll→NA,callWith_K→NB,clsIn→NC,envX→ND,lookIn→NE,specialIn→NF,kitx_list→NG,kitx_dict→NH,plainGet→NI,kla_eval→NJ,kitMeta→NK,kla_obj→NL,OpenLaw→NM,kitCls→NN,CodeHd→NO,Looks→NQ,WalkO→NR,isFn→NS
namespace L2
abbrev Key:=Sum Int ao
def D6:Key->aa->Bool
 | .inl k,v=>aa.isInt k v
 | .inr x,v=>aa.isStrOf x v
def keyH (w:ax):Key->Int
 | .inl k=>hashInt k
 | .inr x=>hashStr w x
theorem Dq:∀{k:Key} {v:aa},D6 k v=true->(∃i t,k=Sum.inl i/\v=aa.int i t)\/(∃x t,k=Sum.inr x/\v=aa.str x t)
 | .inl i,v,h=>by
  obtain⟨t,e⟩:=aa.isInt_shape (k:=i) (v:=v) h;exact .inl ⟨i,t,rfl,e⟩
 | .inr x,v,h=>by
  obtain⟨t,e⟩:=aa.isStrOf_shape (x:=x) (v:=v) h;exact .inr ⟨x,t,rfl,e⟩
def Xgt(i)(t):D6 (.inl i) (.int i t)=true:=by simp[D6,aa.isInt]
def Xgu(x)(t):D6 (.inr x) (.str x t)=true:=by simp[D6,aa.isStrOf]
def Xgv(a b):decide ((Sum.inl a:Key)=Sum.inl b)=(a==b):=by
 by_cases e:a=b
 ·subst e;simp
 ·have h:¬(Sum.inl a:Key)=Sum.inl b:=λq=>e (Sum.inl.inj q);rw[Tu h];exact(beq_eq_false_iff_ne.mpr e).symm
def Xgw(a b):decide ((Sum.inr a:Key)=Sum.inr b)=decide (a=b):=by
 by_cases e:a=b
 ·subst e;simp
 ·have h:¬(Sum.inr a:Key)=Sum.inr b:=λq=>e (Q0 q);rw[Tu h,Tu e]
def Xgx(a)(b):decide ((Sum.inl a:Key)=Sum.inr b)=false:=Tu (λq=>nomatch q)
def Xgy(a)(b):decide ((Sum.inr a:Key)=Sum.inl b)=false:=Tu (λq=>nomatch q)
def Bb (prog:ap) (w:ax):PySem.KeyKind prog w Key where
 is:=D6
 hash:=keyH w
 inj:=λv a b ha hb=>by
  rcases Dq ha with ⟨i,t,rfl,rfl⟩ | ⟨x,t,rfl,rfl⟩
  ·rcases Dq hb with ⟨j,u,rfl,e⟩ | ⟨y,u,rfl,e⟩
   ·injection e with e1 _;rw[e1]
   ·exact nomatch e
  ·rcases Dq hb with ⟨j,u,rfl,e⟩ | ⟨y,u,rfl,e⟩
   ·exact nomatch e
   ·injection e with e1 _;rw[e1]
 byValue:=λk v h=>by
  rcases Dq h with ⟨i,t,rfl,rfl⟩ | ⟨x,t,rfl,rfl⟩<;>rfl
 pyHash:=λhv h=>by
  rcases Dq hv with ⟨i,t,rfl,rfl⟩ | ⟨x,t,rfl,rfl⟩
  ·exact wpAny_pyHash_int h
  ·exact wpAny_pyHash_str h
 eqBool:=λhu hv h=>by
  rcases Dq hu with ⟨i,t,rfl,rfl⟩ | ⟨x,t,rfl,rfl⟩
  ·rcases Dq hv with ⟨j,u,rfl,rfl⟩ | ⟨y,u,rfl,rfl⟩
   ·rw[Xgv] at h;exact nU h
   ·rw[Xgx] at h;exact SeqAt.EqAt.int_str i t y u _ _ _ _ h
  ·rcases Dq hv with ⟨j,u,rfl,rfl⟩ | ⟨y,u,rfl,rfl⟩
   ·rw[Xgy] at h;exact SeqAt.EqAt.str_int x t j u _ _ _ _ h
   ·rw[Xgw] at h;exact wpAny_eqBool_str h
 «strs»:=λk x t v h=>by
  rcases Dq h with ⟨i,u,rfl,e⟩ | ⟨y,u,rfl,e⟩
  ·exact nomatch e
  ·injection e with e1 _
   subst e1;cases v<;>rfl
def Xgz(prog)(w)(i)(t):(Bb prog w).is (.inl i) (.int i t)=true:=Xgt i t
def Xg0(prog)(w)(x)(t):(Bb prog w).is (.inr x) (.str x t)=true:=Xgu x t
inductive V where
 | non | bl (b:Bool) | int (i:Int) | str (x:ao) | byt (b:Array UInt8) | flt (b:UInt64) | ref (a:ae) | ty (n:String)
 deriving DecidableEq
def Aj:V->aa->Prop
 | .non,u=>u=aa.none
 | .bl b,u=>u=aa.bool b
 | .int i,u=>∃t,u=aa.int i t
 | .str x,u=>∃t,u=aa.str x t
 | .byt b,u=>∃t,u=aa.bytes b t
 | .flt b,u=>∃t,u=aa.float b t
 | .ref a,u=>u=aa.ref a
 | .ty n,u=>u=aa.type n
abbrev Vals:List V->List aa->Prop:=Paired Aj
def Vals.length{xs}(r:Vals xs us):xs.length=us.length:=Paired.length r
theorem Vals.get:∀{xs:List V} {us:List aa} {i:Nat} {x:V},Vals xs us->xs[i]? = some x->∃u,us[i]? = some u/\Aj x u
 | _,_,_,_,.nil,e=>by simp at e
 | _,_,0,_,.cons r _,e=>by simp at e;subst e;exact⟨_,rfl,r⟩
 | _,_,i+1,x,.cons _ t,e=>by
  obtain⟨u,h1,h2⟩:=Vals.get (i:=i) (x:=x) t (by simpa using e);exact⟨u,by simpa using h1,h2⟩
theorem Vals.set  (r:Aj x u):∀{xs:List V} {us:List aa} (i:Nat),Vals xs us->Vals (xs.set i x) (us.set i u)
 | _,_,_,.nil=>.nil
 | _,_,0,.cons _ t=>.cons r t
 | _,_,i+1,.cons q t=>.cons q (Vals.set r i t)
theorem Vals.append:∀{xs ys:List V} {us ws:List aa},Vals xs us->Vals ys ws->Vals (xs++ys) (us++ws)
 | _,_,_,_,.nil,s=>s
 | _,_,_,_,.cons r t,s=>.cons r (Vals.append t s)
theorem Vals.take:∀{xs:List V} {us:List aa} (n:Nat),Vals xs us->Vals (xs.take n) (us.take n)
 | _,_,0,_=>.nil
 | _,_,_+1,.nil=>.nil
 | _,_,n+1,.cons r t=>.cons r (Vals.take n t)
theorem Vals.drop:∀{xs:List V} {us:List aa} (n:Nat),Vals xs us->Vals (xs.drop n) (us.drop n)
 | _,_,0,r=>r
 | _,_,_+1,.nil=>.nil
 | _,_,n+1,.cons _ t=>Vals.drop n t
def Cj:Option V->Option aa->Prop
 | some v,some u=>Aj v u
 | none,none=>True
 | _,_=>False
def KV {κ : Type}:List (κ × V)->List (κ × aa)->Prop:=Paired λ(p : κ × V) (q : κ × aa)=>p.1=q.1/\Aj p.2 q.2
def kV:Key->V
 | .inl i=>.int i
 | .inr x=>.str x
inductive HO where
 | lst (xs:List V)
 | tup (xs:List V)
 | dK (kvs:List (Key×V)) | dT (kvs:List (List Key×V))
 | set (S:Int->Bool) (n:Nat)
 | ins (C dx:ae) (fs:List (ao×V))
 | own (x:ae)
 | xd (fs:List (ao×V))
 | met (f x:ae)
 | rng (lo hi:Int)
 | frz (o:aM) (u:HO)
 | tbl (ps:Array aa)
 | ext (φ : am->Prop)
abbrev Hp:=ae->Option HO
def upd (H:Hp) (a:ae) (o:HO):Hp:=λb=>if b=a then some o else H b
def Ab{H}{a}{o}:upd H a o a=some o:=by unfold upd;rw[Tr rfl]
def Ad{H}{o}(h:b≠a):upd H a o b=H b:=by unfold upd;rw[Tq h]
def Xaa   : upd (upd H a o) a u=upd H a u:=by
 funext b;unfold upd;split<;>rfl
def K7{H:Hp}  (h:H a=some o)(h':H b=some u)(d:o≠u):a≠b:=by
 intro e;subst e;rw[h] at h';exact d (O4 h')
def Aw{H:Hp}{a b}{o}(h:H a=some o)(h':H b=none):a≠b:=by
 intro e;subst e;rw[h] at h';cases h'
section
variable (P:ap) (w:ax)
def A3 (H:Hp) (h:am) (a:ae):HO->Prop
 | .lst xs=>xs.length<=sizeLine/\∃(aA:List aa) (n:Nat),Vals xs aA/\h.get? a=some {cls:=.type "list",data:=.seq aA.toArray n}
 | .tup xs=>xs.length<=sizeLine/\∃aA:List aa,Vals xs aA/\dh h a aA.toArray
 | .dK kvs=>kvs.length<=sizeLine/\(a==bj)=false/\∃vs,KV kvs vs/\h.DictOf (Bb P w) a vs
 | .dT kvs=>kvs.length<=sizeLine/\(a==bj)=false/\∃xs:List (List Key×ae×aa),
   Paired (λ(p:List Key×V) (q:List Key×ae×aa)=>p.1=q.1/\H q.2.1=some (.tup (p.1.map kV))/\Aj p.2 q.2.2) kvs xs /\
   ∃o es ep,h.get? a=some o/\o.ExactDict/\o.data = .dict es ep/\es.toList=xs.map (gh (bU (Bb P w)))/\(xs.map (·.1)).Nodup
 | .set S n=>h.SetOf (intKind P w) a S n
 | .ins C dx fs=>H dx=some (.own a)/\fs.length<=1000/\dx≠a/\h.get? a=some (MZ C dx) /\
   ∃mA,h.Ns1 dx mA/\(∀f,Cj (fs.lookup f) (mA f))/\PySem.Within mA (fs.map (·.1))
 | .own _=>∃o,h.get? a=some o
 | .xd fs=>∃mA,h.Ns1 a mA/\∀f,Cj (fs.lookup f) (mA f)
 | .rng lo hi=>∃t u v,h.get? a=some {cls:=.type "range",data:=.fields #[.int lo t,.int hi u,.int 1 v]}
 | .frz o u=>h.get? a=some o/\A3 H h a u
 | .tbl ps=>h.get? a=some {cls:=.none,data:=.fields ps}
 | .met f x=>h.get? a=some (MU (.ref f) (.ref x))
 | .ext φ => φ h/\(∃o,h.get? a=some o)/\∀h1 h2:am, φ h1->(∀o,h1.get? a=some o->h2.get? a=some o) -> φ h2
def HOk (H:Hp) (h:am):Prop:=∀a o,H a=some o->A3 P w H h a o
end
section
variable {P:ap}{w:ax}{H H':Hp}{h h':am}{a:ae}{o:HO}
def A3.lt(x:A3 P w H h a o):a<h.objs.size:=by
 cases o with
 | lst xs=>obtain⟨_,_,_,_,e⟩:=x;exact Tx e
 | tup xs=>obtain⟨_,_,_,p⟩:=x;exact p.lt
 | dK kvs=>obtain⟨_,_,_,_,o,_,_,e,_⟩:=x;exact Tx e
 | dT kvs=>obtain⟨_,_,_,_,o,_,_,e,_⟩:=x;exact Tx e
 | set S n=>obtain⟨o,_,_,_,e,_⟩:=x;exact Tx e
 | ins C dx fs=>obtain⟨_,_,_,e,_⟩:=x;exact Tx e
 | own y=>obtain⟨_,e⟩:=x;exact Tx e
 | xd fs=>obtain⟨_,⟨_,_,_,e,_⟩,_⟩:=x;exact Tx e
 | rng lo hi=>obtain⟨_,_,_,e⟩:=x;exact Tx e
 | frz ob u=>obtain⟨e,_⟩:=x;exact Tx e
 | tbl ps=>exact Tx (show h.get? a=some _ from x)
 | met f y=>exact Tx (show h.get? a=some _ from x)
 | ext φ=>obtain⟨_,⟨_,e⟩,_⟩:=x;exact Tx e
theorem Paired.mapP{α β : Type}{F G}:∀{l₁ : List α} {l₂ : List β},Paired F l₁ l₂->(∀a b,F a b->G a b)->Paired G l₁ l₂
 | _,_,.nil,_=>.nil
 | _,_,.cons r t,f=>.cons (f _ _ r) (Paired.mapP t f)
def A3.stay(x:A3 P w H h a o)(k:∀b u,(b=a\/H b=some (.own a))->h.get? b=some u->h'.get? b=some u)
  (ho:∀b,H b=some (.own a)->H' b=some (.own a)) (ht:∀b xs,H b=some (.tup xs)->H' b=some (.tup xs)):A3 P w H' h' a o:=by
 induction o with
 | lst xs=>obtain⟨z,aA,n,r,e⟩:=x;exact⟨z,aA,n,r,k _ _ (.inl rfl) e⟩
 | tup xs=>obtain⟨z,aA,r,ob,e,c⟩:=x;exact⟨z,aA,r,ob,k _ _ (.inl rfl) e,c⟩
 | dK kvs=>obtain⟨z,y,vs,r,ob,es,ep,e,c⟩:=x;exact⟨z,y,vs,r,ob,es,ep,k _ _ (.inl rfl) e,c⟩
 | dT kvs=>
  obtain⟨z,y,xs,r,ob,es,ep,e,c⟩:=x;exact⟨z,y,xs,Paired.mapP r λp q z=>⟨z.1,ht _ _ z.2.1,z.2.2⟩,ob,es,ep,k _ _ (.inl rfl) e,c⟩
 | set S n=>obtain⟨ob,es,ep,t,e,c⟩:=x;exact⟨ob,es,ep,t,k _ _ (.inl rfl) e,c⟩
 | ins C dx fs=>
  obtain⟨d,z,ne,e,mA,⟨od,es,ep,e2,c⟩,r⟩:=x;exact⟨ho _ d,z,ne,k _ _ (.inl rfl) e,mA,⟨od,es,ep,k _ _ (.inr d) e2,c⟩,r⟩
 | own y=>obtain⟨ob,e⟩:=x;exact⟨ob,k _ _ (.inl rfl) e⟩
 | xd fs=>obtain⟨mA,⟨od,es,ep,e,c⟩,r⟩:=x;exact⟨mA,⟨od,es,ep,k _ _ (.inl rfl) e,c⟩,r⟩
 | rng lo hi=>obtain⟨t,u,v,e⟩:=x;exact⟨t,u,v,k _ _ (.inl rfl) e⟩
 | frz ob u ih=>obtain⟨e,q⟩:=x;exact⟨k _ _ (.inl rfl) e,ih q⟩
 | tbl ps=>
  have e:h.get? a=some {cls:=.none,data:=.fields ps}:=x;show h'.get? a=some {cls:=.none,data:=.fields ps};exact k a _ (.inl rfl) e
 | met f y=>
  have e:h.get? a=some (MU (.ref f) (.ref y)):=x;show h'.get? a=some (MU (.ref f) (.ref y));exact k a _ (.inl rfl) e
 | ext φ=>obtain⟨p,⟨o,e⟩,st⟩:=x;exact⟨st _ _ p λo q=>k _ _ (.inl rfl) q,⟨o,k _ _ (.inl rfl) e⟩,st⟩
def HOk.lt(x:HOk P w H h)(e:H a=some o):a<h.objs.size:=(x a o e).lt
def HOk.fresh(x:HOk P w H h)(e:h.objs.size<=a):H a=none:=by
 cases q:H a with
 | none=>rfl
 | some u=>exact absurd (O7 (x.lt q) e) (P1 _)
def HOk.kept(x:HOk P w H h)(k:∀b u,h.get? b=some u->h'.get? b=some u):HOk P w H h':=λa o e=>
 (x a o e).stay (λb u _ q=>k b u q) (λ_ q=>q) λ_ _ q=>q
def HOk.laid(x:HOk P w H h)(k:∀b u,h.get? b=some u->h'.get? b=some u)(hp:h.objs.size<=a)(new:A3 P w (upd H a o) h' a o):HOk P w (upd H a o) h':=λb u e=>by
 have hn:=x.fresh hp;by_cases hb:b=a
 ·subst hb;rw[Ab] at e;cases e;exact new
 ·rw[Ad hb] at e;exact(x b u e).stay (λc v _ q=>k c v q) (λc q=>by rw[Ad (Aw q hn)];exact q) λc xs q=>by rw[Ad (Aw q hn)];exact q
end
def Rd (H:Hp) (a:ae) (u:HO):Prop:=H a=some u \/ ∃o,H a=some (.frz o u)
def Rd.ok      (r:Rd H a u) (x:HOk P w H h):A3 P w H h a u:=by
 rcases r with r | ⟨o,r⟩
 ·exact x a u r
 ·obtain⟨_,q⟩:=x a _ r;exact q
def Mut:Option HO->Prop
 | some (.lst _)=>True
 | some (.dK _)=>True
 | some (.dT _)=>True
 | some (.set _ _)=>True
 | some (.ins _ _ _)=>True
 | some (.ext _)=>True
 | _=>False
section
variable {P:ap}{w:ax}{H:Hp}{h h':am}{x e:ae}{o':HO}
def HOk.write(ok:HOk P w H h)(mu:Mut (H x))(he:e=x\/H e=some (.own x))(k:∀b u,b≠e->h.get? b=some u->h'.get? b=some u)(qa:∃u,h'.get? e=some u)
  (new:A3 P w (upd H x o') h' x o'):HOk P w (upd H x o') h':=λb u q=>by
 have qK:∀c y,H c=some (.own y)->c≠x:=λc y r z=>by subst z;rw[r] at mu;exact mu
 have ntup:∀c xs,H c=some (.tup xs)->c≠x:=λc xs r z=>by subst z;rw[r] at mu;exact mu
 by_cases hb:b=x
 ·subst hb;rw[Ab] at q;cases q;exact new
 ·rw[Ad hb] at q;by_cases nV:b=e
  ·have q':H b=some (.own x):=by
    rcases he with z | z
    ·exact absurd (nV.trans z) hb
    ·rw[nV];exact z
   rw[q] at q';cases q';obtain⟨v,hv⟩:=qa;exact⟨v,by rw[nV];exact hv⟩
  ·refine(ok b u q).stay (λc v hc r=>k c v ?_ r) (λc r=>by rw[Ad (qK c b r)];exact r) λc xs r=>by rw[Ad (ntup c xs r)];exact r
   rcases hc with rfl | hc
   ·exact nV
   ·rintro rfl;rcases he with z | z
    ·exact qK c b hc z
    ·rw[hc] at z;cases z;exact hb rfl
end
structure Un (fs ex:List ae) (H H':Hp) (h h':am):Prop where
 keep:∀b o,h.get? b=some o->H b=none->b∉fs->b∉ex->h'.get? b=some o
 slot:∀b o,h.get? b=some o->H b=none->b∈fs->b∉ex->∃sl,h'.get? b=some {o with slots:=sl}
 free:∀b o,h.get? b=some o->H b=none->b∉ex->H' b=none
 there:∀b o,h.get? b=some o->b∉ex->∃o',h'.get? b=some o'
 tups:∀b xs,H b=some (.tup xs)->H' b=some (.tup xs)
 frzs:∀b o u,H b=some (.frz o u)->H' b=some (.frz o u)
 tbls:∀b ps,H b=some (.tbl ps)->∃cf,H' b=some (.tbl (ps++cf))
section
variable {fs gj ex tZ:List ae}{H H1 H2:Hp}{h h1 h2 h':am}{a x e:ae}{o:HO}
def Un.any(u:Un fs ex H H1 h h1)  (q:h.get? b=some ob)(n:H b=none)(hx:b∉ex):∃sl,h1.get? b=some {ob with slots:=sl}:=by
 by_cases hb:b∈fs
 ·exact u.slot b ob q n hb hx
 ·exact⟨ob.slots,u.keep b ob q n hb hx⟩
def Un.kept(k:∀b u,h.get? b=some u->h'.get? b=some u):Un fs ex H H h h':=
 ⟨λb ob q _ _ _=>k b ob q,λb ob q _ _ _=>⟨ob.slots,k b ob q⟩,λ_ _ _ n _=>n,λb ob q _=>⟨ob,k b ob q⟩,λ_ _ q=>q,λ_ _ _ q=>q,λ_ ps q=>⟨#[],by rw[q];simp⟩⟩
def Un.refl:Un fs ex H H h h:=Un.kept λ_ _ q=>q
def Un.laid(k:∀b u,h.get? b=some u->h'.get? b=some u)(hp:h.objs.size<=a)(hn:H a=none):Un fs ex H (upd H a o) h h' where
 keep:=λb u q _ _ _=>k b u q
 slot:=λb u q _ _ _=>⟨u.slots,k b u q⟩
 free:=λb u q n _=>by rw[Ad (Os (O7 (Tx q) hp))];exact n
 there:=λb u q _=>⟨u,k b u q⟩
 tups:=λb xs q=>by rw[Ad (Aw q hn)];exact q
 frzs:=λb u xs q=>by rw[Ad (Aw q hn)];exact q
 tbls:=λb ps q=>⟨#[],by rw[Ad (Aw q hn),q];simp⟩
def Un.write(mu:Mut (H x))(he:e=x\/H e=some (.own x))(k:∀b u,b≠e->h.get? b=some u->h'.get? b=some u)(qa:∃u,h'.get? e=some u):Un fs ex H (upd H x o) h h':=by
 have hx:∀b,H b=none->b≠x:=λb n z=>by subst z;rw[n] at mu;exact mu
 have hb:∀b,H b=none->b≠e:=λb n z=>by
  subst z;rcases he with r | r
  ·exact hx b n r
  ·rw[n] at r;cases r
 have hm:∀b u,H b=some u->¬Mut (some u)->b≠x:=λb u q nm z=>by subst z;rw[q] at mu;exact nm mu
 refine⟨λb u q n _ _=>k b u (hb b n) q,λb u q n _ _=>⟨u.slots,k b u (hb b n) q⟩,λb u q n _=>by rw[Ad (hx b n)];exact n,λb u q _=>?_,
  λb xs q=>by rw[Ad (hm b _ q λz=>z)];exact q,λb u xs q=>by rw[Ad (hm b _ q λz=>z)];exact q,λb ps q=>⟨#[],by rw[Ad (hm b _ q λz=>z),q];simp⟩⟩
 by_cases nV:b=e
 ·subst nV;exact qa
 ·exact⟨u,k b u nV q⟩
end
def trk (h:am) (H:Hp):List ae:=(List.range h.objs.size).filter λa=>(H a).isSome
def Dr (h:am) (H:Hp):am:=No h (trk h H)
def Xg1(h)(H):(Dr h H).objs.size=h.objs.size:=PySem.W.hideAll_size _ _
def Xg2    (e:h.get? b=some o) (n:H b=none):(Dr h H).get? b=some o:=
 MY _ e λhm=>by
  have q:(H b).isSome=true:=(Ot.mp hm).2;rw[n] at q;simp at q
def Xg3    (e:(Dr h H).get? b=some o):h.get? b=some o/\H b=none:=by
 have e':h.get? b=some o:=NA (trk h H) e;refine⟨e',?_⟩;cases q:H b with
 | none=>rfl
 | some x=>
  have hm:b∈trk h H:=Ot.mpr ⟨P2.mpr (Tx e'),by simp[q]⟩;have z:(Dr h H).get? b=none:=PySem.W.hideAll_none (trk h H) hm;rw[z] at e;cases e
def Xg4 (g h:am) (L:ae):List (ae×aM):=(List.range h.objs.size).filterMap λa=>if a=L\/(g.get? a).isSome=true then none else (h.get? a).map λo=>(a,o)
def rest (g h:am) (L d:ae):List (ae×aM):=(Xg4 g h L).filter λp=>decide (p.1≠d)
structure Mod (K:LY) (mg:ao->Option aa) (base:am):Prop where
 kin:K.In base
 glob:base.Ns aq mg
 blt:∃mb,base.Ns cU mb/\∀x:ao,x ≠ "__name__" -> mb x=bF x
 nolimit:base.NoLimit
structure Cx where
 prog:ap
 w:ax
 K:LY
 mg:ao->Option aa
 base:am
 A:av
 N:Za
 s₀ : af
 H₀ : Hp
 env:dz
 outer:List dz
 stack:List dz
 ex:List ae
 fn:ao->Bool
 calm:Bool
 pn:List (ae×aM)
 xe:Zb
def frs (l:List dz):List ae:=l.filterMap (·.frame)
abbrev Cx.fs (X:Cx):List ae:=frs X.outer
def Vis (sc:bI) (x:ao):Prop:=sc.names.lookup x=some .local\/sc.names.lookup x=some .cell\/sc.names.lookup x=some .free
def Loc (sc:bI) (x:ao):Prop:=sc.names.lookup x=some .local\/sc.names.lookup x=some .cell
def Look (env:dz) (h:am) (m:ao->Option aa) (x:ao) (u:aa):Prop:=
 (env.kindOf x=some .local/\m x=some u)\/((env.kindOf x=some .cell\/env.kindOf x=some .free)/\∃c,env.cells.lookup x=some c/\h.IsCell c (some u))
structure Cx.Ok (X:Cx):Prop where
 mod:Mod X.K X.mg X.base
 kind:X.env.scope.kind = .function
 glob:X.env.globals=aq
 blt:X.env.builtins=cU
 above:X.s₀.heap.objs.size<=X.env.locals
 inj:∀x y c,X.env.cells.lookup x=some c->X.env.cells.lookup y=some c->x=y
 has:∀x,(X.env.kindOf x=some .cell\/X.env.kindOf x=some .free)->∃c,X.env.cells.lookup x=some c
 cab:∀x c,X.fn x=true->X.env.cells.lookup x=some c->X.s₀.heap.objs.size<=c
 hd:X.calm=true->X.A.handled=none
 frames:X.A.frames=some X.stack
 stk:X.stack=X.outer\/(X.stack=X.env::X.outer/\X.env.frame=some X.env.locals)
 exf:∀b∈X.ex,b≠X.env.locals/\∀x c,X.env.cells.lookup x=some c->c≠b
 bs:∀b o,X.base.get? b=some o->X.s₀.heap.get? b=some o/\X.H₀ b=none
 bsz:X.base.objs.size<=X.s₀.heap.objs.size
 noex:∀b o,X.base.get? b=some o->b∉X.ex
 exfs:∀b∈X.ex,b∉X.fs
 funs:X.s₀.heap.FunFrames X.base X.outer
 frf:∀b∈X.fs,X.H₀ b=none
structure Inv (X:Cx) (pins:List (ae×aM)) (Z:List (Option V)) (H:Hp) (s:af):Prop where
 ok:X.Ok
 os:s.os=X.s₀.os
 bare:cA s.gens
 base:Un X.fs X.ex X.H₀ H X.s₀.heap s.heap
 loc:∃m,s.heap.Ns X.env.locals m/\∀(i:Nat) (x:ao) (v:V),X.N[i]? = some x -> Z[i]? = some (some v)->Vis X.env.scope x->∃u,Aj v u/\Look X.env s.heap m x u
 cell:∀x c,X.env.cells.lookup x=some c->∃v,s.heap.IsCell c v
 free:H X.env.locals=none
 freeC:∀x c,X.env.cells.lookup x=some c->H c=none
 pin:∀p∈X.pn++pins,s.heap.get? p.1=some p.2/\H p.1=none/\p.1≠X.env.locals/\p.1∉X.fs/\∀v,p.2.data ≠ .cell v
 hok:HOk X.prog X.w H s.heap
 len : Z.length=X.N.length
section
variable {X:Cx}{pins:List (ae×aM)}{Z:List (Option V)}{H H':Hp}{s:af}{h':am}
def Cx.Ok.nofr(ok:X.Ok)  (e:X.base.get? b=some o):b∉X.fs:=λhb=>by
 have:=(ok.funs.mem hb).1;rw[e] at this;cases this
def Inv.bs(I:Inv X pins Z H s):∀b o,X.base.get? b=some o->s.heap.get? b=some o/\H b=none:=λb o e=>
 ⟨I.base.keep b o (I.ok.bs b o e).1 (I.ok.bs b o e).2 (I.ok.nofr e) (I.ok.noex b o e),I.base.free b o (I.ok.bs b o e).1 (I.ok.bs b o e).2 (I.ok.noex b o e)⟩
def Inv.bk(I:Inv X pins Z H s):∀b o,X.base.get? b=some o->s.heap.get? b=some o:=λb o e=>(I.bs b o e).1
def Inv.mod(I:Inv X pins Z H s):Mod X.K X.mg X.base:=I.ok.mod
def Inv.kIn(I:Inv X pins Z H s):X.K.In s.heap:=I.ok.mod.kin.keeps I.bk
def Inv.lt(I:Inv X pins Z H s):X.env.locals<s.heap.objs.size:=let ⟨_,hn,_⟩:=I.loc;hn.lt
def Inv.sz(I:Inv X pins Z H s):X.s₀.heap.objs.size<=s.heap.objs.size:=Pm I.ok.above (Ru I.lt)
def Inv.nofs(I:Inv X pins Z H s)(h:s.heap.objs.size<=a):a∉X.fs:=λhb=>by
 obtain⟨_,o,ho,_⟩:=I.ok.funs.mem hb;exact absurd (O7 (Tx ho) (Pm I.sz h)) (P1 _)
def Inv.cne(I:Inv X pins Z H s):∀x c,X.env.cells.lookup x=some c->c≠X.env.locals:=λx c e z=>by
 obtain⟨v,o,ho,hd⟩:=I.cell x c e;obtain⟨m,⟨o',es,ep,fo,gW,_⟩,_⟩:=I.loc;rw[z,fo] at ho;cases ho;rw[gW] at hd;cases hd
def Inv.funs(I:Inv X pins Z H s):s.heap.FunFrames X.base X.outer:=by
 have all:∀(l:List dz),(∀b∈frs l,b∈X.fs)->X.s₀.heap.FunFrames X.base l->s.heap.FunFrames X.base l:=by
  intro l
  induction l with
  | nil=>intro _ _;trivial
  | cons env r ih=>
   intro hs hl;obtain⟨hk,⟨L,o,hf,hn,ho,hd⟩,hr⟩:=hl;have hL:L∈X.fs:=hs L (by unfold frs;rw[Qj,hf];exact Ov);obtain⟨sl,e⟩:=I.base.slot L o ho (I.ok.frf L hL) hL λz=>I.ok.exfs L z hL;exact⟨hk,⟨L,_,hf,hn,e,hd⟩,ih (λb hb=>hs b (by unfold frs;rw[Qj,hf];exact Op _ hb)) hr⟩
 exact all X.outer (λ_ hb=>hb) I.ok.funs
def Inv.stack(I:Inv X pins Z H s):s.heap.FunFrames X.base X.stack:=by
 rcases I.ok.stk with e | ⟨e,hf⟩
 ·rw[e];exact I.funs
 ·rw[e];obtain⟨m,hn,_⟩:=I.loc;refine .cons (by rw[I.ok.kind];decide) hf hn ?_ I.funs;exact am.get?_none_of_le (Pm I.ok.bsz I.ok.above)
def Inv.stkSub(I:Inv X pins Z H s):∀b∈frs X.stack,b∈X.env.locals::X.fs:=λb hb=>by
 rcases I.ok.stk with e | ⟨e,hf⟩
 ·rw[e] at hb;exact Op _ hb
 ·rw[e] at hb;unfold frs at hb;rw[Qj,hf] at hb;exact hb
def Inv.stkFree(I:Inv X pins Z H s):∀b∈frs X.stack,H b=none:=λb hb=>by
 rcases Ox.mp (I.stkSub b hb) with e | hb
 ·rw[e];exact I.free
 ·obtain⟨_,o,ho,_⟩:=I.ok.funs.mem hb;exact I.base.free b o ho (I.ok.frf b hb) λz=>I.ok.exfs b z hb
def Inv.step{g'}{t'}{d'}{ch:List ae}(I:Inv X pins Z H s)
  (lf:∀b∈ch,(b∈X.ex\/X.s₀.heap.objs.size<=b)/\b≠X.env.locals/\(∀x c,X.env.cells.lookup x=some c->c≠b)/\∀p∈X.pn++pins,p.1≠b)
  (keep:∀b o,b≠X.env.locals->b∉X.fs->b∉ch->s.heap.get? b=some o->H b=none->h'.get? b=some o)
  (slot:∀b o,b≠X.env.locals->b∈X.fs->b∉ch->s.heap.get? b=some o->H b=none->∃sl,h'.get? b=some {o with slots:=sl}) (free:∀b o,b∉ch->s.heap.get? b=some o->H b=none->H' b=none)
  (there:∀b o,b∉ch->s.heap.get? b=some o->∃o',h'.get? b=some o')
  (tups:∀b xs,H b=some (.tup xs)->H' b=some (.tup xs)) (frzs:∀b o u,H b=some (.frz o u)->H' b=some (.frz o u)) (tbls:∀b ps,H b=some (.tbl ps)->∃cf,H' b=some (.tbl (ps++cf)))
  (ns:∀m,s.heap.Ns X.env.locals m->h'.Ns X.env.locals m) (hok:HOk X.prog X.w H' h') (hg:cA g'):
  Inv X pins Z H' {s with heap:=h',gens:=g',drawn:=d',toks:=t'}:=by
 have y9:∀b o,X.s₀.heap.get? b=some o->b≠X.env.locals:=λb o e=>Os (O7 (Tx e) I.ok.above);have ua:∀b o,X.s₀.heap.get? b=some o->b∉X.ex->b∉ch:=λb o e hx hb=>by
  rcases (lf b hb).1 with z | z
  ·exact hx z
  ·exact absurd (O7 (Tx e) z) (P1 _)
 have mM:∀x c,X.env.cells.lookup x=some c->∀v,s.heap.IsCell c v->h'.IsCell c v:=λx c e v ⟨o,ho,hd⟩=>by
  have qL:c∉ch:=λz=>(lf c z).2.2.1 x c e rfl;by_cases hc:c∈X.fs
  ·obtain⟨sl,q⟩:=slot c o (I.cne x c e) hc qL ho (I.freeC x c e);exact⟨_,q,hd⟩
  ·exact⟨o,keep c o (I.cne x c e) hc qL ho (I.freeC x c e),hd⟩
 refine⟨I.ok,I.os,hg,⟨λb o e n hb hx=>?_,λb o e n hb hx=>?_,λb o e n hx=>?_,λb o e hx=>?_,λb xs e=>tups b xs (I.base.tups b xs e),λb o xs e=>frzs b o xs (I.base.frzs b o xs e),λb ps e=>?_⟩,?_,λx c e=>?_,?_,λx c e=>?_,λp hp=>?_,hok,I.len⟩
 ·exact keep b o (y9 b o e) hb (ua b o e hx) (I.base.keep b o e n hb hx) (I.base.free b o e n hx)
 ·obtain⟨sl,e1⟩:=I.base.slot b o e n hb hx;obtain⟨iM,e2⟩:=slot b _ (y9 b o e) hb (ua b o e hx) e1 (I.base.free b o e n hx);exact⟨iM,e2⟩
 ·obtain⟨o',e1⟩:=I.base.there b o e hx;exact free b o' (ua b o e hx) e1 (I.base.free b o e n hx)
 ·obtain⟨o',e1⟩:=I.base.there b o e hx;exact there b o' (ua b o e hx) e1
 ·obtain⟨m1,e1⟩:=I.base.tbls b ps e;obtain⟨m2,e2⟩:=tbls b _ e1;exact⟨m1++m2,by rw[e2,Array.append_assoc]⟩
 ·obtain⟨m,hn,hl⟩:=I.loc;refine⟨m,ns m hn,λi x v e1 e2 e3=>?_⟩;obtain⟨u,r,l⟩:=hl i x v e1 e2 e3;refine⟨u,r,?_⟩;rcases l with l | ⟨k,c,e,z⟩
  ·exact .inl l
  ·exact .inr ⟨k,c,e,mM x c e _ z⟩
 ·obtain⟨v,z⟩:=I.cell x c e;exact⟨v,mM x c e v z⟩
 ·obtain⟨m,⟨o,_,_,ho,_⟩,_⟩:=I.loc;exact free _ o (λz=>(lf _ z).2.1 rfl) ho I.free
 ·obtain⟨v,o,ho,hd⟩:=I.cell x c e;exact free c o (λz=>(lf c z).2.2.1 x c e rfl) ho (I.freeC x c e)
 ·obtain⟨e,n,ne,nf,d⟩:=I.pin p hp;have qL:p.1∉ch:=λz=>(lf p.1 z).2.2.2 p hp rfl;exact⟨keep p.1 p.2 ne nf qL e n,free p.1 p.2 qL e n,ne,nf,d⟩
def Inv.un{t'}(I:Inv X pins Z H s)(u:Un X.fs [] H H' s.heap h')(hok:HOk X.prog X.w H' h'):Inv X pins Z H' {s with heap:=h',toks:=t'}:=by
 obtain⟨m,⟨o,es,ep,ho,r⟩,_⟩:=id I.loc;obtain⟨sl,hL⟩:=u.any ho I.free (by simp);exact I.step (g':=s.gens) (d':=s.drawn) (ch:=[]) (λ_ z=>nomatch z) (λb o _ hb _ e n=>u.keep b o e n hb (by simp)) (λb o _ hb _ e n=>u.slot b o e n hb (by simp)) (λb o _ e n=>u.free b o e n (by simp)) (λb o _ e=>u.there b o e (by simp)) u.tups u.frzs u.tbls (λm' hm=>by
  obtain⟨o',cG,lg,fo,r'⟩:=hm;rw[ho] at fo;cases fo;exact⟨_,cG,lg,hL,r'⟩) hok I.bare
def Inv.call{g'}{t'}{d'}{ch}(I:Inv X pins Z H s)(u:Un (frs X.stack) ch H H' s.heap h')(hok:HOk X.prog X.w H' h')(hg:cA g')
  (lf:∀b∈ch,(b∈X.ex\/X.s₀.heap.objs.size<=b)/\b≠X.env.locals/\(∀x c,X.env.cells.lookup x=some c->c≠b)/\∀p∈X.pn++pins,p.1≠b):
  Inv X pins Z H' {s with heap:=h',gens:=g',drawn:=d',toks:=t'}:=by
 obtain⟨m,⟨o,es,ep,ho,r⟩,_⟩:=id I.loc;obtain⟨sl,hL⟩:=u.any ho I.free λz=>(lf _ z).2.1 rfl;exact I.step (ch:=ch) lf (λb o hL hb hc e n=>u.keep b o e n (λz=>(Ox.mp (I.stkSub b z)).elim hL hb) hc) (λb o _ _ hc e n=>u.any e n hc) (λb o hc e n=>u.free b o e n hc) (λb o hc e=>u.there b o e hc) u.tups u.frzs u.tbls (λm' hm=>by
  obtain⟨o',cG,lg,fo,r'⟩:=hm;rw[ho] at fo;cases fo;exact⟨_,cG,lg,hL,r'⟩) hok hg
def Inv.turned{t'}(I:Inv X pins Z H s)(k:∀b o,b≠it->s.heap.get? b=some o->h'.get? b=some o)(hn:H it=none)(hL:it≠X.env.locals)
  (h1:it∈X.ex\/X.s₀.heap.objs.size<=it) (h2:∀x c,X.env.cells.lookup x=some c->c≠it) (h3:∀p∈X.pn++pins,p.1≠it):Inv X pins Z H {s with heap:=h',toks:=t'}:=by
 have yA:∀b u,H b=some u->b≠it:=λb u e z=>by rw[z,hn] at e;cases e
 refine I.step (g':=s.gens) (d':=s.drawn) (ch:=[it]) (λb hb=>?_) (λb o _ _ hc e _=>k b o (λz=>hc (by simp[z])) e) (λb o _ _ hc e _=>⟨o.slots,k b o (λz=>hc (by simp[z])) e⟩) (λ_ _ _ _ n=>n)
  (λb o hc e=>⟨o,k b o (λz=>hc (by simp[z])) e⟩) (λ_ _ e=>e) (λ_ _ _ e=>e) (λb ps e=>⟨#[],by rw[e];simp⟩) (λm hm=>?_) (λb u e=>?_) I.bare
 ·have e:b=it:=by simpa using hb
  subst e;exact⟨h1,hL,h2,h3⟩
 ·obtain⟨o,es,ep,ho,r⟩:=hm;exact⟨o,es,ep,k _ o (Ne.symm hL) ho,r⟩
 ·refine(I.hok b u e).stay (λc v hc q=>k c v ?_ q) (λ_ q=>q) λ_ _ q=>q;rcases hc with z | z
  ·rw[z];exact yA b u e
  ·exact yA c _ z
def Inv.tok(I:Inv X pins Z H s)(t):Inv X pins Z H {s with toks:=t}:=I.un (h':=s.heap) (t':=t) Un.refl I.hok
def Inv.kept{t'}(I:Inv X pins Z H s)(k:∀b u,s.heap.get? b=some u->h'.get? b=some u):Inv X pins Z H {s with heap:=h',toks:=t'}:=I.un (Un.kept k) (I.hok.kept k)
def Inv.laid{a:ae}{o}{t'}(I:Inv X pins Z H s)(k:∀b u,s.heap.get? b=some u->h'.get? b=some u)(hp:s.heap.objs.size<=a)(new:A3 X.prog X.w (upd H a o) h' a o):
  Inv X pins Z (upd H a o) {s with heap:=h',toks:=t'}:=I.un (Un.laid k hp (I.hok.fresh hp)) (I.hok.laid k hp new)
def Inv.write{x e}  (I:Inv X pins Z H s)(mu:Mut (H x))(he:e=x\/H e=some (.own x))(k:∀b u,b≠e->s.heap.get? b=some u->h'.get? b=some u)(qa:∃u,h'.get? e=some u)
  (new:A3 X.prog X.w (upd H x o) h' x o):Inv X pins Z (upd H x o) {s with heap:=h',toks:=t'}:=I.un (Un.write mu he k qa) (I.hok.write mu he k qa new)
def Inv.pins_of(I:Inv X pins Z H s)(h:∀p∈pins',s.heap.get? p.1=some p.2/\H p.1=none/\p.1≠X.env.locals/\p.1∉X.fs/\∀v,p.2.data ≠ .cell v):Inv X pins' Z H s:=
 ⟨I.ok,I.os,I.bare,I.base,I.loc,I.cell,I.free,I.freeC,λp hp=>(Ou.mp hp).elim (λz=>I.pin p (P7 _ z)) (h p),I.hok,I.len⟩
def Xab{N:Za}(hN:N.Nodup){i j:Nat}(a:N[i]? = some x)(b:N[j]? = some x):i=j:=by
 obtain⟨h1,e1⟩:=O6.mp a;obtain⟨h2,e2⟩:=O6.mp b;exact(List.getElem_inj hN).mp (e1.trans e2.symm)
def Xac        (I:Inv X pins Z H s) (hN:X.N.Nodup) (hi:X.N[i]? = some x) (hx:Loc X.env.scope x) (r:Aj v u)
  (h:∀s',Inv X pins (Z.set i (some v)) H s'->(∃a,am.SameBut a s.heap s'.heap/\(a=X.env.locals\/X.env.cells.lookup x=some a))->Q () s') (hf:X.fn x=true\/X.env.scope.names.lookup x=some .local:=by first | exact .inl rfl | exact .inr rfl | assumption):ai M A (JL X.env x u) Q E s:=by
 obtain⟨m,hn,hl⟩:=id I.loc;have fJ:(X.env.scope.kind == .class||(X.env.scope.kind == .module&&X.env.locals != X.env.globals))=false:=by rw[I.ok.kind];rfl
 have yB:i < Z.length:=by rw[I.len];exact(O6.mp hi).1
 have cne:=I.cne;have iN:∀{a:ae} {h':am},(∃o,s.heap.get? a=some o/\H a=none)->am.SameBut a s.heap h'->HOk X.prog X.w H h':=λ{a h'} ha hs b ob e=>by
  obtain⟨_,_,iO⟩:=ha;refine(I.hok b ob e).stay (λc w' hc q=>(hs.2 c ?_).trans q) (λ_ q=>q) λ_ _ q=>q;rintro rfl;rcases hc with rfl | hc
  ·rw[iO] at e;cases e
  ·rw[iO] at hc;cases hc
 rcases hx with hk | hk
 ·refine wpAny_storeName_local hk hn (λh' AX hs=>?_) fJ;obtain⟨oL,_,_,iP,_⟩:=id hn;refine h _ ⟨I.ok,I.os,I.bare,⟨λb o e n hb hx=>?_,λb o e n hb hx=>?_,I.base.free,λb o e hx=>?_,I.base.tups,I.base.frzs,I.base.tbls⟩,⟨_,AX,λj y v' e1 e2 e3=>?_⟩,λy c e=>?_,I.free,I.freeC,λp hp=>?_,iN ⟨oL,iP,I.free⟩ hs,by simpa using I.len⟩ ⟨_,hs,.inl rfl⟩
  ·exact(hs.2 b (Os (O7 (Tx e) I.ok.above))).trans (I.base.keep b o e n hb hx)
  ·obtain⟨sl,e1⟩:=I.base.slot b o e n hb hx;exact⟨sl,(hs.2 b (Os (O7 (Tx e) I.ok.above))).trans e1⟩
  ·obtain⟨o',e1⟩:=I.base.there b o e hx;exact⟨o',(hs.2 b (Os (O7 (Tx e) I.ok.above))).trans e1⟩
  ·by_cases hj:j=i
   ·subst hj;rw[hi] at e1;cases e1;rw[List.getElem?_set_self yB] at e2;cases e2;exact⟨u,r,.inl ⟨hk,by simp⟩⟩
   ·rw[List.getElem?_set_ne (Ne.symm hj)] at e2;obtain⟨u',r',q⟩:=hl j y v' e1 e2 e3;refine⟨u',r',?_⟩;rcases q with ⟨k,e⟩ | ⟨k,c,e,z⟩
    ·refine .inl ⟨k,?_⟩;have:y≠x:=λe=>hj (Xab hN e1 (e ▸ hi));simp[this,e]
    ·exact .inr ⟨k,c,e,z.sameBut hs (cne y c e)⟩
  ·obtain⟨w',z⟩:=I.cell y c e;exact⟨w',z.sameBut hs (cne y c e)⟩
  ·obtain⟨e,n,ne,nf,d⟩:=I.pin p hp;exact⟨(hs.2 p.1 ne).trans e,n,ne,nf,d⟩
 ·have uS:X.fn x=true:=by
   rcases hf with z | z
   ·exact z
   ·rw[z] at hk;cases hk
  obtain⟨c,hc⟩:=I.ok.has x (.inl hk);obtain⟨w',z⟩:=I.cell x c hc;refine wpAny_storeName_cell I.ok.kind hk hc z (λh' qb hs=>?_);obtain⟨oc,l8,uT⟩:=id z;refine h {s with heap:=h'} ⟨I.ok,I.os,I.bare,⟨λb o e n hb hx=>?_,λb o e n hb hx=>?_,I.base.free,λb o e hx=>?_,I.base.tups,I.base.frzs,I.base.tbls⟩,⟨m,hn.sameBut hs (Ne.symm (cne x c hc)),λj y v' e1 e2 e3=>?_⟩,λy c' e=>?_,I.free,I.freeC,λp hp=>?_,iN ⟨oc,l8,I.freeC x c hc⟩ hs,by simpa using I.len⟩ ⟨c,hs,.inr hc⟩
  ·exact(hs.2 b (Os (O7 (Tx e) (I.ok.cab x c uS hc)))).trans (I.base.keep b o e n hb hx)
  ·obtain⟨sl,e1⟩:=I.base.slot b o e n hb hx;exact⟨sl,(hs.2 b (Os (O7 (Tx e) (I.ok.cab x c uS hc)))).trans e1⟩
  ·obtain⟨o',e1⟩:=I.base.there b o e hx;exact⟨o',(hs.2 b (Os (O7 (Tx e) (I.ok.cab x c uS hc)))).trans e1⟩
  ·by_cases hj:j=i
   ·subst hj;rw[hi] at e1;cases e1;rw[List.getElem?_set_self yB] at e2;cases e2;exact⟨u,r,.inr ⟨.inl hk,c,hc,qb⟩⟩
   ·rw[List.getElem?_set_ne (Ne.symm hj)] at e2;obtain⟨u',r',q⟩:=hl j y v' e1 e2 e3;refine⟨u',r',?_⟩;rcases q with q | ⟨k,c',e,z'⟩
    ·exact .inl q
    ·refine .inr ⟨k,c',e,z'.sameBut hs ?_⟩;rintro rfl;exact hj (Xab hN e1 (I.ok.inj _ _ _ e hc ▸ hi))
  ·by_cases yC:c'=c
   ·subst yC;exact⟨_,qb⟩
   ·obtain⟨w2,z2⟩:=I.cell y c' e;exact⟨w2,z2.sameBut hs yC⟩
  ·obtain⟨e,n,ne,nf,d⟩:=I.pin p hp;refine⟨(hs.2 p.1 ?_).trans e,n,ne,nf,d⟩;intro q;rw[q,l8] at e;have q':oc=p.2:=O4 e;exact d w' (by rw[<-q'];exact uT)
def Xad        (I:Inv X pins Z H s) (hN:X.N.Nodup) (hi:X.N[i]? = some x) (hx:Loc X.env.scope x) (r:Aj v u)
  (h:∀s',Inv X pins (Z.set i (some v)) H s'->Q () s') (hf:X.fn x=true\/X.env.scope.names.lookup x=some .local:=by first | exact .inl rfl | exact .inr rfl | assumption):ai M A (JL X.env x u) Q E s:=
 Xac I hN hi hx r (λs' I' _=>h s' I') hf
def Inv.call'{ch}(I:Inv X pins Z H s)(ho:s'.os=s.os)(u:Un (frs X.stack) ch H H' s.heap s'.heap)(hok:HOk X.prog X.w H' s'.heap)(hg:cA s'.gens)
  (lf:∀b∈ch,(b∈X.ex\/X.s₀.heap.objs.size<=b)/\b≠X.env.locals/\(∀x c,X.env.cells.lookup x=some c->c≠b)/\∀p∈X.pn++pins,p.1≠b):Inv X pins Z H' s':=by
 obtain⟨h',g',d',t',o'⟩:=s';have e:o'=s.os:=ho;subst e;exact I.call (g':=g') (t':=t') (d':=d') u hok hg lf
end
abbrev XK:=aa->Option ae->Hp->Prop
abbrev St:=List (Option V)
abbrev VK:=V->Hp->Prop
abbrev TE:=St->Hp->VK->Prop
abbrev TT:=St->Hp->(Bool->Hp->Prop)->Prop
abbrev TA:=St->Hp->(List V->Hp->Prop)->Prop
structure Ends where
 nx:St->Hp->Prop
 rt:VK
 bk:St->Hp->Prop:=λ_ _=>False
 ct:St->Hp->Prop:=λ_ _=>False
abbrev TS:=Ends->St->Hp->Prop
def EP (X:Cx) (pins:List (ae×aM)) (Z:St) (Q:VK) (u:aa) (s':af):Prop:=∃v H',Inv X pins Z H' s'/\Aj v u/\Q v H'
def TP (X:Cx) (pins:List (ae×aM)) (Z:St) (Q:Bool->Hp->Prop) (b:Bool) (s':af):Prop:=∃H',Inv X pins Z H' s'/\Q b H'
def AP (X:Cx) (pins:List (ae×aM)) (Z:St) (Q:List V->Hp->Prop) (us:List aa) (s':af):Prop:=∃vs H',Inv X pins Z H' s'/\Vals vs us/\Q vs H'
def SP (X:Cx) (pins:List (ae×aM)) (D:Ends) (f:Flow) (s':af):Prop:=
 match f with
 | .next=>∃Z' H',Inv X pins Z' H' s'/\D.nx Z' H'
 | .brk=>∃Z' H',Inv X pins Z' H' s'/\D.bk Z' H'
 | .cont=>∃Z' H',Inv X pins Z' H' s'/\D.ct Z' H'
 | .ret u=>∃v Z' H',Inv X pins Z' H' s'/\Aj v u/\D.rt v H'
def PE (X:Cx) (e:aF) (t:TE):Prop:=
 ∀pins s Z H (Q:VK),Inv X pins Z H s->t Z H Q->ai (ah X.prog X.w) X.A (eval e X.env) (EP X pins Z Q) X.xe s
def PT (X:Cx) (e:aF) (t:TT):Prop:=
 ∀pins s Z H (Q:Bool->Hp->Prop),Inv X pins Z H s->t Z H Q->ai (ah X.prog X.w) X.A (isTrue e X.env (eval e X.env)) (TP X pins Z Q) X.xe s
def PW (X:Cx) (e:aF) (t:TT):Prop:=
 ∀(iQ:fK aa) (pins:List (ae×aM)) (s:af) (Z:St) (H:Hp) (Q:Bool->Hp->Prop),Inv X pins Z H s->t Z H Q->ai (ah X.prog X.w) X.A (isTrue e X.env iQ) (TP X pins Z Q) X.xe s
def PW.pt   (h:PW X e t):PT X e t:=h _
def PA (X:Cx) (es:List aF) (t:TA):Prop:=
 ∀(pos:bN) (pins:List (ae×aM)) (s:af) (Z:St) (H:Hp) (Q:List V->Hp->Prop),Inv X pins Z H s->t Z H Q->ai (ah X.prog X.w) X.A (spliced (bC pos (aB es X.env))) (AP X pins Z Q) X.xe s
def PS (X:Cx) (st:aP) (t:TS):Prop:=
 ∀pins s Z H (D:Ends),Inv X pins Z H s->t D Z H->ai (ah X.prog X.w) X.A (exec st X.env) (SP X pins D) X.xe s
def PSs (X:Cx) (st:List aP) (t:TS):Prop:=
 ∀pins s Z H (D:Ends),Inv X pins Z H s->t D Z H->ai (ah X.prog X.w) X.A (execs st X.env) (SP X pins D) X.xe s
def thn{α : Type}{t:fK α}{Q Q'}    (h:ai M A t Q E s)(hQ:∀a s,Q a s->Q' a s):ai M A t Q' E s:=aJ h hQ λ_ _ x=>x
section
variable {X:Cx}
def C4 (i:Nat):TE:=fun Z H Q=>∃v, Z[i]? = some (some v)/\Q v H
def tC (v:V):TE:=λ_ H Q=>Q v H
def Xg5   (hN:X.N[i]? = some x) (hv:Vis X.env.scope x) (hd:(x==("__debug__" : ao))=false:=by decide) (gX:(x==("__classdict__" : ao))=false:=by decide):PE X (.Name x pos) (C4 i):=by
 intro pins s Z H Q I h;obtain⟨v,e,h⟩:=h;obtain⟨m,hn,hl⟩:=I.loc;obtain⟨u,r,l⟩:=hl i x v hN e hv;have fin:EP X pins Z Q u s:=⟨v,H,I,r,h⟩;rcases l with ⟨hk,hm⟩ | ⟨hk,c,hc,gk⟩
 ·exact l9 (wpAny_loadName_local I.ok.kind hk hn hm fin) hd
 ·rcases hk with hk | hk
  ·exact l9 (wpAny_loadName_cell I.ok.kind hk hc gk fin) hd
  ·exact l9 (wpAny_loadName_free I.ok.kind hk hc gk fin gX) hd
def Ag{i j pos}:PE X (.Constant (.int i) j pos) (tC (.int i)):=λ_ _ _ H _ I h=>wpAny_Constant_int ⟨.int i,H,I.tok _,⟨_,rfl⟩,h⟩
def Ds:PE X (.Constant (.bool b) j pos) (tC (.bl b)):=λ_ _ _ H _ I h=>Constant_bool ⟨.bl b,H,I,rfl,h⟩
def Bi:PE X (.Constant (.str x) j pos) (tC (.str x)):=λ_ _ _ H _ I h=>Calls.Constant_str ⟨.str x,H,I.tok _,⟨_,rfl⟩,h⟩
def Gl (X:Cx) (x:ao):Prop:=X.env.kindOf x=some .globalImplicit
def Iy         (I:Inv X pins Z H s) (hg:Gl X x) (hm:X.mg x=some u) (h:Q u s)
  (hd:(x==("__debug__" : ao))=false:=by decide):ai (ah X.prog X.w) X.A (eval (.Name x pos) X.env) Q E s:=
 Calls.Name_function_global I.ok.kind hg (Calls.loadGlobal_global (by rw[I.ok.glob];exact I.mod.glob.keeps I.bk) hm h) hd
def Ey         (I:Inv X pins Z H s) (hg:Gl X x) (hm:X.mg x=none) (hv:bF x=some u) (h:Q u s)
  (hn:x ≠ "__name__" := by decide) (hd:(x==("__debug__" : ao))=false:=by decide):ai (ah X.prog X.w) X.A (eval (.Name x pos) X.env) Q E s:=by
 obtain⟨mb,h1,h2⟩:=I.mod.blt;exact Calls.Name_function_global I.ok.kind hg (Calls.loadGlobal_builtin (by rw[I.ok.glob];exact I.mod.glob.keeps I.bk) hm (by rw[I.ok.blt];exact h1.keeps I.bk) ((h2 x hn).trans hv) h) hd
def Xae  {v:V}  (hg:Gl X x) (hm:X.mg x=none) (hv:bF x=some u) (r:Aj v u) (hn:x ≠ "__name__" := by decide) (hd:(x==("__debug__" : ao))=false:=by decide):PE X (.Name x pos) (tC v):=
 λ_ _ _ H _ I h=>Ey I hg hm hv ⟨v,H,I,r,h⟩ hn hd
def t2I (ta tb:TE) (k:Int->Int->Hp->Prop):St->Hp->Prop:=fun Z H=>ta Z H λx H1=>tb Z H1 λy H2=>∃i j,x = .int i/\y = .int j/\k i j H2
def tMul (ta tb:TE):TE:=fun Z H Q=>t2I ta tb (λi j H2=>(-(2 ^ 64)<i/\i<2 ^ 64)/\Q (.int (i * j)) H2) Z H
variable {a b:aF}{ta tb:TE}{pos:bN}
def PC (X:Cx) (op:CmpOp) (a b:aF) (t:TE):Prop:=
 ∀pins s Z H (Q:VK),Inv X pins Z H s->t Z H Q ->
  ai (ah X.prog X.w) X.A (eval a X.env) (λv s₁=>ai (ah X.prog X.w) X.A (eval b X.env) (λu s₂=>ai (ah X.prog X.w) X.A (aL op v u) (EP X pins Z Q) X.xe s₂) X.xe s₁) X.xe s
def tIsN (ta:TE):TE:=fun Z H Q=>ta Z H λx H1=>Q (.bl (decide (x = .non))) H1
def tB (t:TE):TT:=fun Z H Q=>t Z H λx H1=>∃c,x = .bl c/\Q c H1
def Xg6  (h:PC X op a b t) (h1:cO op b=false:=by first | exact qM _ (by decide) (by decide) | rfl):PE X (.Compare a [op] [b] pos) t:=λpins s Z H Q I hw=>qN (h pins s Z H Q I hw) h1
def Dt  (h:PE X e t) (he:∀iQ,isTrue e X.env iQ=(do       let v <-iQ;cV e.pos;holding [v] (truthy v)):=by intro _;rfl):PT X e (tB t):=by
 intro pins s Z H Q I hw;refine isTrue_plain (thn (h pins s Z H _ I hw) λv s1 ⟨x,H1,I1,r1,q1⟩=>?_) (he _);obtain⟨d,rfl,q⟩:=q1;cases r1;exact aS ⟨H1,I1,q⟩
variable {tA ub:TT}{rest:List aF}
def tAnd (t u:TT):TT:=fun Z H Q=>t Z H λc H1=>if c=true then u Z H1 Q else Q false H1
def tOr (t u:TT):TT:=fun Z H Q=>t Z H λc H1=>if c=true then Q true H1 else u Z H1 Q
def tNot (t:TT):TT:=fun Z H Q=>t Z H λc H1=>Q (!c) H1
def Ez(ha:PT X a tA):PW X (.BoolOp .And [a] pos) tA:=by
 intro wh pins s Z H Q I h;refine AY (thn (ha pins s Z H Q I h) λc s1 e=>?_);cases c with
 | true=>exact isTrue_and_nil e
 | false=>exact e
def Fx(ha:PT X a tA):PW X (.BoolOp .Or [a] pos) tA:=by
 intro wh pins s Z H Q I h;refine JM (thn (ha pins s Z H Q I h) λc s1 e=>?_);cases c with
 | false=>exact isTrue_or_nil e
 | true=>exact e
def E1(ha:PT X a tA)(hb:PW X (.BoolOp .And (b::rest) pos) ub):PW X (.BoolOp .And (a::b::rest) pos) (tAnd tA ub):=by
 intro wh pins s Z H Q I h;refine AY (thn (ha pins s Z H _ I h) λc s1 ⟨H1,I1,q1⟩=>?_);cases c with
 | true=>exact hb wh pins s1 Z H1 Q I1 q1
 | false=>exact⟨H1,I1,q1⟩
def E2(ha:PT X a tA)(hb:PW X (.BoolOp .Or (b::rest) pos) ub):PW X (.BoolOp .Or (a::b::rest) pos) (tOr tA ub):=by
 intro wh pins s Z H Q I h;refine JM (thn (ha pins s Z H _ I h) λc s1 ⟨H1,I1,q1⟩=>?_);cases c with
 | true=>exact⟨H1,I1,q1⟩
 | false=>exact hb wh pins s1 Z H1 Q I1 q1
def Gy(ha:PT X a tA):PT X (.UnaryOp .Not a pos) (tNot tA):=by
 intro pins s Z H Q I h;exact isTrue_not (ha pins s Z H (λc H1=>Q (!c) H1) I h)
def Xg7 (ta tb:TE):TE:=fun Z H Q=>ta Z H λx H1=>∃c,x = .bl c/\if c=true then tb Z H1 Q else Q (.bl false) H1
def tOrV (ta tb:TE):TE:=fun Z H Q=>ta Z H λx H1=>∃c,x = .bl c/\if c=true then Q (.bl true) H1 else tb Z H1 Q
def Xg8 (ta:TE):TE:=fun Z H Q=>ta Z H λx H1=>∃c,x = .bl c/\Q (.bl (!c)) H1
def K8  (h:PE X a t):PE X (.BoolOp op [a] pos) t:=λpins s Z H Q I hw=>BoolOp_one (h pins s Z H Q I hw)
def Xaf(ha:PE X a ta)(hb:PE X (.BoolOp .And (b::rest) pos) tb):PE X (.BoolOp .And (a::b::rest) pos) (Xg7 ta tb):=by
 intro pins s Z H Q I h;refine BoolOp_and (thn (ha pins s Z H _ I h) λv s1 ⟨x,H1,I1,r1,q1⟩=>?_);obtain⟨c,rfl,q1⟩:=q1;cases r1;refine aS ?_;cases c with
 | true=>exact hb pins s1 Z H1 Q I1 q1
 | false=>exact⟨.bl false,H1,I1,rfl,q1⟩
def Xg9(ha:PE X a ta)(hb:PE X (.BoolOp .Or (b::rest) pos) tb):PE X (.BoolOp .Or (a::b::rest) pos) (tOrV ta tb):=by
 intro pins s Z H Q I h;refine BoolOp_or (thn (ha pins s Z H _ I h) λv s1 ⟨x,H1,I1,r1,q1⟩=>?_);obtain⟨c,rfl,q1⟩:=q1;cases r1;refine aS ?_;cases c with
 | false=>exact hb pins s1 Z H1 Q I1 q1
 | true=>exact⟨.bl true,H1,I1,rfl,q1⟩
def Xag(ha:PE X a ta):PE X (.UnaryOp .Not a pos) (Xg8 ta):=by
 intro pins s Z H Q I h;refine UnaryOp_ (thn (ha pins s Z H _ I h) λv s1 ⟨x,H1,I1,r1,q1⟩=>?_);obtain⟨c,rfl,q1⟩:=q1;cases r1;exact not_of (aS ⟨.bl (!c),H1,I1,rfl,q1⟩)
def tIf (t:TT) (ta tb:TE):TE:=fun Z H Q=>t Z H λc H1=>if c=true then ta Z H1 Q else tb Z H1 Q
def Iz(hc:PT X c tA)(ha:PE X a ta)(hb:PE X b tb):PE X (.IfExp c a b pos) (tIf tA ta tb):=by
 intro pins s Z H Q I h;refine wpAny_IfExp (thn (hc pins s Z H _ I h) λd s1 ⟨H1,I1,q1⟩=>?_);cases d with
 | true=>exact ha pins s1 Z H1 Q I1 q1
 | false=>exact hb pins s1 Z H1 Q I1 q1
end
def SqL (K:LY) (H:Hp) (a:ae) (xs:List V):Prop:=
 Rd H a (.lst xs) \/
  ∃(o:aM) (aA:Array aa) (n:Nat),K.lookup a=some o/\o.cls = .type "list" /\ o.dict=none/\o.data = .seq aA n/\aA.size<=sizeLine/\Vals xs aA.toList
def SqT (K:LY) (H:Hp) (a:ae) (xs:List V):Prop:=
 Rd H a (.tup xs) \/
  ∃(o:aM) (aA:Array aa) (n:Nat),K.lookup a=some o/\o.cls = .type "tuple" /\ o.data = .seq aA n/\aA.size<=sizeLine/\Vals xs aA.toList
def absV:aa->Option V
 | .none=>some .non
 | .bool b=>some (.bl b)
 | .int i _=>some (.int i)
 | .str x _=>some (.str x)
 | .bytes b _=>some (.byt b)
 | .float b _=>some (.flt b)
 | .ref a=>some (.ref a)
 | .type n=>some (.ty n)
 | _=>none
def Aj.abs  (r:Aj x u):absV u=some x:=by
 cases x with
 | non=>cases r;rfl
 | bl _=>cases r;rfl
 | int _=>obtain⟨t,rfl⟩:=r;rfl
 | str _=>obtain⟨t,rfl⟩:=r;rfl
 | byt _=>obtain⟨t,rfl⟩:=r;rfl
 | flt _=>obtain⟨t,rfl⟩:=r;rfl
 | ref _=>cases r;rfl
 | ty _=>cases r;rfl
def Aj.inj{x y}(r:Aj x u)(q:Aj y u):x=y:=O4 (r.abs.symm.trans q.abs)
theorem Vals.inj:∀{xs ys:List V} {us:List aa},Vals xs us->Vals ys us->xs=ys
 | _,_,_,.nil,.nil=>rfl
 | _,_,_,.cons r t,.cons r' t'=>by rw[r.inj r',Vals.inj t t']
section
variable {X:Cx}{pins:List (ae×aM)}{Z:St}{H:Hp}{s:af}{a:ae}{xs ys:List V}
def SqL.of{K}(h:H a=some (.lst xs)):SqL K H a xs:=.inl (.inl h)
def SqT.of{K}(h:H a=some (.tup xs)):SqT K H a xs:=.inl (.inl h)
def Inv.list(I:Inv X pins Z H s)(h:SqL X.K H a xs):∃aA:List aa,Vals xs aA/\PlainL s.heap a aA.toArray/\xs.length<=sizeLine:=by
 rcases h with h | ⟨o,aA,n,hk,hc,hd,hs,hz,r⟩
 ·obtain⟨z,aA,n,r,e⟩:=h.ok I.hok;exact⟨aA,r,⟨_,n,e,rfl,rfl,rfl⟩,z⟩
 ·refine⟨aA.toList,r,⟨o,n,I.kIn a o hk,hc,hd,by simpa using hs⟩,?_⟩;have e:=r.length;simp only[Oq] at e
  lia
def Inv.tuple(I:Inv X pins Z H s)(h:SqT X.K H a xs):∃aA:List aa,Vals xs aA/\dh s.heap a aA.toArray/\xs.length<=sizeLine:=by
 rcases h with h | ⟨o,aA,n,hk,hc,hs,hz,r⟩
 ·obtain⟨z,aA,r,p⟩:=h.ok I.hok;exact⟨aA,r,p,z⟩
 ·refine⟨aA.toList,r,⟨o,I.kIn a o hk,hc,n,by simpa using hs⟩,?_⟩;have e:=r.length;simp only[Oq] at e
  lia
def Inv.list_inj(I:Inv X pins Z H s)(h:SqL X.K H a xs)(h':SqL X.K H a ys):xs=ys:=by
 obtain⟨aA,r,⟨o,n,e,_,_,d⟩,_⟩:=I.list h;obtain⟨its',r',⟨o',n',e',_,_,d'⟩,_⟩:=I.list h';rw[e] at e';cases e';rw[d] at d';injection d' with d1 _
 have:aA=its':=by simpa using congrArg Array.toList d1
 subst this;exact r.inj r'
def Inv.tuple_inj(I:Inv X pins Z H s)(h:SqT X.K H a xs)(h':SqT X.K H a ys):xs=ys:=by
 obtain⟨aA,r,⟨o,e,_,n,d⟩,_⟩:=I.tuple h;obtain⟨its',r',⟨o',e',_,n',d'⟩,_⟩:=I.tuple h';rw[e] at e';cases e';rw[d] at d';injection d' with d1 _
 have:aA=its':=by simpa using congrArg Array.toList d1
 subst this;exact r.inj r'
end
abbrev Cx.wish (X:Cx) (E:Zb):Cx:={X with xe:=E}
abbrev Cx.nox (X:Cx):Cx:=X.wish λ_ _=>False
def Cx.Ok.wish{X:Cx}(ok:X.Ok)(E):(X.wish E).Ok:=
 ⟨ok.mod,ok.kind,ok.glob,ok.blt,ok.above,ok.inj,ok.has,ok.cab,ok.hd,ok.frames,ok.stk,ok.exf,ok.bs,ok.bsz,ok.noex,ok.exfs,ok.funs,ok.frf⟩
def Cx.Ok.unwish{X:Cx}(ok:(X.wish E).Ok):X.Ok:=
 ⟨ok.mod,ok.kind,ok.glob,ok.blt,ok.above,ok.inj,ok.has,ok.cab,ok.hd,ok.frames,ok.stk,ok.exf,ok.bs,ok.bsz,ok.noex,ok.exfs,ok.funs,ok.frf⟩
section
variable {X:Cx}{pins:List (ae×aM)}{Z:St}{H:Hp}{s:af}{E:Zb}
def Inv.wish(I:Inv X pins Z H s)(E):Inv (X.wish E) pins Z H s:=⟨I.ok.wish E,I.os,I.bare,I.base,I.loc,I.cell,I.free,I.freeC,I.pin,I.hok,I.len⟩
def Inv.unwish(I:Inv (X.wish E) pins Z H s):Inv X pins Z H s:=⟨I.ok.unwish,I.os,I.bare,I.base,I.loc,I.cell,I.free,I.freeC,I.pin,I.hok,I.len⟩
def SP.unwish   (h:SP (X.wish E) pins D f s'):SP X pins D f s':=by
 cases f with
 | next=>obtain⟨Z',H',I,q⟩:=h;exact⟨Z',H',I.unwish,q⟩
 | brk=>obtain⟨Z',H',I,q⟩:=h;exact⟨Z',H',I.unwish,q⟩
 | cont=>obtain⟨Z',H',I,q⟩:=h;exact⟨Z',H',I.unwish,q⟩
 | ret u=>obtain⟨v, Z',H',I,r,q⟩:=h;exact⟨v, Z',H',I.unwish,r,q⟩
def PSs.nox{st}(h:PSs X.nox st t):PSs X st t:=λpins s Z H D I hw=>
 aJ (h pins s Z H D (I.wish _) hw) (λ_ _ q=>q.unwish) λ_ _ z=>False.elim z
end
section
variable {X:Cx}{st:aP}{rest:List aP}{t u:TS}{e:aF}{te:TE}{pos:bN}
def Ja:TS:=λD Z H=>D.nx Z H
def Db (t u:TS):TS:=λD Z H=>t {D with nx:=u D} Z H
def Bd:PSs X [] Ja:=λ_ _ Z H _ I h=>dm ⟨Z,H,I,h⟩
def Af(h1:PS X st t)(h2:PSs X rest u):PSs X (st::rest) (Db t u):=by
 intro pins s Z H D I h;refine nW (thn (h1 pins s Z H {D with nx:=u D} I h) λf s1 q=>?_);cases f with
 | next=>
  obtain⟨Z',H',I',q⟩:=q;exact h2 pins s1 Z' H' D I' q
 | ret v=>exact q
 | brk=>exact q
 | cont=>exact q
def Ai(h1:PS X st t):PSs X [st] t:=by
 intro pins s Z H D I h;refine nW (thn (h1 pins s Z H D I h) λf s1 q=>?_);cases f with
 | next=>exact dm q
 | ret v=>exact q
 | brk=>exact q
 | cont=>exact q
def Inv.quiet    (I:Inv X pins Z H s):interactive X.env=false:=by simp[interactive,I.ok.kind]
def Xah (te:TE):TS:=λD Z H=>te Z H λ_ H1=>D.nx Z H1
def E3(he:PE X e te)(hs:dJ e none pos.line X.env=pure false:=by rfl):PS X (.Expr e pos) (Xah te):=by
 intro pins s Z H D I h;exact wpAny_Expr_any (thn (he pins s Z H _ I h) λv s1 ⟨x,H1,I1,r1,q1⟩=>⟨Z,H1,I1,q1⟩) I.quiet hs
def Xai (te:TE):TS:=λD Z H=>te Z H D.rt
def Ar(he:PE X e te):PS X (.Return (some e) pos) (Xai te):=by
 intro pins s Z H D I h;exact wpAny_Return_some (thn (he pins s Z H _ I h) λv s1 ⟨x,H1,I1,r1,q1⟩=>⟨x, Z,H1,I1,r1,q1⟩)
def Jb (c:TT) (t u:TS):TS:=λD Z H=>c Z H λb H1=>if b=true then t D Z H1 else u D Z H1
def Bc   (hc:PT X c tc) (ha:PSs X a t) (hb:PSs X b u):PS X (.If c a b pos) (Jb tc t u):=by
 intro pins s Z H D I h;refine wpAny_If (thn (hc pins s Z H _ I h) λd s1 ⟨H1,I1,q1⟩=>?_);cases d with
 | true=>exact ha pins s1 Z H1 D I1 q1
 | false=>exact hb pins s1 Z H1 D I1 q1
def Xru:TS:=λ_ _ _=>False
end
abbrev TG:=V->St->Hp->(St->Hp->Prop)->Prop
abbrev TGs:=List V->St->Hp->(St->Hp->Prop)->Prop
def PG (X:Cx) (nX:aF) (t:TG):Prop:=
 ∀pins s Z H (v:V) (u:aa) (Q:St->Hp->Prop),Inv X pins Z H s->Aj v u->t v Z H Q ->
  ai (ah X.prog X.w) X.A (assign nX X.env u) (λ_ s'=>∃Z' H',Inv X pins Z' H' s'/\Q Z' H') X.xe s
def PGs (X:Cx) (ts:List aF) (t:TGs):Prop:=
 ∀pins s Z H (vs:List V) (us:List aa) (Q:St->Hp->Prop),Inv X pins Z H s->Vals vs us->t vs Z H Q ->
  ai (ah X.prog X.w) X.A (assignInOrder ((bG ts X.env).map (·.2)) us) (λ_ s'=>∃Z' H',Inv X pins Z' H' s'/\Q Z' H') X.xe s
abbrev TSet:=V->V->V->Hp->(Hp->Prop)->Prop
def PSet (X:Cx) (t:TSet):Prop:=
 ∀pins s Z H (o i v:V) (ov iv u:aa) (Q:Hp->Prop),Inv X pins Z H s->Aj o ov->Aj i iv->Aj v u->t o i v H Q ->
  ai (ah X.prog X.w) X.A (uU ov iv u) (λ_ s'=>∃H',Inv X pins Z H' s'/\Q H') X.xe s
abbrev TIp:=V->V->Hp->VK->Prop
section
variable {X:Cx}{pos:bN}
def Be (i:Nat):TG:=λv Z H Q=>Q (Z.set i (some v)) H
def Az{i:Nat}(hN:X.N.Nodup)(hi:X.N[i]? = some x)(hx:Loc X.env.scope x)(hf:X.fn x=true\/X.env.scope.names.lookup x=some .local:=by first | exact .inl rfl | exact .inr rfl | assumption):PG X (.Name x pos) (Be i):=by
 intro pins s Z H v u Q I r h;exact mO (Xad I hN hi hx r (λs' I'=>⟨_,H,I',h⟩) hf)
def Xaj:TGs:=λvs Z H Q=>vs=[]/\Q Z H
def K9 (t:TG) (u:TGs):TGs:=λvs Z H Q=>∃v r,vs=v::r/\t v Z H fun Z' H'=>u r Z' H' Q
def Gz:PGs X [] Xaj:=by
 intro pins s Z H vs us Q I r h;obtain⟨e,h⟩:=h;subst e;cases r;exact assignInOrder_nil ⟨Z,H,I,h⟩
def Dc    (h1:PG X e t) (h2:PGs X es u)
  (hs:(bG (e::es) X.env).map (·.2)=assign e X.env::(bG es X.env).map (·.2):=by rfl):PGs X (e::es) (K9 t u):=by
 intro pins s Z H vs us Q I r h;obtain⟨v,vr,e1,h⟩:=h;subst e1;cases r with
 | cons r rr=>
  rw[hs];refine assignInOrder_cons (thn (h1 pins s Z H _ _ _ I r h) λ_ s1 ⟨Z1,H1,I1,q1⟩=>?_);exact h2 pins s1 Z1 H1 _ _ Q I1 rr q1
def La (K:LY) (n:Nat) (t:TGs):TG:=λv Z H Q=>∃a xs,v = .ref a/\SqT K H a xs/\xs.length=n/\t xs Z H Q
def Xak   {n:Nat} (hc:X.calm=true) (h:PGs X es t)
  (hn:(bG es X.env).length=n:=by rfl) (bK:(bG es X.env).findIdx? (·.1)=none:=by rfl):PG X (.Tuple es k pos) (La X.K n t):=by
 intro pins s Z H v u Q I r hw;obtain⟨a,xs,e1,hq,hl,hw⟩:=hw;subst e1;cases r;obtain⟨aA,rv,ht,hz⟩:=I.tuple hq;refine assign_Tuple_tuple (I.ok.hd hc) ht (by simp[hn,<-hl,rv.length]) bK λh' hx=>?_;have I1:Inv X pins Z H {s with heap:=h'}:=I.kept (t':=s.toks) λb o e=>hx b o (Os (Tx e)) e;exact h pins _ Z H xs _ Q I1 (by simpa using rv) hw
def gSub (to ti:TE) (t:TSet):TG:=λv Z H Q=>to Z H λo H1=>ti Z H1 λi H2=>t o i v H2 λH3=>Q Z H3
def E4   (ho:PE X o to) (hi:PE X i ti) (hs:PSet X t)
  (ha:∀v,assign (.Subscript o i pos) X.env v=(do
   let ov <-holding [v] (eval o X.env)
   let iv <-holding [v,ov] (eval i X.env)
   cV pos
   holding [v,ov,iv] (uU ov iv v)
   release [v,ov,iv] []):=by intro _;rfl):PG X (.Subscript o i pos) (gSub to ti t):=by
 intro pins s Z H v u Q I r h;rw[ha];refine Tj (a7 (thn (ho pins s Z H _ I h) λov s1 ⟨x,H1,I1,r1,q1⟩=>?_));refine Tj (a7 (thn (hi pins s1 Z H1 _ I1 q1) λiv s2 ⟨y,H2,I2,r2,q2⟩=>?_));refine Tj (bh (Tj (a7 (thn (hs pins s2 Z H2 x y v ov iv u _ I2 r1 r2 r q2) λ_ s3 ⟨H3,I3,q3⟩=>?_))));exact wpAny_release ⟨Z,H3,I3,q3⟩
def Dd (te:TE) (g:TG):TS:=λD Z H=>te Z H λx H1=>g x Z H1 D.nx
def Ek   (he:PE X e te) (hg:PG X tg g) (hs:swapsWithSole [tg] e pos.line X.env=pure false:=by rfl) (hw:swappedStores [tg] e X.env=pure none:=by rfl)
  (h1:(bG [tg] X.env).map (·.2)=[assign tg X.env]:=by rfl):PS X (.Assign [tg] e pos) (Dd te g):=by
 intro pins s Z H D I h;refine wpAny_Assign_stores (thn (he pins s Z H _ I h) λv s1 ⟨x,H1,I1,r1,q1⟩=>?_) hs hw;rw[h1];exact thn (hg pins s1 Z H1 x v _ I1 r1 q1) λ_ s2 q=>q
def Ap{i:Nat}    (hN:X.N.Nodup)(hi:X.N[i]? = some x)(hx:Loc X.env.scope x)(he:PE X e te)(hs:dJ e (some (.Name x ij)) pos.line X.env=pure false:=by rfl)(hf:X.fn x=true\/X.env.scope.names.lookup x=some .local:=by first | exact .inl rfl | exact .inr rfl | assumption):
  PS X (.Assign [.Name x ij] e pos) (Dd te (Be i)):=by
 intro pins s Z H D I h;refine wpAny_Assign_Name (thn (he pins s Z H _ I h) λv s1 ⟨y,H1,I1,r1,q1⟩=>?_) hs;exact Xad I1 hN hi hx r1 (λs2 I2=>⟨_,H1,I2,q1⟩) hf
def tPar (i j:Nat) (ta:TA):TS:=λD Z H=>ta Z H λvs H1=>∃v w,vs=[v,w]/\D.nx ((Z.set i (some v)).set j (some w)) H1
def tAug (i:Nat) (te:TE) (ti:TIp):TS:=λD Z H=>∃x, Z[i]? = some (some x)/\te Z H λy H1=>ti x y H1 λz H2=>D.nx (Z.set i (some z)) H2
def tAugS (to ti te:TE) (uV:V->V->Hp->VK->Prop) (AZ:TIp) (uW:TSet):TS:=λD Z H=>to Z H λo H1=>ti Z H1 λi H2=>uV o i H2 λx H3=>te Z H3 λy H4=>AZ x y H4 λz H5=>uW o i z H5 λH6=>D.nx Z H6
def PGet (X:Cx) (t:V->V->Hp->VK->Prop):Prop:=
 ∀pins s Z H (o i:V) (ov iv:aa) (Q:VK),Inv X pins Z H s->Aj o ov->Aj i iv->t o i H Q ->
  ai (ah X.prog X.w) X.A (bZ ov iv) (EP X pins Z Q) X.xe s
def ipI (f:Int->Int->Int):TIp:=λx y H Q=>∃i j,x = .int i/\y = .int j/\Q (.int (f i j)) H
end
section
variable {X:Cx}{pos:bN}
def Xrv (c:TT) (tb:TS):TS:=λD Z H=>∃W:Nat->St->Hp->Prop,(∃m,W m Z H)/\∀m Z H,W m Z H ->
 c Z H λb H1=>if b=true then ∃N:St->Hp->Prop,(∀Z' H',N Z' H'->∃m',m'<m/\W m' Z' H')/\tb {D with nx:=N,ct:=N,bk:=D.nx} Z H1 else D.nx Z H1
end
structure It where
 go:Nat->Hp->Prop
 yld:Nat->Hp->V->Hp->Prop
 stop:Nat->Hp->Prop
def FpOk (X:Cx) (pins:List (ae×aM)) (H:Hp) (b:ae):Prop:=
 H b=none/\b≠X.env.locals/\b∉X.fs/\(b∈X.ex\/X.s₀.heap.objs.size<=b)/\(∀x c,X.env.cells.lookup x=some c->c≠b)/\∀p∈X.pn++pins,p.1≠b
def Inv.fpOk      (I:Inv X pins Z H s) (hb:s.heap.objs.size<=b) (hn:H' b=none):FpOk X pins H' b:=by
 refine⟨hn,Si (O7 I.lt hb),I.nofs hb,.inr (Pm I.sz hb),λx c e z=>?_,λp hp z=>?_⟩
 ·obtain⟨v,q⟩:=I.cell x c e;exact absurd (O7 q.lt (by rw[z];exact hb)) (P1 _)
 ·exact absurd (O7 (Tx (I.pin p hp).1) (by rw[z];exact hb)) (P1 _)
structure Turn (P:ap) (w:ax) (K:LY) (tg:aF) (J:It) (fp:List ae) (it:ae) (tn:Nat->am->Prop):Prop where
 mem:it∈fp
 obj:∀i h,tn i h->∀b∈fp,∃o,h.get? b=some o/\∀v,o.data ≠ .cell v
 keep:∀i h h',tn i h->(∀b∈fp,∀o,h.get? b=some o->h'.get? b=some o)->tn i h'
 item:∀(X:Cx),X.prog=P->X.w=w->X.K=K->X.calm=true->∀(i:Nat) (pins:List (ae×aM)) (s:af) (Z:St) (H:Hp) (E:Zb),Inv X pins Z H s->(∀b∈fp,FpOk X pins H b)->tn i s.heap->J.go i H ->
  ai (ah P w) X.A (cB (.ref it)) (λr s1=>∃u,r=some u /\
   ai (ah P w) X.A (c5 tg (.ref it) u) (λ_ s2=>∃x H',Inv X pins Z H' s2/\Aj x u/\J.yld i H x H'/\tn (i+1) s2.heap/\∀b∈fp,H' b=none) E s1) E s
 done:∀(X:Cx),X.prog=P->X.w=w->X.K=K->X.calm=true->∀(i:Nat) (pins:List (ae×aM)) (s:af) (Z:St) (H:Hp) (E:Zb),Inv X pins Z H s->(∀b∈fp,FpOk X pins H b)->tn i s.heap->J.stop i H ->
  ai (ah P w) X.A (cB (.ref it)) (λr s1=>r=none/\Inv X pins Z H s1) E s
 self:∀(A:av) (i:Nat) (s:af) (Q:Zb) (E:Zb),tn i s.heap->Q (.ref it) s->ai (ah P w) A (fq (.ref it)) Q E s
abbrev TI:=St->Hp->(It->Hp->Prop)->Prop
def PIE (X:Cx) (pins:List (ae×aM)) (Z:St) (tg:aF) (R:It->Hp->Prop) (mP:aa) (s2:af):Prop:=
 ∃(it:ae) (fp:List ae) (tn:Nat->am->Prop) (J:It) (H':Hp),mP = .ref it/\Inv X pins Z H' s2/\Turn X.prog X.w X.K tg J fp it tn/\tn 0 s2.heap/\(∀b∈fp,FpOk X pins H' b)/\R J H'
def PI (X:Cx) (tg iter:aF) (wi:TI):Prop:=
 ∀pins s Z H (R:It->Hp->Prop),Inv X pins Z H s->wi Z H R ->
  ai (ah X.prog X.w) X.A (eval iter X.env) (λv s1=>ai (ah X.prog X.w) X.A (fq v) (PIE X pins Z tg R) X.xe s1) X.xe s
def Jc    {s}     {n}  (ho:s.heap.get? it=some o) (hc:o.cls = .type n) (hd:o.data = .fields vs)
    (hn:["enumerate", "zip", "dict_itemiterator", "dict_reverseitemiterator", "odict_iterator", "itertools.zip_longest", "itertools.pairwise"].contains n=false) (hQ:Q () s):ai M A (c5 tg (.ref it) u) Q E s:=by
  unfold c5;cases tg<;>first
    | exact Tk hQ
    | (cases u<;>first
        | exact Tk hQ
        | (refine Tj (lA ho ?_)
           rw[hc,hd];show ai M A (if (["enumerate", "zip", "dict_itemiterator", "dict_reverseitemiterator", "odict_iterator", "itertools.zip_longest", "itertools.pairwise"].contains n&&vs[0]? == some (aU _))=true then _ else _) Q E s;rw[Tq (by intro h;rw[hn,Qa] at h;cases h)];exact Tk hQ))
def Itl (K:LY) (a:ae):It:=
 ⟨λi H=>∃xs x,SqL K H a xs/\xs[i]? = some x,λi H x H'=>H'=H/\∀xs,SqL K H a xs->xs[i]? = some x,λi H=>∃xs,SqL K H a xs/\xs.length<=i⟩
def Itt (K:LY) (a:ae):It:=
 ⟨λi H=>∃xs x,SqT K H a xs/\xs[i]? = some x,λi H x H'=>H'=H/\∀xs,SqT K H a xs->xs[i]? = some x,λi H=>∃xs,SqT K H a xs/\xs.length<=i⟩
def Itr (lo:Int) (n:Nat):It:=⟨λi _=>i<n,λi H x H'=>H'=H/\x = .int (lo+i),λi _=>n<=i⟩
def Xha{P:ap}{w:ax}{K:LY}{tg:aF}(a it:ae):Turn P w K tg (Itl K a) [it] it (λi h=>h.IsListIter it a i) where
 mem:=by simp
 obj:=λi h st b hb=>by
  have e:b=it:=by simpa using hb
  subst e;obtain⟨o,e,c,d⟩:=st;exact⟨o,e,λv z=>by rw[d] at z;cases z⟩
 keep:=λi h h' st k=>st.at λo e=>k it (by simp) o e
 item:=by
  intro X hP hw hK hc i pins s Z H E I hf st hg;subst hP hw hK;obtain⟨xs,x,hq,hx⟩:=hg;obtain⟨aA,rv,p,hz⟩:=I.list hq;obtain⟨u,hu,ru⟩:=rv.get hx;obtain⟨f0,f1,f2,f3,f4,f5⟩:=hf it (by simp);refine wpAny_pyNext_list_item st p.isList (x:=u) (by simpa using hu) λh' a8 sb=>?_;have I1:Inv X pins Z H {s with heap:=h'}:=I.turned (t':=s.toks) (λb o hb e=>(sb.2 b hb).trans e) f0 f1 f3 f4 f5;obtain⟨o,e,c,d⟩:=id a8;exact⟨u,rfl,Jc (s:={s with heap:=h'}) e c d (by decide) ⟨x,H,I1,ru,⟨rfl,λys hy=>by rw[I.list_inj hy hq];exact hx⟩,a8,λb hb=>(hf b hb).1⟩⟩
 done:=by
  intro X hP hw hK hc i pins s Z H E I hf st hg;subst hP hw hK;obtain⟨xs,hq,hx⟩:=hg;obtain⟨aA,rv,p,hz⟩:=I.list hq;obtain⟨f0,f1,f2,f3,f4,f5⟩:=hf it (by simp);have hl:=rv.length;exact wpAny_pyNext_list_end (I.ok.hd hc) st p.isList (by simp;lia) λh' eb=>⟨rfl,I.turned (t':=s.toks) (λb o hb e=>eb b o hb e) f0 f1 f3 f4 f5⟩
 self:=λ_ _ _ _ _ st h=>wpAny_pyIter_listiter st h
def Xhb{P:ap}{w:ax}{K:LY}{tg:aF}(a it:ae):Turn P w K tg (Itt K a) [it] it (λi h=>h.IsTupleIter it a i) where
 mem:=by simp
 obj:=λi h st b hb=>by
  have e:b=it:=by simpa using hb
  subst e;obtain⟨o,e,c,d⟩:=st;exact⟨o,e,λv z=>by rw[d] at z;cases z⟩
 keep:=λi h h' st k=>st.at λo e=>k it (by simp) o e
 item:=by
  intro X hP hw hK hc i pins s Z H E I hf st hg;subst hP hw hK;obtain⟨xs,x,hq,hx⟩:=hg;obtain⟨aA,rv,p,hz⟩:=I.tuple hq;obtain⟨u,hu,ru⟩:=rv.get hx;obtain⟨f0,f1,f2,f3,f4,f5⟩:=hf it (by simp);refine wpAny_pyNext_tuple_item st (show s.heap.IsTuple a aA.toArray from p) (x:=u) (by simpa using hu) λh' a8 sb=>?_;have I1:Inv X pins Z H {s with heap:=h'}:=I.turned (t':=s.toks) (λb o hb e=>(sb.2 b hb).trans e) f0 f1 f3 f4 f5;obtain⟨o,e,c,d⟩:=id a8;exact⟨u,rfl,Jc (s:={s with heap:=h'}) e c d (by decide) ⟨x,H,I1,ru,⟨rfl,λys hy=>by rw[I.tuple_inj hy hq];exact hx⟩,a8,λb hb=>(hf b hb).1⟩⟩
 done:=by
  intro X hP hw hK hc i pins s Z H E I hf st hg;subst hP hw hK;obtain⟨xs,hq,hx⟩:=hg;obtain⟨aA,rv,p,hz⟩:=I.tuple hq;obtain⟨f0,f1,f2,f3,f4,f5⟩:=hf it (by simp);have hl:=rv.length;exact wpAny_pyNext_tuple_end (I.ok.hd hc) st (show s.heap.IsTuple a aA.toArray from p) (by simp;lia) λh' eb=>⟨rfl,I.turned (t':=s.toks) (λb o hb e=>eb b o hb e) f0 f1 f3 f4 f5⟩
 self:=λ_ _ _ _ _ st h=>wpAny_pyIter_tupleiter st h
def Xhc{P:ap}{w:ax}{K:LY}{tg:aF}(it:ae)(lo:Int)(n:Nat):Turn P w K tg (Itr lo n) [it] it (λi h=>yD h it (lo+(i:Nat) * 1) ((n:Int) - (i:Nat)) 1) where
 mem:=by simp
 obj:=λi h st b hb=>by
  have e:b=it:=by simpa using hb
  subst e;exact⟨_,st,λv z=>by
   have z':uX.fields _=uX.cell v:=z;cases z'⟩
 keep:=λi h h' st k=>k it (by simp) _ st
 item:=by
  intro X hP hw hK hc i pins s Z H E I hf st hg;subst hP hw hK;obtain⟨f0,f1,f2,f3,f4,f5⟩:=hf it (by simp);have W:=jQ.range (prog:=X.prog) (w:=X.w) (I.ok.hd hc) it lo 1 n;refine W.item i s _ _ hg st λv h' tk hv a8 kk=>?_;obtain⟨t,rfl⟩:=hv;have I1:Inv X pins Z H {s with heap:=h',toks:=tk}:=I.turned (λb o hb e=>kk b o (by simpa using hb) e) f0 f1 f3 f4 f5;refine⟨_,rfl,Jc (s:={s with heap:=h',toks:=tk}) (n := "range_iterator") a8 rfl rfl (by decide) ⟨.int (lo+i),H,I1,⟨t,?_⟩,⟨rfl,rfl⟩,a8,λb hb=>(hf b hb).1⟩⟩;rw[Int.mul_one]
 done:=by
  intro X hP hw hK hc i pins s Z H E I hf st hg;subst hP hw hK;obtain⟨f0,f1,f2,f3,f4,f5⟩:=hf it (by simp);exact wpAny_pyNext_range_end (I.ok.hd hc) st (by have:n<=i:=hg;lia) λh' eb=>⟨rfl,I.turned (t':=s.toks) (λb o hb e=>eb b o hb e) f0 f1 f3 f4 f5⟩
 self:=λ_ _ _ _ _ st h=>wpAny_pyIter_rangeiter st h
section
variable {X:Cx}{tg:aF}
def Xhd (K:LY) (tl:TE):TI:=fun Z H R=>tl Z H λx H1=>∃a,x = .ref a/\(∃xs,SqL K H1 a xs)/\R (Itl K a) H1
def iTup (K:LY) (tl:TE):TI:=fun Z H R=>tl Z H λx H1=>∃a,x = .ref a/\(∃xs,SqT K H1 a xs)/\R (Itt K a) H1
def B4  (hl:PE X l tl):PI X tg l (Xhd X.K tl):=by
 intro pins s Z H R I h;refine thn (hl pins s Z H _ I h) λv s1 ⟨x,H1,I1,r1,q1⟩=>?_;obtain⟨a,e,⟨xs,hq⟩,q⟩:=q1;subst e;cases r1;obtain⟨aA,rv,p,hz⟩:=I1.list hq;refine cJ p.isList ?_;refine⟨s1.heap.objs.size,[s1.heap.objs.size],_,_,H1,rfl,I1.kept (t':=s1.toks) λb o e=>Tz _ e,Xha a _,⟨_,am.get?_push_size _ rfl,rfl,rfl⟩,λb hb=>?_,q⟩;have e:b=s1.heap.objs.size:=by simpa using hb
 subst e;exact I1.fpOk (Oi _) (I1.hok.fresh (Oi _))
def G0  (hl:PE X l tl):PI X tg l (iTup X.K tl):=by
 intro pins s Z H R I h;refine thn (hl pins s Z H _ I h) λv s1 ⟨x,H1,I1,r1,q1⟩=>?_;obtain⟨a,e,⟨xs,hq⟩,q⟩:=q1;subst e;cases r1;obtain⟨aA,rv,p,hz⟩:=I1.tuple hq;refine lB (show s1.heap.IsTuple a aA.toArray from p) ?_;refine⟨s1.heap.objs.size,[s1.heap.objs.size],_,_,H1,rfl,I1.kept (t':=s1.toks) λb o e=>Tz _ e,Xhb a _,⟨_,am.get?_push_size _ rfl,rfl,rfl⟩,λb hb=>?_,q⟩;have e:b=s1.heap.objs.size:=by simpa using hb
 subst e;exact I1.fpOk (Oi _) (I1.hok.fresh (Oi _))
def Xhe       {lo hi}  (I:Inv X pins Z H s) (h1 : -(2 ^ 62)<=lo) (h2:lo<2 ^ 62) (h3 : -(2 ^ 62)<=hi) (h4:hi<2 ^ 62)
  (q:R (Itr lo (hi - lo).toNat) H):ai (ah X.prog X.w) X.A (fq (.ref s.heap.objs.size)) (PIE X pins Z tg R) E {s with heap:=s.heap.push {cls:=.type "range",data:=.fields #[.int lo t,.int hi u,.int 1 v]},toks:=tk}:=by
 refine wpAny_pyIter_range (IsRange.new ..) (small_one h1 h2 h3 h4) ?_;have I1:Inv X pins Z H {s with heap:=s.heap.push {cls:=.type "range",data:=.fields #[.int lo t,.int hi u,.int 1 v]},toks:=tk}:=I.kept λb o e=>Tz _ e;refine⟨(s.heap.push {cls:=.type "range",data:=.fields #[.int lo t,.int hi u,.int 1 v]}).objs.size,[(s.heap.push {cls:=.type "range",data:=.fields #[.int lo t,.int hi u,.int 1 v]}).objs.size],_,_,H,rfl,
  I1.kept (t':=tk) λb o e=>Tz _ e,Xhc _ lo (hi - lo).toNat,?_,λb hb=>?_,q⟩
 ·have e1:lo+((0:Nat):Int) * 1=lo:=by simp
  have e2:(((hi - lo).toNat:Nat):Int) - ((0:Nat):Int)=ak.Range.rangeSize lo hi 1:=by rw[rangeSize_one];split<;>lia
  show yD _ _ (lo+((0:Nat):Int) * 1) ((((hi - lo).toNat:Nat):Int) - ((0:Nat):Int)) 1;rw[e1,e2];exact am.get?_push_size _ rfl
 ·have e:b=(s.heap.push {cls:=.type "range",data:=.fields #[.int lo t,.int hi u,.int 1 v]}).objs.size:=by simpa using hb
  subst e;exact I1.fpOk (Oi _) (I1.hok.fresh (Oi _))
def Xhf (ta:TA):TI:=fun Z H R=>ta Z H λvs H1=>∃j:Int,vs=[.int j] /\ -(2 ^ 62)<=j/\j<2 ^ 62/\R (Itr 0 j.toNat) H1
def G1   (hg:Gl X "range") (hm:X.mg "range" = none) (ha:PA X [a] ta) (hs:aB [a] X.env=[(false,eval a X.env)]:=by rfl):PI X tg (.Call (.Name "range" p) [a] [] pos) (Xhf ta):=by
 intro pins s Z H R I h;refine Call_ (Ey I hg hm boot_range (PyProof.Rows.callWith_type1 (thn (ha pos pins s Z H _ I h) λus s1 ⟨vs,H1,I1,r1,q1⟩=>?_) hs rfl));obtain⟨j,e,q1,q2,q⟩:=q1;subst e;cases r1 with
 | cons r rr=>
  cases rr;obtain⟨t,rfl⟩:=r;exact call_range_1 (Xhe I1 (by lia) (by lia) q1 q2 (by simpa using q))
def tFor (wi:TI) (g:TG) (tb:TS):TS:=λD Z H=>wi Z H λJ H1=>∃W:Nat->Nat->St->Hp->Prop,(∃m,W 0 m Z H1)/\∀i m Z H,W i m Z H ->
 (J.stop i H/\D.nx Z H)\/(J.go i H/\∃N:St->Hp->Prop,(∀Z' H',N Z' H'->∃m',m'<m/\W (i+1) m' Z' H')/\∀x H',J.yld i H x H'->g x Z H' fun Z2 H2=>tb {D with nx:=N,ct:=N,bk:=D.nx} Z2 H2)
def G2 (fp:List ae) (h:am):List (ae×aM):=fp.filterMap λb=>(h.get? b).map λo=>(b,o)
def Jd    (hb:b∈fp) (e:h.get? b=some o):(b,o)∈G2 fp h:=Su.mpr ⟨b,hb,by rw[e];rfl⟩
def Xhg   (hp:p∈G2 fp h):p.1∈fp/\h.get? p.1=some p.2:=by
 obtain⟨b,hb,e⟩:=Su.mp hp;cases q:h.get? b with
 | none=>rw[q] at e;cases e
 | some o=>
  rw[q] at e;have e':(b,o)=p:=O4 e;subst e';exact⟨hb,q⟩
def Inv.pinned     (I:Inv X pins Z H s) (hf:∀b∈fp,FpOk X pins H b) (ho:∀b∈fp,∃o,s.heap.get? b=some o/\∀v,o.data ≠ .cell v):Inv X (pins++G2 fp s.heap) Z H s:=
 I.pins_of λp hp=>(Ou.mp hp).elim (λz=>I.pin p (Pc _ z)) λz=>by
  obtain⟨hb,e⟩:=Xhg z;obtain⟨f0,f1,f2,_⟩:=hf p.1 hb;obtain⟨o,e',d⟩:=ho p.1 hb;rw[e] at e';cases e';exact⟨e,f0,f1,f2,d⟩
def Inv.unpinned    (I:Inv X (pins++pl) Z H s):Inv X pins Z H s:=I.pins_of λp hp=>I.pin p (Pc _ (P7 _ hp))
def B5      (hp:aW (ah X.prog X.w) X.A X.env X.xe) (hc:X.calm=true) (hi:PI X tg iter wi) (hg:PG X tg g) (hb:PSs X body tb)
  (hs:∀x,aH iter X.env x=pure x:=by intro _;rfl):PS X (.For tg iter body [] pos) (tFor wi g tb):=by
 intro pins s Z H D I h;refine wpAny_For (thn (hi pins s Z H _ I h) λv s1 h1=>thn h1 λmP s2 h2=>?_) hs;obtain⟨it,fp,tn,J,H2,e,I2,T,d0,f2,W,⟨m0,w0⟩,turn⟩:=h2;subst e;have ik:∀{H':Hp},(∀b∈fp,H' b=none)->∀b∈fp,FpOk X pins H' b:=λhn b hb=>⟨hn b hb,(f2 b hb).2⟩;refine codeAny_forLoop_any (λn s'=>∃i Z' H',Inv X pins Z' H' s'/\tn i s'.heap/\(∀b∈fp,H' b=none)/\W i n Z' H') ?_ m0 ⟨0, Z,H2,I2,d0,λb hb=>(f2 b hb).1,w0⟩;rintro n s3 ⟨i, Z3,H3,I3,qc,yE,w3⟩;rcases turn i n Z3 H3 w3 with ⟨stop,qn⟩ | ⟨go,N,hN,step⟩
 ·refine c6 hp (thn (T.done X rfl rfl rfl hc i pins s3 Z3 H3 X.xe I3 (ik yE) qc stop) λr s4 ⟨hr,I4⟩=>?_);subst hr;exact dm ⟨Z3,H3,I4,qn⟩
 ·refine c6 hp (thn (T.item X rfl rfl rfl hc i pins s3 Z3 H3 X.xe I3 (ik yE) qc go) λr s4 ⟨u,hr,h4⟩=>?_);subst hr;refine c6 hp (thn h4 λ_ s5 ⟨x,H5,I5,r5,y5,nY,uY⟩=>?_);have uZ:=I5.pinned (ik uY) (T.obj _ _ nY);refine c6 hp (thn (hg _ s5 Z3 H5 x u _ uZ r5 (step x H5 y5)) λ_ s6 ⟨Z6,H6,I6,q6⟩=>?_);refine c6 hp (thn (hb _ s6 Z6 H6 _ I6 q6) λf s7 q7=>?_);have again:∀{Z7:St} {H7:Hp},Inv X (pins++G2 fp s5.heap) Z7 H7 s7->N Z7 H7->∃m,m<n/\∃i Z' H',Inv X pins Z' H' s7/\tn i s7.heap/\(∀b∈fp,H' b=none)/\W i m Z' H':=λ{Z7 H7} I7 n7=>by
   obtain⟨m',hm,w7⟩:=hN Z7 H7 n7;refine⟨m',hm,i+1, Z7,H7,I7.unpinned,T.keep _ _ _ nY λb hb o e=>(I7.pin (b,o) (Pc _ (Pc _ (Jd hb e)))).1,λb hb=>?_,w7⟩;obtain⟨o,e,d⟩:=T.obj _ _ nY b hb;exact(I7.pin (b,o) (Pc _ (Pc _ (Jd hb e)))).2.1
  cases f with
  | next=>obtain⟨Z7,H7,I7,n7⟩:=q7;exact again I7 n7
  | cont=>obtain⟨Z7,H7,I7,n7⟩:=q7;exact again I7 n7
  | brk=>obtain⟨Z7,H7,I7,q7⟩:=q7;exact⟨Z7,H7,I7.unpinned,q7⟩
  | ret v=>obtain⟨x7, Z7,H7,I7,r7,q7⟩:=q7;exact⟨x7, Z7,H7,I7.unpinned,r7,q7⟩
end
def De{K}{a}{xs}{g:TG}{tb:TS}{D:Ends}  (Pv:Nat->St->Hp->Prop)(h0:Pv 0 Z H)(hl:∀i Z H,i<=xs.length->Pv i Z H->SqL K H a xs)
  (hs:∀i x Z H,xs[i]? = some x->Pv i Z H->g x Z H fun Z2 H2=>tb {D with nx:=Pv (i+1),ct:=Pv (i+1),bk:=D.nx} Z2 H2) (hd:∀Z H,Pv xs.length Z H->D.nx Z H):
  ∃W:Nat->Nat->St->Hp->Prop,(∃m,W 0 m Z H)/\∀i m Z H,W i m Z H ->
   ((Itl K a).stop i H/\D.nx Z H)\/((Itl K a).go i H/\∃N:St->Hp->Prop,(∀Z' H',N Z' H'->∃m',m'<m/\W (i+1) m' Z' H')/\∀x H',(Itl K a).yld i H x H'->g x Z H' fun Z2 H2=>tb {D with nx:=N,ct:=N,bk:=D.nx} Z2 H2):=by
 refine⟨λi m Z H=>m=xs.length - i/\i<=xs.length/\Pv i Z H,⟨xs.length,by simp,Pi _,h0⟩,?_⟩;rintro i m Z H ⟨rfl,hi,p⟩;have q:=hl i Z H hi p;by_cases bf:i<xs.length
 ·refine .inr ⟨⟨xs,xs[i],q,by simp[bf]⟩,Pv (i+1),fun Z' H' p'=>⟨xs.length - (i+1),by lia,rfl,bf,p'⟩,λx H' y=>?_⟩;obtain⟨e,y⟩:=y;subst e;exact hs i x Z _ (y xs q) p
 ·have e:i=xs.length:=by lia
  subst e;exact .inl ⟨⟨xs,q,Oi _⟩,hd Z H p⟩
def G3{lo}{n}{g:TG}{tb:TS}{D:Ends}  (Pv:Nat->St->Hp->Prop)(h0:Pv 0 Z H)
  (hs:∀i Z H,i<n->Pv i Z H->g (.int (lo+i)) Z H fun Z2 H2=>tb {D with nx:=Pv (i+1),ct:=Pv (i+1),bk:=D.nx} Z2 H2) (hd:∀Z H,Pv n Z H->D.nx Z H):
  ∃W:Nat->Nat->St->Hp->Prop,(∃m,W 0 m Z H)/\∀i m Z H,W i m Z H ->
   ((Itr lo n).stop i H/\D.nx Z H)\/((Itr lo n).go i H/\∃N:St->Hp->Prop,(∀Z' H',N Z' H'->∃m',m'<m/\W (i+1) m' Z' H')/\∀x H',(Itr lo n).yld i H x H'->g x Z H' fun Z2 H2=>tb {D with nx:=N,ct:=N,bk:=D.nx} Z2 H2):=by
 refine⟨λi m Z H=>m=n - i/\i<=n/\Pv i Z H,⟨n,by simp,Pi _,h0⟩,?_⟩;rintro i m Z H ⟨rfl,hi,p⟩;by_cases bf:i<n
 ·refine .inr ⟨bf,Pv (i+1),fun Z' H' p'=>⟨n - (i+1),by lia,rfl,bf,p'⟩,λx H' y=>?_⟩;obtain⟨e,y⟩:=y;subst e y;exact hs i Z _ bf p
 ·have e:i=n:=by lia
  subst e;exact .inl ⟨Oi _,hd Z H p⟩
abbrev R2:=V->V->Hp->VK->Prop
def OpR (X:Cx) (f:aa->aa->fK aa) (r:R2):Prop:=
 ∀pins s Z H (x y:V) (v u:aa) (Q:VK),Inv X pins Z H s->Aj x v->Aj y u->r x y H Q ->
  ai (ah X.prog X.w) X.A (f v u) (EP X pins Z Q) X.xe s
def UnR (X:Cx) (f:aa->fK aa) (r:V->Hp->VK->Prop):Prop:=
 ∀pins s Z H (x:V) (v:aa) (Q:VK),Inv X pins Z H s->Aj x v->r x H Q ->
  ai (ah X.prog X.w) X.A (f v) (EP X pins Z Q) X.xe s
def Bu (X:Cx) (f:aa) (r:List V->Hp->VK->Prop):Prop:=
 ∀pins s Z H (xs:List V) (us:List aa) (Q:VK),Inv X pins Z H s->Vals xs us->r xs H Q ->
  ai (ah X.prog X.w) X.A (call f us) (EP X pins Z Q) X.xe s
def TruR (X:Cx) (r:V->Hp->(Bool->Hp->Prop)->Prop):Prop:=
 ∀pins s Z H (x:V) (v:aa) (Q:Bool->Hp->Prop),Inv X pins Z H s->Aj x v->r x H Q ->
  ai (ah X.prog X.w) X.A (truthy v) (TP X pins Z Q) X.xe s
def tOp (r:R2) (ta tb:TE):TE:=fun Z H Q=>ta Z H λx H1=>tb Z H1 λy H2=>r x y H2 Q
def tUn (r:V->Hp->VK->Prop) (ta:TE):TE:=fun Z H Q=>ta Z H λx H1=>r x H1 Q
def rI (C:Int->Int->Prop) (g:Int->Int->V):R2:=λx y H Q=>∃i j,x = .int i/\y = .int j/\C i j/\Q (g i j) H
def rI0 (g:Int->Int->V):R2:=λx y H Q=>∃i j,x = .int i/\y = .int j/\Q (g i j) H
def rU (g:Int->V):V->Hp->VK->Prop:=λx H Q=>∃i,x = .int i/\Q (g i) H
section
variable {X:Cx}{a b c:aF}{ta tb tc:TE}{pos:bN}
def binT(ha:PE X a ta)(hb:PE X b tb)     {R:V->V->Hp->Prop}(I:Inv X pins Z H s)
  (h:ta Z H λx H1=>tb Z H1 λy H2=>R x y H2) {f:aa->aa->fK aa}
  (hf:∀v u s2 x y H2,Inv X pins Z H2 s2->Aj x v->Aj y u->R x y H2->ai (ah X.prog X.w) X.A (f v u) Q X.xe s2):
  ai (ah X.prog X.w) X.A (eval a X.env) (λv s₁=>ai (ah X.prog X.w) X.A (eval b X.env) (λu s₂=>ai (ah X.prog X.w) X.A (f v u) Q X.xe s₂) X.xe s₁) X.xe s:=by
 refine thn (ha pins s Z H _ I h) λv s1 ⟨x,H1,I1,r1,q1⟩=>?_;refine thn (hb pins s1 Z H1 _ I1 q1) λu s2 ⟨y,H2,I2,r2,q2⟩=>?_;exact hf v u s2 x y H2 I2 r1 r2 q2
def Aq  (ho:OpR X (bq op) r) (ha:PE X a ta) (hb:PE X b tb):PE X (.BinOp a op b pos) (tOp r ta tb):=by
 intro pins s Z H Q I h;exact wpAny_BinOp (binT ha hb I h λv u s2 x y H2 I2 rx ry q=>ho pins s2 Z H2 x y v u Q I2 rx ry q)
def Lb  (ho:UnR X (unaryOp op) r) (ha:PE X a ta):PE X (.UnaryOp op a pos) (tUn r ta):=by
 intro pins s Z H Q I h;exact UnaryOp_ (thn (ha pins s Z H _ I h) λv s1 ⟨x,H1,I1,r1,q1⟩=>ho pins s1 Z H1 x v Q I1 r1 q1)
def opI  {g:Int->Int->Int}
  (rule:∀(i j:Int) (t u:Tok) (s:af) (Q:Zb) (E:Zb),C i j->Q (.int (g i j) s.toks) {s with toks:=s.toks+1}->ai (ah X.prog X.w) X.A (f (.int i t) (.int j u)) Q E s):
  OpR X f (rI C λi j=>.int (g i j)):=by
 intro pins s Z H x y v u Q I rx ry h;obtain⟨i,j,rfl,rfl,hc,q⟩:=h;obtain⟨t,rfl⟩:=rx;obtain⟨t',rfl⟩:=ry;exact rule i j t t' s _ _ hc ⟨.int (g i j),H,I.tok _,⟨_,rfl⟩,q⟩
def Xal{g:Int->Int->Int}
  (rule:∀(i j:Int) (t u:Tok) (s:af) (Q:Zb) (E:Zb),Q (.int (g i j) s.toks) {s with toks:=s.toks+1}->ai (ah X.prog X.w) X.A (f (.int i t) (.int j u)) Q E s):
  OpR X f (rI0 λi j=>.int (g i j)):=by
 intro pins s Z H x y v u Q I rx ry h;obtain⟨i,j,rfl,rfl,q⟩:=h;obtain⟨t,rfl⟩:=rx;obtain⟨t',rfl⟩:=ry;exact rule i j t t' s _ _ ⟨.int (g i j),H,I.tok _,⟨_,rfl⟩,q⟩
def Lc{g:Int->Int->Bool}
  (rule:∀(i j:Int) (t u:Tok) (s:af) (Q:Zb) (E:Zb),Q (.bool (g i j)) s->ai (ah X.prog X.w) X.A (f (.int i t) (.int j u)) Q E s):
  OpR X f (rI0 λi j=>.bl (g i j)):=by
 intro pins s Z H x y v u Q I rx ry h;obtain⟨i,j,rfl,rfl,q⟩:=h;obtain⟨t,rfl⟩:=rx;obtain⟨t',rfl⟩:=ry;exact rule i j t t' s _ _ ⟨.bl (g i j),H,I,rfl,q⟩
def CDiv (i j:Int):Prop:=0<j/\j<1073741824
def CPow (i j:Int):Prop:=0<=j/\j<=1000000/\i.natAbs<2 ^ 64
def CMul (i j:Int):Prop:=(-(2 ^ 64)<i/\i<2 ^ 64)\/(-(2 ^ 64)<j/\j<2 ^ 64)
def CMul.ok(h:CMul i j):IntMulOk i j:=by
 rcases h with ⟨h1,h2⟩ | ⟨h1,h2⟩
 ·exact .of_left (uc h1 h2)
 ·exact .of_right (uc h1 h2)
def Bv:OpR X (bq .Add) (rI0 λi j=>.int (i+j)):=Xal λ_ _ _ _ _ _ _ q=>add_int q
def Xhh:OpR X (bq .Sub) (rI0 λi j=>.int (i - j)):=Xal λ_ _ _ _ _ _ _ q=>sub_int q
def Xam:OpR X (bq .Mult) (rI CMul λi j=>.int (i * j)):=opI λ_ _ _ _ _ _ _ hc q=>mul_int q hc.ok
def Xan:OpR X (bq .FloorDiv) (rI CDiv λi j=>.int (i / j)):=opI λi j _ _ _ _ _ hc q=>by
 have h1:(0:Int)<j:=hc.1;have h2:j<1073741824:=hc.2;exact floordiv_int (by lia) (by rw[Int.fdiv_eq_ediv_of_nonneg i (by lia)];exact q) (.inl (PyProof.noPylong_small (by lia)))
def Fy:OpR X (bq .Mod) (rI (λ_ j=>0<j) λi j=>.int (i % j)):=opI λi j _ _ _ _ _ hc q=>by
 have h1:(0:Int)<j:=hc;exact mod_int' (by lia) (by rw[Int.fmod_eq_emod_of_nonneg i (by lia)];exact q)
def Xao:OpR X (bq .Pow) (rI CPow λi j=>.int (i ^ j.toNat)):=opI λ_ _ _ _ _ _ _ hc q=>pow_int_small hc.1 hc.2.1 hc.2.2 q
def unI{g:Int->Int}
  (rule:∀(i:Int) (t:Tok) (s:af) (Q:Zb) (E:Zb),Q (.int (g i) s.toks) {s with toks:=s.toks+1}->ai (ah X.prog X.w) X.A (f (.int i t)) Q E s):
  UnR X f (rU λi=>.int (g i)):=by
 intro pins s Z H x v Q I rx h;obtain⟨i,rfl,q⟩:=h;obtain⟨t,rfl⟩:=rx;exact rule i t s _ _ ⟨.int (g i),H,I.tok _,⟨_,rfl⟩,q⟩
def Ld:UnR X (unaryOp .USub) (rU λi=>.int (-i)):=unI λ_ _ _ _ _ q=>neg_int q
end
def scal:V->V->Bool
 | .non,.non=>true | .non,.int _=>true | .int _,.non=>true | .non,.bl _=>true | .bl _,.non=>true | .non,.str _=>true | .str _,.non=>true
 | .int _,.int _=>true | .bl _,.bl _=>true | .str _,.str _=>true | .byt _,.byt _=>true
 | .int _,.str _=>true | .str _,.int _=>true | .bl _,.str _=>true | .str _,.bl _=>true
 | _,_=>false
def rEq:R2:=λx y H Q=>scal x y=true/\Q (.bl (decide (x=y))) H
def rNe:R2:=λx y H Q=>scal x y=true/\Q (.bl (!decide (x=y))) H
def Xap:decide (V.int i=V.int j)=(i==j):=by
 rw[Qn];simp
def Lf:decide (V.bl i=V.bl j)=(i==j):=by
 rw[Qn];simp
def Xaq:decide (V.str i=V.str j)=(i==j):=by
 rw[Qn];simp
def Xar:decide (V.byt i=V.byt j)=(i.toList==j.toList):=by
 rw[Qn];cases i;cases j;simp
section
variable {X:Cx}{a b c:aF}{ta tb tc:TE}{pos:bN}
def A9      (I:Inv X pins Z H s) (q:Q (.bl k) H) (e:k=k'):EP X pins Z Q (.bool k') s:=by
 subst e;exact⟨.bl k,H,I,rfl,q⟩
def Bp:OpR X (aL .Eq) rEq:=by
 intro pins s Z H x y v u Q I rx ry h;obtain⟨hs,q⟩:=h;cases x with
 | non=>
  cases rx;cases y with
  | non=>cases ry;exact PySem.EqNone.eq_none_none (A9 I q (by simp))
  | bl j=>cases ry;exact PySem.EqNone.eq_none_bool (A9 I q (by simp))
  | int j=>obtain⟨t',rfl⟩:=ry;exact PySem.EqNone.eq_none_int (A9 I q (by simp))
  | str j=>obtain⟨t',rfl⟩:=ry;exact PySem.EqNone.eq_none_str (A9 I q (by simp))
  | _=>exact absurd (show false=true from hs) Oy
 | bl i=>
  cases rx;cases y with
  | non=>cases ry;exact PySem.EqNone.eq_bool_none (A9 I q (by simp))
  | bl j=>cases ry;exact eq_bool (A9 I q Lf)
  | str j=>obtain⟨t',rfl⟩:=ry;exact PySem.EqMixed.eq_bool_str (A9 I q (by simp))
  | _=>exact absurd (show false=true from hs) Oy
 | int i=>
  obtain⟨t,rfl⟩:=rx;cases y with
  | non=>cases ry;exact PySem.EqNone.eq_int_none (A9 I q (by simp))
  | int j=>obtain⟨t',rfl⟩:=ry;exact eq_int (A9 I q Xap)
  | str j=>obtain⟨t',rfl⟩:=ry;exact PySem.EqMixed.eq_int_str (A9 I q (by simp))
  | _=>exact absurd (show false=true from hs) Oy
 | str i=>
  obtain⟨t,rfl⟩:=rx;cases y with
  | non=>cases ry;exact PySem.EqNone.eq_str_none (A9 I q (by simp))
  | bl j=>cases ry;exact PySem.EqMixed.eq_str_bool (A9 I q (by simp))
  | int j=>obtain⟨t',rfl⟩:=ry;exact PySem.EqMixed.eq_str_int (A9 I q (by simp))
  | str j=>obtain⟨t',rfl⟩:=ry;exact eq_str (A9 I q Xaq)
  | _=>exact absurd (show false=true from hs) Oy
 | byt i=>
  obtain⟨t,rfl⟩:=rx;cases y with
  | byt j=>obtain⟨t',rfl⟩:=ry;exact PySem.W.eq_bytes (A9 I q Xar)
  | _=>exact absurd (show false=true from hs) Oy
 | _=>cases y<;>exact absurd (show false=true from hs) Oy
def Fz:OpR X (aL .NotEq) rNe:=by
 intro pins s Z H x y v u Q I rx ry h;obtain⟨hs,q⟩:=h;cases x with
 | non=>
  cases rx;cases y with
  | non=>cases ry;exact PySem.EqNone.ne_none_none (A9 I q (by simp))
  | bl j=>cases ry;exact PySem.EqNone.ne_none_bool (A9 I q (by simp))
  | int j=>obtain⟨t',rfl⟩:=ry;exact PySem.EqNone.ne_none_int (A9 I q (by simp))
  | str j=>obtain⟨t',rfl⟩:=ry;exact PySem.EqNone.ne_none_str (A9 I q (by simp))
  | _=>exact absurd (show false=true from hs) Oy
 | bl i=>
  cases rx;cases y with
  | non=>cases ry;exact PySem.EqNone.ne_bool_none (A9 I q (by simp))
  | bl j=>cases ry;exact ne_bool (A9 I q (congrArg not Lf))
  | str j=>obtain⟨t',rfl⟩:=ry;exact PySem.EqMixed.ne_bool_str (A9 I q (by simp))
  | _=>exact absurd (show false=true from hs) Oy
 | int i=>
  obtain⟨t,rfl⟩:=rx;cases y with
  | non=>cases ry;exact PySem.EqNone.ne_int_none (A9 I q (by simp))
  | int j=>obtain⟨t',rfl⟩:=ry;exact ne_int (A9 I q (congrArg not Xap))
  | str j=>obtain⟨t',rfl⟩:=ry;exact PySem.EqMixed.ne_int_str (A9 I q (by simp))
  | _=>exact absurd (show false=true from hs) Oy
 | str i=>
  obtain⟨t,rfl⟩:=rx;cases y with
  | non=>cases ry;exact PySem.EqNone.ne_str_none (A9 I q (by simp))
  | bl j=>cases ry;exact PySem.EqMixed.ne_str_bool (A9 I q (by simp))
  | int j=>obtain⟨t',rfl⟩:=ry;exact PySem.EqMixed.ne_str_int (A9 I q (by simp))
  | str j=>obtain⟨t',rfl⟩:=ry;exact ne_str (A9 I q (congrArg not Xaq))
  | _=>exact absurd (show false=true from hs) Oy
 | byt i=>
  obtain⟨t,rfl⟩:=rx;cases y with
  | byt j=>obtain⟨t',rfl⟩:=ry;exact PySem.W.ne_bytes (A9 I q (congrArg not Xar))
  | _=>exact absurd (show false=true from hs) Oy
 | _=>cases y<;>exact absurd (show false=true from hs) Oy
def C5:OpR X (aL .Lt) (rI0 λi j=>.bl (decide (i<j))):=Lc λ_ _ _ _ _ _ _ q=>lt_int q
def Xhi:OpR X (aL .Gt) (rI0 λi j=>.bl (decide (j<i))):=Lc λ_ _ _ _ _ _ _ q=>gt_int q
def Xas:OpR X (aL .GtE) (rI0 λi j=>.bl (decide (j<=i))):=Lc λ_ _ _ _ _ _ _ q=>ge_int q
def Xat:OpR X (aL .Lt) (λx y H Q=>∃i j,x = .str i/\y = .str j/\Q (.bl (decide (i.cps.toList<j.cps.toList))) H):=by
 intro pins s Z H x y v u Q I rx ry h;obtain⟨i,j,rfl,rfl,q⟩:=h;obtain⟨t,rfl⟩:=rx;obtain⟨t',rfl⟩:=ry;exact lt_str (A9 I q rfl)
def isObj:HO->Bool
 | .lst _=>true
 | .ins _ _ _=>true
 | _=>false
def Ay(b:aF)(h:op ≠ .In:=by decide)(h2:op ≠ .NotIn:=by decide):cO op b=false:=by
 have e1:(op==CmpOp.In)=false:=by cases op<;>first | rfl | exact absurd rfl h
 have e2:(op==CmpOp.NotIn)=false:=by cases op<;>first | rfl | exact absurd rfl h2
 cases b<;>simp[cO,e1,e2]
def El  (ho:OpR X (aL op) r) (ha:PE X a ta) (hb:PE X b tb) (hm:cO op b=false):PE X (.Compare a [op] [b] pos) (tOp r ta tb):=by
 intro pins s Z H Q I h;exact qN (binT ha hb I h λv u s2 x y H2 I2 rx ry q=>ho pins s2 Z H2 x y v u Q I2 rx ry q) hm
def Lg (t:TE):TT:=fun Z H Q=>t Z H λx H'=>∃k,x = .bl k/\Q k H'
def Ax  (ho:OpR X (aL op) r) (ha:PE X a ta) (hb:PE X b tb) (hm:cO op b=false):PT X (.Compare a [op] [b] pos) (Lg (tOp r ta tb)):=by
 intro pins s Z H Q I h;refine wpAny_isTrue_Compare1 (thn (ha pins s Z H _ I h) λv s1 ⟨x,H1,I1,r1,q1⟩=>thn (hb pins s1 Z H1 _ I1 q1) λu s2 ⟨y,H2,I2,r2,q2⟩=>
  thn (ho pins s2 Z H2 x y v u _ I2 r1 r2 q2) λc s3 ⟨z,H3,I3,r3,k,e,q3⟩=>?_) hm
 subst e;cases r3;exact aS ⟨H3,I3,q3⟩
def Lh (r r':R2) (ta tb tc:TE):TE:=fun Z H Q=>ta Z H λx H1=>tb Z H1 λy H2=>r x y H2 λz H3=>∃k,z = .bl k /\
 (if k=true then tc Z H3 λw' H4=>r' y w' H4 Q else Q (.bl false) H3)
def Xau  (ho:OpR X (aL op) r) (fo:OpR X (aL qO) r') (ha:PE X a ta) (hb:PE X b tb) (hc:PE X c tc)
  (hm:JN [op,qO] [b,c]=false:=by with_unfolding_all rfl):PE X (.Compare a [op,qO] [b,c] pos) (Lh r r' ta tb tc):=by
 intro pins s Z H Q I h;refine Compare_chain (thn (ha pins s Z H _ I h) λv s1 ⟨x,H1,I1,r1,q1⟩=>chain_link (thn (hb pins s1 Z H1 _ I1 q1) λu s2 ⟨y,H2,I2,r2,q2⟩=>
  thn (ho pins s2 Z H2 x y v u _ I2 r1 r2 q2) λd s3 ⟨z,H3,I3,r3,k,e,q3⟩=>?_)) hm
 subst e;cases r3;refine aS ?_;cases k with
 | false=>exact ite_ff ⟨.bl false,H3,I3,rfl,q3⟩
 | true=>exact ite_tt (chain_last (thn (hc pins s3 Z H3 _ I3 q3) λw' s4 ⟨z',H4,I4,r4,q4⟩=>fo pins s4 Z H4 y z' u w' Q I4 r2 r4 q4))
def Xhj  (ho:OpR X (aL op) r) (fo:OpR X (aL qO) r') (ha:PE X a ta) (hb:PE X b tb) (hc:PE X c tc)
  (hm:JN [op,qO] [b,c]=false:=by with_unfolding_all rfl):PT X (.Compare a [op,qO] [b,c] pos) (Lg (Lh r r' ta tb tc)):=by
 intro pins s Z H Q I h;refine isTrue_chain (thn (ha pins s Z H _ I h) λv s1 ⟨x,H1,I1,r1,q1⟩=>test_link (thn (hb pins s1 Z H1 _ I1 q1) λu s2 ⟨y,H2,I2,r2,q2⟩=>
  thn (ho pins s2 Z H2 x y v u _ I2 r1 r2 q2) λd s3 ⟨z,H3,I3,r3,k,e,q3⟩=>?_)) hm
 subst e;cases r3;refine aS ?_;cases k with
 | false=>
  obtain⟨k',e',q'⟩:=q3;cases e';exact ite_ff ⟨H3,I3,q'⟩
 | true=>
  refine ite_tt (test_last (thn (hc pins s3 Z H3 _ I3 q3) λw' s4 ⟨z',H4,I4,r4,q4⟩=>thn (fo pins s4 Z H4 y z' u w' _ I4 r2 r4 q4) λd' s5 ⟨z2,H5,I5,r5,k2,e2,q5⟩=>?_));subst e2;cases r5;exact aS ⟨H5,I5,q5⟩
def TruV (K:LY) (x:V) (H:Hp) (k:Bool):Prop:=
 match x with
 | .non=>k=false
 | .bl b=>k=b
 | .int i=>k=(i != 0)
 | .str y=>y.length<=sizeLine/\k=((y.length:Int) != 0)
 | .byt y=>y.size<=sizeLine/\k=((y.size:Int) != 0)
 | .ref p=>(∃xs,SqL K H p xs/\k = !xs.isEmpty)\/(∃xs,SqT K H p xs/\k = !xs.isEmpty) \/ ∃kvs,H p=some (.dK kvs)/\k = !kvs.isEmpty
 | _=>False
def line63:(sizeLine:Nat)<2 ^ 63:=by rw[Tp];decide
def Je:OpR X (bq .Add) (λx y H Q=>∃i j,x = .str i/\y = .str j/\i.length+j.length<=sizeLine/\Q (.str (i++j)) H):=by
 intro pins s Z H x y v u Q I rx ry h;obtain⟨i,j,rfl,rfl,hz,q⟩:=h;obtain⟨t,rfl⟩:=rx;obtain⟨t',rfl⟩:=ry;exact add_str (λt' tk=>⟨.str (i++j),H,I.tok _,⟨_,rfl⟩,q⟩) hz
def Bq  (r:Vals [x] us):∃u,us=[u]/\Aj x u:=by
 cases r with
 | cons r1 r2=>cases r2;exact⟨_,rfl,r1⟩
def vals2  (r:Vals [x,y] us):∃u w',us=[u,w']/\Aj x u/\Aj y w':=by
 cases r with
 | cons r1 r2=>
  cases r2 with
  | cons r3 r4=>cases r4;exact⟨_,_,rfl,r1,r3⟩
def Xhk(hc:X.calm=true):Bu X (.builtin "min") (λxs H Q=>∃i j,xs=[.int i,.int j]/\Q (.int (if j<i then j else i)) H):=by
 intro pins s Z H xs us Q I r h;obtain⟨i,j,rfl,q⟩:=h;obtain⟨u,w',rfl,⟨t,rfl⟩,⟨t',rfl⟩⟩:=vals2 r;refine min_two_ints (I.ok.hd hc) λh' tk k=>⟨_,H,I.kept k,?_,q⟩;by_cases hj:j<i
 ·rw[Tr hj,Tr hj];exact⟨_,rfl⟩
 ·rw[Tq hj,Tq hj];exact⟨_,rfl⟩
def Xav:Bu X (.type "int") (λxs H Q=>(∃i,xs=[.int i]/\Q (.int i) H) \/ ∃k,xs=[.bl k]/\Q (.int (if k then 1 else 0)) H):=by
 intro pins s Z H xs us Q I r h;rcases h with ⟨i,rfl,q⟩ | ⟨k,rfl,q⟩
 ·obtain⟨u,rfl,t,rfl⟩:=Bq r;exact call_int_int ⟨.int i,H,I,⟨_,rfl⟩,q⟩
 ·obtain⟨u,rfl,r1⟩:=Bq r;cases r1;exact call_int_bool ⟨.int (if k then 1 else 0),H,I.tok _,⟨_,rfl⟩,q⟩
def LenV (K:LY) (x:V) (H:Hp) (n:Nat):Prop:=
 match x with
 | .str y=>y.length<=sizeLine/\n=y.length
 | .byt y=>y.size<=sizeLine/\n=y.size
 | .ref p=>(∃xs,SqL K H p xs/\n=xs.length) \/ ∃xs,SqT K H p xs/\n=xs.length
 | _=>False
end
structure ObjM (h:am) (x dx C:ae) (mA:ao->Option aa):Prop where
 obj:h.get? x=some (MZ C dx)
 ns:h.Ns1 dx mA
 ne:dx≠x
def Xhl{h:am}  (n:h.Ns1 dx mA):∃od,h.get? dx=some od/\∀name,NE name od=some (mA name):=by
 obtain⟨o,es,ep,ho,hd,hk,_,hm⟩:=n;refine⟨o,ho,λname=>?_⟩;have e:=hm name;unfold nsFind findBy at e;rw[<-Array.find?_toList] at e;unfold NE;rw[hd];dsimp only;split
 ·rename_i y q;rw[q] at e;exact congrArg some e
 ·rename_i q;rw[q] at e;have a:es.toList.any (·.refKey)=false:=by
   rw[List.any_eq_false];intro y hy;obtain⟨z,t,fr⟩:=hk y (Array.mem_toList_iff.mp hy);simp[cn.refKey,fr]
  have a':¬es.toList.any (·.refKey)=true:=by rw[a];exact Oy
  rw[Tq a'];exact congrArg some e
def ObjM.look  {x dx C} (I:ObjM h x dx C mA):∃od,PySem.W.InstAt h x (MZ C dx) C (some od)/\∀name,NE name od=some (mA name):=
 let ⟨od,ho,hl⟩:=Xhl I.ns
 ⟨od,⟨I.obj,rfl,rfl,ho⟩,hl⟩
section
variable {prog:ap}{w:ax}{A:av}{E:Zb}{s:af}{K:LY}{x dx C f:ae}{mA:ao->Option aa}{name:ao}{v:aa}
end
def Li (f:ao) (v:V):List (ao×V)->List (ao×V)
 | []=>[(f,v)]
 | (g,x)::r=>if g=f then (g,v)::r else (g,x)::Li f v r
def Cj.some_of{v}{o}(r:Cj (some v) o):∃u,o=some u/\Aj v u:=by
 cases o with
 | none=>exact(show False from r).elim
 | some u=>exact⟨u,rfl,r⟩
section
variable {P:ap}{w:ax}{H H':Hp}{h h':am}{a C dx:ae}{fs gj:List (ao×V)}
def Xhm(hok:HOk P w H h)(e:H a=some (.ins C dx fs)):∃mA,ObjM h a dx C mA/\(∀f,Cj (fs.lookup f) (mA f))/\PySem.Within mA (fs.map (·.1))/\fs.length<=1000/\H dx=some (.own a):=by
 obtain⟨d,z,ne,ob,mA,n,r,q⟩:=(show A3 P w H h a (.ins C dx fs) from hok a _ e);exact⟨mA,⟨ob,n,ne⟩,r,q,z,d⟩
end
structure Cls (K:LY) (C:ae):Prop where
 pg:NI K C ao.empty=true
 hd:PySem.W.hasDictIn K C=true
 po:PySem.W.plainOver K C=true
 sa:MB K (.ref C) "__setattr__" = some (some (.builtin "object.__setattr__"))
def Cls.get{K}(c:Cls K C)(f):NI K C f=true:=c.pg
def Lj (K:LY) (C:ae) (f:ao):Prop:=MB K (.ref C) f=some none
structure Con (K:LY) (C:ae) (f:ao) (v:V) (u:aa):Prop where
 jR:MB K (.ref C) f=some (some u)
 cT:Aj v u
 get:NF K u "__get__" = some none
 cp:PySem.W.copiedNames.contains f=false
structure Meth (K:LY) (C:ae) (m:ao) (f:ae):Prop where
 jR:MB K (.ref C) m=some (some (.ref f))
 fn:NS K (.ref f)=true
 kp:ME K (.ref f)=true
section
variable {X:Cx}{pins:List (ae×aM)}{Z:St}{H:Hp}{s:af}{a C dx:ae}{fs:List (ao×V)}{f:ao}{v:V}{A:av}{E:Zb}
end
def tFld (K:LY) (ta:TE) (f:ao):TE:=fun Z H Q=>ta Z H λx H1=>∃a C dx fs v,x = .ref a/\H1 a=some (.ins C dx fs)/\Cls K C/\Lj K C f/\fs.lookup f=some v/\Q v H1
def tCon (K:LY) (ta:TE) (f:ao):TE:=fun Z H Q=>ta Z H λx H1=>∃a C dx fs v u,x = .ref a/\H1 a=some (.ins C dx fs)/\Cls K C/\Con K C f v u/\fs.lookup f=none/\Q v H1
def sFld (K:LY) (ta tv:TE) (f:ao):TS:=λD Z H=>tv Z H λy H1=>ta Z H1 λx H2=>∃a C dx fs,x = .ref a/\H2 a=some (.ins C dx fs)/\Cls K C/\Lj K C f/\fs.length<1000 /\
 D.nx Z (upd H2 a (.ins C dx (Li f y fs)))
def InOp (X:Cx) (op:Operator) (rd:V->V->Hp->VK->Prop):Prop:=
 ∀pins s Z H (x y:V) (u v:aa) (Q:VK),Inv X pins Z H s->Aj x u->Aj y v->rd x y H Q->ai (ah X.prog X.w) X.A (inplaceOp op u v) (EP X pins Z Q) X.xe s
def Xrw (K:LY) (ta tv:TE) (rd:V->V->Hp->VK->Prop) (f:ao):TS:=λD Z H=>ta Z H λx H1=>∃a C dx fs v,x = .ref a/\H1 a=some (.ins C dx fs)/\Cls K C/\Lj K C f/\fs.lookup f=some v /\
 tv Z H1 λy H2=>rd v y H2 λz H3=>∃yF gj,H3 a=some (.ins C yF gj)/\gj.length<1000/\D.nx Z (upd H3 a (.ins C yF (Li f z gj)))
section
variable {X:Cx}{o e value:aF}{f:ao}{pos ij va:bN}{ta tv:TE}
end
section
variable {X:Cx}{pins:List (ae×aM)}{Z:St}{H:Hp}{s:af}{A:av}{E:Zb}{Q:Zb}{c:aa}{b:Bool}
inductive TyOf (K:LY) (H:Hp):V->aa->Prop where
 | non:TyOf K H .non (.type "NoneType")
 | bl (x:Bool):TyOf K H (.bl x) (.type "bool")
 | int (i:Int):TyOf K H (.int i) (.type "int")
 | str (x:ao):TyOf K H (.str x) (.type "str")
 | flt (x:UInt64):TyOf K H (.flt x) (.type "float")
 | lst {a:ae} {xs:List V} (e:H a=some (.lst xs)):TyOf K H (.ref a) (.type "list")
 | frz {a:ae} {o:aM} {xs:List V} (e:H a=some (.frz o (.lst xs))):TyOf K H (.ref a) (.type "list")
 | tup {a:ae} {xs:List V} (e:H a=some (.tup xs)):TyOf K H (.ref a) (.type "tuple")
 | dK {a:ae} {kvs:List (Key×V)} (e:H a=some (.dK kvs)):TyOf K H (.ref a) (.type "dict")
 | dT {a:ae} {kvs:List (List Key×V)} (e:H a=some (.dT kvs)):TyOf K H (.ref a) (.type "dict")
 | ins {a C dx:ae} {fs:List (ao×V)} (e:H a=some (.ins C dx fs)) (cl:Cls K C) (ha:MB K (.ref C) "__class__" = some (some (.builtin "object.__class__")))
   (hn:NF K (.builtin "object.__class__") "__get__" = some (some (.builtin "getset_descriptor.__get__"))) (fB:PySem.W.takesIn K (.builtin "object.__class__")=some true)
   (hm:PySem.W.mroIn K C (.type "object")=some true):TyOf K H (.ref a) (.ref C)
def Xhn  (I:Inv X pins Z H s) (rx:Aj x u) (ty:TyOf X.K H x t) (e:MA X.K t c=some b) (h:∀tk,Q (.bool b) {s with toks:=tk}):
  ai (ah X.prog X.w) A (call (.builtin "isinstance") [u,c]) Q E s:=by
 cases ty with
 | non=>cases (show u=aa.none from rx);exact MF PySem.W.kitx_none I.kIn True.intro e (λz=>nomatch z) h
 | bl y=>cases (show u=aa.bool y from rx);exact MF PySem.W.kitx_bool I.kIn True.intro e (λz=>nomatch z) h
 | int i=>obtain⟨t,q⟩:=(show ∃t,u=aa.int i t from rx);cases q;exact MF PySem.W.kitx_int I.kIn True.intro e (λz=>nomatch z) h
 | str y=>obtain⟨t,q⟩:=(show ∃t,u=aa.str y t from rx);cases q;exact MF PySem.W.kitx_str I.kIn True.intro e (λz=>nomatch z) h
 | flt y=>obtain⟨t,q⟩:=(show ∃t,u=aa.float y t from rx);cases q;exact MF PySem.W.kitx_float I.kIn True.intro e (λz=>nomatch z) h
 | @lst a xs ea=>
  cases (show u=aa.ref a from rx);obtain⟨_,_,n,_,h1⟩:=(show A3 X.prog X.w H s.heap a (.lst xs) from I.hok a _ ea);exact MF NG I.kIn ⟨_,h1,rfl⟩ e (λz=>nomatch z) h
 | @frz a ob xs ea=>
  cases (show u=aa.ref a from rx);obtain⟨_,_,_,n,_,h1⟩:=(show A3 X.prog X.w H s.heap a (.frz ob (.lst xs)) from I.hok a _ ea);exact MF NG I.kIn ⟨_,h1,rfl⟩ e (λz=>nomatch z) h
 | @tup a xs ea=>
  cases (show u=aa.ref a from rx);obtain⟨_,_,_,p⟩:=(show A3 X.prog X.w H s.heap a (.tup xs) from I.hok a _ ea);obtain⟨o,h1,h2,_⟩:=p;exact MF PySem.W.kitx_tuple I.kIn ⟨o,h1,h2⟩ e (λz=>nomatch z) h
 | @dK a kvs ea=>
  cases (show u=aa.ref a from rx);obtain⟨_,_,vs,_,p⟩:=(show A3 X.prog X.w H s.heap a (.dK kvs) from I.hok a _ ea);obtain⟨o,es,ep,h1,h2,_⟩:=p;exact MF NH I.kIn ⟨o,h1,h2.1⟩ e (λz=>nomatch z) h
 | @dT a kvs ea=>
  cases (show u=aa.ref a from rx);obtain⟨_,_,xs,_,o,es,ep,h1,h2,_⟩:=(show A3 X.prog X.w H s.heap a (.dT kvs) from I.hok a _ ea);exact MF NH I.kIn ⟨o,h1,h2.1⟩ e (λz=>nomatch z) h
 | @ins a C dx fs ea cl ha hn fB hm=>
  cases (show u=aa.ref a from rx);obtain⟨mA,O,_⟩:=Xhm I.hok ea;obtain⟨od,J,_⟩:=O.look;exact MF (PySem.W.kitx_own (cl.get _) cl.hd ha hn fB hm) I.kIn J e (λz=>nomatch z) h
end
structure Room (k:Nat) (A:av):Prop where
 hd:A.handled=none
 dp:A.depth+3 * k+5<qP
 un:A.units+16 * k+200<bD
 gd:A.guards=some []
def Room.mono  (r:Room k A) (h:j<=k):Room j A:=⟨r.hd,by have:=r.dp;lia,by have:=r.un;lia,r.gd⟩
def Room.deeper  (r:Room (k+1) A) (env):Room k (A.deeper env):=
 ⟨r.hd,by have:=r.dp;show A.depth+1+3 * k+5<_;lia,by have:=r.un;show A.units+3+16 * k+200<_;lia,r.gd⟩
def Room.in1{k}{A}(r:Room (k+1) A):Room k A.in1:=
 ⟨r.hd,by have:=r.dp;show A.depth+3 * k+5<_;lia,by have:=r.un;show A.units+1+16 * k+200<_;lia,r.gd⟩
def Room.depth  (r:Room k A):A.depth<qP:=by have:=r.dp;lia
def Room.units  (r:Room k A):A.units+64<bD:=by have:=r.un;lia
def Room.units0  (r:Room k A):A.units<bD:=by have:=r.un;lia
def F0:TA:=λ_ H Q=>Q [] H
def Em (ta:TE) (tr:TA):TA:=fun Z H Q=>ta Z H λx H1=>tr Z H1 λxs H2=>Q (x::xs) H2
section
variable {X:Cx}{e:aF}{es:List aF}{te:TE}{t:TA}{pos:bN}
def Ac:PA X [] F0:=λ_ _ _ _ H Q I h=>Calls.spliced_nil ⟨[],H,I,.nil,h⟩
def Aa(ha:PE X e te)(hr:PA X es t)(hs:aB (e::es) X.env=(false,eval e X.env)::aB es X.env:=by rfl):PA X (e::es) (Em te t):=by
 intro pos pins s Z H Q I h;rw[hs];show ai _ _ (spliced ((false,eval e X.env)::bC pos (aB es X.env))) _ _ s;refine Calls.spliced_cons (thn (ha pins s Z H _ I h) λu s1 ⟨x,H1,I1,r1,q1⟩=>?_);exact thn (hr pos pins s1 Z H1 _ I1 q1) λus s2 ⟨xs,H2,I2,r2,q2⟩=>⟨x::xs,H2,I2,.cons r1 r2,q2⟩
def Lk (t:TA):TE:=fun Z H Q=>t Z H λxs H1=>xs.length<=sizeLine/\∀p,H1 p=none->Q (.ref p) (upd H1 p (.tup xs))
def tLst (t:TA):TE:=fun Z H Q=>t Z H λxs H1=>xs.length<=sizeLine/\∀p,H1 p=none->Q (.ref p) (upd H1 p (.lst xs))
def B6(h:PA X es t):PE X (.Tuple es x1 pos) (Lk t):=by
 intro pins s Z H Q I hq;refine wpAny_Tuple_spliced (thn (h pos pins s Z H _ I hq) λus s1 ⟨xs,H1,I1,r,z,q⟩=>⟨by rw[<-r.length];exact z,?_⟩);have hf:H1 s1.heap.objs.size=none:=I1.hok.fresh (Oi _);refine⟨.ref s1.heap.objs.size,upd H1 s1.heap.objs.size (.tup xs),I1.laid (t':=s1.toks) (λb u e=>Tz _ e) (Oi _) ?_,rfl,q _ hf⟩;exact⟨z,us,r,⟨_,am.get?_push_size _ rfl,rfl,_,rfl⟩⟩
def Bw(h:PA X es t):PE X (.List es pos) (tLst t):=by
 intro pins s Z H Q I hq;refine wpAny_List_spliced (thn (h pos pins s Z H _ I hq) λus s1 ⟨xs,H1,I1,r,z,q⟩=>⟨by rw[<-r.length];exact z,?_⟩);have hf:H1 s1.heap.objs.size=none:=I1.hok.fresh (Oi _);refine⟨.ref s1.heap.objs.size,upd H1 s1.heap.objs.size (.lst xs),I1.laid (t':=s1.toks) (λb u e=>Tz _ e) (Oi _) ?_,rfl,q _ hf⟩;exact⟨z,us,0,r,am.get?_push_size _ rfl⟩
end
abbrev Sp:=List V->Hp->VK->XK->Prop
abbrev CXT:=List dz->Hp->af->XK->aa->af->Prop
structure Env0 (P:ap) (w:ax) (K:LY) (mg:ao->Option aa) (base:am) (A:av) (outer:List dz) (s:af) (H:Hp):Prop where
 frames:A.frames=some outer
 mod:Mod K mg base
 bs:∀b o,base.get? b=some o->s.heap.get? b=some o/\H b=none
 bsz:base.objs.size<=s.heap.objs.size
 funs:s.heap.FunFrames base outer
 frf:∀b∈frs outer,H b=none
 hok:HOk P w H s.heap
 bare:cA s.gens
def CE (outer:List dz) (P:ap) (w:ax) (H:Hp) (s:af) (Q:VK) (u:aa) (s':af):Prop:=
 ∃v H',s'.os=s.os/\cA s'.gens/\Un (frs outer) [] H H' s.heap s'.heap/\HOk P w H' s'.heap/\Aj v u/\Q v H'
def CR (CX:CXT) (outer:List dz) (P:ap) (w:ax) (H:Hp) (s:af) (Q:VK) (E:XK) (r:qQ) (s':af):Prop:=
 match r with
 | .ok (.ret u)=>CE outer P w H s Q u s'
 | .ok _=>False
 | .error e=>CX outer H s E e s'
structure FnOk (P:ap) (w:ax) (K:LY) (mg:ao->Option aa) (base:am) (CX:CXT) (k:Nat) (f:ae) (fd:aw) (ps:Za) (sp:Sp):Prop where
 len:∀vs H Q E,sp vs H Q E->vs.length=ps.length
 run:∀(A:av) (outer:List dz) (s:af) (H:Hp) (args:Args) (us:List aa) (vs:List V) (Q:VK) (E:XK),Room k A->Env0 P w K mg base A outer s H->eI s fd args (ps.zip us)->Vals vs us->sp vs H Q E ->
  bB (ah P w) A (.call (.ref f) args) (CR CX outer P w H s Q E) s
def Env0.in1   {K}   {A}  {s} (e:Env0 P w K mg base A outer s H):
  Env0 P w K mg base A.in1 outer s H:=⟨e.frames,e.mod,e.bs,e.bsz,e.funs,e.frf,e.hok,e.bare⟩
section
variable {X:Cx}{pins:List (ae×aM)}{Z:St}{H:Hp}{s s':af}
def Inv.env0(I:Inv X pins Z H s):Env0 X.prog X.w X.K X.mg X.base X.A X.stack s H:=
 ⟨I.ok.frames,I.ok.mod,I.bs,Pm I.ok.bsz I.sz,I.stack,I.stkFree,I.hok,I.bare⟩
def Inv.after  (I:Inv X pins Z H s) (h:CE X.stack X.prog X.w H s Q u s'):EP X pins Z Q u s':=by
 obtain⟨v,H',os,bare,un,hok,r,q⟩:=h;obtain⟨hh,g,d,t,By⟩:=s';obtain rfl:By=s.os:=os;exact⟨v,H',I.call (h':=hh) (g':=g) (d':=d) (t':=t) (ch:=[]) un hok bare (λb z=>absurd z (by simp)),r,q⟩
end
def Ll (sp:Sp) (fC:List V) (E:XK) (t:TA):TE:=fun Z H Q=>t Z H λvs H1=>sp (vs++fC) H1 Q E
def tMeth (C:ae) (m:ao) (sp:Sp) (fC:List V) (E:XK) (ta:TE) (t:TA):TE:=fun Z H Q=>ta Z H λx H1=>∃a dx fs,x = .ref a/\H1 a=some (.ins C dx fs)/\fs.lookup m=none /\
 t Z H1 λvs H2=>sp (x::(vs++fC)) H2 Q E
def tMake (C:ae) (sp:Sp) (fC:List V) (E:XK) (t:TA):TE:=fun Z H Q=>t Z H λvs H1=>∀x dx,H1 x=none->H1 dx=none->dx≠x ->
 sp (.ref x::(vs++fC)) (upd (upd H1 dx (.own x)) x (.ins C dx [])) (λv H2=>v = .non/\Q (.ref x) H2) E
def Binds (K:LY) (fd:aw) (ps:Za) (ds:List aa):Prop:=
 ∀(s:af) (us:List aa),K.In s.heap->(us++ds).length=ps.length->eI s fd ⟨us,[]⟩ (ps.zip (us++ds))
def Binds.all{K}  (h:∀us:List aa,us.length=ps.length->cQ fd ⟨us,[]⟩=pure (ps.zip us)):Binds K fd ps []:=λs us _ hl=>by
 rw[Pw] at hl ⊢;exact .of_eq (h us hl)
def Passes (CX:CXT) (X:Cx) (E:XK):Prop:=∀(pins:List (ae×aM)) (Z:St) (H:Hp) (s:af) (e:aa) (s':af),Inv X pins Z H s->CX X.stack H s E e s'->X.xe e s'
section
variable {X:Cx}{CX:CXT}{k:Nat}{f C:ae}{fd:aw}{ps:Za}{sp:Sp}{fC:List V}{ds:List aa}{E:XK}{x m:ao}{p pos eJ:bN}{e o:aF}{es:List aF}{ta:TE}{t:TA}
def Xho       (F:FnOk X.prog X.w X.K X.mg X.base CX k f fd ps sp) (hr:Room k X.A) (hb:Binds X.K fd ps ds) (hd:Vals fC ds) (hx:Passes CX X E)
  (I:Inv X pins Z H s) (r:Vals vs us) (h:sp (vs++fC) H Q E):ai (ah X.prog X.w) X.A (call (.ref f) us) (EP X pins Z Q) X.xe s:=by
 have r2:Vals (vs++fC) (us++ds):=r.append hd;have hl:(us++ds).length=ps.length:=by rw[<-r2.length];exact F.len _ _ _ _ h
 refine dZ (br (F.run X.A X.stack s H ⟨us,[]⟩ (us++ds) (vs++fC) Q E hr I.env0 (hb s us I.kIn hl) r2 h) λr s' hq=>?_);cases r with
 | error e=>exact hx pins Z H s e s' I hq
 | ok fl=>
  cases fl with
  | ret u=>exact I.after hq
  | next=>exact False.elim hq
  | brk=>exact False.elim hq
  | cont=>exact False.elim hq
def Xhp(F:FnOk X.prog X.w X.K X.mg X.base CX k f fd ps sp)(hr:Room k X.A)(hg:Gl X x)(hm:X.mg x=some (.ref f))(hk:ME X.K (.ref f)=true)(hb:Binds X.K fd ps ds)(hd:Vals fC ds)(hx:Passes CX X E)
  (ha:PA X (e::es) t) (gl:(x==("__debug__" : ao))=false:=by decide) (he:aB (e::es) X.env=(false,eval e X.env)::aB es X.env:=by rfl) (bS:(bC pos (aB es X.env)).any (·.1)=false:=by rfl):
  PE X (.Call (.Name x p) (e::es) [] pos) (Ll sp fC E t):=by
 intro pins s Z H Q I h;refine bH (Iy I hg hm ?_ gl);refine NB (h₀:=X.base) I.ok.mod.kin hk (thn (ha pos pins s Z H _ I h) λus s1 ⟨vs,H1,I1,r,q⟩=>⟨I1.kIn,?_⟩) he bS;exact Xho F hr hb hd hx I1 r q
structure Mk (K:LY) (C f:ae):Prop where
 makes:PySem.W.makesIn K C=true
 init:MB K (.ref C) "__init__" = some (some (.ref f))
 fn:NS K (.ref f)=true
 kp:ME K (.ref C)=true
end
def PK (X:Cx) (gY:List cW) (t:TA):Prop:=
 ∀(pos:bN) (pins:List (ae×aM)) (s:af) (Z:St) (H:Hp) (Q:List V->Hp->Prop),Inv X pins Z H s->t Z H Q->ai (ah X.prog X.w) X.A (evalAll ((ca pos (bu gY X.env)).map (·.2))) (AP X pins Z Q) X.xe s
section
variable {X:Cx}{CX:CXT}{k:Nat}{f C:ae}{fd:aw}{ps ks:Za}{sp:Sp}{E:XK}{x m:ao}{p pos eJ vb:bN}{e o:aF}{es:List aF}{gY:List cW}{te ta:TE}{t tk:TA}{nm:Option ao}
def Xaw:PK X [] F0:=λ_ _ _ _ H Q I h=>wpAny_evalAll_nil ⟨[],H,I,.nil,h⟩
def Xax(ha:PE X e te)(hr:PK X gY t):PK X (⟨nm,e,vb⟩::gY) (Em te t):=by
 intro pos pins s Z H Q I h
 show ai _ _ (evalAll ((do    let v <-eval e X.env;cV pos;pure v)::(ca pos (bu gY X.env)).map (·.2))) _ _ s;refine wpAny_evalAll_cons (Tj (thn (ha pins s Z H _ I h) λu s1 ⟨x,H1,I1,r1,q1⟩=>Tj (bh (Tk ?_))));exact thn (hr pos pins s1 Z H1 _ I1 q1) λus s2 ⟨xs,H2,I2,r2,q2⟩=>⟨x::xs,H2,I2,.cons r1 r2,q2⟩
structure KBinds (K:LY) (fd:aw) (ps ks:Za) (g:List aa->List aa->List aa) (gV:List V->List V->List V):Prop where
 to:∀(s:af) (us ws:List aa),K.In s.heap->(g us ws).length=ps.length->eI s fd ⟨us,ks.zip ws⟩ (ps.zip (g us ws))
 cT:∀{vs:List V} {us:List aa} {zs:List V} {ws:List aa},Vals vs us->Vals zs ws->Vals (gV vs zs) (g us ws)
variable {g:List aa->List aa->List aa}{gV:List V->List V->List V}
end
structure FnScope (N P:Za) (sc:bI):Prop where
 kind:sc.kind = .function
 co:sc.isCoroutine=false
 gen:sc.isGenerator=false
 nd:N.Nodup
 pre:N.take P.length=P
 par:∀x∈P,sc.names.lookup x=some .local\/sc.names.lookup x=some .cell
 nofree:∀y∈sc.names,y.2 ≠ .free
theorem Xay{kindOf}:∀{binds:List (ao×aa)} {m:ao->Option aa},(∀v,(x,v)∉binds)->iR kindOf binds m x=m x
 | [],_,_=>rfl
 | (n,v)::r,m,h=>by
  unfold iR;rw[Xay λw hw=>h w (Op _ hw)];split
  ·have:x≠n:=by rintro rfl;exact h v Ov
   simp[this]
  ·rfl
theorem Xaz{kindOf}:∀{binds:List (ao×aa)} {m:ao->Option aa},(∀v,(x,v)∉binds)->iS kindOf binds m x=m x
 | [],_,_=>rfl
 | (n,v)::r,m,h=>by
  unfold iS;rw[Xaz λw hw=>h w (Op _ hw)];split
  ·rfl
  ·have:x≠n:=by rintro rfl;exact h v Ov
   simp[this]
theorem Xa0{kindOf}  : ∀{P:Za} {vs:List aa} {i:Nat} {m:ao->Option aa},P.Nodup->P[i]? = some x->vs[i]? = some v->kindOf x=some .local ->
  iR kindOf (P.zip vs) m x=some v
 | [],_,_,_,_,h,_,_=>by simp at h
 | _::_,[],_,_,_,_,h,_=>by simp at h
 | p::P,w::vs,0,m,nd,h1,h2,hk=>by
  simp at h1 h2;subst h1;subst h2;show iR kindOf ((p,w)::P.zip vs) m p=_;unfold iR;rw[Xay λv hv=>(Pu.mp nd).1 (Sm hv).1,Tr hk];simp
 | p::P,w::vs,i+1,m,nd,h1,h2,hk=>by
  show iR kindOf ((p,w)::P.zip vs) m x=_;unfold iR;exact Xa0 (i:=i) (Pu.mp nd).2 (by simpa using h1) (by simpa using h2) hk
theorem Xa1{kindOf}  : ∀{P:Za} {vs:List aa} {i:Nat} {m:ao->Option aa},P.Nodup->P[i]? = some x->vs[i]? = some v->kindOf x≠some .local ->
  iS kindOf (P.zip vs) m x=some v
 | [],_,_,_,_,h,_,_=>by simp at h
 | _::_,[],_,_,_,_,h,_=>by simp at h
 | p::P,w::vs,0,m,nd,h1,h2,hk=>by
  simp at h1 h2;subst h1;subst h2;show iS kindOf ((p,w)::P.zip vs) m p=_;unfold iS;rw[Xaz λv hv=>(Pu.mp nd).1 (Sm hv).1,Tq hk];simp
 | p::P,w::vs,i+1,m,nd,h1,h2,hk=>by
  show iS kindOf ((p,w)::P.zip vs) m x=_;unfold iS;exact Xa1 (i:=i) (Pu.mp nd).2 (by simpa using h1) (by simpa using h2) hk
def start (N:Za) (vs:List V):St:=vs.map some++List.replicate (N.length - vs.length) none
def Ck (CX:CXT) (P:ap) (w:ax) (K:LY) (mg:ao->Option aa) (base:am) (N:Za) (qual:ao) (scope:bI) (f:ae) (cd:aa) (A:av) (outer:List dz) (s:af) (H:Hp) (E:XK):Cx where
 prog:=P
 w:=w
 K:=K
 mg:=mg
 base:=base
 A:=A.deeper (aO qual scope s.heap.objs.size f cd)
 N:=N
 s₀:=s
 H₀:=H
 env:=aO qual scope s.heap.objs.size f cd
 outer:=outer
 stack:=aO qual scope s.heap.objs.size f cd::outer
 ex:=[]
 calm:=true
 fn:=λ_=>true
 pn:=[]
 xe:=λe s'=>ai (ah P w) (A.deeper (aO qual scope s.heap.objs.size f cd)) (leaving (aO qual scope s.heap.objs.size f cd) e) (λ_ lC=>CX outer H s E e lC) (λe' lC=>CX outer H s E e' lC) s'
def Xa2{sc:bI}{n}(h:sc.names.lookup x=some .cell):∃c,(bL n sc.names []).lookup x=some c:=by
 have q:=MG sc.names n [] (.inl h);exact Qx.mp q
def Xa3    {K}              (S:FnScope N ps scope) (hd:A.handled=none) (e0:Env0 P w K mg base A outer s H) (hl:vs.length=ps.length) (r:Vals vs us)
  (x:InCallC s s.heap.objs.size (iR (aO qual scope s.heap.objs.size f cd).kindOf (ps.zip us) λ_=>none) (bL (s.heap.objs.size+1) scope.names []) (iS (aO qual scope s.heap.objs.size f cd).kindOf (ps.zip us) λ_=>none) s1):
  Inv (Ck CX P w K mg base N qual scope f cd A outer s H E) [] (start N vs) H s1:=by
 have bS:ps.length<=N.length:=by have:=congrArg List.length S.pre;rw[O3] at this;lia
 obtain⟨h1,tk,rfl,hk⟩:=x.done;have lD:∀b:ae,b∉(Ck CX P w K mg base N qual scope f cd A outer s H E).ex:=λb z=>absurd (show b∈([]:List ae) from z) (by simp);refine⟨⟨e0.mod,S.kind,rfl,rfl,Oi _,λy z c h1 h2=>?_,λy hy=>?_,λy c _ h=>?_,λ_=>hd,av.frames_deeper e0.frames,.inr ⟨rfl,rfl⟩,λb z=>absurd z (lD b),e0.bs,e0.bsz,λb _ _=>lD b,λb z=>absurd z (lD b),e0.funs,e0.frf⟩,
  rfl,e0.bare,Un.kept hk,⟨_,x.toInCall.ns,λi y v h1 h2 h3=>?_⟩,λy c h=>⟨_,x.cell y c h⟩,e0.hok.fresh (Oi _),λy c h=>?_,λp hp=>absurd (show p∈([]:List (ae×aM)) from hp) (by simp),e0.hok.kept hk,?_⟩
 ·exact name_of_addr x.apart (PySem.mem_of_lookup h1) (PySem.mem_of_lookup h2)
 ·have hy:scope.names.lookup y=some .cell\/scope.names.lookup y=some .free:=hy;rcases hy with hy | hy
  ·exact Xa2 hy
  ·exact absurd rfl (S.nofree _ (PySem.mem_of_lookup hy))
 ·exact Ru (x.above y c (PySem.mem_of_lookup h))
 ·have hi:i<vs.length:=by
   unfold start at h2;by_cases hi:i<vs.length
   ·exact hi
   ·rw[Qb (by simpa using hi)] at h2;rw[List.getElem?_replicate] at h2;split at h2<;>cases h2
  have ha:vs[i]? = some v:=by
   unfold start at h2;rw[Qe (by simpa using hi),O2] at h2;cases e:vs[i]? with
   | none=>rw[e] at h2;cases h2
   | some a=>rw[e] at h2;cases h2;rfl
  obtain⟨u,hu,rv⟩:=r.get ha;have hp:ps[i]? = some y:=by
   rw[<-S.pre,List.getElem?_take_of_lt (by lia)];exact h1
  have yG:ps.Nodup:=by rw[<-S.pre];exact S.nd.sublist (P5 _ _)
  refine⟨u,rv,?_⟩;rcases S.par y (Qq hp) with k | k
  ·exact .inl ⟨k,Xa0 yG hp hu k⟩
  ·obtain⟨c,e⟩:=Xa2 (n:=s.heap.objs.size+1) k;refine .inr ⟨.inl k,c,e,?_⟩;have q:=x.cell y c e;rw[Xa1 yG hp hu (by show scope.names.lookup y≠_;rw[k];decide)] at q;exact q
 ·exact e0.hok.fresh (Ru (x.above y c (PySem.mem_of_lookup h)))
 ·unfold start;show _=N.length;rw[Oo,Oh,List.length_replicate]
  lia
def Lm    {K}         {dV kV dq pm cdv ct oc}    (lk:K.lookup f=some ⟨oc,od,.func (MM name qual params body scope dV kV dq pm an cdv ct),iT⟩) (gX:MO K cdv qual=true) (S:FnScope N ps scope)
  (len:∀vs H Q E,sp vs H Q E->vs.length=ps.length)
  (eK:∀(A:av) (outer:List dz) (s:af) (H:Hp) (vs:List V) (Q:VK) (E:XK),Room k (A.deeper (aO qual scope s.heap.objs.size f cdv))->sp vs H Q E ->
   ∃t,PSs (Ck CX P w K mg base N qual scope f cdv A outer s H E) body t/\t {nx:=λ_ H'=>Q .non H',rt:=Q} (start N vs) H):
  FnOk P w K mg base CX (k+1) f (MM name qual params body scope dV kV dq pm an cdv ct) ps sp:=by
 refine⟨len,λA outer s H args us vs Q E hr e0 hb r gZ=>?_⟩;have hl:=len _ _ _ _ gZ;have KX:K.In s.heap:=e0.mod.kin.keeps λb o e=>(e0.bs b o e).1;have qR:s.heap.NoLimit:=e0.mod.nolimit.keeps λb o e=>(e0.bs b o e).1;have fD:∀y∈ps.zip us,scope.names.lookup y.1=some .local\/(scope.names.lookup y.1=some .cell/\((bL (s.heap.objs.size+1) scope.names []).lookup y.1).isSome=true):=λ⟨n,v⟩ hy=>by
  rcases S.par n (Sm hy).1 with q | q
  ·exact .inl q
  ·exact .inr ⟨q,MG _ _ _ (.inl q)⟩
 refine codeAny_call_function hr.depth (KX _ _ lk) rfl S.co S.gen rfl (PySem.W.codeRec_of KX gX) (hb _ _ _ _ ?_);refine gm S.kind fD λenv he s1 x=>?_;subst he;refine⟨qR.keeps x.toInCall.keep,codeAny_func ?_⟩;obtain⟨t,ht,hq⟩:=eK A outer s H vs Q E (hr.deeper _) gZ;have I:Inv (Ck CX P w K mg base N qual scope f cdv A outer s H E) [] (start N vs) H s1:=Xa3 S hr.hd e0 hl r x;refine aJ (ht [] s1 (start N vs) H _ I hq) (λfl s' hs=>?_) λe s' hs=>hs;have fin:∀{Z':St} {H':Hp} {v:V} {u:aa},Inv (Ck CX P w K mg base N qual scope f cdv A outer s H E) [] Z' H' s'->Aj v u->Q v H'->CE outer P w H s Q u s':=
  λ{Z' H' v u} J rv q=>⟨v,H',J.os,J.bare,J.base,J.hok,rv,q⟩
 cases fl with
 | ret u=>
  obtain⟨v, Z',H',J,rv,q⟩:=hs;exact fin J rv q
 | next=>
  obtain⟨Z',H',J,q⟩:=hs;exact fin (v:=V.non) (u:=aa.none) J rfl q
 | brk=>
  obtain⟨_,_,_,q⟩:=hs;exact False.elim q
 | cont=>
  obtain⟨_,_,_,q⟩:=hs;exact False.elim q
section
variable {X:Cx}{x:ao}{p pos:bN}{e:aF}{es:List aF}{t:TA}{id T:String}{r:List V->Hp->VK->Prop}
def tCB (r:List V->Hp->VK->Prop) (t:TA):TE:=fun Z H Q=>t Z H λvs H1=>r vs H1 Q
def A7(hc:Bu X (.builtin id) r)(hg:Gl X x)(hm:X.mg x=none)(hv:bF x=some (.builtin id))(ha:PA X (e::es) t)(hn:x ≠ "__name__" := by decide)(gl:(x==("__debug__" : ao))=false:=by decide)
  (he:aB (e::es) X.env=(false,eval e X.env)::aB es X.env:=by rfl) (bS:(bC pos (aB es X.env)).any (·.1)=false:=by rfl):PE X (.Call (.Name x p) (e::es) [] pos) (tCB r t):=by
 intro pins s Z H Q I h;refine bH (Ey I hg hm hv ?_ hn gl);exact PyProof.Rows.callWith_builtin1 (thn (ha pos pins s Z H _ I h) λus s1 ⟨vs,H1,I1,r1,q1⟩=>hc pins s1 Z H1 vs us Q I1 r1 q1) he bS
def B1(hc:Bu X (.type T) r)(hg:Gl X x)(hm:X.mg x=none)(hv:bF x=some (.type T))(ha:PA X (e::es) t)(hn:x ≠ "__name__" := by decide)(gl:(x==("__debug__" : ao))=false:=by decide)
  (he:aB (e::es) X.env=(false,eval e X.env)::aB es X.env:=by rfl) (bS:(bC pos (aB es X.env)).any (·.1)=false:=by rfl):PE X (.Call (.Name x p) (e::es) [] pos) (tCB r t):=by
 intro pins s Z H Q I h;refine bH (Ey I hg hm hv ?_ hn gl);exact PyProof.Rows.callWith_type1 (thn (ha pos pins s Z H _ I h) λus s1 ⟨vs,H1,I1,r1,q1⟩=>hc pins s1 Z H1 vs us Q I1 r1 q1) he bS
end
end L2
namespace HT
open PySem PyProof.Rows
def Xhq:List Int->List Int->Bool
 | [],[]=>false
 | [],_::_=>true
 | _::_,[]=>false
 | x::xs,y::ys=>if x=y then Xhq xs ys else decide (x<y)
section
open PySem.SeqAt
open PySem.AutoSeq1 (wpAny_loadPart')
open PySem.MeetsSeq PySem.MeetsSeq2 PySem.MeetsSeq3
end
section
variable {prog:ap}{w:ax}{A:av}{E:Zb}{s:af}
def cat_tup   (ht:dh s.heap t vs.toArray) (hb:dh s.heap b ws.toArray) (hv:vs≠[])
  (h1:ws=[]->Q (.ref t) s) (h2:ws≠[]->Q (.ref s.heap.objs.size) {s with heap:=s.heap.push {cls:=.type "tuple",data:=.seq (vs++ws).toArray} })
  (hsz:vs.length+ws.length<=sizeLine):ai (ah prog w) A (bq .Add (.ref t) (.ref b)) Q E s:=by
 obtain⟨⟨cls,dd,data,sl⟩,ho,hc,n,hd⟩:=id ht;obtain⟨⟨qS,mQ,data2,mR⟩,j8,gp,n2,cK⟩:=id hb;simp only at hc hd gp cK;subst hc hd gp cK;have e:vs.toArray++ws.toArray=(vs++ws).toArray:=by simp
 by_cases hw:ws=[]
 ·exact je ⟨_,ho,rfl⟩ ⟨_,j8,rfl⟩ fu il PySem.F.slot_tuple_add PySem.F.entry_tuple_add (PySem.F.args_tuple_add_2 _ _)
   (tuple_addW1 t b vs.toArray ws.toArray n n2 dd mQ sl mR (by simpa using hv) (by simp[hw])) ⟨ho,j8,h1 hw⟩
 ·refine je ⟨_,ho,rfl⟩ ⟨_,j8,rfl⟩ fu il PySem.F.slot_tuple_add PySem.F.entry_tuple_add (PySem.F.args_tuple_add_2 _ _)
   (tuple_addW2 t b vs.toArray ws.toArray n n2 dd mQ sl mR (by simpa using hv) (by simpa using hw) (by rw[Ol,Ol];exact hsz)) ⟨ho,j8,?_⟩
  rw[e];exact h2 hw
def sIx (n d:Nat):Option Int->Nat
 | none=>d
 | some v=>if v<0 then (v+(n:Int)).toNat else min v.toNat n
def sIx_none(n d):sIx n d none=d:=rfl
def sIx_nat(n d k:Nat):sIx n d (some (k:Int))=min k n:=by
 show (if (k:Int)<0 then ((k:Int)+(n:Int)).toNat else min (k:Int).toNat n)=min k n;rw[Tq (by lia),Qr]
def Xhr(n d)(hd:d<=n)(o):sIx n d o<=n:=by
 cases o with
 | none=>exact hd
 | some v=>
  show (if v<0 then (v+(n:Int)).toNat else min v.toNat n)<=n;by_cases hv:v<0
  ·rw[Tr hv];lia
  ·rw[Tq hv];exact Nat.min_le_right _ _
def Xa4(v)(n d:Nat):(if v<0 then max (v+(n:Int)) 0 else min v (n:Int))=((sIx n d (some v):Nat):Int):=by
 show (if v<0 then max (v+(n:Int)) 0 else min v (n:Int))=(((if v<0 then (v+(n:Int)).toNat else min v.toNat n):Nat):Int);by_cases hv:v<0
 ·simp only[Tr hv];lia
 ·simp only[Tq hv];lia
def Xhs(lo hi)(n:Nat):ak.Slice.sliceAdjust lo hi 1 (n:Int)=(((sIx n 0 lo:Nat):Int),((sIx n n hi:Nat):Int)):=by
 have h1:¬((1:Int)<0):=by lia
 unfold ak.Slice.sliceAdjust;simp only[h1,if_false];refine Prod.ext ?_ ?_
 ·cases lo with
  | none=>rfl
  | some v=>exact Xa4 v n 0
 ·cases hi with
  | none=>rfl
  | some v=>exact Xa4 v n n
def Xht(i j:Nat):ak.Slice.slicePlaces (i:Int) (j:Int) 1=j - i:=by
 unfold ak.Slice.slicePlaces;have h1:(1:Int) > 0:=by lia
 simp only[h1,if_true,Int.ediv_one];split<;>lia
def Xa5   (p:d9 v o) (h:Q o s):ai (ah prog w) A (ak.Slice.slicePartIndex v) Q E s:=by
 cases p with
 | none=>exact dA h
 | int i t=>exact ud h
def Xa6   {lo hi} {n:Nat} (hs:s.heap.IsSliceOf sl vl vu .none) (pl:d9 vl lo) (pu:d9 vu hi)
  (h:Q (((sIx n 0 lo:Nat):Int),1,sIx n n hi - sIx n 0 lo) s):ai (ah prog w) A (ak.Slice.sliceApplied (.ref sl) (pure (n:Int))) Q E s:=by
 obtain⟨os,fE,nZ,lh⟩:=id hs;unfold ak.Slice.sliceApplied ak.Slice.sliceFields;refine Tj (Tj (cL fE lh (x:=vl) rfl (Tj (cL fE lh (x:=vu) rfl (Tj (cL fE lh (x:=.none) rfl (Tk ?_)))))));refine Tj (dA ?_);show ai _ _ (if ((1:Int)==0)=true then _ else _) _ _ s;rw[Tq (by decide)];refine Tj (Xa5 pl (Tj (Xa5 pu (Tj (Tk ?_)))));show ai _ _ (match ak.Slice.sliceAdjust lo hi 1 (n:Int) with | (lo,hi)=>pure (lo,(1:Int),ak.Slice.slicePlaces lo hi 1)) _ _ s;rw[Xhs lo hi n];show ai _ _ (pure (((sIx n 0 lo:Nat):Int),(1:Int),ak.Slice.slicePlaces ((sIx n 0 lo:Nat):Int) ((sIx n n hi:Nat):Int) 1)) _ _ s;rw[Xht];exact Tk h
def Xhu(xs:Array aa)(i k:Nat):((List.range k).filterMap λ(m:Nat)=>xs[((i:Int)+(m:Int) * 1).toNat]?).toArray=((xs.toList.drop i).take k).toArray:=by
 have e:(λ(m:Nat)=>xs[((i:Int)+(m:Int) * 1).toNat]?)=λm=>xs[i+m]?:=by
  funext m;have:((i:Int)+(m:Int) * 1).toNat=i+m:=by lia
  rw[this]
 rw[e];have:=pick_run xs i k;rw[Sv] at this;have e2:((λx=>xs[x]?) ∘ λx=>i+x)=λm=>xs[i+m]?:=rfl;rw[e2] at this;rw[this]
def getItem_tuple_cut    {lo hi} (ht:dh s.heap t az) (hs:s.heap.IsSliceOf sl vl vu .none) (pl:d9 vl lo) (pu:d9 vu hi)
  (hw:¬(sIx az.size 0 lo=0/\sIx az.size az.size hi=az.size))
  (h:Q (.ref s.heap.objs.size) {s with heap:=s.heap.push {cls:=.type "tuple",data:=.seq ((az.toList.drop (sIx az.size 0 lo)).take (sIx az.size az.size hi - sIx az.size 0 lo)).toArray} })
  (hsz:az.size<=sizeLine):ai (ah prog w) A (bZ (.ref t) (.ref sl)) Q E s:=by
 have dB:sizeOk (.seq ((az.toList.drop (sIx az.size 0 lo)).take (sIx az.size az.size hi - sIx az.size 0 lo)).toArray):=by
  show ((az.toList.drop (sIx az.size 0 lo)).take (sIx az.size az.size hi - sIx az.size 0 lo)).toArray.size<=sizeLine;rw[Ol,O3,Pz,Oq]
  lia
 have hj:sIx az.size az.size hi<=az.size:=Xhr _ _ (Oi _) hi;obtain⟨os,fE,nZ,lh⟩:=id hs;have li:s.TypeIs (.ref sl) "slice" := ⟨os,fE,nZ⟩;unfold bZ
 try with_reducible refine a7 ?_
 first | refine Tj (Tk ?_) | skip
 refine Tj (eM ht.typeIs (by decide) ?_);refine Tj (aT (name:=ao.ofString "__getitem__") ht.typeIs PyProof.Rows.slot_tuple_getitem
  (aG PyProof.Rows.slot_tuple_getitem ht.typeIs dO ?_ (eh _ _)))
 show ai _ _ (ak.Tuple.tupleItemsOf (.ref t) >>= _) _ _ s;refine Tj (im ht ?_);refine Tj (bv li ?_);rw[Tr (by decide)];refine Tj (Xa6 hs pl pu ?_);have eC:¬((((sIx az.size 0 lo:Nat):Int)==0&&(1:Int)==1&&(sIx az.size az.size hi - sIx az.size 0 lo)==az.size)=true):=by
  intro q;rw[Oz,Oz] at q;have q1:((sIx az.size 0 lo:Nat):Int)=0:=eq_of_beq q.1.1;have q2:sIx az.size az.size hi - sIx az.size 0 lo=az.size:=eq_of_beq q.2;exact hw ⟨by lia,by lia⟩
 show ai _ _ (if (((sIx az.size 0 lo:Nat):Int)==0&&(1:Int)==1&&(sIx az.size az.size hi - sIx az.size 0 lo)==az.size)=true then _ else _) _ _ s;rw[Tq eC,Xhu]
 first
  | exact Tj (m:=ak.Tuple.tupleExact _) (aC (Tk ⟨_,rfl,Tk h⟩) dB)
  | exact Tj (m:=ak.Tuple.tupleExact _) (aC (Tj (Tk (Tk ⟨_,rfl,Tk h⟩))) dB)
  | exact Tj (Tj (m:=ak.Tuple.tupleExact _) (aC (Tk (Tk ⟨_,rfl,Tk h⟩)) dB))
  | exact Tj (Tj (m:=ak.Tuple.tupleExact _) (aC (Tk ⟨_,rfl,Tk h⟩) dB))
end
end HT
namespace L2
abbrev TO:=St->Hp->(Option Int->Hp->Prop)->Prop
def PO (X:Cx) (e:Option aF) (t:TO):Prop:=
 ∀pins s Z H (Q:Option Int->Hp->Prop),Inv X pins Z H s->t Z H Q ->
  ai (ah X.prog X.w) X.A (evalPart e X.env) (λu s'=>∃o H',Inv X pins Z H' s'/\d9 u o/\Q o H') X.xe s
def Ln:TO:=λ_ H Q=>Q none H
def Lo (t:TE):TO:=fun Z H Q=>t Z H λx H1=>∃i,x = .int i/\Q (some i) H1
section
variable {X:Cx}{e:aF}{te:TE}{lo hi:Option aF}{tl th:TO}{pos p2:bN}
def B7:PO X none Ln:=by
 intro pins s Z H Q I h;rw[dX];exact Tk ⟨none,H,I,.none,h⟩
def Bx(h:PE X e te):PO X (some e) (Lo te):=by
 intro pins s Z H Q I hw;rw[io];refine thn (h pins s Z H _ I hw) λu s1 ⟨x,H1,I1,r1,q1⟩=>?_;obtain⟨i,rfl,q⟩:=q1;obtain⟨t,rfl⟩:=r1;exact⟨some i,H1,I1,.int i t,q⟩
def SlR (X:Cx) (r:V->Option Int->Option Int->Hp->VK->Prop):Prop:=
 ∀pins s Z H (x:V) (v vl vu:aa) (lo hi:Option Int) (sl:ae) (Q:VK),Inv X pins Z H s->Aj x v->s.heap.IsSliceOf sl vl vu .none->d9 vl lo->d9 vu hi->r x lo hi H Q ->
  ∃T id,lE (.type T) "__getitem__" = pure (some (.builtin id))/\s.TypeIs v T/\ai (ah X.prog X.w) X.A (bZ v (.ref sl)) (EP X pins Z Q) X.xe s
def tSl (r:V->Option Int->Option Int->Hp->VK->Prop) (te:TE) (tl th:TO):TE:=fun Z H Q=>te Z H λx H1=>tl Z H1 λl H2=>th Z H2 λu H3=>r x l u H3 Q
def B2(hr:SlR X r)(he:PE X e te)(hl:PO X lo tl)(hu:PO X hi th):PE X (.Subscript e (.Slice lo hi none p2) pos) (tSl r te tl th):=by
 intro pins s Z H Q I h;refine el (thn (he pins s Z H _ I h) λv s1 ⟨x,H1,I1,r1,q1⟩=>?_);refine jS (thn (hl pins s1 Z H1 _ I1 q1) λvl s2 ⟨l,H2,I2,pl,q2⟩=>thn (hu pins s2 Z H2 _ I2 q2) λvu s3 ⟨u,H3,I3,pu,q3⟩=>?_);rw[dX];refine Tk ?_;have I4:Inv X pins Z H3 {s3 with heap:=s3.heap.push {cls:=.type "slice",data:=.fields #[vl,vu,.none]} }:=I3.kept (t':=s3.toks) λb ob q=>Tz _ q;obtain⟨T,id,hT,ht,hg⟩:=hr pins {s3 with heap:=s3.heap.push {cls:=.type "slice",data:=.fields #[vl,vu,.none]} } Z H3 x v vl vu l u s3.heap.objs.size Q I4 r1 (am.IsSliceOf.new ..) pl pu q3;show ai (ah X.prog X.w) X.A (ip e (.Slice lo hi none p2) v (.ref s3.heap.objs.size)) (EP X pins Z Q) X.xe {s3 with heap:=s3.heap.push {cls:=.type "slice",data:=.fields #[vl,vu,.none]} };exact jT (ops:=[.ref s3.heap.objs.size,v]) ht hT hg (by with_unfolding_all rfl)
def Bz (xs:List V) (lo hi:Option Int):List V:=(xs.drop (HT.sIx xs.length 0 lo)).take (HT.sIx xs.length xs.length hi - HT.sIx xs.length 0 lo)
def Xa7(xs)(lo hi):(Bz xs lo hi).length<=xs.length:=by
 unfold Bz;rw[O3,Pz]
 lia
def rSlT (K:LY):V->Option Int->Option Int->Hp->VK->Prop:=λx lo hi H Q=>∃a xs,x = .ref a/\SqT K H a xs /\
 ¬(HT.sIx xs.length 0 lo=0/\HT.sIx xs.length xs.length hi=xs.length)/\∀p,H p=none->Q (.ref p) (upd H p (.tup (Bz xs lo hi)))
def Xhv:SlR X (rSlT X.K):=by
 intro pins s Z H x v vl vu lo hi sl Q I rx hs pl pu h;obtain⟨a,xs,rfl,hx,hw,q⟩:=h;cases rx;obtain⟨aA,r,ht,hz⟩:=I.tuple hx;have aN:aA.toArray.size=xs.length:=by rw[Ol];exact r.length.symm
 refine⟨"tuple",_,PyProof.Rows.slot_tuple_getitem.lookup,ht.typeIs,?_⟩;refine HT.getItem_tuple_cut ht hs pl pu (by rw[aN];exact hw) ?_ (by rw[aN];exact hz);rw[aN];refine⟨.ref s.heap.objs.size,_,I.laid (t':=s.toks) (o:=.tup (Bz xs lo hi)) (λb ob q=>Tz _ q) (Oi _) ?_,rfl,q _ (I.hok.fresh (Oi _))⟩;exact⟨Pm (Xa7 xs lo hi) hz,_,(r.drop (HT.sIx xs.length 0 lo)).take (HT.sIx xs.length xs.length hi - HT.sIx xs.length 0 lo),dh.new _ _⟩
def Xhw (K:LY):R2:=λx y H Q=>∃a b xs ys,x = .ref a/\y = .ref b/\SqT K H a xs/\SqT K H b ys/\xs≠[]/\xs.length+ys.length<=sizeLine /\
 (ys=[]->Q (.ref a) H)/\(ys≠[]->∀p,H p=none->Q (.ref p) (upd H p (.tup (xs++ys))))
def Vals.nil_iff  (r:Vals xs us):us=[]↔xs=[]:=by
 cases r with
 | nil=>simp
 | cons _ _=>simp
def Xhx:OpR X (bq .Add) (Xhw X.K):=by
 intro pins s Z H x y v u Q I rx ry h;obtain⟨a,b,xs,ys,rfl,rfl,ha,hb,hx,hz,q1,q2⟩:=h;cases rx;cases ry;obtain⟨aA,r1,p1,_⟩:=I.tuple ha;obtain⟨iq,r2,p2,_⟩:=I.tuple hb;refine HT.cat_tup p1 p2 (λz=>hx (r1.nil_iff.mp z)) (λz=>⟨.ref a,H,I,rfl,q1 (r2.nil_iff.mp z)⟩) (λz=>?_) (by rw[<-r1.length,<-r2.length];exact hz);refine⟨.ref s.heap.objs.size,_,I.laid (t':=s.toks) (o:=.tup (xs++ys)) (λb ob q=>Tz _ q) (Oi _) ?_,rfl,q2 (λw=>z (r2.nil_iff.mpr w)) _ (I.hok.fresh (Oi _))⟩;exact⟨by rw[Oo];exact hz,_,r1.append r2,dh.new _ _⟩
end
def ixN (n:Nat) (i:Int):Option Nat:=if 0<=i then (if i<n then some i.toNat else none) else if -(n:Int)<=i then some (i+n).toNat else none
def atI {α : Type} (xs:List α) (i:Int):Option α:=(ixN xs.length i).bind λj=>xs[j]?
def Xa8   (h:ixN n i=some j):JO i n=some j/\j<n /\ -(n:Int)<=i/\i<n:=by
 unfold ixN at h;by_cases h0:0<=i
 ·rw[Tr h0] at h;by_cases h1:i<n
  ·rw[Tr h1] at h;have e:i.toNat=j:=O4 h;exact⟨by rw[jU h0 h1,e],by lia,by lia,h1⟩
  ·rw[Tq h1] at h;cases h
 ·rw[Tq h0] at h;by_cases h1 : -(n:Int)<=i
  ·rw[Tr h1] at h;have e:(i+n).toNat=j:=O4 h;exact⟨by rw[seqIndex_neg (by lia) h1,e],by lia,h1,by lia⟩
  ·rw[Tq h1] at h;cases h
def Lp{α : Type}{xs}{v : α}(h:atI xs i=some v):∃j,JO i xs.length=some j/\xs[j]? = some v/\j<xs.length /\ -(xs.length:Int)<=i/\i<xs.length:=by
 unfold atI at h;cases e:ixN xs.length i with
 | none=>rw[e] at h;cases h
 | some j=>
  rw[e] at h;obtain⟨h1,h2,h3,h4⟩:=Xa8 e;exact⟨j,h1,h,h2,h3,h4⟩
def E5{α : Type}{xs}{j:Nat}{v : α}(h:xs[j]? = some v):atI xs (j:Int)=some v:=by
 have hj:j<xs.length:=(O6.mp h).1;have e:ixN xs.length (j:Int)=some j:=by
  unfold ixN;rw[Tr (by lia),Tr (by lia)];simp
 unfold atI;rw[e];exact h
def Xhy (b:aF):Prop:=∀o i,subscripted b false o i=operate [o,i] (bZ o i)
def IxR (X:Cx) (r:R2):Prop:=
 ∀(value slice:aF) (pins:List (ae×aM)) (s:af) (Z:St) (H:Hp) (x y:V) (v u:aa) (Q:VK),Inv X pins Z H s->Aj x v->Aj y u->r x y H Q ->
  subscripted slice false v u=operate [v,u] (bZ v u)->ai (ah X.prog X.w) X.A (ip value slice v u) (EP X pins Z Q) X.xe s
def MtR (X:Cx) (id:String) (r:V->List V->Hp->VK->Prop):Prop:=
 ∀pins s Z H (x:V) (xs:List V) (v:aa) (us:List aa) (Q:VK),Inv X pins Z H s->Aj x v->Vals xs us->r x xs H Q ->
  ai (ah X.prog X.w) X.A (call (.builtin id) (v::us)) (EP X pins Z Q) X.xe s
section
variable {X:Cx}{a b:aF}{ta tb:TE}{pos:bN}
def A4(hr:IxR X r)(ha:PE X a ta)(hb:PE X b tb)(hs:Xhy b):PE X (.Subscript a b pos) (tOp r ta tb):=by
 intro pins s Z H Q I h;exact el (binT ha hb I h λv u s2 x y H2 I2 rx ry q=>hr a b pins s2 Z H2 x y v u Q I2 rx ry q (hs _ _))
def Xa9 (K:LY):R2:=λx y H Q=>∃p xs i v,x = .ref p/\y = .int i/\SqL K H p xs/\atI xs i=some v/\Q v H
def Lq (K:LY):R2:=λx y H Q=>∃p xs i v,x = .ref p/\y = .int i/\SqT K H p xs/\atI xs i=some v/\Q v H
def Xba:R2:=λx y H Q=>∃z i c,x = .str z/\y = .int i/\z.length<=sizeLine/\atI z.cps.toList i=some c/\Q (.str ⟨#[c]⟩) H
def Bg:IxR X (Xa9 X.K):=by
 intro value slice pins s Z H x y v u Q I rx ry h hs;obtain⟨p,xs,i,z,rfl,rfl,hq,he,q⟩:=h;cases rx;obtain⟨t,rfl⟩:=ry;obtain⟨aA,r,pl,hz⟩:=I.list hq;obtain⟨j,h1,h2,h3,h4,h5⟩:=Lp he;obtain⟨w,ew,jV⟩:=r.get h2;have hl:=r.length;have hn:=line63;have fin:EP X pins Z Q w s:=⟨z,H,I,jV,q⟩;by_cases h0:0<=i
 ·have hj:i.toNat=j:=by
   rw[jU h0 h5] at h1;exact O4 h1
  exact item_listR pl.isList h0 (by lia) (by rw[hj];simpa using ew) fin hs
 ·have hj:(i+(aA.toArray.size:Int)).toNat=j:=by
   rw[seqIndex_neg (by lia) h4] at h1;rw[Ol,<-hl];exact O4 h1
  exact jf (x:=w) pl.isList.typeIs eN.lookup
   (wpAny_getItem_list_neg (Q:=λr s'=>r=w/\EP X pins Z Q r s') pl.isList (by lia) (by rw[Ol]<;>lia) (by lia) (by rw[hj];simpa using ew) ⟨rfl,fin⟩) hs
def Lr:IxR X (Lq X.K):=by
 intro value slice pins s Z H x y v u Q I rx ry h hs;obtain⟨p,xs,i,z,rfl,rfl,hq,he,q⟩:=h;cases rx;obtain⟨t,rfl⟩:=ry;obtain⟨aA,r,pl,hz⟩:=I.tuple hq;obtain⟨j,h1,h2,h3,h4,h5⟩:=Lp he;obtain⟨w,ew,jV⟩:=r.get h2;have hl:=r.length;have hn:=line63;have fin:EP X pins Z Q w s:=⟨z,H,I,jV,q⟩;exact jf (x:=w) pl.typeIs slot_tuple_getitem.lookup
  (getItem_tuple (j:=j) (Q:=λr s'=>r=w/\EP X pins Z Q r s') pl (by lia) (by lia) (by rw[Ol,<-hl];exact h1) (by simpa using ew) ⟨rfl,fin⟩) hs
def Xhz:IxR X Xba:=by
 intro value slice pins s Z H x y v u Q I rx ry h hs;obtain⟨z,i,c,rfl,rfl,hz,he,q⟩:=h;obtain⟨t,rfl⟩:=rx;obtain⟨t',rfl⟩:=ry;obtain⟨j,h1,h2,h3,h4,h5⟩:=Lp he;have hl:z.cps.toList.length=z.length:=by simp[ao.length]
 rw[hl] at h1 h4 h5;have hn:=line63;exact jT (lF s z t) slot_str_getitem.lookup (getItem_str (c:=c) (by
  have e1:decide (i < -(2 ^ 63:Int))=false:=Tu (by lia);have e2:decide (i ≥ 2 ^ 63)=false:=Tu (by lia);rw[e1,e2,Tc]) (by rw[h1];simpa using h2) ⟨.str ⟨#[c]⟩,H,I.tok _,⟨_,rfl⟩,q⟩) hs
def rIx (K:LY):R2:=λx y H Q=>Xa9 K x y H Q\/Lq K x y H Q\/Xba x y H Q
def Xh0(aA:List aa)(n j)(u):aM.mapSeq (·.setIfInBounds j u) {cls:=.type "list",data:=.seq aA.toArray n} = {cls:=.type "list",data:=.seq (aA.set j u).toArray n}:=by
 simp[aM.mapSeq]
def Inv.lst{pins}{Z:St}{H}{s}{p}{xs}(I:Inv X pins Z H s)(h:H p=some (.lst xs)):
  ∃(aA:List aa) (n:Nat),Vals xs aA/\s.heap.get? p=some {cls:=.type "list",data:=.seq aA.toArray n}/\xs.length<=sizeLine:=by
 obtain⟨z,aA,n,r,e⟩:=I.hok p _ h;exact⟨aA,n,r,e,z⟩
def Inv.lstUpd       {aA its':List aa}  (I:Inv X pins Z H s) (h:H p=some (.lst xs))
  (ho:s.heap.get? p=some {cls:=.type "list",data:=.seq aA.toArray n}) (hf:f {cls:=.type "list",data:=.seq aA.toArray n} = {cls:=.type "list",data:=.seq its'.toArray n'}) (r:Vals ys its') (hz:ys.length<=sizeLine) (t):
  Inv X pins Z (upd H p (.lst ys)) {s with heap:=s.heap.update p f,toks:=t}:=by
 have e:(s.heap.update p f).get? p=some {cls:=.type "list",data:=.seq its'.toArray n'}:=by
  rw[am.get?_update_self f ho (by rw[hf]<;>rfl),hf]
 refine I.write (x:=p) (e:=p) (by rw[h];trivial) (.inl rfl) (λb u hb q=>(am.get?_update_other _ _ (Ne.symm hb)).trans q) ⟨_,e⟩ ?_;exact⟨hz,its',n',r,e⟩
def Xh1:V->V->V->Hp->(Hp->Prop)->Prop:=λo i v H Q=>∃p xs k j,o = .ref p/\i = .int k/\H p=some (.lst xs)/\ixN xs.length k=some j/\Q (upd H p (.lst (xs.set j v)))
def E6:PSet X Xh1:=by
 intro pins s Z H o i v ov iv u Q I ro ri rv h;obtain⟨p,xs,k,j,rfl,rfl,hp,hj,q⟩:=h;cases ro;obtain⟨t,rfl⟩:=ri;obtain⟨aA,n,r,ho,hz⟩:=I.lst hp;obtain⟨h1,h2,h3,h4⟩:=Xa8 hj;have hl:=r.length;have hn:=line63;have I':Inv X pins Z (upd H p (.lst (xs.set j v))) {s with heap:=s.heap.update p (aM.mapSeq (·.setIfInBounds j u))}:=
  I.lstUpd hp ho (Xh0 aA n j u) (r.set rv j) (by rw[List.length_set];exact hz) s.toks
 by_cases h0:0<=k
 ·have hk:k.toNat=j:=by
   rw[jU h0 h4] at h1;exact O4 h1
  exact PySem.W.ki_setAt ho h0 (by lia) (by rw[Ol,<-hl];exact h4) (by rw[hk];exact⟨_,I',q⟩)
 ·have hk:(k+(aA.toArray.size:Int)).toNat=j:=by
   rw[seqIndex_neg (by lia) h3] at h1;rw[Ol,<-hl];exact O4 h1
  exact PySem.W.ki_setBack ho (by lia) (by rw[Ol,<-hl];exact h3) (by lia) (by rw[hk];exact⟨_,I',q⟩)
def Xh2(lo hi)(n):(cx lo hi none n).1=((HT.sIx n 0 lo:Nat):Int)/\(cx lo hi none n).2.1=((HT.sIx n n hi:Nat):Int)/\(cx lo hi none n).2.2=1:=by
 refine⟨?_,?_,rfl⟩
 ·cases lo with
  | none=>simp[cx,HT.sIx]
  | some i=>
   simp only[cx,HT.sIx,Option.getD_none,show (1:Int) > 0 by decide,if_true];by_cases h:i<0
   ·simp only[h,if_true]<;>lia
   ·simp only[h,if_false]<;>lia
 ·cases hi with
  | none=>simp[cx,HT.sIx]
  | some i=>
   simp only[cx,HT.sIx,Option.getD_none,show (1:Int) > 0 by decide,if_true];by_cases h:i<0
   ·simp only[h,if_true]<;>lia
   ·simp only[h,if_false]<;>lia
def Xh3(aA:List aa)(lo hi):JP aA.toArray lo hi none=((aA.drop (HT.sIx aA.length 0 lo)).take (HT.sIx aA.length aA.length hi - HT.sIx aA.length 0 lo)).toArray:=by
 obtain⟨h1,h2,h3⟩:=Xh2 lo hi aA.toArray.size;unfold JP;rw[h1,h2,h3];simp only[sliceRange_one,pick_run,Ol]<;>rfl
def rSlL (K:LY):V->Option Int->Option Int->Hp->VK->Prop:=λx lo hi H Q=>∃a xs,x = .ref a/\SqL K H a xs/\∀p,H p=none->Q (.ref p) (upd H p (.lst (Bz xs lo hi)))
def Df:SlR X (rSlL X.K):=by
 intro pins s Z H x v vl vu lo hi sl Q I rx hs pl pu h;obtain⟨a,xs,rfl,hx,q⟩:=h;cases rx;obtain⟨aA,r,ht,hz⟩:=I.list hx;have aN:=r.length;refine⟨"list",_,eN.lookup,ht.isList.typeIs,?_⟩;refine ir ht.isList hs pl pu .none (by simp) ?_ (by rw[Ol]<;>lia);rw[Xh3,<-aN];refine⟨.ref s.heap.objs.size,_,I.laid (t':=s.toks) (o:=.lst (Bz xs lo hi)) (λb ob q=>Tz _ q) (Oi _) ?_,rfl,q _ (I.hok.fresh (Oi _))⟩;exact⟨Pm (Xa7 xs lo hi) hz,_,0,(r.drop (HT.sIx xs.length 0 lo)).take (HT.sIx xs.length xs.length hi - HT.sIx xs.length 0 lo),am.get?_push_size _ rfl⟩
def Cn:V->Bool
 | .non=>true
 | .bl _=>true
 | .int _=>true
 | .str _=>true
 | _=>false
def eqV:V->V->Bool
 | .non,.non=>true
 | .bl a,.bl b=>a==b
 | .bl a,.int b=>(if a then 1 else 0)==b
 | .int a,.bl b=>a==(if b then 1 else 0)
 | .int a,.int b=>a==b
 | .str a,.str b=>a==b
 | _,_=>false
def Xbb    (ry:Aj y u) (rx:Aj x v) (fy:Cn y=true) (fx:Cn x=true):SeqAt.EqAt A s u v (eqV y x):=by
 cases y with
 | non=>
  cases ry;cases x with
  | non=>cases rx;exact SeqAt.EqAt.same _
  | bl b=>cases rx;exact SeqAt.EqAt.none_bool b
  | int b=>obtain⟨t,rfl⟩:=rx;exact SeqAt.EqAt.none_int b t
  | str b=>obtain⟨t,rfl⟩:=rx;exact SeqAt.EqAt.none_str b t
  | _=>exact absurd (show false=true from fx) Oy
 | bl a=>
  cases ry;cases x with
  | non=>cases rx;exact SeqAt.EqAt.bool_none a
  | bl b=>cases rx;exact SeqAt.EqAt.bool_bool a b
  | int b=>obtain⟨t,rfl⟩:=rx;exact SeqAt.EqAt.bool_int a b t
  | str b=>obtain⟨t,rfl⟩:=rx;exact SeqAt.EqAt.bool_str a b t
  | _=>exact absurd (show false=true from fx) Oy
 | int a=>
  obtain⟨t',rfl⟩:=ry;cases x with
  | non=>cases rx;exact SeqAt.EqAt.int_none a t'
  | bl b=>cases rx;exact SeqAt.EqAt.int_bool a t' b
  | int b=>obtain⟨t,rfl⟩:=rx;exact SeqAt.EqAt.int_int a t' b t
  | str b=>obtain⟨t,rfl⟩:=rx;exact SeqAt.EqAt.int_str a t' b t
  | _=>exact absurd (show false=true from fx) Oy
 | str a=>
  obtain⟨t',rfl⟩:=ry;cases x with
  | non=>cases rx;exact SeqAt.EqAt.str_none a t'
  | bl b=>cases rx;exact SeqAt.EqAt.str_bool a t' b
  | int b=>obtain⟨t,rfl⟩:=rx;exact SeqAt.EqAt.str_int a t' b t
  | str b=>obtain⟨t,rfl⟩:=rx;exact SeqAt.EqAt.str_str a t' b t
  | _=>exact absurd (show false=true from fx) Oy
 | _=>exact absurd (show false=true from fy) Oy
def eqU (x:V) (u:aa):Bool:=match u with
 | .none=>eqV .non x
 | .bool b=>eqV (.bl b) x
 | .int i _=>eqV (.int i) x
 | .str z _=>eqV (.str z) x
 | _=>false
def Xbc  (r:Aj y u) (f:Cn y=true):eqU x u=eqV y x:=by
 cases y with
 | non=>cases r;rfl
 | bl b=>cases r;rfl
 | int i=>obtain⟨t,rfl⟩:=r;rfl
 | str z=>obtain⟨t,rfl⟩:=r;rfl
 | _=>exact absurd (show false=true from f) Oy
theorem G4:∀{xs:List V} {us:List aa},Vals xs us->xs.all Cn=true->us.any (eqU x)=xs.any λy=>eqV y x
 | _,_,.nil,_=>rfl
 | y::xs,u::us,.cons r t,f=>by
  rw[List.all_cons,Oz] at f;rw[Sl,Sl,Xbc r f.1,G4 t f.2]
theorem G5    (rx:Aj x v) (fx:Cn x=true):∀{xs:List V} {us:List aa},Vals xs us->xs.all Cn=true->∀u∈us,SeqAt.EqAt A s u v (eqU x u)
 | _,_,.nil,_=>λu hu=>by cases hu
 | y::xs,u::us,.cons r t,f=>λu' hu=>by
  rw[List.all_cons,Oz] at f;rcases Ox.mp hu with rfl | hu
  ·rw[Xbc r f.1];exact Xbb r rx f.1 fx
  ·exact G5 rx fx t f.2 u' hu
def inV (x:V) (xs:List V):Bool:=xs.any λy=>eqV y x
def rIn (K:LY) (B':Bool):R2:=λx y H Q=>∃p xs,y = .ref p/\(SqL K H p xs\/SqT K H p xs)/\Cn x=true/\xs.all Cn=true/\Q (.bl (if B' then !inV x xs else inV x xs)) H
def Ls:OpR X (aL .In) (rIn X.K false):=by
 intro pins s Z H x y v u Q I rx ry h;obtain⟨p,xs,rfl,hq,fx,fs,q⟩:=h;cases ry;rcases hq with hq | hq
 ·obtain⟨aA,r,pl,hz⟩:=I.list hq;refine SeqAt.in_listAt (eqU x) pl.isList (λw hw=>G5 rx fx r fs w (by simpa using hw)) ⟨.bl _,H,I,rfl,?_⟩;rw[show aA.toArray.any (eqU x)=aA.any (eqU x) by simp,G4 r fs];exact q
 ·obtain⟨aA,r,pl,hz⟩:=I.tuple hq;refine SeqAt.in_tupleAt (eqU x) pl (λw hw=>G5 rx fx r fs w (by simpa using hw)) ⟨.bl _,H,I,rfl,?_⟩;rw[show aA.toArray.any (eqU x)=aA.any (eqU x) by simp,G4 r fs];exact q
def Jf:OpR X (aL .NotIn) (rIn X.K true):=by
 intro pins s Z H x y v u Q I rx ry h;obtain⟨p,xs,rfl,hq,fx,fs,q⟩:=h;cases ry;rcases hq with hq | hq
 ·obtain⟨aA,r,pl,hz⟩:=I.list hq;refine SeqAt.notIn_listAt (eqU x) pl.isList (λw hw=>G5 rx fx r fs w (by simpa using hw)) ⟨.bl _,H,I,rfl,?_⟩;rw[show aA.toArray.any (eqU x)=aA.any (eqU x) by simp,G4 r fs];exact q
 ·obtain⟨aA,r,pl,hz⟩:=I.tuple hq;refine SeqAt.notIn_tupleAt (eqU x) pl (λw hw=>G5 rx fx r fs w (by simpa using hw)) ⟨.bl _,H,I,rfl,?_⟩;rw[show aA.toArray.any (eqU x)=aA.any (eqU x) by simp,G4 r fs];exact q
def B8:Bu X (.builtin "len") (λxs H Q=>∃p ys,xs=[.ref p]/\(SqL X.K H p ys\/SqT X.K H p ys)/\Q (.int ys.length) H):=by
 intro pins s Z H xs us Q I r h;obtain⟨p,ys,rfl,hq,q⟩:=h;obtain⟨u,rfl,rx⟩:=Bq r;cases rx;have hn:=line63;rcases hq with hq | hq
 ·obtain⟨aA,r',pl,hz⟩:=I.list hq;have aN:=r'.length;exact Calls.call_len_list pl.isList (by simp only[Ol]<;>lia) ⟨.int ys.length,H,I.tok _,⟨s.toks+1,by rw[Ol,aN]⟩,q⟩
 ·obtain⟨aA,r',pl,hz⟩:=I.tuple hq;have aN:=r'.length;exact len_tuple pl (by simp only[Ol]<;>lia) ⟨.int ys.length,H,I.tok _,⟨s.toks+1,by rw[Ol,aN]⟩,q⟩
def Jg:Bu X (.type "list") (λxs H Q=>∃p ys,xs=[.ref p]/\(SqL X.K H p ys\/SqT X.K H p ys)/\∀l,H l=none->Q (.ref l) (upd H l (.lst ys))):=by
 intro pins s Z H xs us Q I r h;obtain⟨p,ys,rfl,hq,q⟩:=h;obtain⟨u,rfl,rx⟩:=Bq r;cases rx;have fin:∀(aA:List aa),Vals ys aA->ys.length<=sizeLine->∀(h':am) (c':Nat),(∀b o',s.heap.get? b=some o'->h'.get? b=some o') ->
   h'.get? s.heap.objs.size=some {cls:=.type "list",dict:=none,data:=.seq aA.toArray c',slots := #[]}->EP X pins Z Q (.ref s.heap.objs.size) {s with heap:=h'}:=λaA r' hz h' c' kp e=>
  ⟨.ref s.heap.objs.size,_,I.laid (t':=s.toks) kp (Oi _) (show A3 X.prog X.w _ h' _ (.lst ys) from ⟨hz,aA,c',r',e⟩),rfl,q _ (I.hok.fresh (Oi _))⟩
 rcases hq with hq | hq
 ·obtain⟨aA,r',pl,hz⟩:=I.list hq;have aN:=r'.length;obtain⟨o,ho,hc,n,hd⟩:=pl.isList;exact ue p (.inl rfl) ho hc hd (λh' c' kp e=>fin aA r' hz h' c' kp e) (by simp only[Ol]<;>lia)
 ·obtain⟨aA,r',pl,hz⟩:=I.tuple hq;have aN:=r'.length;obtain⟨o,ho,hc,n,hd⟩:=pl;exact ue p (.inr rfl) ho hc hd (λh' c' kp e=>fin aA r' hz h' c' kp e) (by simp only[Ol]<;>lia)
def G6:Bu X (.type "tuple") (λxs H Q=>∃p ys,xs=[.ref p]/\((SqL X.K H p ys/\∀l,H l=none->Q (.ref l) (upd H l (.tup ys)))\/(SqT X.K H p ys/\Q (.ref p) H))):=by
 intro pins s Z H xs us Q I r h;obtain⟨p,ys,rfl,h⟩:=h;obtain⟨u,rfl,rx⟩:=Bq r;cases rx;rcases h with ⟨hq,q⟩ | ⟨hq,q⟩
 ·obtain⟨aA,r',pl,hz⟩:=I.list hq;have aN:=r'.length;refine call_tuple_list pl.isList (λh' kp=>?_) (by simp only[Ol]<;>lia);have I1:Inv X pins Z H {s with heap:=h'}:=I.kept (t':=s.toks) kp;have I2:Inv X pins Z (upd H h'.objs.size (.tup ys)) {s with heap:=h'.push {cls:=.type "tuple",data:=.seq aA.toArray} }:=
   I1.laid (t':=s.toks) (λb o e=>Tz _ e) (Oi _) (show A3 X.prog X.w _ _ _ (.tup ys) from ⟨hz,aA,r',dh.new _ _⟩)
  exact⟨.ref h'.objs.size,_,I2,rfl,q _ (I1.hok.fresh (Oi _))⟩
 ·obtain⟨aA,r',pl,hz⟩:=I.tuple hq;exact call_tuple_same pl ⟨.ref p,H,I,rfl,q⟩
def tyV (K:LY) (T:String) (x:V) (H:Hp):Prop:=match x with
 | .str _=>T = "str"
 | .int _=>T = "int"
 | .ref p=>(T = "list" /\ ∃xs,SqL K H p xs)\/(T = "tuple" /\ ∃o,K.lookup p=some o/\o.cls = .type "tuple" /\ o.dict=none) \/
   (T = "dict" /\ ((∃kvs,H p=some (.dK kvs)) \/ ∃kvs,H p=some (.dT kvs)))\/(T = "set" /\ ∃S n,H p=some (.set S n))
 | _=>False
def Xh4       (I:Inv X pins Z H s) (r:Aj x v) (ty:tyV X.K T x H):
  s.TypeIs v T/\∀a,v = .ref a->∃ob,s.heap.get? a=some ob/\ob.dict=none:=by
 cases x with
 | str z=>
  obtain⟨t,rfl⟩:=r;cases (show T = "str" from ty);exact⟨lF s z t,λ_ e=>nomatch e⟩
 | int i=>
  obtain⟨t,rfl⟩:=r;cases (show T = "int" from ty);exact⟨lH s i t,λ_ e=>nomatch e⟩
 | ref p=>
  cases r;rcases ty with ⟨rfl,xs,hq⟩ | ⟨rfl,o,hk,hc,hd⟩ | ⟨rfl,hk⟩ | ⟨rfl,S,n,hk⟩
  ·obtain⟨aA,_,pl,_⟩:=I.list hq;refine⟨pl.isList.typeIs,λa e=>?_⟩;cases e;obtain⟨o,n,e,c,hd,_⟩:=pl;exact⟨o,e,hd⟩
  ·refine⟨⟨o,I.kIn p o hk,hc⟩,λa e=>?_⟩;cases e;exact⟨o,I.kIn _ o hk,hd⟩
  ·have z:∃o,s.heap.get? p=some o/\o.ExactDict:=by
    rcases hk with ⟨kvs,hk⟩ | ⟨kvs,hk⟩
    ·obtain⟨_,_,_,_,o,_,_,e,ex,_⟩:=I.hok p _ hk;exact⟨o,e,ex⟩
    ·obtain⟨_,_,_,_,o,_,_,e,ex,_⟩:=I.hok p _ hk;exact⟨o,e,ex⟩
   obtain⟨o,e,ex⟩:=z;refine⟨⟨o,e,ex.1⟩,λa e2=>?_⟩;cases e2;exact⟨o,e,ex.2.1⟩
  ·obtain⟨o,_,_,_,e,ex,_⟩:=I.hok p _ hk;refine⟨⟨o,e,ex.1⟩,λa e2=>?_⟩;cases e2;exact⟨o,e,ex.2.1⟩
 | _=>exact False.elim ty
def tBM (K:LY) (T:String) (r:V->List V->Hp->VK->Prop) (to:TE) (t:TA):TE:=fun Z H Q=>to Z H λx H1=>tyV K T x H1/\t Z H1 λxs H2=>r x xs H2 Q
variable {o e:aF}{es:List aF}{to:TE}{t:TA}{name:ao}{eJ ci:bN}{T id:String}{r:V->List V->Hp->VK->Prop}
def Lu(pa:PlainAttrs T)(slot:Slot T name id)(BA:typeOf (.builtin id)=pure (.type "method_descriptor"))(hm:MtR X id r)(ho:PE X o to)(ha:PA X (e::es) t)
  (gq:iu o name X.env (eval o X.env)=eval o X.env:=by rfl)
  (vc:((bC ci (aB (e::es) X.env)).all (λx => !x.1)&&(ca ci (bu [] X.env)).all (λx=>x.1.isSome)
   && decide ((e::es).length+([]:List cW).length+(if ([]:List cW).isEmpty then 0 else 1)<30))=true:=by rfl)
  (qT:(eJ.endLine==ci.line)=true:=by rfl) (hs:aB (e::es) X.env=(false,eval e X.env)::aB es X.env:=by rfl) (eO:(bC ci (aB es X.env)).any (·.1)=false:=by rfl):
  PE X (.Call (.Attribute o name eJ) (e::es) [] ci) (tBM X.K T r to t):=by
 intro pins s Z H Q I h;refine wpAny_Call_method_late gq vc qT rfl (thn (ho pins s Z H _ I h) λv s1 ⟨x,H1,I1,r1,ty,q1⟩=>?_);obtain⟨h1,h2⟩:=Xh4 I1 r1 ty;refine⟨T,id,pa,slot,BA,h1,h2,?_⟩;have hA:=ha ci pins s1 Z H1 _ I1 q1;rw[hs] at hA ⊢;refine Calls.callWith_builtin (by show (false||(bC ci (aB es X.env)).any (·.1))=false;rw[eO]<;>rfl) (Calls.evalArgs_plain ?_);exact thn hA λus s2 ⟨vs,H2,I2,r2,q2⟩=>hm pins s2 Z H2 x vs v us Q I2 r1 r2 q2
end
def MtM (X:Cx) (id:String) (r:V->List V->Hp->VK->Prop):Prop:=
 ∀pins s Z H (x:V) (xs:List V) (v:aa) (us:List aa) (Q:VK),Inv X pins Z H s->Aj x v->Vals xs us->r x xs H Q ->
  ai (ah X.prog X.w) X.A (call (.builtin id) (v::us)) (EP X pins Z Q) X.xe s
theorem Vals.one:∀{x:V} {us:List aa},Vals [x] us->∃u,us=[u]/\Aj x u
 | _,_,.cons r .nil=>⟨_,rfl,r⟩
def Vals.two  (h:Vals [x,y] us):∃u v,us=[u,v]/\Aj x u/\Aj y v:=by
 cases h with
 | cons r t=>
  cases t with
  | cons q z=>cases z;exact⟨_,_,rfl,r,q⟩
def Vals.reverse  (h:Vals xs us):Vals xs.reverse us.reverse:=by
 induction h with
 | nil=>exact .nil
 | cons r t ih=>rw[S7,S7];exact Vals.append ih (.cons r .nil)
theorem Vals.rep  (h:Vals xs us):∀k:Nat,Vals (List.replicate k xs).flatten (List.replicate k us).flatten
 | 0=>.nil
 | k+1=>by
  rw[Qs,Qs,Sd,Sd];exact Vals.append h (Vals.rep h k)
theorem Xbd(aA):∀(k:Nat) (acc:List aa),
  List.foldl (λx1 x2=>x1++x2) acc.toArray (List.replicate k aA.toArray)=(acc++(List.replicate k aA).flatten).toArray
 | 0,acc=>by simp
 | k+1,acc=>by
  have e:acc.toArray++aA.toArray=(acc++aA).toArray:=by simp
  have e2:(acc++aA)++(List.replicate k aA).flatten=acc++(List.replicate (k+1) aA).flatten:=by
   rw[Qs,Sd,Pb]
  rw[<-e2,<-Xbd aA k (acc++aA),<-e,Qs,Rv]
section
variable {X:Cx}{pins:List (ae×aM)}{Z:St}{H:Hp}{s:af}{l b:ae}{xs ys zs:List V}
def Inv.lset{aA its':List aa}{f}{t'}(I:Inv X pins Z H s)(hH:H l=some (.lst xs))
  (e:s.heap.get? l=some {cls:=.type "list",data:=.seq aA.toArray n}) (hf:f aA.toArray=its'.toArray) (hv:Vals ys its') (hz:ys.length<=sizeLine):
  Inv X pins Z (upd H l (.lst ys)) {s with heap:=s.heap.update l (aM.mapSeq f),toks:=t'}:=by
 have q:=PySem.IsL.update e f;rw[hf] at q;refine I.write (x:=l) (e:=l) (by rw[hH];exact trivial) (.inl rfl) (λb' u hb hu=>(am.get?_update_other s.heap (aM.mapSeq f) (Ne.symm hb)).trans hu) ⟨_,q⟩ ?_;exact⟨hz,its',_,hv,q⟩
def Inv.lnew{t'}(I:Inv X pins Z H s)(hv:Vals ys aA)(hz:ys.length<=sizeLine):
  Inv X pins Z (upd H s.heap.objs.size (.lst ys)) {s with heap:=s.heap.push {cls:=.type "list",data:=.seq aA.toArray},toks:=t'}:=
 I.laid (λ_ _ q=>Tz _ q) (Oi _) ⟨hz,aA,0,hv,am.get?_push_size _ rfl⟩
def Inv.fresh(I:Inv X pins Z H s):H s.heap.objs.size=none:=I.hok.fresh (Oi _)
def Inv.lstM(I:Inv X pins Z H s)(hH:H l=some (.lst xs)):xs.length<=sizeLine/\∃(aA:List aa) (n:Nat),Vals xs aA/\xs.length=aA.length/\s.heap.get? l=some {cls:=.type "list",data:=.seq aA.toArray n}:=by
 obtain⟨z,aA,n,r,e⟩:=I.hok l _ hH;exact⟨z,aA,n,r,r.length,e⟩
def Xh5(h:n<=sizeLine):ak.List.listTooLong n=false:=by
 unfold ak.List.listTooLong;exact Tu (by lia)
end
section
variable {X:Cx}
def Lv:V->List V->Hp->VK->Prop:=λx vs H Q=>∃l xs y,x = .ref l/\vs=[y]/\H l=some (.lst xs)/\xs.length<sizeLine/\Q .non (upd H l (.lst (xs++[y])))
def Jh:MtM X "list.append" Lv:=by
 intro pins s Z H x vs v us Q I rx rv h;obtain⟨l,xs,y,rfl,rfl,hH,hz,q⟩:=h;cases rx;obtain⟨u,rfl,ru⟩:=rv.one;obtain⟨z,aA,n,r,hl,e⟩:=I.lstM hH;refine lI F.slot_list_append ⟨_,e,rfl⟩ F.entry_list_append (F.args_list_append_2 _ _) (PySem.list_append l aA.toArray n u (by rw[Ol];lia)) ⟨e,?_⟩;refine⟨.non,_,I.lset (its':=aA++[u]) hH e (by simp) (r.append (.cons ru .nil)) ?_,rfl,q⟩;rw[Oo,Pp]
 lia
def rCat:R2:=λx y H Q=>∃l b xs zs,x = .ref l/\y = .ref b/\H l=some (.lst xs)/\H b=some (.lst zs)/\xs.length+zs.length<=sizeLine/\∀p,H p=none->Q (.ref p) (upd H p (.lst (xs++zs)))
def Br:OpR X (bq .Add) rCat:=by
 intro pins s Z H x y v u Q I rx ry h;obtain⟨l,b,xs,zs,rfl,rfl,hH,hB,hz,q⟩:=h;cases rx;cases ry;obtain⟨z,aA,n,r,hl,e⟩:=I.lstM hH;obtain⟨z2,iq,n2,r2,og,e2⟩:=I.lstM hB;refine PySem.P.add_list e e2 ?_ (by rw[Ol,Ol];lia);have ea:aA.toArray++iq.toArray=(aA++iq).toArray:=by simp
 rw[ea];exact⟨.ref _,_,I.lnew (t':=s.toks) (r.append r2) (by rw[Oo];lia),rfl,q _ I.fresh⟩
def Xbe:R2:=λx y H Q=>∃l k xs,x = .ref l/\y = .int k/\H l=some (.lst xs) /\ -(2 ^ 63)<=k/\k<2 ^ 63/\xs.length * k.toNat<=sizeLine /\
 ∀p,H p=none->Q (.ref p) (upd H p (.lst (List.replicate k.toNat xs).flatten))
def Xh6{α : Type}(xs:List α)(k):(List.replicate k xs).flatten.length=k * xs.length:=by
 induction k with
 | zero=>simp
 | succ k ih=>rw[Qs,Sd,Oo,ih,Nat.succ_mul,Nat.add_comm]
def Xbf:OpR X (bq .Mult) Xbe:=by
 intro pins s Z H x y v u Q I rx ry h;obtain⟨l,k,xs,rfl,rfl,hH,h1,h2,hz,q⟩:=h;cases rx;obtain⟨t,rfl⟩:=ry;obtain⟨z,aA,n,r,hl,e⟩:=I.lstM hH;have aN:aA.toArray.size * k.toNat<=sizeLine:=by rw[Ol,<-hl];exact hz
 have vd:¬aA.toArray.size * k.toNat > (2 ^ 63 - 1) / 8:=by
  have:(sizeLine:Nat)<=(2 ^ 63 - 1) / 8:=by decide
  lia
 have oh:¬(!ak.List.listFitsIndex k)=true:=by
  rw[fitsIndex_both h1 h2];exact Oy
 have qU:¬ak.List.listTooLong (aA.toArray.size * k.toNat)=true:=by
  rw[Xh5 aN];exact Oy
 have jW:List.foldl (λx1 x2=>x1++x2) #[] (List.replicate (if aA.toArray.isEmpty=true then 0 else k.toNat) aA.toArray)=(List.replicate k.toNat aA).flatten.toArray:=by
  have f0:∀m:Nat,List.foldl (λx1 x2=>x1++x2) #[] (List.replicate m aA.toArray)=(List.replicate m aA).flatten.toArray:=λm=>by
   have:=Xbd aA m [];rw[Rj] at this;exact this
  rw[f0];cases aA with
  | nil=>simp
  | cons a r'=>rw[Tq (by simp)]
 refine wpAny_binaryOp_repeat_ref (T := "list") (U := "int") (by decide) ⟨_,e,rfl⟩ (λs'=>lH s' k t) noFill_list_mul F.fills_int_mul F.slot_int_rmul repeat_list F.slot_int_index.lookup
  (lI F.slot_int_rmul (lH s k t) F.entry_int_rmul (F.args_int_rmul_2 _ _) (int___rmul___int_list k t l aA.toArray n)
   ⟨e,rfl,⟨_,e,rfl⟩,lI F.slot_list_mul ⟨_,e,rfl⟩ F.entry_list_mul (F.args_list_mul_2 _ _) (AutoListH.list___mul___list_int_3 l aA.toArray n k t oh vd qU) ⟨e,?_⟩⟩)
 rw[jW];exact⟨.ref _,_,I.lnew (t':=s.toks) (r.rep k.toNat) (by rw[Xh6,Nat.mul_comm];exact hz),rfl,q _ I.fresh⟩
end
section
variable {prog:ap}{w:ax}{A:av}{E:Zb}{s:af}
end
section
variable {X:Cx}
end
section
variable {κ : Type} [DecidableEq κ]
def Av (kvs:List (κ × V)) (k : κ):Option V:=(kvs.find? λkv=>decide (kv.1=k)).map (·.2)
def Bf (kvs:List (κ × V)) (k : κ) (v:V):List (κ × V):=
 if (kvs.any λkv=>decide (kv.1=k))=true then kvs.map (λkv=>if kv.1=k then (kv.1,v) else kv) else kvs++[(k,v)]
def Xbg (kvs:List (κ × V)) (k : κ):List (κ × V):=kvs.filter λkv=>decide (kv.1≠k)
def Dg{p}{k : κ}(e:p.1=k):Av (p::r) k=some p.2:=by simp[Av,Rk,e]
def Dh{p}{k : κ}(e:¬p.1=k):Av (p::r) k=Av r k:=by simp[Av,Rk,e]
theorem D7(k):∀kvs:List (κ × V),(kvs.any λkv=>decide (kv.1=k))=(Av kvs k).isSome
 | []=>rfl
 | p::r=>by
  rw[Sl];by_cases e:p.1=k
  ·simp only[Dg e,Tt e,Bool.true_or,Sw]
  ·rw[Dh e,Tu e,Bool.false_or];exact D7 k r
theorem Xbh(k j)(y):∀kvs:List (κ × V),Av (kvs.map λkv=>if kv.1=k then (kv.1,y) else kv) j=(Av kvs j).map λx=>if j=k then y else x
 | []=>rfl
 | p::r=>by
  have ih:=Xbh k j y r;rw[O0];by_cases h:p.1=k
  ·rw[Tr h];by_cases e:p.1=j
   ·rw[Dg (p:=(p.1,y)) e,Dg e,Q3,Tr (e.symm.trans h)]
   ·rw[Dh (p:=(p.1,y)) e,Dh e,ih]
  ·rw[Tq h];by_cases e:p.1=j
   ·rw[Dg (p:=p) e,Dg e,Q3,Tq (λz=>h (e.trans z))]
   ·rw[Dh (p:=p) e,Dh e,ih]
theorem Xbi(k j)(y):∀kvs:List (κ × V),Av kvs k=none->Av (kvs++[(k,y)]) j=if j=k then some y else Av kvs j
 | [],_=>by
  by_cases e:k=j
  ·rw[Tr e.symm];exact Dg (p:=(k,y)) e
  ·rw[Tq (λz=>e z.symm)];exact Dh (p:=(k,y)) e
 | p::r,hn=>by
  rw[List.cons_append];have hk:¬p.1=k:=λz=>by rw[Dg z] at hn;cases hn
  rw[Dh hk] at hn;have ih:=Xbi k j y r hn;by_cases e:p.1=j
  ·rw[Dg e,Dg e,Tq (λz=>hk (e.trans z))]
  ·rw[Dh e,Dh e,ih]
def Ji(kvs)(k j : κ)(y):Av (Bf kvs k y) j=if j=k then some y else Av kvs j:=by
 unfold Bf;by_cases a:(kvs.any λkv=>decide (kv.1=k))=true
 ·rw[Tr a,Xbh];rw[D7] at a;by_cases e:j=k
  ·obtain⟨x,hx⟩:=Qx.mp a;rw[Tr e,e,hx,Q3,Tr rfl]
  ·rw[Tq e];cases Av kvs j with
   | none=>rfl
   | some x=>rw[Q3,Tq e]
 ·rw[Tq a];refine Xbi k j y kvs ?_;rw[D7] at a;cases q:Av kvs k with
  | none=>rfl
  | some x=>rw[q] at a;exact(a rfl).elim
def Jj(kvs)(k : κ)(v):(Bf kvs k v).length<=kvs.length+1:=by
 unfold Bf;split
 ·rw[Oh];lia
 ·rw[Oo,O5,Qu];lia
def F2{k : κ}(v)(h:Av kvs k=none):Bf kvs k v=kvs++[(k,v)]:=by
 unfold Bf;rw[D7,h];exact Tq (by decide)
def Cj.isSome_eq  (r:Cj o u):o.isSome=u.isSome:=by
 cases o with
 | none=>cases u with
  | none=>rfl
  | some _=>exact(show False from r).elim
 | some _=>cases u with
  | none=>exact(show False from r).elim
  | some _=>rfl
def Cj.getD{o}   (r:Cj o u)(rd:Aj d d'):Aj (o.getD d) (u.getD d'):=by
 cases o with
 | none=>cases u with
  | none=>exact rd
  | some _=>exact(show False from r).elim
 | some _=>cases u with
  | none=>exact(show False from r).elim
  | some _=>exact r
def KV.val  (r:KV kvs vs) (k : κ):Cj (Av kvs k) (eP vs k):=by
 unfold KV at r
 induction r with
 | nil=>exact True.intro
 | @cons p q ps qs h t ih=>
  obtain⟨h1,h2⟩:=h;by_cases e:p.1=k
  ·have e':q.1=k:=h1.symm.trans e;have b:eP (q::qs) k=some q.2:=by simp[eP,Rk,e']
   rw[Dg e,b];exact h2
  ·have e':¬q.1=k:=λz=>e (h1.trans z);have b:eP (q::qs) k=eP qs k:=by simp[eP,Rk,e']
   rw[Dh e,b];exact ih
def KV.any  (r:KV kvs vs) (k : κ):(kvs.any λkv=>decide (kv.1=k))=vs.any λkv=>decide (kv.1=k):=by
 unfold KV at r
 induction r with
 | nil=>rfl
 | cons h t ih=>rw[Sl,Sl,ih,h.1]
def KV.repl   (r:KV kvs vs) (k : κ)  (ry:Aj y u):
  KV (kvs.map λkv=>if kv.1=k then (kv.1,y) else kv) (vs.map λkv=>if kv.1=k then (kv.1,u) else kv):=by
 unfold KV at r ⊢
 induction r with
 | nil=>exact .nil
 | @cons p q ps qs h t ih=>
  rw[O0,O0];refine .cons ?_ ih;obtain⟨h1,h2⟩:=h;by_cases e:p.1=k
  ·rw[Tr e,Tr (h1.symm.trans e)];exact⟨h1,ry⟩
  ·rw[Tq e,Tq (λz=>e (h1.trans z))];exact⟨h1,h2⟩
def KV.put   (r:KV kvs vs) (k : κ)  (ry:Aj y u):KV (Bf kvs k y) (stored vs k u):=by
 unfold Bf stored;rw[r.any k];by_cases e:(vs.any λkv=>decide (kv.1=k))=true
 ·rw[Tr e,Tr e];exact r.repl k ry
 ·rw[Tq e,Tq e];exact Paired.snoc r ⟨rfl,ry⟩
def KV.keys{kvs:List (κ × V)}(r:KV kvs vs):kvs.map (·.1)=vs.map (·.1):=by
 unfold KV at r
 induction r with
 | nil=>rfl
 | cons h t ih=>rw[O0,O0,ih,h.1]
def KV.length{kvs:List (κ × V)}(r:KV kvs vs):kvs.length=vs.length:=Paired.length r
end
def F3    (r:Aj (kV k) u):(Bb P w).is k u=true:=by
 cases k with
 | inl i=>obtain⟨t,e⟩:=(show ∃t,u=aa.int i t from r);subst e;exact Xgz P w i t
 | inr x=>obtain⟨t,e⟩:=(show ∃t,u=aa.str x t from r);subst e;exact Xg0 P w x t
theorem Xbj  : ∀{ks:List Key} {us:List aa},Vals (ks.map kV) us->ItemsAre (Bb P w) ks us
 | [],_,r=>by rw[Td] at r;cases r;exact .nil
 | k::ks,_,r=>by
  rw[O0] at r;cases r with
  | cons h t=>exact .cons (F3 h) (Xbj t)
abbrev KT (H:Hp):List (List Key×V)->List (List Key×ae×aa)->Prop:=Paired λp q=>p.1=q.1/\H q.2.1=some (.tup (p.1.map kV))/\Aj p.2 q.2.2
def KT.val   (r:KT H kvs xs) (k):Cj (Av kvs k) ((gr xs k).map (·.2)):=by
 induction r with
 | nil=>exact True.intro
 | @cons p q ps qs h t ih=>
  obtain⟨h1,_,h2⟩:=h;by_cases e:p.1=k
  ·have e':q.1=k:=h1.symm.trans e;have b:gr (q::qs) k=some q.2:=by simp[gr,Rk,e']
   rw[Dg e,b];exact h2
  ·have e':¬q.1=k:=λz=>e (h1.trans z);have b:gr (q::qs) k=gr qs k:=by simp[gr,Rk,e']
   rw[Dh e,b];exact ih
def KT.repl    (r:KT H kvs xs) (k)  (ry:Aj y u):
  KT H (kvs.map λkv=>if kv.1=k then (kv.1,y) else kv) (xs.map (putAt k u)):=by
 induction r with
 | nil=>exact .nil
 | @cons p q ps qs h t ih=>
  rw[O0,O0];refine .cons ?_ ih;obtain⟨h1,h2,h3⟩:=h;unfold putAt;by_cases e:p.1=k
  ·rw[Tr e,Tr (h1.symm.trans e)];exact⟨h1,h2,ry⟩
  ·rw[Tq e,Tq (λz=>e (h1.trans z))];exact⟨h1,h2,h3⟩
def KT.put    (r:KT H kvs xs) (k)   (hb:H b=some (.tup (k.map kV))) (ry:Aj y u):
  KT H (Bf kvs k y) (storedH xs k b u):=by
 have e:(kvs.any λkv=>decide (kv.1=k))=(gr xs k).isSome:=by
  rw[D7,(r.val k).isSome_eq,Option.isSome_map]
 unfold Bf storedH;rw[e];by_cases q:(gr xs k).isSome=true
 ·rw[Tr q,Tr q];exact r.repl k ry
 ·rw[Tq q,Tq q];exact Paired.snoc r ⟨rfl,hb,ry⟩
def KT.keeps   (r:KT H kvs xs) (ht:∀b ys,H b=some (.tup ys)->H' b=some (.tup ys)):KT H' kvs xs:=
 Paired.mapP r λ_ _ z=>⟨z.1,ht _ _ z.2.1,z.2.2⟩
section
variable {P:ap}{w:ax}{H:Hp}{h:am}{a:ae}
def Xbk(ok:HOk P w H h)(e:Rd H a u):A3 P w H h a u:=e.ok ok
def E7(ok:HOk P w H h)(e:Rd H a (.dK kvs)):kvs.length<=sizeLine/\(a==bj)=false/\∃vs,KV kvs vs/\h.DictOf (Bb P w) a vs:=
 show A3 P w H h a (.dK kvs) from Xbk ok e
def Xbl(ok:HOk P w H h)(e:H a=some (.dK kvs)):kvs.length<=sizeLine/\(a==bj)=false/\∃vs,KV kvs vs/\h.DictOf (Bb P w) a vs:=E7 ok (.inl e)
def F4(ok:HOk P w H h)(e:H a=some (.tup (ks.map kV))):(bU (Bb P w)).is h ks a:=by
 obtain⟨_,aA,r,o,h1,h2,n,h3⟩:=(show A3 P w H h a (.tup (ks.map kV)) from ok a _ e);exact⟨o,aA.toArray,n,h1,h2,h3,by simpa using Xbj r⟩
def F5(ok:HOk P w H h)(e:Rd H a (.dT kvs)):kvs.length<=sizeLine/\(a==bj)=false /\
  ∃xs,KT H kvs xs/\h.DictOfH (bU (Bb P w)) a xs:=by
 obtain⟨z,y,xs,r,o,es,ep,h1,h2,h3,h4,h5⟩:=(show A3 P w H h a (.dT kvs) from Xbk ok e);refine⟨z,y,xs,r,o,es,ep,h1,h2,h3,h4,λx hx=>?_,h5⟩;have all:∀{l:List (List Key×V)} {m:List (List Key×ae×aa)},KT H l m->∀x∈m,(bU (Bb P w)).is h x.1 x.2.1:=by
  intro l m q
  induction q with
  | nil=>intro x hx;exact nomatch hx
  | @cons p q ps qs hq t ih=>
   intro x hx;rcases Ox.mp hx with e | hx
   ·subst e;exact F4 ok (by rw[<-hq.1];exact hq.2.1)
   ·exact ih x hx
 exact all r x hx
def Xbm(ok:HOk P w H h)(e:H a=some (.dT kvs)):kvs.length<=sizeLine/\(a==bj)=false /\
  ∃xs,KT H kvs xs/\h.DictOfH (bU (Bb P w)) a xs:=F5 ok (.inl e)
end
def DGet (H:Hp) (a:ae) (y:V) (r:Option V):Prop:=
 (∃kvs k,Rd H a (.dK kvs)/\y=kV k/\r=Av kvs k) \/ ∃kvs k b,Rd H a (.dT kvs)/\y = .ref b/\H b=some (.tup (k.map kV))/\r=Av kvs k
def DPut (H:Hp) (a:ae) (y v:V) (H':Hp):Prop:=
 (∃kvs k,H a=some (.dK kvs)/\y=kV k/\kvs.length<sizeLine/\H'=upd H a (.dK (Bf kvs k v))) \/
 ∃kvs k b,H a=some (.dT kvs)/\y = .ref b/\H b=some (.tup (k.map kV))/\kvs.length<sizeLine/\H'=upd H a (.dT (Bf kvs k v))
def DGet.k  {a} {k} (e:H a=some (.dK kvs)):DGet H a (kV k) (Av kvs k):=.inl ⟨kvs,k,.inl e,rfl,rfl⟩
def DPut.k  {a} {k} {v} (e:H a=some (.dK kvs)) (hl:kvs.length<sizeLine):DPut H a (kV k) v (upd H a (.dK (Bf kvs k v))):=.inl ⟨kvs,k,e,rfl,hl,rfl⟩
section
variable {X:Cx}{pins:List (ae×aM)}{Z:St}{H:Hp}{s:af}{a:ae}{y v:V}{u r:aa}{o:Option V}{A:av}{E:Zb}
def Inv.big(I:Inv X pins Z H s):bj<s.heap.objs.size:=by
 have h:aq<s.heap.objs.size:=(I.mod.glob.keeps I.bk).lt;exact Qv (by decide) h
def d_getItem(hu:A.units+1<bD)(I:Inv X pins Z H s)(g:DGet H a y (some v))(ry:Aj y u)(h:∀w' s',Inv X pins Z H s'->Aj v w'->Q w' s'):
  ai (ah X.prog X.w) A (bZ (.ref a) u) Q E s:=by
 rcases g with ⟨kvs,k,e,ey,l⟩ | ⟨kvs,k,b,e,ey,eb,l⟩
 ·subst ey;obtain⟨z,hd,vs,cT,dd⟩:=E7 I.hok e;obtain⟨w',hw,jV⟩:=Cj.some_of (v:=v) (o:=eP vs k) (by rw[l];exact cT.val k);exact wpAny_getItem_of (F3 ry) dd.mapOf hw (h w' _ (I.tok _) jV)
 ·subst ey;cases (show u=aa.ref b from ry);obtain⟨z,hd,xs,cT,dd⟩:=F5 I.hok e;obtain⟨w',hw,jV⟩:=Cj.some_of (v:=v) (o:=(gr xs k).map (·.2)) (by rw[l];exact cT.val k);obtain⟨p,hp,lJ⟩:=Sb.mp hw;refine wpAny_getItem_heap (cC hu) (F4 I.hok eb) dd hp ?_;rw[lJ];exact h w' _ (I.tok _) jV
def Xh7(hu:A.units+1<bD)(I:Inv X pins Z H s)(g:DGet H a y o)(ry:Aj y u)(h:∀s',Inv X pins Z H s'->Q (.bool (!o.isSome)) s'):
  ai (ah X.prog X.w) A (aL .NotIn u (.ref a)) Q E s:=by
 rcases g with ⟨kvs,k,e,ey,l⟩ | ⟨kvs,k,b,e,ey,eb,l⟩
 ·subst ey;obtain⟨z,hd,vs,cT,dd⟩:=E7 I.hok e;refine wpAny_notIn_of (F3 ry) hd dd.mapOf ?_;rw[<-(cT.val k).isSome_eq,<-l];exact h _ (I.tok _)
 ·subst ey;cases (show u=aa.ref b from ry);obtain⟨z,hd,xs,cT,dd⟩:=F5 I.hok e;refine wpAny_notIn_heap (cC hu) (F4 I.hok eb) hd dd ?_;have q:=(cT.val k).isSome_eq;rw[Option.isSome_map] at q;rw[<-q,<-l];exact h _ (I.tok _)
def Jk   (I:Inv X pins Z H s) (mu:Mut (H a)) (hs:am.SameBut a s.heap h') (he:∃q,h'.get? a=some q) (new:A3 X.prog X.w (upd H a ob) h' a ob):
  Inv X pins Z (upd H a ob) {s with heap:=h',toks:=t'}:=
 I.write (x:=a) (e:=a) mu (.inl rfl) (λb q hb z=>(hs.2 b hb).trans z) he new
def Xbn      (z:kvs.length<=sizeLine) (hd:(a==bj)=false) (cT:KV kvs vs) (dd:h'.DictOf (Bb P w) a vs):
  A3 P w H' h' a (.dK kvs):=⟨z,hd,vs,cT,dd⟩
def Xh8  (hu:A.units+1<bD) (I:Inv X pins Z H s) (g:DPut H a y v H') (ry:Aj y u) (rv:Aj v r) (h:∀s',Inv X pins Z H' s'->Q () s'):
  ai (ah X.prog X.w) A (uU (.ref a) u r) Q E s:=by
 rcases g with ⟨kvs,k,e,ey,l,eH⟩ | ⟨kvs,k,b,e,ey,eb,l,eH⟩
 ·subst ey eH;obtain⟨z,hd,vs,cT,dd⟩:=Xbl I.hok e;have hz:vs.length<=sizeLine:=by rw[<-cT.length];exact z
  have hl:(Bf kvs k v).length<=sizeLine:=by have:=Jj kvs k v;lia
  refine wpAny_setItem_pairs (hsz:=hz) (F3 ry) dd λh' lK hs=>h _ ?_;have he:∃q,h'.get? a=some q:=let ⟨q,_,_,hq,_⟩:=lK; ⟨q,hq⟩;exact Jk I (by rw[e];exact True.intro) hs he (Xbn hl hd (cT.put k rv) lK)
 ·subst ey eH;cases (show u=aa.ref b from ry);obtain⟨z,hd,xs,cT,dd⟩:=Xbm I.hok e;have hz:xs.length<=sizeLine:=by rw[<-Paired.length cT];exact z
  have hl:(Bf kvs k v).length<=sizeLine:=by have:=Jj kvs k v;lia
  refine wpAny_setItem_heap (hsz:=hz) (cC hu) (F4 I.hok eb) dd λh' lK hs=>h _ ?_;obtain⟨q,es,ep,hq,h2,h3,h4,_,h5⟩:=lK;refine Jk I (by rw[e];exact True.intro) hs ⟨q,hq⟩ ⟨hl,hd,_,(cT.put k eb rv).keeps λc ys ec=>?_,q,es,ep,hq,h2,h3,h4,h5⟩;rw[Ad (K7 ec e (λz=>nomatch z))];exact ec
end
section
variable {X:Cx}{pins:List (ae×aM)}{Z:St}{H:Hp}{s:af}{a:ae}{kvs:List (Key×V)}{k:Key}{u:aa}{A:av}{E:Zb}
end
def Xbo (i:aF):Prop:=∀ov iv,subscripted i false ov iv=operate [ov,iv] (bZ ov iv)
def Xh9         {T id} (hl:lE (.type T) "__getitem__" = pure (some (.builtin id))) (hs:Xbo slice)
  (h:ai (ah prog w) A (eval value env) (λo s₁=>ai (ah prog w) A (eval slice env) (λi s₂=>s₂.TypeIs o T/\ai (ah prog w) A (bZ o i) Q E s₂) E s₁) E s):
  ai (ah prog w) A (eval (.Subscript value slice pos) env) Q E s:=by
 refine el (aJ h (λo s₁ h₁=>aJ h₁ (λi s₂ h₂=>?_) λ_ _ x=>x) λ_ _ x=>x);obtain⟨hT,h₂⟩:=h₂;unfold ip;refine Tj ?_;rw[getitemInPython_of_ne hT.not_modules];refine Tj (qd hT hl ?_);have fin:ai (ah prog w) A (subscripted slice false o i) (λr s₃=>ai (ah prog w) A (letTemporaryGo value o r >>= λ_=>pure r) Q E s₃) E s₂:=by
  rw[hs o i];exact wpAny_operating (aJ h₂ (λr s₃ h₃=>Tj (wpAny_letTemporaryGo (Tk h₃))) λ_ _ x=>x)
 first
  | exact Tk (Tj fin)
  | exact Tj (Tk (Tj fin))
  | exact Tj fin
def Xia        (I:Inv X pins Z H s) (g:DGet H a y o):s.TypeIs (.ref a) "dict" := by
 rcases g with ⟨kvs,k,e,_,_⟩ | ⟨kvs,k,b,e,_,_,_⟩
 ·obtain⟨_,_,vs,_,dd⟩:=E7 I.hok e;exact dd.typeIs
 ·obtain⟨_,_,xs,_,dd⟩:=F5 I.hok e;exact dd.typeIs
def Xib (td ty:TE):TE:=fun Z H Q=>td Z H λx H1=>ty Z H1 λy H2=>∃a v,x = .ref a/\DGet H2 a y (some v)/\Q v H2
def tDIn (ty td:TE):TE:=fun Z H Q=>ty Z H λy H1=>td Z H1 λx H2=>∃a o,x = .ref a/\DGet H2 a y o/\Q (.bl o.isSome) H2
def Xic (ty td:TE):TE:=fun Z H Q=>ty Z H λy H1=>td Z H1 λx H2=>∃a o,x = .ref a/\DGet H2 a y o/\Q (.bl (!o.isSome)) H2
def Xid (td ty tv:TE):TS:=λD Z H=>tv Z H λv H1=>td Z H1 λx H2=>ty Z H2 λy H3=>∃a H4,x = .ref a/\DPut H3 a y v H4/\D.nx Z H4
def sDAug (td ty tv:TE) (rd:V->V->Hp->VK->Prop):TS:=λD Z H=>td Z H λx H1=>ty Z H1 λy H2=>∃a v,x = .ref a/\DGet H2 a y (some v) /\
 tv Z H2 λy2 H3=>rd v y2 H3 λz H4=>∃H5,DPut H4 a y z H5/\D.nx Z H5
def sDDel (td ty:TE):TS:=λD Z H=>td Z H λx H1=>ty Z H1 λy H2=>∃a kvs k,x = .ref a/\H2 a=some (.dK kvs)/\y=kV k/\(Av kvs k).isSome=true/\D.nx Z (upd H2 a (.dK (Xbg kvs k)))
section
variable {X:Cx}{o i e value:aF}{pos ij va:bN}{td ty tv:TE}
def B9(hu:X.A.units+1<bD)(ho:PE X o td)(hi:PE X i ty)(hs:Xbo i):PE X (.Subscript o i pos) (Xib td ty):=by
 intro pins s Z H Q I h;refine Xh9 PySem.F.slot_dict_getitem.lookup hs (thn (ho pins s Z H _ I h) λu s1 ⟨x,H1,I1,rx,q1⟩=>thn (hi pins s1 Z H1 _ I1 q1) λiv s2 ⟨y,H2,I2,ry,a,v,ex,g,q2⟩=>?_);subst ex;obtain rfl:u=aa.ref a:=rx;exact⟨Xia I2 g,d_getItem hu I2 g ry λw' s3 I3 jV=>⟨v,H2,I3,jV,q2⟩⟩
def Xie(hu:X.A.units+1<bD)(hi:PE X i ty)(ho:PE X o td):PC X .NotIn i o (Xic ty td):=by
 intro pins s Z H Q I h;refine thn (hi pins s Z H _ I h) λiv s1 ⟨y,H1,I1,ry,q1⟩=>thn (ho pins s1 Z H1 _ I1 q1) λu s2 ⟨x,H2,I2,rx,a,ov,ex,g,q2⟩=>?_;subst ex;obtain rfl:u=aa.ref a:=rx;exact Xh7 hu I2 g ry λs3 I3=>⟨.bl (!ov.isSome),H2,I3,rfl,q2⟩
def Lw(hu:X.A.units+1<bD)(ho:PE X o td)(hi:PE X i ty)(hv:PE X value tv)(hs:dJ value (some (.Subscript o i ij)) pos.line X.env=pure false):
  PS X (.Assign [.Subscript o i ij] value pos) (Xid td ty tv):=by
 intro pins s Z H D I h;refine wpAny_Assign_Subscript (thn (hv pins s Z H _ I h) λr s1 ⟨v,H1,I1,rv,q1⟩=>thn (ho pins s1 Z H1 _ I1 q1) λu s2 ⟨x,H2,I2,rx,q2⟩=>thn (hi pins s2 Z H2 _ I2 q2) λiv s3 ⟨y,H3,I3,ry,a,H4,ex,g,q3⟩=>?_) hs;subst ex;obtain rfl:u=aa.ref a:=rx;exact Xh8 hu I3 g ry rv λs4 I4=>⟨Z,H4,I4,q3⟩
end
def Xbp   (h:am) (hb:bj<h.objs.size):A3 P w H (h.push {cls:=.type "dict",data:=.dict #[]}) h.objs.size (.dK []):=
 ⟨Pi _,beq_eq_false_iff_ne.mpr (Ne.symm (Os hb)),[],.nil,am.DictOf.new h⟩
def Xbq   (h:am) (hb:bj<h.objs.size):A3 P w H (h.push {cls:=.type "dict",data:=.dict #[]}) h.objs.size (.dT []):=
 ⟨Pi _,beq_eq_false_iff_ne.mpr (Ne.symm (Os hb)),[],.nil,_, #[],0,am.get?_push_size _ rfl,⟨rfl,rfl,rfl⟩,rfl,rfl,List.nodup_nil⟩
def Xif:TE:=λ_ H Q=>∀p,H p=none->Q (.ref p) (upd H p (.dK []))
def Xig:TE:=λ_ H Q=>∀p,H p=none->Q (.ref p) (upd H p (.dT []))
section
variable {X:Cx}{pos:bN}
def Xih:PE X (.Dict [] [] pos) Xif:=λpins s Z H Q I h=>
 oi ⟨.ref s.heap.objs.size,_,I.laid (a:=s.heap.objs.size) (o:=.dK []) (t':=s.toks) (λ_ _ q=>Tz _ q) (Oi _) (Xbp s.heap I.big),rfl,h _ (I.hok.fresh (Oi _))⟩
def Xii:PE X (.Dict [] [] pos) Xig:=λpins s Z H Q I h=>
 oi ⟨.ref s.heap.objs.size,_,I.laid (a:=s.heap.objs.size) (o:=.dT []) (t':=s.toks) (λ_ _ q=>Tz _ q) (Oi _) (Xbq s.heap I.big),rfl,h _ (I.hok.fresh (Oi _))⟩
end
def Lx:List (TE×TE)->St->Hp->(List (V×V)->Hp->Prop)->Prop
 | [],_,H,Q=>Q [] H
 | (tk,tv)::r, Z,H,Q=>tk Z H λx H1=>tv Z H1 λy H2=>Lx r Z H2 λps H3=>Q ((x,y)::ps) H3
abbrev VV:List (V×V)->List (aa×aa)->Prop:=Paired λp q=>Aj p.1 q.1/\Aj p.2 q.2
def PPs (X:Cx) (pos:bN) (keys:List (Option aF)) (oj:List aF) (qV:List (TE×TE)):Prop:=
 ∀pins s Z H (Q:List (V×V)->Hp->Prop),Inv X pins Z H s->Lx qV Z H Q ->
  ai (ah X.prog X.w) X.A (evalPairs (pairTrees keys oj X.env pos)) (λvs s'=>∃ps H',Inv X pins Z H' s'/\VV ps vs/\Q ps H') X.xe s
def Xij  : PPs X pos [] [] []:=λpins s Z H Q I h=>pairTrees_nil_walk ⟨[],H,I,.nil,h⟩
def Xik       (hk:PE X k tk) (hv:PE X v tv) (hr:PPs X pos ks vs qV):
  PPs X pos (some k::ks) (v::vs) ((tk,tv)::qV):=λpins s Z H Q I h=>
 pairTrees_cons_walk (thn (hk pins s Z H _ I h) λu s1 ⟨x,H1,I1,rx,q1⟩=>thn (hv pins s1 Z H1 _ I1 q1) λw2 s2 ⟨y,H2,I2,ry,q2⟩=>
  thn (hr pins s2 Z H2 _ I2 q2) λws s3 ⟨ps,H3,I3,cT,q3⟩=>⟨(x,y)::ps,H3,I3,.cons ⟨rx,ry⟩ cT,q3⟩)
def Xil (kvs cf:List (Key×V)):List (Key×V):=cf.foldl (λacc kv=>Bf acc kv.1 kv.2) kvs
def tDisp (qV:List (TE×TE)):TE:=fun Z H Q=>∀p,H p=none->Lx qV Z (upd H p (.dK [])) λps H2=>H2 p=some (.dK [])/\∃kvs:List (Key×V),ps=kvs.map (λkv=>(kV kv.1,kv.2))/\kvs.length<=15/\Q (.ref p) (upd H2 p (.dK (Xil [] kvs)))
structure M1 (X:Cx) (o:aF) (m:ao) (eJ:bN) (e:aF) (ci:bN):Prop where
 base:iu o m X.env (eval o X.env)=eval o X.env
 few:((bC ci (aB [e] X.env)).all (λx => !x.1)&&(ca ci (bu [] X.env)).all (λx=>x.1.isSome)
  && decide (([e]:List aF).length+([]:List cW).length+(if ([]:List cW).isEmpty then 0 else 1)<30))=true
 line:(eJ.endLine==ci.line)=true
 trees:bC ci (aB [e] X.env)=[(false,eval e X.env)]
structure M2 (X:Cx) (o:aF) (m:ao) (eJ:bN) (e f:aF) (ci:bN):Prop where
 base:iu o m X.env (eval o X.env)=eval o X.env
 few:((bC ci (aB [e,f] X.env)).all (λx => !x.1)&&(ca ci (bu [] X.env)).all (λx=>x.1.isSome)
  && decide (([e,f]:List aF).length+([]:List cW).length+(if ([]:List cW).isEmpty then 0 else 1)<30))=true
 line:(eJ.endLine==ci.line)=true
 trees:bC ci (aB [e,f] X.env)=[(false,eval e X.env),(false,eval f X.env)]
def IsD (H:Hp) (a:ae):Prop:=(∃kvs,Rd H a (.dK kvs)) \/ ∃kvs,Rd H a (.dT kvs)
def Xim      (I:Inv X pins Z H s) (d:IsD H a):
  s.TypeIs (.ref a) "dict" /\ (∀b,aa.ref a = .ref b->∃ob,s.heap.get? b=some ob/\ob.dict=none)/\(a==bj)=false:=by
 rcases d with ⟨kvs,e⟩ | ⟨kvs,e⟩
 ·obtain⟨_,hd,vs,_,dd⟩:=E7 I.hok e;refine⟨dd.typeIs,λb q=>?_,hd⟩;cases q;obtain⟨ob,_,_,h1,h2,_⟩:=dd;exact⟨ob,h1,h2.2.1⟩
 ·obtain⟨_,hd,xs,_,dd⟩:=F5 I.hok e;refine⟨dd.typeIs,λb q=>?_,hd⟩;cases q;obtain⟨ob,_,_,h1,h2,_⟩:=dd;exact⟨ob,h1,h2.2.1⟩
section
variable {X:Cx}{pins:List (ae×aM)}{Z:St}{H:Hp}{s:af}{a:ae}{y d:V}{u r:aa}{o:Option V}{A:av}{E:Zb}
def Xin(hu:A.units+1<bD)(I:Inv X pins Z H s)(g:DGet H a y o)(ry:Aj y u)(rd:Aj d r)(h:∀w' s',Inv X pins Z H s'->Aj (o.getD d) w'->Q w' s'):
  ai (ah X.prog X.w) A (call (.builtin "dict.get") [.ref a,u,r]) Q E s:=by
 rcases g with ⟨kvs,k,e,ey,l⟩ | ⟨kvs,k,b,e,ey,eb,l⟩
 ·subst ey;obtain⟨z,hd,vs,cT,dd⟩:=E7 I.hok e;refine ve PySem.F.slot_dict_get dd.typeIs PySem.F.entry_dict_get (PySem.F.args_dict_get_3 _ _ _) (meets_dict_get_default (Bb X.prog X.w) a (F3 ry) hd r) ⟨_,dd.mapOf,h _ _ (I.tok _) ?_⟩;rw[l];exact(cT.val k).getD rd
 ·subst ey;cases (show u=aa.ref b from ry);obtain⟨z,hd,xs,cT,dd⟩:=F5 I.hok e;refine ve PySem.F.slot_dict_get dd.typeIs PySem.F.entry_dict_get (PySem.F.args_dict_get_3 _ _ _) (meetsH_dict_get_default (bU (Bb X.prog X.w)) a b hd r) ⟨cC hu,k,xs,F4 I.hok eb,dd,h _ _ (I.tok _) ?_⟩;rw[l];exact(cT.val k).getD rd
end
def Xio (td ty tx:TE):TE:=fun Z H Q=>td Z H λx H1=>∃a,x = .ref a/\IsD H1 a/\ty Z H1 λy H2=>tx Z H2 λz H3=>∃o,DGet H3 a y o/\Q (o.getD z) H3
def Xrx (td ty:TE):TE:=fun Z H Q=>td Z H λx H1=>∃a,x = .ref a/\IsD H1 a/\ty Z H1 λy H2=>∃kvs k v,H2 a=some (.dK kvs)/\y=kV k/\Av kvs k=some v/\Q v (upd H2 a (.dK (Xbg kvs k)))
section
variable {X:Cx}{o e f:aF}{eJ ci:bN}{td ty tx:TE}
def Ly(hu:X.A.units+1<bD)(ho:PE X o td)(he:PE X e ty)(hf:PE X f tx)(m:M2 X o "get" eJ e f ci):PE X (.Call (.Attribute o "get" eJ) [e,f] [] ci) (Xio td ty tx):=by
 intro pins s Z H Q I h;refine wpAny_Call_method m.base m.few m.line PySem.F.plainAttrs_dict PySem.F.slot_dict_get PySem.F.type_dict_get (thn (ho pins s Z H _ I h) λu s1 ⟨x,H1,I1,rx,a,ex,d,q1⟩=>?_);subst ex;obtain rfl:u=aa.ref a:=rx;obtain⟨t1,t2,_⟩:=Xim I1 d;refine⟨t1,t2,?_⟩;rw[m.trees];refine Calls.callWith_builtin rfl (Calls.evalArgs_plain (Calls.spliced_cons (thn (he pins s1 Z H1 _ I1 q1) λiv s2 ⟨y,H2,I2,ry,q2⟩=>
  Calls.spliced_cons (thn (hf pins s2 Z H2 _ I2 q2) λfv s3 ⟨z,H3,I3,rz,ov,g,q3⟩=>Calls.spliced_nil ?_))))
 exact Xin hu I3 g ry rz λw' s4 I4 jV=>⟨_,H3,I4,jV,q3⟩
end
section
variable {X:Cx}{pins:List (ae×aM)}{Z:St}{H:Hp}{s:af}{a:ae}{kvs:List (Key×V)}{A:av}{E:Zb}
end
section
variable {X:Cx}{pins:List (ae×aM)}{Z:St}{H:Hp}{s:af}{a:ae}{y:V}{u:aa}{A:av}{E:Zb}
end
end L2
namespace Att
open PySem PySem.W PySem.Calls PyProof.Rows
def Xip  : ∀ns vs,WellAll P h vs (ns.map WData.int)->cX vs ns:=by
 intro ns
 induction ns with
 | nil=>
  intro vs w;rw[Td] at w;cases w;exact .nil
 | cons n ns ih=>
  intro vs w;rw[O0] at w;cases w with
  | cons a b=>
   cases a;exact .cons _ _ (ih _ b)
def Xiq{l:OpenLaw}  (hn:l.most=some n)    (lL:l.row.toRowW.claim.pre args=true)(qW:WellAll P h qX args):
  ∃a vs ns,qX=[aa.ref a]/\args=[WData.list (ns.map WData.int)]/\h.get? a=some {cls:=.type "list",data:=.seq vs.toArray}/\cX vs ns/\ns.length<=n:=by
 have BB:WShape.hasAll [] args [.list .int]=true:=(pre_splitW lL).1;have hc:l.pre.holds [] {args:=args}=true:=(pre_splitW lL).2;obtain⟨d,r,rfl,h1,h2⟩:=hasAllW_cons BB;obtain rfl:=hasAllW_nil h2;obtain⟨xs,rfl,h3⟩:=hasW_list h1;obtain⟨ns,rfl⟩:=items_int h3;have aN:ns.length<=n:=by
  unfold OpenLaw.pre at hc;have h4:(WTm.not (.lt (.lit (.int (n:Int))) (.len (.arg 0)))).holds [] {args:=[.list (ns.map .int)]}=true:=by
   have h4:=(holds_andW hc).1;rw[hn] at h4;exact h4
  have h5:=condW_of h4 (w_not (w_lt w_lit (w_len_list (w_arg rfl))));rw[Oh] at h5;refine Nat.le_of_not_lt λq=>?_;have q':(n:Int)<((ns.length:Nat):Int):=by lia
  first
   | (rw[Tt q'] at h5;exact absurd h5 (by decide))
   | (simp at h5;lia)
 cases qW with
 | cons w1 w2=>
  cases w2;cases w1 with
  | list ho bY=>exact⟨_,_,ns,rfl,rfl,ho,Xip ns _ bY,aN⟩
def Xir(l:OpenLaw)(args):l.row.toRowW.claim.post args (.bool true) args=true:=
 postW_of (r:=l.row.toRowW) (X:=(true==true))
  (show WShape.has [] (.bool true) .bool=true by first | rfl | decide | simp[WShape.has,WShape.arms,WShape.armsAll])
  (show (WTm.eq .res (.lit (.bool true))).value [] {args:=args,res:=some (.bool true),after:=args}=some (.bool (true==true)) from w_eq_bool (w_res rfl) w_lit) rfl
def attach_call{l:OpenLaw}      (hn:l.most=some n)(qY:d.params.defaults=[])
  (call:∀(w:ax) (s₀ s₁ : af) (mg mb:ao->Option aa) (fa:ae) (o:aM) (pm cd dq:aa) (a:ae) (vs:List aa) (ns:List Int),
   Ground q loose [] XP w s₀ mg mb s₁.heap->YP w s₁.heap ->
   s₁.heap.get? fa=some o->o.data = .func (docDef d.name d.params d.body d.scope pm cd dq)->s₁.heap.CodeRec cd d.name->mg d.name=some (.ref fa) ->
   s₁.heap.get? a=some {cls:=.type "list",data:=.seq vs.toArray}->cX vs ns->ns.length<=n->s₁.gens = #[] ->
   bB (ah l.prog w) eQ (.call (.ref fa) ⟨[.ref a],[]⟩) (λr s'=>r = .ok (.ret (.bool true))/\BC s₁.heap s'.heap/\s'.os=s₁.os/\cA s'.gens) s₁):
  WalkO q loose XP YP l.row.toRowW d [] (λf vs=>PySem.call f vs):=by
 intro w s₀ s₁ mg mb G Y fa o pm cd dq dV kV ho hd gX hD hmg hg args qX as lL qZ JQ qW iU;obtain rfl:dV = .none:=Dflts.none hD qY;obtain rfl:kV = .none:=Dflts.noKw hD;obtain⟨a,vs,ns,rfl,rfl,om,jX,aN⟩:=Xiq hn lL qW;refine enter_call (br (call w s₀ s₁ mg mb fa o pm cd dq a vs ns G Y ho (fd_plain hd) gX hmg om jX aN hg) λr s' hq=>?_);obtain⟨rfl,h2,h3,h4⟩:=hq;exact⟨.inl ⟨.bool true,.bool true,[],rfl,λ_=>rfl,.bool true,Xir l _,λ_=>⟨List.Pairwise.nil,λ_ hm=>(nomatch hm)⟩⟩,h2,h3,h4⟩
section
variable {prog:ap}{w:ax}{A:av}{E:Zb}{s:af}{K:Frag}
def ledger (h:am) (L d:ae):List (ae×aM):=(List.range h.objs.size).filterMap λa=>if a=L\/a=d then none else (h.get? a).map λo=>(a,o)
end
end Att
namespace L2
theorem Xbr:∀{vs:List aa} {ns:List Int},cX vs ns->Vals (ns.map V.int) vs
 | _,_,.nil=>.nil
 | _,_,.cons n t h=>.cons ⟨t,rfl⟩ (Xbr h)
def Only (H:Hp):Prop:=∀b,H b=none \/ ∃o xs,H b=some (.frz o (.lst xs))
abbrev KOf {K:LY} {h:am} (_:K.In h):LY:=K
def Xry (s:aP) (j:Nat):aP:=match s with
 | .ClassDef _ _ _ body _ _ _ _ _ _ _=>body.getD j (.Pass ⟨0,0,0,0⟩)
 | _=>.Pass ⟨0,0,0,0⟩
def D8 (s:aP):cR:=match s with
 | .FunctionDef _ a _ _ _ _ _ _ _ _=>a
 | _=>{posonlyargs:=[],args:=[],vararg:=none,kwonlyargs:=[],kw_defaults:=[],kwarg:=none,defaults:=[]}
def Co (s:aP):List aP:=match s with
 | .FunctionDef _ _ b _ _ _ _ _ _ _=>b
 | _=>[]
def defScope (s:aP):bI:=match s with
 | .FunctionDef _ _ _ _ _ _ sc _ _ _=>sc
 | _=>{kind:=.function,names:=[],isGenerator:=false,isCoroutine:=false}
abbrev CX0:CXT:=λ_ _ _ _ _ _=>False
abbrev E0:XK:=λ_ _ _=>False
def An:Passes CX0 X E0:=λ_ _ _ _ _ _ _ h=>h.elim
structure Fun (K:LY) (x qual:ao) (st:aP) (f:ae) (fd:aw):Prop where
 ex:∃(oc:aa) (od:Option ae) (kV dq pm:aa) (an:Option ae) (cdv ct:aa) (iT:Array (Option aa)),
  fd=MM x qual (D8 st) (Co st) (defScope st) .none kV dq pm an cdv ct/\K.lookup f=some ⟨oc,od,.func fd,iT⟩/\MO K cdv qual=true
 kp:ME K (.ref f)=true
section
variable {P:ap}{w:ax}{K:LY}{mg:ao->Option aa}{base:am}
def Fun.ok{x qual}{st}  {fd}   (F:Fun K x qual st f fd)(S:FnScope N ps (defScope st))(len:∀vs H Q E,sp vs H Q E->vs.length=ps.length)
  (eK:∀(cdv:aa) (A:av) (outer:List dz) (s:af) (H:Hp) (vs:List V) (Q:VK) (E:XK),Room k (A.deeper (aO qual (defScope st) s.heap.objs.size f cdv))->sp vs H Q E ->
   ∃t,PSs (Ck CX0 P w K mg base N qual (defScope st) f cdv A outer s H E).nox (Co st) t/\t {nx:=λ_ H'=>Q .non H',rt:=Q} (start N vs) H):FnOk P w K mg base CX0 (k+1) f fd ps sp:=by
 obtain⟨oc,od,kV,dq,pm,an,cdv,ct,iT,rfl,lk,gX⟩:=F.ex;refine Lm lk gX S len λA outer s H vs Q E hr gZ=>?_;obtain⟨t,h,q⟩:=eK cdv A outer s H vs Q E hr gZ;exact⟨t,h.nox,q⟩
def Fun.binds  {st}   (F:Fun K x qual st f fd)
  (h:∀(kV dq pm:aa) (an:Option ae) (cdv ct:aa) (us:List aa),us.length=ps.length->cQ (MM x qual (D8 st) (Co st) (defScope st) .none kV dq pm an cdv ct) ⟨us,[]⟩=pure (ps.zip us)):Binds K fd ps []:=by
 obtain⟨oc,od,kV,dq,pm,an,cdv,ct,iT,rfl,lk,gX⟩:=F.ex;exact .all (h kV dq pm an cdv ct)
def Xbs  {st}    {kV dq pm cdv ct} (l:K.lookup f=some ⟨oc,od,.func (MM x qual (D8 st) (Co st) (defScope st) .none kV dq pm an cdv ct),iT⟩)
  (c:MO K cdv qual=true) (k:ME K (.ref f)=true):Fun K x qual st f (MM x qual (D8 st) (Co st) (defScope st) .none kV dq pm an cdv ct):=⟨⟨oc,od,kV,dq,pm,an,cdv,ct,iT,rfl,l,c⟩,k⟩
end
def Cu  (hr:Room k A):A.units+1<bD:=R4 (Nat.add_le_add_left (by decide:1<=64) _) hr.units
section
variable {X:Cx}
def pv(i:Nat)  (hN:X.N[i]? = some x:=by rfl)(hv:Vis X.env.scope x:=by first | exact Or.inl rfl | exact Or.inr (.inl rfl) | exact Or.inr (.inr rfl))(hd:(x==("__debug__" : ao))=false:=by decide)
  (gX:(x==("__classdict__" : ao))=false:=by decide):PE X (.Name x pos) (C4 i):=Xg5 hN hv hd gX
end
def Bs{A B:Prop}(h:B):if false=true then A else B:=by
 rw[Tq Oy];exact h
def Cv{A B:Prop}(h:A):if true=true then A else B:=by
 rw[Tr rfl];exact h
def Xis{c A B:Prop}[Decidable c](hc:c)(h:B):if (!decide c)=true then A else B:=by
 rw[Tt hc];exact Bs h
def Same (H H':Hp):Prop:=∀b o,H b=some o->H' b=some o
def Same.refl(H):Same H H:=λ_ _ h=>h
def Same.trans(a:Same H H1)(b:Same H1 H2):Same H H2:=λc o h=>b c o (a c o h)
def Same.free  (e:Same H H') (h:H' l=Option.none):H l=Option.none:=by
 cases q:H l with
 | none=>rfl
 | some o=>
  rw[e l o q] at h;cases h
def Same.seq{K}   (e:Same H H')(h:SqL K H a xs):SqL K H' a xs:=by
 rcases h with (h | ⟨o,h⟩) | h
 ·exact .inl (.inl (e _ _ h))
 ·exact .inl (.inr ⟨o,e _ _ h⟩)
 ·exact .inr h
section
variable {X:Cx}
end
section
variable {κ : Type} [DecidableEq κ]
def Xit{k : κ}(h:Av kvs k=none):¬k∈kvs.map (·.1):=by
 intro m;obtain⟨p,hp,e⟩:=Pd.mp m;have q:(kvs.any λkv=>decide (kv.1=k))=true:=Rp.mpr ⟨p,hp,Tt e⟩;rw[D7,h] at q;exact absurd q (by simp)
def G7  {k : κ} (h:Av kvs k=some v):k∈kvs.map (·.1):=by
 have q:(kvs.any λkv=>decide (kv.1=k))=true:=by
  rw[D7,h]
  all_goals rfl
 obtain⟨p,hp,e⟩:=Rp.mp q;exact Pd.mpr ⟨p,hp,Tv e⟩
theorem nd_snoc:∀{l:List κ} {k : κ},l.Nodup->¬k∈l->(l++[k]).Nodup
 | [],k,_,_=>by simp
 | a::r,k,h,hk=>by
  obtain⟨h1,h2⟩:=Pu.mp h;show (a::(r++[k])).Nodup;refine Pu.mpr ⟨λm=>?_,nd_snoc h2 λm=>hk (Ox.mpr (Or.inr m))⟩;rcases Ou.mp m with q | q
  ·exact h1 q
  ·exact hk (Ox.mpr (Or.inl (Om.mp q).symm))
def Xiu{k : κ}(v)(hn:(kvs.map (·.1)).Nodup)(h:Av kvs k=none):((Bf kvs k v).map (·.1)).Nodup:=by
 rw[F2 v h,Ow];exact nd_snoc hn (Xit h)
end
def Cf (env:dz):List (ao×aI)->List (ao×ae)->List (ao×ae)
 | [],cs=>cs
 | (n,k)::r,cs=>if k == .free then Cf env r ((n,(env.cells.lookup n).getD 0)::cs) else Cf env r cs
theorem Lz:∀names cs,(∀x∈names,x.2 = .free->∃c,env.cells.lookup x.1=some c) ->
  (forIn names cs fun (x : ao × aI) r => (if (x.2 == .free) = true then do        let c <- rg env x.1; pure (ForInStep.yield ((x.1, c) :: r)) else pure (ForInStep.yield r) : fK (ForInStep (List (ao × ae))))) = pure (Cf env names cs)
 | [],cs,_=>rfl
 | (n,k)::r,cs,h=>by
  rw[R5];cases hk:(k==aI.free) with
  | true=>
   have j9:k = .free:=by simpa using hk
   obtain⟨c,hc⟩:=h (n,k) Ov j9;have e1:rg env n=pure c:=by unfold rg;rw[hc]
   simp only[hk,if_true,e1,pure_bind];rw[Lz r _ λx hx=>h x (Op _ hx)];show _=pure (if (k==aI.free)=true then _ else _);rw[hk,Tr rfl,hc];rfl
  | false=>
   simp only[hk,Pf,if_false,pure_bind];rw[Lz r _ λx hx=>h x (Op _ hx)];show _=pure (if (k==aI.free)=true then _ else _);rw[hk,Tq Oy]
def Xbt  (h:∀x∈scope.names,x.2 = .free->∃c,env.cells.lookup x.1=some c):gt scope env=pure (Cf env scope.names []):=by
 have e:=Lz scope.names [] h
 have q : gt scope env = (forIn scope.names [] fun (x : ao × aI) r => (if (x.2 == .free) = true then do                let c <- rg env x.1; pure (ForInStep.yield ((x.1, c) :: r)) else pure (ForInStep.yield r) : fK (ForInStep (List (ao × ae))))) >>= fun cs => pure cs := rfl
 rw[q,e];rfl
theorem L0   : ∀names cs,(∀x∈names,x.2 = .free->∃c,env.cells.lookup x.1=some c) ->
  (Cf env names cs).lookup x=some c->cs.lookup x=some c\/env.cells.lookup x=some c
 | [],cs,_,h=>.inl h
 | (n,k)::r,cs,hf,h=>by
  unfold Cf at h;split at h
  ·rename_i hk;rcases L0 r _ (λx hx=>hf x (Op _ hx)) h with q | q
   ·rw[P0] at q;split at q
    ·rename_i e;have e':x=n:=by simpa using e
     subst e';obtain⟨c',hc⟩:=hf (x,k) Ov (by simpa using hk);have qb:env.cells.lookup x=some c':=hc;rw[qb] at q ⊢;exact .inr q
    ·exact .inl q
   ·exact .inr q
  ·exact L0 r _ (λx hx=>hf x (Op _ hx)) h
theorem L1  : ∀names cs,((cs.lookup x).isSome=true\/(x,aI.free)∈names)->((Cf env names cs).lookup x).isSome=true
 | [],cs,h=>by
  rcases h with h | h
  ·exact h
  ·cases h
 | (n,k)::r,cs,h=>by
  unfold Cf;split
  ·refine L1 r _ ?_;rw[P0];rcases h with h | h
   ·left;split
    ·rfl
    ·exact h
   ·rcases Ox.mp h with e | h
    ·left;cases e;simp
    ·exact .inr h
  ·rename_i hk;refine L1 r _ ?_;rcases h with h | h
   ·exact .inl h
   ·rcases Ox.mp h with e | h
    ·cases e;exact absurd rfl hk
    ·exact .inr h
theorem Xbu{env:dz}{x:ao}{k':aI}:∀{names:List (ao×aI)},
  (names.map λ(n,k)=>if (k==aI.free&&env.scope.kind == .function&&env.kindOf n==some .cell) then (n,aI.cell) else (n,k)).lookup x=some k'->∃k,names.lookup x=some k/\(k'=k\/k = .free)
 | [],h=>by simp at h
 | (n,k)::r,h=>by
  have ih := @Xbu env x k' r;have h':List.lookup x ((if (k==aI.free&&env.scope.kind == .function&&env.kindOf n==some .cell)=true then (n,aI.cell) else (n,k))::_)=_:=h;rw[P0];by_cases hc:(k==aI.free&&env.scope.kind == .function&&env.kindOf n==some .cell)=true
  ·rw[Tr hc,P0] at h';cases hx:x==n with
   | true=>
    have hk:k = .free:=by
     simp only[Oz,beq_iff_eq] at hc;exact hc.1.1
    exact⟨k,rfl,.inr hk⟩
   | false=>
    rw[hx] at h';exact ih h'
  ·rw[Tq hc,P0] at h';cases hx:x==n with
   | true=>
    rw[hx] at h';exact⟨k,rfl,.inl (O4 h').symm⟩
   | false=>
    rw[hx] at h';exact ih h'
theorem L3:∀(names:List (ao×aI)) (h:am) (acc:List (ao×ae)) (x:ao) (c:ae),(bL h.objs.size names acc).lookup x=some c ->
  (h.objs.size<=c/\(x,aI.cell)∈names/\(bV h names).IsCell c none)\/acc.lookup x=some c
 | [],_,_,_,_,e=>.inr e
 | (name,kind)::r,h,acc,x,c,e=>by
  unfold bL at e;unfold bV;by_cases hk:(kind==aI.cell)=true
  ·rw[Tr hk] at e ⊢;have j9:kind = .cell:=by simpa using hk
   have sz:(h.push {cls:=.type "cell",data:=.cell none}).objs.size=h.objs.size+1:=am.size_push ..;rw[<-sz] at e;rcases L3 r _ _ x c e with ⟨a1,a2,a3⟩ | a
   ·exact .inl ⟨by lia,Op _ a2,a3⟩
   ·rw[P0] at a;cases hx:x==name with
    | true=>
     rw[hx] at a;cases a;have:x=name:=by simpa using hx
     subst this;refine .inl ⟨Oi _,by rw[j9];exact Ov,?_⟩;exact⟨_,dt r _ _ _ (am.get?_push_size _ rfl),rfl⟩
    | false=>rw[hx] at a;exact .inr a
  ·rw[Tq hk] at e ⊢;rcases L3 r h acc x c e with ⟨a1,a2,a3⟩ | a
   ·exact .inl ⟨a1,Op _ a2,a3⟩
   ·exact .inr a
theorem L4:∀(names:List (ao×aI)) (n:Nat) (acc:List (ao×ae)),(∀x y c,acc.lookup x=some c->acc.lookup y=some c->x=y)->(∀x c,acc.lookup x=some c->c<n) ->
  ∀x y c,(bL n names acc).lookup x=some c->(bL n names acc).lookup y=some c->x=y
 | [],_,_,h,_=>h
 | (name,kind)::r,n,acc,h,hb=>by
  unfold bL;by_cases hk:(kind==aI.cell)=true
  ·rw[Tr hk];refine L4 r (n+1) _ (λx y c e1 e2=>?_) (λx c e=>?_)
   ·rw[P0] at e1 e2;cases hx:x==name with
    | true=>
     cases hy:y==name with
     | true=>rw[beq_iff_eq.mp hx,beq_iff_eq.mp hy]
     | false=>
      rw[hx] at e1;rw[hy] at e2;cases e1;exact absurd (hb y _ e2) (P1 _)
    | false=>
     cases hy:y==name with
     | true=>
      rw[hx] at e1;rw[hy] at e2;cases e2;exact absurd (hb x _ e1) (P1 _)
     | false=>rw[hx] at e1;rw[hy] at e2;exact h x y c e1 e2
   ·rw[P0] at e;cases hx:x==name with
    | true=>rw[hx] at e;cases e;exact Nat.lt_succ_self _
    | false=>rw[hx] at e;exact Py (hb x c e)
  ·rw[Tq hk];exact L4 r n acc h hb
theorem L5   : ∀names cs,(Cf env names cs).lookup x=some c->cs.lookup x=some c\/(x,aI.free)∈names
 | [],cs,h=>.inl h
 | (n,k)::r,cs,h=>by
  unfold Cf at h;split at h
  ·rename_i hk;have j9:k = .free:=by simpa using hk
   rcases L5 r _ h with q | q
   ·rw[P0] at q;cases hx:x==n with
    | true=>
     have:x=n:=by simpa using hx
     subst this;exact .inr (by rw[j9];exact Ov)
    | false=>rw[hx] at q;exact .inl q
   ·exact .inr (Op _ q)
  ·rcases L5 r _ h with q | q
   ·exact .inl q
   ·exact .inr (Op _ q)
def Xiv          (h:Q (newEnv scope s.heap.objs.size globals (bL (s.heap.objs.size+1) scope.names lM) qual none .none (some outer) cU) {s with heap:=bV (s.heap.push {cls:=.type "dict",data:=.dict #[]}) scope.names}):
  ai M A (gu scope globals lM [] qual none .none (some outer)) Q E s:=by
 simp only[gu,Sw,if_true];refine Tj (jY ?_);refine Tj (wpAny_layCells _ (λname kind cells=>by cases BD:kind==aI.cell<;>simp[BD]) _ _ _ _ ?_);rw[show ({s with heap:=s.heap.push {cls:=.type "dict",data:=.dict #[]} }:af).heap.objs.size=s.heap.objs.size+1 from am.size_push ..];refine Tj ?_;rw[Sg];exact Tk (Tk h)
def G8 (X:Cx) (scope:bI) (s0:af):List (ao×ae):=bL (s0.heap.objs.size+1) scope.names (Cf X.env scope.names [])
def Cx.comp (X:Cx) (N:Za) (scope:bI) (s0:af) (H0:Hp) (ex:List ae):Cx where
 prog:=X.prog
 w:=X.w
 K:=X.K
 mg:=X.mg
 base:=X.base
 A:=X.A
 N:=N
 s₀:=s0
 H₀:=H0
 env:=rh scope (G8 X scope s0) s0.heap.objs.size X.env
 outer:=X.stack
 stack:=X.stack
 ex:=ex
 fn:=λx=>decide (scope.names.lookup x=some .cell)
 calm:=X.calm
 pn:=[]
 xe:=λ_ _=>False
def Ca (cap:List (Option Nat)) (Z:St):St:=cap.map λo=>o.bind λj=>(Z[j]?).join
structure CompScope (X:Cx) (N:Za) (cap:List (Option Nat)) (scope:bI):Prop where
 kind:scope.kind = .function
 uniq:∀y∈scope.names,scope.names.lookup y.1=some y.2
 free:∀y∈scope.names,y.2 = .free->X.env.kindOf y.1=some .cell\/X.env.kindOf y.1=some .free
 len:cap.length=N.length
 cap:∀(i:Nat) (x:ao) (j:Nat),N[i]? = some x->cap[i]? = some (some j)->X.N[j]? = some x/\scope.names.lookup x=some .free
def PIfs (X:Cx) (c7:List aF) (t:TT):Prop:=
 ∀pins s Z H (Q:Bool->Hp->Prop),Inv X pins Z H s->t Z H Q ->
  ai (ah X.prog X.w) X.A (forIn c7 true fun c r => if r = true then do        let ok <- isTrue c X.env (eval c X.env); pure (ForInStep.yield ok) else pure (ForInStep.yield r)) (TP X pins Z Q) X.xe s
def E8:TT:=λ_ H Q=>Q true H
def D9:PIfs X [] E8:=λ_ _ _ H _ I h=>wpAny_tests_nil ⟨H,I,h⟩
def Ea   (h:PT X c t):PIfs X [c] t:=λpins s Z H Q I hw=>wpAny_tests_one (h pins s Z H Q I hw)
def F6 (cap:List (Option Nat)) (g:TG) (tt:TT) (te:TE) (J:It) (Z:St) (H1:Hp) (F:ae->Hp->Prop):Prop:=
 ∀D,H1 D=none->∃W:Nat->Nat->St->Hp->Prop,(∃m,W 0 m (Ca cap Z) (upd H1 D (.lst [])))/\∀i m Z1 H2,W i m Z1 H2 ->
  (J.stop i H2/\F D H2)\/(J.go i H2/\∀x H3,J.yld i H2 x H3->g x Z1 H3 fun Z2 H4=>tt Z2 H4 λb H5=>
   if b=true then te Z2 H5 λy H6=>∃ys,H6 D=some (.lst ys)/\ys.length<sizeLine/\∃m',m'<m/\W (i+1) m' Z2 (upd H6 D (.lst (ys++[y])))
   else ∃m',m'<m/\W (i+1) m' Z2 H5)
theorem Xbv{env:dz}{x:ao}:∀{names:List (ao×aI)} {k:aI},names.lookup x=some k ->
  (names.map λ(n,k)=>if (k==aI.free&&env.scope.kind == .function&&env.kindOf n==some .cell) then (n,aI.cell) else (n,k)).lookup x=some (if (k==aI.free&&env.scope.kind == .function&&env.kindOf x==some .cell) then aI.cell else k)
 | [],_,h=>by simp at h
 | (n,q)::r,k,h=>by
  have ih := @Xbv env x r k;show List.lookup x ((if (q==aI.free&&env.scope.kind == .function&&env.kindOf n==some .cell)=true then (n,aI.cell) else (n,q))::_)=_;rw[P0] at h;cases hx:x==n with
  | true=>
   rw[hx] at h;cases h;have:x=n:=by simpa using hx
   subst this;by_cases hc:(q==aI.free&&env.scope.kind == .function&&env.kindOf x==some .cell)=true
   ·rw[Tr hc,Tr hc,P0,hx]
   ·rw[Tq hc,Tq hc,P0,hx]
  | false=>
   rw[hx] at h;by_cases hc:(q==aI.free&&env.scope.kind == .function&&env.kindOf n==some .cell)=true
   ·rw[Tr hc,P0,hx];exact ih h
   ·rw[Tq hc,P0,hx];exact ih h
section
variable {X:Cx}{N:Za}{cap:List (Option Nat)}{scope:bI}{pins:List (ae×aM)}{Z:St}{H H':Hp}{s s':af}{fp:List ae}
def L6(C:CompScope X N cap scope)(ok:X.Ok):∀x∈scope.names,x.2 = .free->∃c,X.env.cells.lookup x.1=some c:=λx hx hf=>ok.has x.1 (C.free x hx hf)
def Jl(C:CompScope X N cap scope)(ok:X.Ok)  (h:(Cf X.env scope.names []).lookup x=some c):X.env.cells.lookup x=some c:=by
 rcases L0 scope.names [] (L6 C ok) h with q | q
 ·simp at q
 ·exact q
def Xbw(C:CompScope X N cap scope)(ok:X.Ok)(h:scope.names.lookup x=some .free):∃c,(Cf X.env scope.names []).lookup x=some c:=
 Qx.mp (L1 scope.names [] (.inr (PySem.mem_of_lookup h)))
def Xbx(C:CompScope X N cap scope)(ok:X.Ok)  (hz:h.objs.size=s.heap.objs.size+1)  (e:(G8 X scope s).lookup x=some c):
  (s.heap.objs.size<c/\scope.names.lookup x=some .cell/\(bV h scope.names).IsCell c none)\/(scope.names.lookup x=some .free/\X.env.cells.lookup x=some c):=by
 unfold G8 at e;rw[<-hz] at e;rcases L3 scope.names h _ x c e with ⟨a1,a2,a3⟩ | a
 ·exact .inl ⟨by lia,C.uniq _ a2,a3⟩
 ·refine .inr ⟨?_,Jl C ok a⟩;rcases L5 scope.names [] a with q | q
  ·simp at q
  ·exact C.uniq _ q
def Xiw(C:CompScope X N cap scope)(I:Inv X pins Z H s)(hf:∀b∈fp,FpOk X pins H b)(uf:∀b∈fp,b<s.heap.objs.size){tk}:
  Inv (X.comp N scope s H fp) [] (Ca cap Z) H {s with heap:=bV (s.heap.push {cls:=.type "dict",data:=.dict #[]}) scope.names,toks:=tk}:=by
 have hC:H s.heap.objs.size=none:=I.hok.fresh (Oi _);have hz:(s.heap.push {cls:=.type "dict",data:=.dict #[]}).objs.size=s.heap.objs.size+1:=am.size_push ..;have lN:(bV (s.heap.push {cls:=.type "dict",data:=.dict #[]}) scope.names).Ns s.heap.objs.size λ_=>none:=(am.Ns.new s.heap (.type "dict")).keeps (dt _ _);have hk:∀b o,s.heap.get? b=some o->(bV (s.heap.push {cls:=.type "dict",data:=.dict #[]}) scope.names).get? b=some o:=λb o e=>dt _ _ b o (Tz _ e);have look:∀{x c},(X.comp N scope s H fp).env.cells.lookup x=some c->_:=λ{x c} h=>Xbx (s:=s) C I.ok hz h;have BE:∀x c,X.env.cells.lookup x=some c->c<s.heap.objs.size:=λx c h=>by
  obtain⟨v,q⟩:=I.cell x c h;exact q.lt
 have kind:∀x k,(relabel scope X.env).names.lookup x=some k->k = .cell\/k = .free->scope.names.lookup x=some .cell\/scope.names.lookup x=some .free:=λx k e hk=>by
  obtain⟨k0,e0,z⟩:=Xbu e;rcases z with z | z
  ·rw[<-z] at e0;rcases hk with q | q
   ·rw[q] at e0;exact .inl e0
   ·rw[q] at e0;exact .inr e0
  ·rw[z] at e0;exact .inr e0
 refine⟨⟨I.ok.mod,C.kind,I.ok.glob,I.ok.blt,Oi _,?inj,λx hx=>?has,λx c h e=>?cab,I.ok.hd,I.ok.frames,.inl rfl,λb hb=>⟨Os (uf b hb),λx c h=>?exf⟩,
   I.bs,Pm I.ok.bsz I.sz,λb o e hb=>?noex,λb hb hs=>?exfs,I.stack,I.stkFree⟩,
  rfl,I.bare,Un.kept hk,⟨_,lN,λi x v BF h2 h3=>?loc⟩,λx c h=>?cell,hC,λx c h=>?freeC,λp hp=>absurd (show p∈([]:List (ae×aM)) from hp) (by simp),I.hok.kept hk,?len⟩
 case inj=>
  refine L4 scope.names _ _ (λx y c e1 e2=>I.ok.inj x y c (Jl C I.ok e1) (Jl C I.ok e2)) λx c e=>Py (BE x c (Jl C I.ok e))
 case has=>
  have jg:(relabel scope X.env).names.lookup x=some .cell\/(relabel scope X.env).names.lookup x=some .free:=hx;refine Qx.mp (MG scope.names _ _ ?_);rcases (jg.elim (λq=>kind x _ q (.inl rfl)) λq=>kind x _ q (.inr rfl)) with q | q
  ·exact .inl q
  ·obtain⟨c,hc⟩:=Xbw C I.ok q;exact .inr (by rw[hc];rfl)
 case cab=>
  have h:scope.names.lookup x=some .cell:=Tv h;rcases look e with ⟨a,_⟩ | ⟨a,_⟩
  ·exact Ru a
  ·rw[h] at a;cases a
 case exf=>
  rcases look h with ⟨a,_⟩ | ⟨_,a⟩
  ·exact λz=>P1 _ (Qv a (by rw[z];exact uf b hb))
  ·exact(hf b hb).2.2.2.2.1 x c a
 case noex=>
  obtain⟨_,_,_,z,_⟩:=hf b hb;rcases z with z | z
  ·exact I.ok.noex b o e z
  ·exact absurd (O7 (Tx e) (Pm I.ok.bsz z)) (P1 _)
 case exfs=>
  obtain⟨_,f1,f2,_⟩:=hf b hb;rcases Ox.mp (I.stkSub b hs) with e | e
  ·exact f1 e
  ·exact f2 e
 case loc=>
  have iw:(cap.map λo=>o.bind λj=>(Z[j]?).join)[i]? = some (some v):=h2;rw[O2] at iw;cases hc:cap[i]? with
  | none=>rw[hc] at iw;cases iw
  | some o=>
   rw[hc] at iw;cases o with
   | none=>cases iw
   | some j=>
    have lO:(Z[j]?).join=some v:=O4 iw;have hZ : Z[j]? = some (some v):=by
     cases hj : Z[j]? with
     | none=>rw[hj] at lO;cases lO
     | some o=>rw[hj] at lO;exact congrArg some lO
    obtain⟨hN,jA⟩:=C.cap i x j BF hc;obtain⟨m,hn,hl⟩:=I.loc;have fD:X.env.kindOf x=some .cell\/X.env.kindOf x=some .free:=C.free (x,.free) (PySem.mem_of_lookup jA) rfl;obtain⟨u,r,l⟩:=hl j x v hN hZ (by rcases fD with q | q;exact .inr (.inl q);exact .inr (.inr q));refine⟨u,r,.inr ⟨?_,?_⟩⟩
    ·show (relabel scope X.env).names.lookup x=some .cell\/(relabel scope X.env).names.lookup x=some .free;have:=Xbv (env:=X.env) jA;have e:(relabel scope X.env).names.lookup x=_:=this;rw[e];split
     ·exact .inl rfl
     ·exact .inr rfl
    ·obtain⟨c,fM⟩:=Xbw C I.ok jA;obtain⟨c2,gp⟩:=Qx.mp (MG scope.names (s.heap.objs.size+1) (Cf X.env scope.names []) (x:=x) (.inr (by rw[fM];rfl)));rcases look (x:=x) (c:=c2) gp with ⟨_,a,_⟩ | ⟨_,a⟩
     ·rw[jA] at a;cases a
     ·rcases l with ⟨k,_⟩ | ⟨_,c',e,z⟩
      ·rcases fD with q | q
       ·rw[k] at q;cases q
       ·rw[k] at q;cases q
      ·rw[a] at e;cases e;obtain⟨o,ho,hd⟩:=z;exact⟨c2,gp,o,hk c2 o ho,hd⟩
 case cell=>
  rcases look h with ⟨_,_,a⟩ | ⟨_,a⟩
  ·exact⟨none,a⟩
  ·obtain⟨v,o,ho,hd⟩:=I.cell x c a;exact⟨v,o,hk c o ho,hd⟩
 case freeC=>
  rcases look h with ⟨a,_⟩ | ⟨_,a⟩
  ·exact I.hok.fresh (Ru a)
  ·exact I.freeC x c a
 case len=>
  show (cap.map _).length=N.length;rw[Oh,C.len]
end
def Xix (cap:List (Option Nat)) (wi:TI) (g:TG) (tt:TT) (te:TE):TE:=fun Z H Q=>wi Z H λJ H1=>F6 cap g tt te J Z H1 λD H2=>Q (.ref D) H2
def Xiy (i:Nat) (cap:List (Option Nat)) (wi:TI) (g:TG) (tt:TT) (te:TE):TS:=λD Z H=>wi Z H λJ H1=>F6 cap g tt te J Z H1 λl H2=>D.nx (Z.set i (some (.ref l))) H2
def A3.there      (x:A3 P w H h a o):∃u,h.get? a=some u:=by
 cases o with
 | lst xs=>obtain⟨_,_,_,_,e⟩:=x;exact⟨_,e⟩
 | tup xs=>obtain⟨_,_,_,o,e,_⟩:=x;exact⟨_,e⟩
 | dK kvs=>obtain⟨_,_,_,_,o,_,_,e,_⟩:=x;exact⟨_,e⟩
 | dT kvs=>obtain⟨_,_,_,_,o,_,_,e,_⟩:=x;exact⟨_,e⟩
 | set S n=>obtain⟨o,_,_,_,e,_⟩:=x;exact⟨_,e⟩
 | ins C dx fs=>obtain⟨_,_,_,e,_⟩:=x;exact⟨_,e⟩
 | own y=>exact x
 | xd fs=>obtain⟨_,⟨_,_,_,e,_⟩,_⟩:=x;exact⟨_,e⟩
 | rng lo hi=>obtain⟨_,_,_,e⟩:=x;exact⟨_,e⟩
 | frz ob u=>obtain⟨e,_⟩:=x;exact⟨_,e⟩
 | tbl ps=>exact⟨_,(show h.get? a=some _ from x)⟩
 | met f y=>exact⟨_,(show h.get? a=some _ from x)⟩
 | ext φ=>obtain⟨_,e,_⟩:=x;exact e
structure Flown (P:ap) (w:ax) (outer:List dz) (H:Hp) (hc:am) (H':Hp) (ex C:ae) (B:am) (a0:aa) (h:am):Prop where
 un:Un (frs outer) [] H H' hc h
 hok:HOk P w H' h
 fly:am.FlyingW B outer ex (.ref C) a0 h
 inB:∀b o,h.get? b=some o->b∉frs outer->((∃o',hc.get? b=some o')\/H' b≠none)->B.get? b=some o
 frf:∀b∈frs outer,H' b=none
def Flown.move       (F:Flown P w outer H hc H' ex C B a0 h) (st:B.StaysIn h') (up:h.UpToSlots h'):
  Un (frs outer) [] H H' hc h'/\HOk P w H' h'/\∀b o,h'.get? b=some o->b∉frs outer->((∃o',hc.get? b=some o')\/H' b≠none)->B.get? b=some o:=by
 have nf:∀b∈frs outer,∀o,h.get? b=some o->∀vs,o.data ≠ .fields vs:=λb hb o e=>by
  obtain⟨_,o',e',d⟩:=F.fly.2.2.1.mem hb;rw[e] at e';cases e';exact d
 have tr:∀b o,H' b=some o->b∉frs outer:=λb o e hb=>by rw[F.frf b hb] at e;cases e
 have iz:∀b,(∃o',hc.get? b=some o')\/H' b≠none->∃o,h.get? b=some o:=λb hb=>by
  rcases hb with ⟨o',e⟩ | hb
  ·obtain⟨o,e'⟩:=F.un.there b o' e (by simp);exact⟨o,e'⟩
  ·cases q:H' b with
   | none=>exact absurd q hb
   | some u=>exact(F.hok b u q).there
 refine⟨⟨λb o e n hb hx=>?_,λb o e n hb hx=>?_,F.un.free,λb o e hx=>?_,F.un.tups,F.un.frzs,F.un.tbls⟩,λa o e=>?_,λb o e hb hw=>?_⟩
 ·exact st b o (F.inB b o (F.un.keep b o e n hb hx) hb (.inl ⟨o,e⟩))
 ·obtain⟨sl,e1⟩:=F.un.slot b o e n hb hx;obtain⟨iM,e2⟩:=up b _ e1 (nf b hb _ e1);exact⟨iM,e2⟩
 ·obtain⟨o1,e1⟩:=F.un.there b o e hx;by_cases hb:b∈frs outer
  ·obtain⟨iM,e2⟩:=up b _ e1 (nf b hb _ e1);exact⟨_,e2⟩
  ·exact⟨o1,st b o1 (F.inB b o1 e1 hb (.inl ⟨o,e⟩))⟩
 ·refine(F.hok a o e).stay (λb u hb q=>?_) (λ_ q=>q) λ_ _ q=>q;have hn:H' b≠none:=by
   rcases hb with z | z
   ·rw[z,e];simp
   ·rw[z];simp
  have dL:b∉frs outer:=λz=>hn (F.frf b z);exact st b u (F.inB b u q dL (.inr hn))
 ·obtain⟨o1,e1⟩:=iz b hw;have e2:=F.inB b o1 e1 hb hw;have e3:=st b o1 e2;rw[e] at e3;cases e3;exact e2
def CX1 (P:ap) (w:ax):CXT:=λouter H s E e s'=>
 ∃ex C H' B a0,e = .ref ex/\s'.os=s.os/\cA s'.gens/\Flown P w outer H s.heap H' ex C B a0 s'.heap/\E (.ref C) none H'
section
variable {P:ap}{w:ax}{K:LY}{mg:ao->Option aa}{base:am}{N:Za}{qual:ao}{scope:bI}{f:ae}{cd:aa}{A:av}{outer:List dz}{s:af}{H:Hp}{E:XK}
def Leaves (X:Cx) (E:XK):Prop:=∀(pins:List (ae×aM)) (Z:St) (H:Hp) (s:af) (h':am) (ex C:ae) (args:List aa),
 Inv X pins Z H s->am.MadeExcOf s.heap h' ex (.ref C) args->E (.ref C) none H->X.xe (.ref ex) {s with heap:=h'}
def leaves1:Leaves (Ck (CX1 P w) P w K mg base N qual scope f cd A outer s H E) E:=by
 intro pins Z H1 s1 h' ex C args I hm hE;show ai (ah P w) (A.deeper (aO qual scope s.heap.objs.size f cd)) (leaving (aO qual scope s.heap.objs.size f cd) (.ref ex)) _ _ {s1 with heap:=h'};have bK:(Ck (CX1 P w) P w K mg base N qual scope f cd A outer s H E).stack=aO qual scope s.heap.objs.size f cd::outer:=rfl;have dy:∀env∈(aO qual scope s.heap.objs.size f cd::outer),∀b,env.frame=some b->b∈frs (aO qual scope s.heap.objs.size f cd::outer):=λenv he b hb=>Su.mpr ⟨env,he,hb⟩;have rj:s1.heap.FunFrames base (aO qual scope s.heap.objs.size f cd::outer):=I.stack;have hB:(No s1.heap (frs (aO qual scope s.heap.objs.size f cd::outer))).StaysIn s1.heap:=λb o q=>NA _ q;have lP:∀b o,s1.heap.get? b=some o->b∉frs (aO qual scope s.heap.objs.size f cd::outer)->(No s1.heap (frs (aO qual scope s.heap.objs.size f cd::outer))).get? b=some o:=λb o e n=>MY _ e n;have sub:∀b,b∈frs (aO qual scope s.heap.objs.size f cd::outer)->b=s.heap.objs.size\/b∈frs outer:=λb hb=>Ox.mp (I.stkSub b hb);have rl:∀b,b∈frs outer->b∈frs (aO qual scope s.heap.objs.size f cd::outer):=λb hb=>by
  unfold frs at hb ⊢;rw[Qj];split
  ·exact hb
  ·exact Op _ hb
 have i4:∀b,b∈frs (aO qual scope s.heap.objs.size f cd::outer)->H1 b=none:=λb hb=>I.stkFree b hb;refine wpAny_leaves_madeW (A:=A.deeper (aO qual scope s.heap.objs.size f cd)) (L:=s.heap.objs.size) I.ok.frames rfl hB (PySem.W.funFrames_hide rj dy) hm λBG t f1 _ _ up=>?_;have iz:∀b o,s.heap.get? b=some o->b∉frs outer->b∉frs (aO qual scope s.heap.objs.size f cd::outer):=λb o e nb hb=>by
  rcases sub b hb with z | z
  ·exact absurd (Tx e) (by rw[z];exact P1 _)
  ·exact nb z
 have nf:∀b∈frs (aO qual scope s.heap.objs.size f cd::outer),∀o,s1.heap.get? b=some o->∀vs,o.data ≠ .fields vs:=λb hb o e=>by
  obtain⟨_,o',e',d⟩:=rj.mem hb;rw[e] at e';cases e';exact d
 refine⟨ex,C,H1,_,_,rfl,I.os,I.bare,⟨⟨λb o e n hb hx=>?_,λb o e n hb hx=>?_,I.base.free,λb o e hx=>?_,I.base.tups,I.base.frzs,I.base.tbls⟩,λa o e=>?_,f1,λb o e hb hw=>?_,λb hb=>i4 b (rl b hb)⟩,hE⟩
 ·exact f1.1 b o (lP b o (I.base.keep b o e n hb hx) (iz b o e hb))
 ·obtain⟨sl,e1⟩:=I.base.slot b o e n hb hx;obtain⟨iM,e2⟩:=up b _ (hm.keeps _ _ e1) (nf b (rl b hb) _ e1);exact⟨iM,e2⟩
 ·obtain⟨o1,e1⟩:=I.base.there b o e hx;by_cases hb:b∈frs (aO qual scope s.heap.objs.size f cd::outer)
  ·obtain⟨iM,e2⟩:=up b _ (hm.keeps _ _ e1) (nf b hb _ e1);exact⟨_,e2⟩
  ·exact⟨o1,f1.1 b o1 (lP b o1 e1 hb)⟩
 ·refine(I.hok a o e).stay (λb u hb q=>?_) (λ_ q=>q) λ_ _ q=>q;have hn:H1 b≠none:=by
   rcases hb with z | z
   ·rw[z,e];simp
   ·rw[z];simp
  exact f1.1 b u (lP b u q λz=>hn (i4 b z))
 ·have:∃o1,s1.heap.get? b=some o1/\b∉frs (aO qual scope s.heap.objs.size f cd::outer):=by
   rcases hw with ⟨o',e'⟩ | hw
   ·obtain⟨o1,e1⟩:=I.base.there b o' e' (λz=>absurd (show b∈([]:List ae) from z) (by simp));exact⟨o1,e1,iz b o' e' hb⟩
   ·cases q:H1 b with
    | none=>exact absurd q hw
    | some u=>
     obtain⟨o1,e1⟩:=(I.hok b u q).there;exact⟨o1,e1,λz=>hw (i4 b z)⟩
  obtain⟨o1,e1,nb⟩:=this;have e2:=lP b o1 e1 nb;have e3:=f1.1 b o1 e2;rw[e] at e3;cases e3;exact e2
def pass1:Passes (CX1 P w) (Ck (CX1 P w) P w K mg base N qual scope f cd A outer s H E) E:=by
 intro pins Z H1 s1 e s' I h;obtain⟨ex,C,H',B,a0,rfl,fE,jZ,F,hE⟩:=h;show ai (ah P w) (A.deeper (aO qual scope s.heap.objs.size f cd)) (leaving (aO qual scope s.heap.objs.size f cd) (.ref ex)) _ _ s';have sub:∀b,b∈frs (aO qual scope s.heap.objs.size f cd::outer)->b=s.heap.objs.size\/b∈frs outer:=λb hb=>Ox.mp (I.stkSub b hb);have rl:∀b,b∈frs outer->b∈frs (aO qual scope s.heap.objs.size f cd::outer):=λb hb=>by
  unfold frs at hb ⊢;rw[Qj];split
  ·exact hb
  ·exact Op _ hb
 have iz:∀b o,s.heap.get? b=some o->b∉frs outer->b∉frs (aO qual scope s.heap.objs.size f cd::outer):=λb o e nb hb=>by
  rcases sub b hb with z | z
  ·exact absurd (Tx e) (by rw[z];exact P1 _)
  ·exact nb z
 have F':Flown P w (aO qual scope s.heap.objs.size f cd::outer) H1 s1.heap H' ex C B a0 s'.heap:=F;refine wpAny_leaves_onW (A:=A.deeper (aO qual scope s.heap.objs.size f cd)) (L:=s.heap.objs.size) I.ok.frames rfl F'.fly λBG f1 up=>?_;obtain⟨un,hok,inB⟩:=F'.move f1.1 up;refine⟨ex,C,H',B,a0,rfl,fE.trans I.os,jZ,⟨?_,hok,f1,λb o e hb hw=>?_,λb hb=>F'.frf b (rl b hb)⟩,hE⟩
 ·have lj:Un (frs outer) [] H H1 s.heap s1.heap:=I.base;refine⟨λb o e n hb hx=>?_,λb o e n hb hx=>?_,λb o e n hx=>?_,λb o e hx=>?_,λb xs e=>un.tups b xs (lj.tups b xs e),λb ob u e=>un.frzs b ob u (lj.frzs b ob u e),λb ps e=>?_⟩
  ·exact un.keep b o (lj.keep b o e n hb hx) (lj.free b o e n hx) (iz b o e hb) hx
  ·obtain⟨sl,e1⟩:=lj.slot b o e n hb hx;obtain⟨iM,e2⟩:=un.slot b _ e1 (lj.free b o e n hx) (rl b hb) hx;exact⟨iM,e2⟩
  ·obtain⟨o1,e1⟩:=lj.there b o e hx;exact un.free b o1 e1 (lj.free b o e n hx) hx
  ·obtain⟨o1,e1⟩:=lj.there b o e hx;exact un.there b o1 e1 hx
  ·obtain⟨m1,e1⟩:=lj.tbls b ps e;obtain⟨m2,e2⟩:=un.tbls b _ e1;exact⟨m1++m2,by rw[e2,Array.append_assoc]⟩
 ·refine inB b o e ?_ ?_
  ·rcases hw with ⟨o',e'⟩ | hw
   ·exact iz b o' e' hb
   ·intro z;exact hw (F'.frf b z)
  ·rcases hw with ⟨o',e'⟩ | hw
   ·obtain⟨o1,e1⟩:=(show Un (frs outer) [] H H1 s.heap s1.heap from I.base).there b o' e' (by simp);exact .inl ⟨o1,e1⟩
   ·exact .inr hw
end
abbrev bmV:List aa:=[.type "ValueError",.type "Exception",.type "BaseException",.type "object"]
def Xiz{K}  {C}  (X:K.In h)(q:MR K C vf iV=true):
  ∃bm N nm q bs hdct sn sub ab col dd k0 k1 k2 k3 k5 mN,h.get? C=some (excClassObj nm q C N bs bm hdct sn sub ab col dd k0 k1 k2 k3 k5 iV)/\h.Ns N mN/\mN "__init__" = none/\OwnTail h vf bm:=by
 unfold MR at q;split at q
 ·rename_i dd cd sl ho;split at q
  ·rename_i C' bm k0 k1 k2 k3 n k5 hm hs;simp only[Oz,beq_iff_eq,S8] at q;obtain⟨⟨⟨⟨⟨rfl,rfl⟩,rm⟩,ht⟩,hok⟩,ug⟩:=q;obtain⟨nm,bs,mro,ns,qn,hd,sn,sub,ab,col,JR⟩:=cd;dsimp only at hm rm hok ug;subst hm rm;have lQ:sl = #[k0,k1,k2,k3,some (.builtin n),k5]:=by
    obtain⟨l⟩:=sl;simp only at hs;rw[hs]
   subst lQ;exact⟨bm,ns,nm,qn,bs,hd,sn,sub,ab,col,dd,k0,k1,k2,k3,k5,_,X _ _ ho,.of_isNs (PySem.W.isNs_of_in X hok),PySem.W.nsMap_none_of_in X hok ug,PySem.W.tail_of_in X ht⟩
  ·cases q
 ·cases q
def Xi0 (C:ae) (E:XK) (t:TA):TS:=λ_ Z H=>t Z H λvs H1=>vs.length<=sizeLine/\E (.ref C) none H1
def Xby  {C:ae} {E:XK}     (hc:MR X.K C bmV "ValueError.__new__" = true) (bA:X.calm=true) (hx:Leaves X E) (hg:Gl X x) (hm:X.mg x=some (.ref C))
  (ha:PA X (e::es) t) (gl:(x==("__debug__" : ao))=false:=by decide) (he:aB (e::es) X.env=(false,eval e X.env)::aB es X.env:=by rfl) (bS:(bC ci (aB es X.env)).any (·.1)=false:=by rfl):
  PS X (.Raise (some (.Call (.Name x np) (e::es) [] ci)) none pos) (Xi0 C E t):=by
 intro pins s Z H D I h;obtain⟨tl,N,nm,q,bs,hdct,sn,sub,ab,col,dd,k0,k1,k2,k3,k5,mN,hC,hN,ug,T⟩:=Xiz I.mod.kin hc;refine wpAny_Raise_call_subT (C:=C) (nm:=nm) (q:=q) (N:=N) (bs:=bs) (bm:=tl) (hdct:=hdct) (sn:=sn) (sub:=sub) (ab:=ab) (col:=col) (dd:=dd) (k0:=k0) (k1:=k1) (k2:=k2) (k3:=k3) (k5:=k5)
  PySem.F.excBase_ValueError (mN:=mN) (T.hasType PySem.F.excBase_ValueError.hasBase) (I.ok.hd bA) (by rw[he];show (false||(bC ci (aB es X.env)).any (·.1))=false;rw[bS];rfl) ug (Iy I hg hm ⟨rfl,?_⟩ gl)
 have hh:=thn (ha ci pins s Z H _ I h) (Q':=λvs s₂=>vs.length<=sizeLine/\(∀b o,X.base.get? b=some o->s₂.heap.get? b=some o)/\∀h' e,am.MadeExcOf s₂.heap h' e (.ref C) vs->X.xe (.ref e) {s₂ with heap:=h'})
  (λus s2 ⟨vs,H2,I2,r2,hl,hE⟩=>⟨by rw[<-r2.length];exact hl,I2.bk,λh' ex BH=>hx pins Z H2 s2 h' ex C us I2 BH hE⟩)
 rw[he] at hh ⊢;exact Calls.evalArgs_plain (aJ hh (λvs s₂ h₂=>⟨rfl,h₂.1,h₂.2.1 _ _ hC,hN.keeps h₂.2.1,T.keeps h₂.2.1,h₂.2.2⟩) λ_ _ y=>y)
def Fun.ok1   {K}    {st}     (F:Fun K x qual st f fd) (S:FnScope N ps (defScope st)) (len:∀vs H Q E,sp vs H Q E->vs.length=ps.length)
  (eK:∀(cdv:aa) (A:av) (outer:List dz) (s:af) (H:Hp) (vs:List V) (Q:VK) (E:XK),Room k (A.deeper (aO qual (defScope st) s.heap.objs.size f cdv))->sp vs H Q E ->
   ∃t,PSs (Ck (CX1 P w) P w K mg base N qual (defScope st) f cdv A outer s H E) (Co st) t/\t {nx:=λ_ H'=>Q .non H',rt:=Q} (start N vs) H):FnOk P w K mg base (CX1 P w) (k+1) f fd ps sp:=by
 obtain⟨oc,od,kV,dq,pm,an,cdv,ct,iT,rfl,lk,gX⟩:=F.ex;exact Lm lk gX S len λA outer s H vs Q E hr gZ=>eK cdv A outer s H vs Q E hr gZ
abbrev Cx.re (X:Cx) (pn:List (ae×aM)) (A:av) (c:Bool) (E:Zb):Cx:={X with pn:=pn,A:=A,calm:=c,xe:=E}
section
variable {X:Cx}{pins pins' pn:List (ae×aM)}{Z:St}{H:Hp}{s:af}{A:av}{c:Bool}{E:Zb}
def Inv.as(I:Inv X pins Z H s)(hd:c=true->A.handled=none)(hf:A.frames=some X.stack)(hp:∀p∈pn++pins',p∈X.pn++pins):Inv (X.re pn A c E) pins' Z H s:=
 ⟨⟨I.ok.mod,I.ok.kind,I.ok.glob,I.ok.blt,I.ok.above,I.ok.inj,I.ok.has,I.ok.cab,hd,hf,I.ok.stk,I.ok.exf,I.ok.bs,I.ok.bsz,I.ok.noex,I.ok.exfs,I.ok.funs,I.ok.frf⟩,
  I.os,I.bare,I.base,I.loc,I.cell,I.free,I.freeC,λp lR=>I.pin p (hp p lR),I.hok,I.len⟩
def Inv.back(I:Inv (X.re pn A c E) pins' Z H s)(ok:X.Ok)(hp:∀p∈X.pn++pins,p∈pn++pins'):Inv X pins Z H s:=
 ⟨ok,I.os,I.bare,I.base,I.loc,I.cell,I.free,I.freeC,λp lR=>I.pin p (hp p lR),I.hok,I.len⟩
end
def excP (ex C:ae) (h:am):Prop:=∃o vs,h.get? ex=some o/\o.cls = .ref C/\o.data = .fields vs
def ExcO (ex C:ae):HO:=.ext (excP ex C)
def Cx.tryC (X:Cx) (pn:List (ae×aM)) (R:ae->St->Hp->Prop):Cx:=X.re pn X.A X.calm λe s1=>
 ∃Z Hc sc,Inv (X.re pn X.A X.calm λ_ _=>True) [] Z Hc sc/\CX1 X.prog X.w X.stack Hc sc (λc _ H1=>∃C,c = .ref C/\R C Z H1) e s1
def Cx.suite (X:Cx) (pn:List (ae×aM)) (ex:ae):Cx:=X.re pn (X.A.mark (some (.ref ex))) false λ_ _=>False
section
variable {X:Cx}{pn:List (ae×aM)}{R:ae->St->Hp->Prop}{k:Nat}{f:ae}{fd:aw}{ps:Za}{sp:Sp}{fC:List V}{ds:List aa}{x:ao}{p pos:bN}{e:aF}{es:List aF}{t:TA}
def Xi1 (sp:Sp) (fC:List V) (R:ae->St->Hp->Prop) (t:TA):TE:=fun Z H Q=>t Z H λvs H1=>sp (vs++fC) H1 Q λc _ H'=>∃C,c = .ref C/\R C Z H'
def Xi2(F:FnOk X.prog X.w X.K X.mg X.base (CX1 X.prog X.w) k f fd ps sp)(hr:Room k X.A)(hg:Gl X x)(hm:X.mg x=some (.ref f))(hk:ME X.K (.ref f)=true)(hb:Binds X.K fd ps ds)(hd:Vals fC ds)
  (ha:PA (X.tryC pn R) (e::es) t) (gl:(x==("__debug__" : ao))=false:=by decide) (he:aB (e::es) X.env=(false,eval e X.env)::aB es X.env:=by rfl) (bS:(bC pos (aB es X.env)).any (·.1)=false:=by rfl):
  PE (X.tryC pn R) (.Call (.Name x p) (e::es) [] pos) (Xi1 sp fC R t):=by
 intro pins s Z H Q I h;refine bH (Iy I (show Gl (X.tryC pn R) x from hg) hm ?_ gl);refine NB (h₀:=X.base) I.ok.mod.kin hk (thn (ha pos pins s Z H _ I h) λus s1 ⟨vs,H1,I1,r,q⟩=>⟨I1.kIn,?_⟩) he bS;have r2:Vals (vs++fC) (us++ds):=r.append hd;have hl:(us++ds).length=ps.length:=by rw[<-r2.length];exact F.len _ _ _ _ q
 refine dZ (br (F.run X.A X.stack s1 H1 ⟨us,[]⟩ (us++ds) (vs++fC) Q _ hr I1.env0 (hb s1 us I1.kIn hl) r2 q) λr s' hq=>?_);cases r with
 | error e=>exact⟨Z,H1,s1,(Inv.back (X:=X.re pn X.A X.calm λ_ _=>True) (pins:=[]) I1 (I1.as (X:=X.tryC pn R) (pins':=[]) (pn:=pn) (A:=X.A) (c:=X.calm) (E:=λ_ _=>True) I1.ok.hd I1.ok.frames (λp hp=>Ou.mpr (.inl (show p∈pn from by simpa using hp)))).ok (λp hp=>Ou.mpr (.inl (show p∈pn from by simpa using hp)))),hq⟩
 | ok fl=>
  cases fl with
  | ret u=>exact I1.after hq
  | next=>exact False.elim hq
  | brk=>exact False.elim hq
  | cont=>exact False.elim hq
end
section
variable {X:Cx}{pos np jh:bN}{body:List aP}{b0:aP}{suite:List aP}{n x:ao}{i:Nat}{Cc:ae}{tb:(ae->St->Hp->Prop)->TS}{th:TS}
def tTry (K:LY) (i:Nat) (Cc:ae) (tb:(ae->St->Hp->Prop)->TS) (th:TS):TS:=λD Z H=>∃R:ae->St->Hp->Prop,tb R D Z H/\∀C Z1 H1,R C Z1 H1->M' K (.ref C) (.ref Cc)=some true /\
 ∀ex,H1 ex=none->th {nx:=fun Z2 H2=>D.nx (Z2.set i none) H2,rt:=D.rt,bk:=fun Z2 H2=>D.bk (Z2.set i none) H2,ct:=fun Z2 H2=>D.ct (Z2.set i none) H2} (Z1.set i (some (.ref ex))) (upd H1 ex (ExcO ex C))
end
section
variable {X:Cx}{pos p2:bN}{e:aF}{te:TE}
def tRev (K:LY) (te:TE):TE:=fun Z H Q=>te Z H λx H1=>∃a xs,x = .ref a/\SqL K H1 a xs/\∀p,H1 p=none->Q (.ref p) (upd H1 p (.lst xs.reverse))
def Jm  (he:PE X e te):PE X (.Subscript e (.Slice none none (some (.UnaryOp .USub (.Constant (.int 1) k p3) p4)) p2) pos) (tRev X.K te):=by
 intro pins s Z H Q I h;refine el (thn (he pins s Z H _ I h) λv s1 ⟨x,H1,I1,r1,q1⟩=>?_);have kg:PE X (.UnaryOp .USub (.Constant (.int 1) k p3) p4) (tUn (rU λi=>.int (-i)) (tC (.int 1))):=Lb Ld Ag;refine jS ?_;rw[dX];refine Tk (Tk ?_);rw[io];refine thn (kg pins s1 Z H1 (λy H2=>y = .int (-1)/\H2=H1) I1 ⟨1,rfl,rfl,rfl⟩) λu s2 ⟨y,H2,I2,r2,ey,eH⟩=>?_;subst ey eH;obtain⟨t,rfl⟩:=r2;obtain⟨a,xs,ex,hx,q⟩:=q1;subst ex;cases r1;obtain⟨aA,r,ht,hz⟩:=I2.list hx;have I4:Inv X pins Z H2 {s2 with heap:=s2.heap.push {cls:=.type "slice",data:=.fields #[.none,.none,.int (-1) t]} }:=I2.kept (t':=s2.toks) λb ob q=>Tz _ q;obtain⟨vh,r4,lT,qf⟩:=I4.list hx;have aN:=r4.length;refine jT (ops:=[.ref a,.ref s2.heap.objs.size]) lT.isList.typeIs eN.lookup (ir lT.isList (am.IsSliceOf.new ..) .none .none (.int (-1) t) (by simp) ?_ (by rw[Ol]<;>lia)) (by with_unfolding_all rfl);rw[PySem.W.krv_pick];refine⟨.ref _,_,I4.laid (t':=s2.toks) (o:=.lst xs.reverse) (λb ob q=>Tz _ q) (Oi _) ?_,rfl,q _ (I4.hok.fresh (Oi _))⟩;exact⟨by rw[R0];exact qf,_,0,Vals.reverse r4,am.get?_push_size _ rfl⟩
def B3 (xs ys:List V):Bool:=(xs.length==ys.length)&&(List.range xs.length).all λj=>eqV (xs.getD j .non) (ys.getD j .non)
def L7:∀(xs ys:Za),B3 (xs.map V.str) (ys.map V.str)=decide (xs=ys):=by
 intro xs ys;unfold B3;rw[Oh,Oh];by_cases e:xs=ys
 ·subst e;simp only[beq_self_eq_true,Qc,decide_true];rw[Pg];intro j hj;have fj:j<xs.length:=P2.mp hj;simp[List.getD,fj,eqV]
 ·rw[Tu e];by_cases hl:xs.length=ys.length
  ·cases hb:((xs.length==ys.length)&&(List.range xs.length).all λj=>eqV ((xs.map V.str).getD j .non) ((ys.map V.str).getD j .non)) with
   | false=>rfl
   | true=>
    exfalso;refine e (Ra hl λj h1 h2=>?_);rw[Oz,Pg] at hb;have q:=hb.2 j (P2.mpr h1);simp[List.getD,h1,h2,eqV] at q;exact q
  ·have:(xs.length==ys.length)=false:=by simpa using hl
   rw[this,Qa]
def Xbz (K:LY) (g:Bool->Bool):R2:=λx y H Q=>∃a b xs ys,x = .ref a/\y = .ref b/\SqL K H a xs/\SqL K H b ys/\(∀v∈xs,Cn v=true)/\(∀v∈ys,Cn v=true)/\Q (.bl (g (B3 xs ys))) H
def Xb0    (rx:Vals xs us) (ry:Vals ys vs) (fx:∀v∈xs,Cn v=true) (fy:∀v∈ys,Cn v=true) (j) (h1:j<us.toArray.size) (h2:j<vs.toArray.size):
  SeqAt.EqAt A s us.toArray[j] vs.toArray[j] (eqV (xs.getD j .non) (ys.getD j .non)):=by
 have l1:=rx.length;have l2:=ry.length;rw[Ol] at h1 h2;have g1:xs[j]? = some (xs[j]'(by lia)):=Oj (by lia);have g2:ys[j]? = some (ys[j]'(by lia)):=Oj (by lia);obtain⟨u,hu,ru⟩:=rx.get g1;obtain⟨v,hv,rv⟩:=ry.get g2;have e1:us.toArray[j]=u:=by
  rw[List.getElem_toArray];rw[Oj h1] at hu;exact O4 hu
 have e2:vs.toArray[j]=v:=by
  rw[List.getElem_toArray];rw[Oj h2] at hv;exact O4 hv
 rw[e1,e2];have d1:xs.getD j .non=xs[j]'(by lia):=by simp[List.getD,g1]
 have d2:ys.getD j .non=ys[j]'(by lia):=by simp[List.getD,g2]
 rw[d1,d2];exact Xbb ru rv (fx _ (Pk _)) (fy _ (Pk _))
def Xi3(hu:X.A.units<bD):OpR X (aL .Eq) (Xbz X.K id):=by
 intro pins s Z H x y v u Q I rx ry h;obtain⟨a,b,xs,ys,rfl,rfl,hx,hy,fx,fy,q⟩:=h;cases rx;cases ry;obtain⟨us,r1,p1,z1⟩:=I.list hx;obtain⟨vs,r2,p2,z2⟩:=I.list hy;have l1:=r1.length;have l2:=r2.length;by_cases hl:xs.length=ys.length
 ·refine SeqAt.eq_listAt (e:=λj=>eqV (xs.getD j .non) (ys.getD j .non)) p1.isList p2.isList (by rw[Ol,Ol];lia) hu (λj h1 h2=>Xb0 r1 r2 fx fy j h1 h2) ?_;refine⟨.bl (B3 xs ys),H,I,?_,q⟩;show aa.bool _=aa.bool (B3 xs ys);unfold B3;rw[Ol,<-l1,hl,beq_self_eq_true,Qc]
 ·refine SeqAt.eq_list_lengthsAt p1.isList p2.isList (by rw[Ol,Ol];simpa using (by lia:us.length≠vs.length)) hu ?_;refine⟨.bl (B3 xs ys),H,I,?_,q⟩;show aa.bool _=aa.bool (B3 xs ys);unfold B3;have:(xs.length==ys.length)=false:=by simpa using hl
  rw[this,Qa]
def Xb1(hu:X.A.units<bD):OpR X (aL .NotEq) (Xbz X.K not):=by
 intro pins s Z H x y v u Q I rx ry h;obtain⟨a,b,xs,ys,rfl,rfl,hx,hy,fx,fy,q⟩:=h;cases rx;cases ry;obtain⟨us,r1,p1,z1⟩:=I.list hx;obtain⟨vs,r2,p2,z2⟩:=I.list hy;have l1:=r1.length;have l2:=r2.length;by_cases hl:xs.length=ys.length
 ·refine SeqAt.RcNeAt.lists (e:=λj=>eqV (xs.getD j .non) (ys.getD j .non)) p1.isList p2.isList (by rw[Ol,Ol];lia) hu (λj h1 h2=>Xb0 r1 r2 fx fy j h1 h2) _ _ _ _ ?_;refine⟨.bl (!B3 xs ys),H,I,?_,q⟩;show aa.bool _=aa.bool (!B3 xs ys);unfold B3;rw[Ol,<-l1,hl,beq_self_eq_true,Qc]
 ·refine SeqAt.RcNeAt.lists_lengths p1.isList p2.isList (by rw[Ol,Ol];simpa using (by lia:us.length≠vs.length)) hu _ _ _ _ ?_;refine⟨.bl (!B3 xs ys),H,I,?_,q⟩;show aa.bool _=aa.bool (!B3 xs ys);unfold B3;have:(xs.length==ys.length)=false:=by simpa using hl
  rw[this,Qa,Bool.not_false]
def Xi4 (K:LY) (n:Nat) (t:TGs):TG:=λv Z H Q=>∃a xs,v = .ref a/\SqL K H a xs/\xs.length=n/\t xs Z H Q
def Xi5    (hc:X.calm=true) (h:PGs X es t)
  (hn:(bG es X.env).length=n:=by rfl) (bK:(bG es X.env).findIdx? (·.1)=none:=by rfl):PG X (.Tuple es k pos) (Xi4 X.K n t):=by
 intro pins s Z H v u Q I r hw;obtain⟨a,xs,e1,hq,hl,hw⟩:=hw;subst e1;cases r;obtain⟨aA,rv,ht,hz⟩:=I.list hq;rw[assign_Tuple];refine Tj (bh ?_);unfold unpack;have aN:(bG es X.env).length=aA.toArray.size:=by rw[hn,<-hl,Ol];exact rv.length
 rw[aN,bK];refine Tj (a7 (PySem.W.kun_itemsOf (I.ok.hd hc) ht.isList λh' hx=>?_));have I1:Inv X pins Z H {s with heap:=h'}:=I.kept (t':=s.toks) λb o e=>hx b o (Os (Tx e)) e;exact h pins _ Z H xs _ Q I1 (by simpa using rv) hw
def repS (z:ao) (n:Nat):ao:=⟨(List.replicate n z.cps).foldl (· ++ ·) #[]⟩
def Xi6(z):repS z 1=z:=by
 obtain⟨c⟩:=z;show (⟨(#[]:Array Nat)++c⟩:ao)=⟨c⟩;rw[Array.empty_append]
theorem Xb2(z):∀(n:Nat) (a:Array Nat),((List.replicate n z).foldl (· ++ ·) a).size=a.size+n * z.size
 | 0,a=>by simp
 | n+1,a=>by
  rw[Qs,Rv,Xb2 z n,Array.size_append,Nat.succ_mul]
  lia
def L8(z)(n):(repS z n).length=n * z.length:=by
 have e:=Xb2 z.cps n #[];show ((List.replicate n z.cps).foldl (· ++ ·) #[]).size=n * z.cps.size;simpa using e
def Xi7(h:z.length=0)(n):repS z n=z:=by
 have e:=L8 z n;rw[h,Nat.mul_zero] at e;generalize repS z n=y at e;obtain⟨c⟩:=z;obtain⟨d⟩:=y;have h':c.size=0:=h;have e':d.size=0:=e;rw[Array.size_eq_zero_iff] at h' e';rw[h',e']
def Xi8:OpR X (bq .Mult) (λx y H Q=>∃z n,x = .str z/\y = .int n/\0<=n/\n<=1000/\z.length<=1000/\Q (.str (repS z n.toNat)) H):=by
 intro pins s Z H x y v u Q I rx ry h;obtain⟨z,n,rfl,rfl,h0,h1,hz,q⟩:=h;obtain⟨t,rfl⟩:=rx;obtain⟨t',rfl⟩:=ry;have hle:z.length * n.toNat<=1000 * 1000:=S5 hz (by lia);refine PySem.P.mul_str ?_ (λhn yH=>?_) (λhn yH=>?_) ?_
 ·have h2:¬n < -(2 ^ 63:Int):=by lia
  have h3:¬n ≥ 2 ^ 63:=by lia
  rw[Tu h2,Tu h3];rfl
 ·have h4:(1000:Int)<=(2 ^ 63 - 1) / n:=by
   refine(Int.le_ediv_iff_mul_le (by lia)).mpr ?_;have:(1000:Int) * n<=1000 * 1000:=by lia
   lia
  lia
 ·show ak.Str.tooLong _=false;unfold ak.Str.tooLong
  first
   | (refine Tu ?_;have:=hle;rw[Tp];lia)
   | (simp;lia)
 ·by_cases hn:n<1
  ·rw[Tr hn];have:n=0:=by lia
   subst this;exact⟨by decide,.str ao.empty,H,I.tok _,⟨_,rfl⟩,q⟩
  ·rw[Tq hn];by_cases hc:(n==1||z.length==0)=true
   ·rw[Tr hc];have e:repS z n.toNat=z:=by
     rcases Sn.mp hc with e | e
     ·have e':n=1:=by simpa using e
      subst e';exact Xi6 z
     ·exact Xi7 (by simpa using e) _
    rw[e] at q;exact⟨.str z,H,I,⟨_,rfl⟩,q⟩
   ·rw[Tq hc];refine⟨?_,.str (repS z n.toNat),H,I.tok _,⟨_,rfl⟩,q⟩;show (repS z n.toNat).length<=sizeLine;rw[L8,Nat.mul_comm,Tp]
    lia
def Xi9:X.calm=true->Bu X (.builtin "all") (λxs H Q=>∃(a:ae) (bs:List Bool),xs=[.ref a]/\H a=some (.lst (bs.map V.bl))/\Q (.bl (bs.all id)) H):=by
 intro hc pins s Z H xs us Q I r h;obtain⟨a,bs,rfl,ha,q⟩:=h;obtain⟨u,rfl,ru⟩:=Bq r;cases ru;obtain⟨aA,rv,p,hz⟩:=I.list (SqL.of ha);have hl:=rv.length;rw[Oh] at hl;refine call_all_walk (cJ p.isList ?_);have bf:a≠s.heap.objs.size:=by
  obtain⟨o,ho,_⟩:=p.isList;exact Os (Tx ho)
 refine⟨s.heap.objs.size,_,_,_,_,_,λj=>bs.getD j false,rfl,jQ.list (A:=X.A.in1) (show X.A.in1.handled=none from I.ok.hd hc) s.heap.objs.size a bf aA.toArray,⟨⟨_,am.get?_push_size _ rfl,rfl,rfl⟩,p.isList.push _⟩,λi v s' Q' E' hP hQ=>?_,λh' tk k=>?_⟩
 ·have hv:aA[i]? = some v:=by simpa using hP
  have hi:i<aA.length:=(O6.mp hv).1;have g:(bs.map V.bl)[i]? = some (.bl (bs[i]'(by lia))):=by
   rw[O2,Oj (by lia)];rfl
  obtain⟨u,hu,ru⟩:=rv.get g;rw[hv] at hu;cases hu;cases ru;have e:bs.getD i false=bs[i]'(by lia):=by simp[List.getD,(by lia:i<bs.length)]
  have rp:Q' (bs.getD i false) s':=hQ;rw[e] at rp;exact aS rp
 ·refine⟨.bl (bs.all id),H,I.kept (t':=tk) λb o e=>k b o (λz=>?_) (Tz _ e),?_,q⟩
  ·have z':b=s.heap.objs.size:=by simpa using z
   exact absurd (Tx e) (by rw[z'];exact P1 _)
  ·show aa.bool _=aa.bool _;congr 1;rw[Ol,<-hl];rw[Qn,Pg,Pg];constructor
   ·intro hx b hb;obtain⟨j,hj,rfl⟩:=P3.mp hb;have:=hx j (P2.mpr hj);simpa [List.getD,hj] using this
   ·intro hx j hj;have fj:=P2.mp hj;have:=hx _ (Pk fj);simpa [List.getD,fj] using this
end
def Itd (d:ae) (o:aM) (kvs:List (Key×V)):It:=
 ⟨λi H=>H d=some (.frz o (.dK kvs))/\i<kvs.length,λi H x H'=>H'=H/\∃p,kvs[i]? = some p/\x=kV p.1,λi H=>H d=some (.frz o (.dK kvs))/\kvs.length<=i⟩
def Xja    (h:(Bb P w).is k u=true):Aj (kV k) u:=by
 rcases Dq (show D6 k u=true from h) with ⟨i,t,rfl,rfl⟩ | ⟨x,t,rfl,rfl⟩
 ·exact⟨t,rfl⟩
 ·exact⟨t,rfl⟩
theorem Xb3:∀{kvs:List (Key×V)} {vs:List (Key×aa)} {i:Nat} {p:Key×V},KV kvs vs->kvs[i]? = some p->∃u,vs[i]? = some (p.1,u)
 | _,_,_,_,.nil,e=>by simp at e
 | _,_,0,p,.cons (b:=b) r _,e=>by
  simp at e;subst e;obtain⟨k,u⟩:=b;obtain⟨r1,r2⟩:=r;exact⟨u,by simp only[List.getElem?_cons_zero,Option.some.injEq,Prod.mk.injEq];exact⟨r1.symm,trivial⟩⟩
 | _,_,i+1,p,.cons _ t,e=>by
  obtain⟨u,h⟩:=Xb3 (i:=i) t (by simpa using e);exact⟨u,by simpa using h⟩
def L9{P:ap}{w:ax}{K:LY}{tg:aF}(d it:ae)(o:aM)(es:Array cn)(ep:Nat)(hd:o.data = .dict es ep)(kvs:List (Key×V))(fw:d≠it):
  Turn P w K tg (Itd d o kvs) [it] it (λi h=>h.IsKeyIter it d i kvs.length ep) where
 mem:=by simp
 obj:=λi h st b hb=>by
  have e:b=it:=by simpa using hb
  subst e;obtain⟨o,e,c,d⟩:=st;exact⟨o,e,λv z=>by rw[d] at z;cases z⟩
 keep:=λi h h' st k=>by
  obtain⟨o,e,r⟩:=st;exact⟨o,k it (by simp) o e,r⟩
 item:=by
  intro X hP hw hK hc i pins s Z H E I hf st hg;subst hP hw hK;obtain⟨hH,hi⟩:=hg;obtain⟨ho,hz,hm,vs,rv,o',cG,lg,fo,hex,gW,r'⟩:=I.hok d _ hH;rw[ho] at fo;cases fo;rw[hd] at gW;cases gW;have aN:kvs.length=vs.length:=Paired.length rv;obtain⟨f0,f1,f2,f3,f4,f5⟩:=hf it (by simp);have hp:kvs[i]? = some (kvs[i]'hi):=Oj hi;obtain⟨u,hu⟩:=Xb3 rv hp;rw[aN] at st;refine wpAny_pyNext_dict_item (knd:=Bb X.prog X.w) st ⟨o,es,ho,hex,hd,r'⟩ hu λkey h' hk a8 sb=>?_;have I1:Inv X pins Z H {s with heap:=h'}:=I.turned (t':=s.toks) (λb o hb e=>(sb.2 b hb).trans e) f0 f1 f3 f4 f5;obtain⟨o2,e2,c2,d2⟩:=id a8;refine⟨key,rfl,Jc (s:={s with heap:=h'}) e2 c2 d2 (by decide) ⟨_,H,I1,Xja hk,⟨rfl,_,hp,rfl⟩,?_,λb hb=>(hf b hb).1⟩⟩;rw[aN];exact a8
 done:=by
  intro X hP hw hK hc i pins s Z H E I hf st hg;subst hP hw hK;obtain⟨hH,hi⟩:=hg;obtain⟨ho,hz,hm,vs,rv,o',cG,lg,fo,hex,gW,r'⟩:=I.hok d _ hH;rw[ho] at fo;cases fo;rw[hd] at gW;cases gW;have aN:kvs.length=vs.length:=Paired.length rv;obtain⟨f0,f1,f2,f3,f4,f5⟩:=hf it (by simp);rw[aN] at st;exact wpAny_pyNext_dict_end (knd:=Bb X.prog X.w) (I.ok.hd hc) st ⟨o,es,ho,hex,hd,r'⟩ (Rw (by lia)) λh' eb=>⟨rfl,I.turned (t':=s.toks) (λb o hb e=>eb b o hb e) f0 f1 f3 f4 f5⟩
 self:=λA i s Q E st h=>by
  refine cM st.typeIs PySem.F.slot_dict_keyiterator_iter (aG PySem.F.slot_dict_keyiterator_iter st.typeIs PySem.F.entry_dict_keyiterator_iter ?_ (PySem.F.args_dict_keyiterator_iter_1 _));show ai _ _ (ret (.ref it)) _ _ s;exact Tk ⟨_,rfl, "dict_keyiterator",_,st.typeIs,PySem.F.slot_dict_keyiterator_next.lookup,h⟩
section
variable {X:Cx}{tg:aF}
def Inv.freeze       (I:Inv X pins Z H s) (hH:H d=some (.dK kvs)) (ho:s.heap.get? d=some o):Inv X pins Z (upd H d (.frz o (.dK kvs))) s:=by
 have ne:∀{b:ae} {u:HO},H b=some u->(HO.dK kvs≠u)->b≠d:=λ{b u} e n=>K7 e hH (λz=>n z.symm);refine⟨I.ok,I.os,I.bare,⟨I.base.keep,I.base.slot,λb ob e n hx=>?_,I.base.there,λb xs e=>?_,λb ob u e=>?_,λb ps e=>?_⟩,I.loc,I.cell,?_,λx c e=>?_,λp lR=>?_,λb ob e=>?_,I.len⟩
 ·have q:=I.base.free b ob e n hx;rw[Ad (λz=>by rw[z,hH] at q;cases q)];exact q
 ·have q:=I.base.tups b xs e;rw[Ad (ne q (by simp))];exact q
 ·have q:=I.base.frzs b ob u e;rw[Ad (ne q (by simp))];exact q
 ·obtain⟨cf,q⟩:=I.base.tbls b ps e;exact⟨cf,by rw[Ad (ne q (by simp))];exact q⟩
 ·rw[Ad (λz=>by have:=I.free;rw[z,hH] at this;cases this)];exact I.free
 ·have q:=I.freeC x c e;rw[Ad (λz=>by rw[z,hH] at q;cases q)];exact q
 ·obtain⟨e,n,r⟩:=I.pin p lR;exact⟨e,by rw[Ad (λz=>by rw[z,hH] at n;cases n)];exact n,r⟩
 ·by_cases hb:b=d
  ·subst hb;rw[Ab] at e;cases e;exact⟨ho,(I.hok b _ hH).stay (λ_ _ _ q=>q) (λc q=>by rw[Ad (ne q (by simp))];exact q) λc xs q=>by rw[Ad (ne q (by simp))];exact q⟩
  ·rw[Ad hb] at e;exact(I.hok b ob e).stay (λ_ _ _ q=>q) (λc q=>by rw[Ad (ne q (by simp))];exact q) λc xs q=>by rw[Ad (ne q (by simp))];exact q
def Xjb (tl:TE):TI:=fun Z H R=>tl Z H λx H1=>∃d kvs,x = .ref d/\H1 d=some (.dK kvs)/\∀o,R (Itd d o kvs) (upd H1 d (.frz o (.dK kvs)))
def Xjc  (hl:PE X l tl):PI X tg l (Xjb tl):=by
 intro pins s Z H R I h;refine thn (hl pins s Z H _ I h) λv s1 ⟨x,H1,I1,r1,q1⟩=>?_;obtain⟨d,kvs,e,hH,q⟩:=q1;subst e;cases r1;obtain⟨hz,hm,vs,rv,o,es,ep,ho,hex,hd,r⟩:=I1.hok d _ hH;have aN:kvs.length=vs.length:=Paired.length rv;refine eR (knd:=Bb X.prog X.w) hm ⟨o,es,ho,hex,hd,r⟩ ?_;have I2:=I1.freeze hH ho;refine⟨s1.heap.objs.size,[s1.heap.objs.size],_,_,_,rfl,I2.kept (t':=s1.toks) λb o e=>Tz _ e,L9 d _ o es ep hd kvs (Os (Tx ho)),⟨_,am.get?_push_size _ rfl,rfl,by rw[aN];rfl⟩,λb hb=>?_,q o⟩;have e:b=s1.heap.objs.size:=by simpa using hb
 subst e;exact I2.fpOk (Oi _) (I2.hok.fresh (Oi _))
end
def PJ (X:Cx) (es:List aF) (t:St->Hp->(Hp->Prop)->Prop):Prop:=
 ∀(out:ao) (pins:List (ae×aM)) (s:af) (Z:St) (H:Hp) (Q:Hp->Prop),Inv X pins Z H s->t Z H Q->out.length+5000 * es.length<=sizeLine ->
  ai (ah X.prog X.w) X.A (joinParts out (cD es X.env)) (λu s'=>∃z tk H',u = .str z tk/\Inv X pins Z H' s'/\Q H') X.xe s
def Xjd:St->Hp->(Hp->Prop)->Prop:=λ_ H Q=>Q H
def Xje (t:St->Hp->(Hp->Prop)->Prop):St->Hp->(Hp->Prop)->Prop:=t
section
variable {X:Cx}{es:List aF}{t:St->Hp->(Hp->Prop)->Prop}{e:aF}{te:TE}{pos:bN}
def Xb4:PJ X [] Xjd:=λout pins s Z H Q I h hz=>joinParts_nil ⟨out,_,H,rfl,I.tok _,h⟩ (by simpa using hz)
def E9(a b:ao):(a++b).length=a.length+b.length:=i5 a b
def Jn   (hz:z.length<=5000) (h:PJ X es t) (he:cD (.Constant (.str z) k p::es) X.env=eval (.Constant (.str z) k p) X.env::cD es X.env:=by rfl):PJ X (.Constant (.str z) k p::es) (Xje t):=by
 intro out pins s Z H Q I hw hl;rw[he];rw[O5] at hl;refine gx (Calls.Constant_str ⟨by rw[E9];lia,?_⟩);exact h (out++z) pins _ Z H Q (I.tok _) hw (by rw[E9];lia)
def Xjf (t:St->Hp->(Hp->Prop)->Prop):TE:=fun Z H Q=>t Z H λH1=>∀z,Q (.str z) H1
def Xb5(h:PJ X (a::b::es) t)(hz:5000 * (a::b::es).length<=sizeLine:=by decide)(he:cD (a::b::es) X.env=eval a X.env::eval b X.env::cD es X.env:=by rfl):PE X (.JoinedStr (a::b::es) pos) (Xjf t):=by
 intro pins s Z H Q I hw;refine JoinedStr_many ?_;rw[<-he];refine thn (h ao.empty pins s Z H _ I hw (by rw[show ao.empty.length=0 from rfl];lia)) λu s' ⟨z,tk,H',e,I',q⟩=>?_;subst e;exact⟨.str z,H',I',⟨tk,rfl⟩,q z⟩
end
end L2
namespace L2
open PySem.Calls Builtin Builtin.ObjectAttr Builtin.Getset_descriptor
structure ExcF (K:LY) (C:ae):Prop where
 ga:MB K (.ref C) "__getattribute__" = some (some (.builtin "BaseException.__getattribute__"))
 gn:MB K (.ref C) "__getattr__" = some none
 cl:MB K (.ref C) "__class__" = some (some (.builtin "object.__class__"))
 sb:ML K (.ref C) (.type "BaseException")=some true
 so:ML K (.ref C) (.type "object")=some true
 ic:(NC K C).isSome=true
section
variable {prog:ap}{w:ax}{A:av}{E:Zb}{K:LY}{C a:ae}{h:am}{g:Array rq}{d:r6}{t:Nat}{os:vi}
end
end L2
namespace L2
def Xb6:V->Option aa
 | .ty n=>some (.type n)
 | .ref a=>some (.ref a)
 | _=>none
def Xjg  (r:Aj c u) (h:Xb6 c=some v):u=v:=by
 cases c with
 | ty n=>cases r;exact O4 h
 | ref a=>cases r;exact O4 h
 | _=>cases h
section
variable {X:Cx}
def Xb7:Bu X (.builtin "isinstance") (λxs H Q=>∃x c t cv b,xs=[x,c]/\TyOf X.K H x t/\Xb6 c=some cv/\MA X.K t cv=some b/\Q (.bl b) H):=by
 intro pins s Z H xs us Q I r h;obtain⟨x,c,t,cv,b,rfl,ty,hc,e,q⟩:=h;obtain⟨u,v,rfl,ru,rv⟩:=r.two;have:=Xjg rv hc;subst this;exact Xhn I ru ty e λtk=>⟨.bl b,H,I.tok _,rfl,q⟩
end
def wN (n:Nat) (Pv:Nat->St->Hp->Prop):Nat->Nat->St->Hp->Prop:=λi m Z H=>m=n - i/\i<=n/\Pv i Z H
def wput       (hi:i<n) (hD:H D=some (.lst ys)) (hl:ys.length<sizeLine) (p:Pv (i+1) Z (upd H D (.lst (ys++[y])))):
  ∃ys,H D=some (.lst ys)/\ys.length<sizeLine/\∃m',m'<n - i/\wN n Pv (i+1) m' Z (upd H D (.lst (ys++[y]))):=⟨ys,hD,hl,n - (i+1),by lia,rfl,hi,p⟩
def wskip    (hi:i<n) (p:Pv (i+1) Z H):∃m',m'<n - i/\wN n Pv (i+1) m' Z H:=⟨n - (i+1),by lia,rfl,hi,p⟩
def Ma        (n:Nat) (vs:Nat->V) (Pv:ae->Nat->St->Hp->Prop)
  (h0:∀D,H1 D=none->Pv D 0 (Ca cap Z) (upd H1 D (.lst [])))
  (kh:∀D i Z2 H2,H1 D=none->i<n->Pv D i Z2 H2->J.go i H2/\∀x H3,J.yld i H2 x H3->H3=H2/\x=vs i)
  (bK:∀D Z2 H2,H1 D=none->Pv D n Z2 H2->J.stop n H2)
  (step:∀D i Z1 H2,H1 D=none->i<n->Pv D i Z1 H2->g (vs i) Z1 H2 fun Z2 H4=>tt Z2 H4 λb H5=>
   if b=true then te Z2 H5 λy H6=>∃ys,H6 D=some (.lst ys)/\ys.length<sizeLine/\∃m',m'<n - i/\wN n (Pv D) (i+1) m' Z2 (upd H6 D (.lst (ys++[y])))
   else ∃m',m'<n - i/\wN n (Pv D) (i+1) m' Z2 H5)
  (hd:∀D Z2 H2,H1 D=none->Pv D n Z2 H2->F D H2):F6 cap g tt te J Z H1 F:=by
 intro D hD;refine⟨wN n (Pv D),⟨n,by simp,Pi _,h0 D hD⟩,?_⟩;rintro i m Z1 H2 ⟨rfl,hi,p⟩;by_cases bf:i<n
 ·obtain⟨h1,h2⟩:=kh D i Z1 H2 hD bf p;refine .inr ⟨h1,λx H3 y=>?_⟩;obtain⟨e1,e2⟩:=h2 x H3 y;subst e1 e2;exact step D i Z1 _ hD bf p
 ·have e:i=n:=by lia
  subst e;exact .inl ⟨bK D Z1 H2 hD p,hd D Z1 H2 hD p⟩
def G9{K}    (h:SqL K H a xs)(hi:i<xs.length):(Itl K a).go i H/\∀x H3,(Itl K a).yld i H x H3->H3=H/\x=xs.getD i .non:=
 ⟨⟨xs,xs[i],h,by simp[hi]⟩,λx H3 ⟨e,y⟩=>⟨e,by have:=y xs h;simp[List.getD,this]⟩⟩
def Hf{K}   (h:SqL K H a xs):(Itl K a).stop xs.length H:=⟨xs,h,Oi _⟩
def Hg{K}    (h:SqT K H a xs)(hi:i<xs.length):(Itt K a).go i H/\∀x H3,(Itt K a).yld i H x H3->H3=H/\x=xs.getD i .non:=
 ⟨⟨xs,xs[i],h,by simp[hi]⟩,λx H3 ⟨e,y⟩=>⟨e,by have:=y xs h;simp[List.getD,this]⟩⟩
def Hh{K}   (h:SqT K H a xs):(Itt K a).stop xs.length H:=⟨xs,h,Oi _⟩
def Hi   {kvs}  (h:H d=some (.frz o (.dK kvs))) (hi:i<kvs.length):(Itd d o kvs).go i H/\∀x H3,(Itd d o kvs).yld i H x H3->H3=H/\x=(kvs.map λp=>kV p.1).getD i .non:=
 ⟨⟨h,hi⟩,λx H3 ⟨e,p,hp,y⟩=>⟨e,by rw[y];simp[List.getD,hp]⟩⟩
def Hj   {kvs} (h:H d=some (.frz o (.dK kvs))):(Itd d o kvs).stop kvs.length H:=⟨h,Oi _⟩
end L2
namespace L2
open PySem.Calls
def Xjh(t:ag)(n):(t.orStandIn n).led=t.led:=by
 unfold ag.orStandIn;split
 ·rfl
 ·rfl
def Xji(t)(es)(k)(x):(BI t es k x).2.1.led=t.led:=by
 unfold BI;split
 ·exact Xjh _ _
 ·rfl
def Xjj  {led plain}   (h:ag.laid mask finger moves led plain hs=some (t,o)):t.led=led/\t.plain=plain:=by
 unfold ag.laid at h;cases q:ag.layClean mask hs with
 | none=>rw[q] at h;cases h
 | some ow=>
  rw[q] at h;cases h;exact⟨rfl,rfl⟩
def Xjk(t)(es)(n)(hp:t.plain=false):(dC t es n).2.1.led=t.led/\(dC t es n).2.1.plain=false:=by
 unfold dC;split
 ·rename_i t' o e;obtain⟨e1,e2⟩:=Xjj e;dsimp only;split
  ·exact⟨e1,e2.trans hp⟩
  ·exact⟨rfl,rfl⟩
 ·exact⟨rfl,rfl⟩
def A6 (w:ax):Bool:=w.params.followText "set-order"
def SSet (P:ap) (w:ax) (h:am) (a:ae) (ks:Za):Prop:=
 ∃o es ep t ls,h.get? a=some o/\o.ExactSet/\o.data = .set es ep t/\eS (PySem.strKind P w) es.toList/\aE (es.toList.map (·.2)) ls/\ls.Perm ks/\es.size<aX/\t.fits es.size=true/\t.led = !A6 w/\(t.plain=true->es.size=0)
def Jo{l1 l2:List (Int×aa)}(p:l1.Perm l2)(h:aE (l2.map (·.2)) ls):∃qg,aE (l1.map (·.2)) qg/\qg.Perm ls:=by
 refine⟨(l1.map (·.2)).map mS,yI _ (λv hv=>?_),?_⟩
 ·exact h.all v ((p.map (·.2)).mem_iff.mp hv)
 ·rw[<-h.strs];exact(p.map (·.2)).map mS
def Xjl    (h:aE vs ls):aE (vs++[.str x t]) (ls++[x]):=by
 induction h with
 | nil=>exact .cons x t .nil
 | cons y u _ ih=>exact .cons y u ih
section
variable {P:ap}{w:ax}{A:av}{E:Zb}{s:af}{a:ae}{ks:Za}
def SSet.stay(S:SSet P w h a ks)(k:∀o,h.get? a=some o->h'.get? a=some o):SSet P w h' a ks:=by
 obtain⟨o,es,ep,t,ls,ho,r⟩:=S;exact⟨o,es,ep,t,ls,k o ho,r⟩
def Xb8{vs:List (Int×aa)}  (h:aE (vs.map (·.2)) ls):x∈ls ↔ ∃e∈vs,(PySem.strKind P w).is x e.2=true:=by
 rw[<-h.strs];constructor
 ·intro hx;obtain⟨v,hv,rfl⟩:=Pd.mp hx;obtain⟨e,he,rfl⟩:=Pd.mp hv;obtain⟨y,t,q⟩:=h.all e.2 hv;refine⟨e,he,?_⟩;rw[q];exact gy P w y t
 ·rintro ⟨e,he,q⟩;obtain⟨t,e2⟩:=aa.isStrOf_shape q;exact Pd.mpr ⟨e.2,Pd.mpr ⟨e,he,rfl⟩,by rw[e2];rfl⟩
def Xb9     {h:am} (ho:h.get? a=some o) (hex:o.ExactSet) (hd:o.data = .set es ep t)   (eD:eS (PySem.strKind P w) cG.toList) (hs:aE (cG.toList.map (·.2)) ls) (hp:ls.Perm ks) (hb:cG.size<aX) (hf:t'.fits cG.size=true) (hl:t'.led = !A6 w) (bS:t'.plain=false):
  (h.update a (aM.putSet cG t')).get? a=some {o with data:=.set cG (ep+1) t'}/\SSet P w (h.update a (aM.putSet cG t')) a ks:=by
 have g:=am.get?_update_self (aM.putSet cG t') ho (by rw[bW cG t' hd];rfl);rw[bW cG t' hd] at g;exact⟨g,_,cG,ep+1,t',ls,g,hex,rfl,eD,hs,hp,hb,hf,hl,λz=>by rw[bS] at z;cases z⟩
def Xca{g:Bool->fK Unit}(hg:∀(b:Bool) (s1:af) (Q':Unit->af->Prop),Q' () s1->ai (ah P w) A (g b) Q' E s1)     (ho:s.heap.get? a=some o)(hex:o.ExactSet)(hd:o.data = .set es ep t)
    (eD:eS (PySem.strKind P w) fk.toList) (hs:aE (fk.toList.map (·.2)) ls) (hp:ls.Perm ks) (hb:fk.size<aX) (hf:t2.fits fk.size=true) (hl:t2.led = !A6 w) (bS:t2.plain=false)  (h:∀h',am.SameBut a s.heap h'->SSet P w h' a ks->R (some true) {s with heap:=h'}):
    ai (ah P w) A (do
        gz a fk t2
        if (!wd && t2.tooFull) = true then do g (dC t2 fk (ag.grown fk.size)).2.2
                                              gz a (dC t2 fk (ag.grown fk.size)).1 (dC t2 fk (ag.grown fk.size)).2.1
                                              pure (some true)
        else pure (some true)) R E s:=by
  refine Tj (bw ho hd ?_ (aY hb));obtain⟨g1,S1⟩:=Xb9 (P:=P) (w:=w) ho hex hd eD hs hp hb hf hl bS;have sb:=T0 s.heap a (aM.putSet fk t2);split
  . have pp:=relayAll_perm t2 fk (ag.grown fk.size);have ff:=relayAll_fits t2 fk (ag.grown fk.size);obtain⟨vj,r9⟩:=Xjk t2 fk (ag.grown fk.size) bS;generalize dC t2 fk (ag.grown fk.size)=R3 at pp ff vj r9 ⊢;obtain⟨uh,t3,gv⟩:=R3;dsimp only at pp ff vj r9 ⊢;obtain⟨JS,s3,p3⟩:=Jo pp hs;have z:uh.size=fk.size:=by rw[<-Oq,pp.length_eq,Oq]
    refine Tj (hg _ _ _ ?_);refine Tj (bw g1 rfl ?_ (aY (by rw[z];exact hb)));obtain⟨_,S3⟩:=Xb9 (P:=P) (w:=w) (ks:=ks) g1 hex rfl (eD.perm pp) s3 (p3.trans hp) (by rw[z];exact hb) ff (vj.trans hl) r9;exact Tk (h _ (sb.trans (T0 _ a _)) S3)
  . exact Tk (h _ sb S1)
def sset_add   (S:SSet P w s.heap a ks) (hr:ks.length+1<aX)
  (h:∀b h',am.SameBut a s.heap h'->SSet P w h' a (if x∈ks then ks else ks++[x])->Q b {s with heap:=h'}):
  ai (ah P w) A (cY a (.str x tk) ((PySem.strKind P w).hash x)) Q E s:=by
 obtain⟨o,es,ep,t,ls,ho,hex,hd,eD,hs,hp,hb,hf,hl,bS⟩:=S;have aN:es.size=ks.length:=by
  have:=hs.length;rw[Oh,Oq] at this;rw[this,hp.length_eq]
 have fr:(PySem.strKind P w).is x (.str x tk)=true:=gy P w x tk;have dy:x∈ks ↔ ∃e∈es.toList,(PySem.strKind P w).is x e.2=true:=hp.mem_iff.symm.trans (Xb8 hs);unfold cY setAddHashedIn;refine a7 (Tj (aD ho hd hf ?_));dsimp only;rw[JT (knd:=PySem.strKind P w) rfl hb eD];simp only[↓reduceIte];unfold setAddByScan;refine Tj (Tj (aR (Tj (on fr ho hd hf eD ?_))));cases oo:List.findIdx? (λe=>(PySem.strKind P w).is x e.2) es.toList with
 | some j=>
  dsimp only;obtain⟨hj,rA,_⟩:=R6.mp oo;have hx:x∈ks:=dy.mpr ⟨es.toList[j],Pk hj,rA⟩;refine Tk (Tk ?_);have:=h false s.heap (am.SameBut.refl a s.heap) (by rw[Tr hx];exact⟨o,es,ep,t,ls,ho,hex,hd,eD,hs,hp,hb,hf,hl,bS⟩);exact this
 | none=>
  dsimp only;have hx:x∉ks:=λz=>by
   obtain⟨e,he,q⟩:=dy.mp z;have:=List.findIdx?_eq_none_iff.mp oo e he;rw[q] at this;cases this
  have gw:∀(b:Bool) (s1:af) (Q':Unit->af->Prop),Q' () s1->ai (ah P w) A (match b with | true=>rule "set.scan.the-table-gave-way" | false=>pure ()) Q' E s1:=λb s1 Q' q=>by
   cases b with
   | true=>exact aR q
   | false=>exact Tk q
  have pp:=layNew_perm t es ((PySem.strKind P w).hash x) (.str x tk);have ff:=layNew_fits t es ((PySem.strKind P w).hash x) (.str x tk);have fl:=Xji t es ((PySem.strKind P w).hash x) (.str x tk);generalize BI t es ((PySem.strKind P w).hash x) (.str x tk)=R at pp ff fl ⊢;obtain⟨fk,t1,wd,gv⟩:=R;dsimp only at pp ff fl ⊢;rw[Array.toList_push] at pp;have yJ:=(eD.push fr rfl).perm pp;have cq:aE ((es.toList++[((PySem.strKind P w).hash x,aa.str x tk)]).map (·.2)) (ls++[x]):=by
   rw[Ow];exact Xjl hs
  obtain⟨BJ,kj,p1⟩:=Jo pp cq;have z1:fk.size=ks.length+1:=by
   rw[<-Oq,pp.length_eq,Oo,Oq,aN];rfl
  have p2:BJ.Perm (ks++[x]):=p1.trans (hp.append_right _);rw[Tq hx] at h;refine Tj (gw _ _ _ ?_);split
  ·refine Tj ?_;rw[hashByValue_scannable 8 (x:=aa.str x tk) rfl];refine Tk ?_;refine Xca (ks:=ks++[x]) gw ho hex hd yJ kj p2 (by rw[z1];exact hr) (ag.fits_plain_off ff) (fl.trans hl) rfl (λh' sb S'=>?_);dsimp only;exact Tk (h true h' sb S')
  ·rename_i np;refine Tj (Tk ?_);simp only[↓reduceIte];refine Xca (ks:=ks++[x]) gw ho hex hd yJ kj p2 (by rw[z1];exact hr) ff (fl.trans hl) (by cases q:t1.plain with | false=>rfl | true=>exact absurd q np) (λh' sb S'=>?_);dsimp only;exact Tk (h true h' sb S')
end
def dd1 (acc:Za) (x:ao):Za:=if x∈acc then acc else acc++[x]
def ddup (ss:Za):Za:=ss.foldl dd1 []
def Xcb(ss)(x):ddup (ss++[x])=dd1 (ddup ss) x:=by
 unfold ddup;rw[List.foldl_append];rfl
def Mb{p:Za->Za->Prop}(h0:p [] [])(h1:∀ss x,p ss (ddup ss)->p (ss++[x]) (dd1 (ddup ss) x))(ss):p ss (ddup ss):=by
 have go:∀n ss,ss.length=n->p ss (ddup ss):=by
  intro n
  induction n with
  | zero=>
   intro ss e;rw[Px.mp e];exact h0
  | succ n ih=>
   intro ss e;have fw:ss≠[]:=λz=>by rw[z] at e;cases e
   have e2:=List.dropLast_concat_getLast fw;rw[<-e2,Xcb];exact h1 _ _ (ih _ (by rw[List.length_dropLast,e];rfl))
 exact go _ ss rfl
def Mc(ss):∀x,x∈ddup ss↔x∈ss:=by
 refine Mb (p:=λss d=>∀x,x∈d↔x∈ss) (λx=>Iff.rfl) (λss y ih x=>?_) ss;unfold dd1;split
 ·rename_i hy;rw[ih,Ou,Om];constructor
  ·exact .inl
  ·rintro (z | z)
   ·exact z
   ·rw[z];exact(ih y).mp hy
 ·rw[Ou,Ou,ih]
def Hk(ss):(ddup ss).Nodup:=by
 refine Mb (p:=λ_ d=>d.Nodup) List.nodup_nil (λss y ih=>?_) ss;unfold dd1;split
 ·exact ih
 ·rename_i hy;exact Qf.mpr ⟨ih,by simp,λa ha b hb=>by rw[Om.mp hb];exact λz=>hy (z ▸ ha)⟩
def Hl(ss):(ddup ss).length<=ss.length:=by
 refine Mb (p:=λss d=>d.length<=ss.length) (Oi _) (λss y ih=>?_) ss;unfold dd1;rw[Oo,Pp];split
 ·lia
 ·rw[Oo,Pp];lia
section
variable {P:ap}{w:ax}{A:av}{E:Zb}{s:af}
def Xcc     {St} (ss) (W:WalksS P w A.in1 I fp wr G ss.length Pv St) (S) (nS:S∉fp)
  (lU:∀i v,Pv i v->∃t,v = .str (ss.getD i "") t) (hb:ss.length+1<aX):
  ∀k i s,ss.length - i=k->i<=ss.length->St i s->SSet P w s.heap S (ddup (ss.take i))->(∀s',yK (S::wr) G s s'->SSet P w s'.heap S (ddup ss)->R (.ok (.ret .none)) s') ->
   bB (ah P w) A (.builtin "set.update.loop" ⟨[.ref S,.ref I],[]⟩) R s:=by
 have nw:S∉wr:=λz=>nS (W.sub _ z);have up:∀b∈wr,b∈S::wr:=λb z=>Op _ z;intro k
 induction k with
 | zero=>
  intro i s e hi st hS hR;have:i=ss.length:=by lia
  subst this;rw[P8] at hS;refine bR F.entry_set_update_loop ?_;rw[av.under_plainId F.plain_set_update_loop _];show ai _ A.in1 (cB (.ref I) >>= λ_=>_) _ _ s;refine Tj (W.done s _ _ st λs' mv=>?_);show ai _ A.in1 (ret aa.none) _ _ s';exact Tk (hR s' (mv.mono up) (hS.stay λo z=>mv.heap S o nw z))
 | succ k ih=>
  intro i s e hi st hS hR;have lt:i<ss.length:=by lia
  refine bR F.entry_set_update_loop ?_;rw[av.under_plainId F.plain_set_update_loop _];show ai _ A.in1 (cB (.ref I) >>= λ_=>_) _ _ s;refine Tj (W.item i s _ _ lt st λv s' hP a8 mv=>?_);obtain⟨t,rfl⟩:=lU i v hP;have vk:=hS.stay λo z=>mv.heap S o nw z;show ai _ A.in1 (holding [aa.str (ss.getD i "") t] (setAdd S (.str (ss.getD i "") t)) >>= λ_=>_) _ _ s';refine Tj (a7 ?_);unfold setAdd;refine a7 (Tj ((PySem.strKind P w).pyHash (k:=ss.getD i "") (gy P w _ t) ?_));have oq:(ddup (ss.take i)).length<=i:=Pm (Hl _) (by rw[O3];lia);refine sset_add (s:={s' with toks:=s'.toks+1}) vk (by lia) λb h' sb S2=>?_;have e3:ddup (ss.take (i+1))=dd1 (ddup (ss.take i)) (ss.getD i ""):=by
   rw[O1 lt,Xcb];congr 1;simp[List.getD,lt]
  have S3:SSet P w h' S (ddup (ss.take (i+1))):=by rw[e3];exact S2
  refine Tk ⟨cP F.plain_set_update_loop _,ih (i+1) _ (by lia) lt (W.frame _ s' _ _ a8 (Ql _) λb hb o q=>?_) S3 λlC BK S4=>?_⟩
  ·rw[sb.2 b (λz=>nS (z ▸ hb))];exact q
  ·refine hR lC (yK.trans W.gtrans ((mv.mono up).then_heap (Ql _) λb o hb q=>?_) BK) S4;rw[sb.2 b (λz=>hb (z ▸ Ov))];exact q
inductive Src (h:am) (l:ae) (az:Array aa):Prop
 | lst:h.IsList l az->Src h l az
 | tup:h.IsTuple l az->Src h l az
def Xjm(a){Q}(h:Q (.ref s.heap.objs.size) {s with heap:=s.heap.push {cls:=.type "set",dict:=none,data:=.set #[] 0 (.fresh 0 0 (!A6 w))} }):
    bB (ah P w) A (.call (.builtin "set.__new__") ⟨[.type "set",a],[]⟩) (wants Q E) s:=by
  refine fO ?_
  show ai _ A.in1 (do    checkBuiltinCall "set.__new__" ⟨[.type "set",a],[]⟩
                         again (.builtin "set.__new__" ⟨[.type "set",a],[]⟩)) _ _ s
  refine Tj (dD (PySem.F.newCall_set_1 a) (Tk ⟨cP PySem.F.plain_set_new _,bR PySem.F.entry_set_new ?_⟩));rw[av.under_plainId PySem.F.plain_set_new _];unfold ak.«set.__new__» ak.Frozenset.newClass;have q:=ji;obtain⟨hp,g,d,tk,os⟩:=s;dsimp only
  wp_walk
  refine aQ (Tk ?_);dsimp only;simp only[newObj];exact Tj (jY (Tk (Tk h)))
end
end L2
set_option maxHeartbeats 3200000
namespace L2
open PySem.Calls
section
variable {P:ap}{w:ax}{A:av}{E:Zb}{s:af}
abbrev En (w:ax):aM:={cls:=.type "set",dict:=none,data:=.set #[] 0 (.fresh 0 0 (!A6 w))}
def Xjn  (g:h.get? a=some (En w)):SSet P w h a []:=
 ⟨_, #[],0,_,[],g,⟨rfl,rfl,rfl⟩,rfl,λe he=>by simp at he,.nil,.nil,by decide,rfl,rfl,λ_=>rfl⟩
def Xjo    (hh:A.handled=none) (ot:Src s.heap l az) (hs:aE az.toList ss) (hb:ss.length+1<aX) (hS:SSet P w s.heap S []) (yL:l≠S)
  (BL:∀(Q:Bool->af->Prop),Q false s->ai (ah P w) A (ak.Frozenset.isAnySet (.ref l)) Q E s)
  (h:∀(h':am) (tk:Nat),SSet P w h' S (ddup ss)->(∀b o,b≠S->s.heap.get? b=some o->h'.get? b=some o)->R () {s with heap:=h',toks:=tk}):
  ai (ah P w) A (ak.Frozenset.updateFrom "set.__init__" S (.ref l)) R E s:=by
 have aN:az.size=ss.length:=by
  have:=hs.length
  rwa [Oq] at this
 have lU:∀(i:Nat) (v:aa),az[i]? = some v->∃t,v = .str (ss.getD i "") t:=λi v q=>by
  have q':az.toList[i]? = some v:=by rw[Rb];exact q
  obtain⟨x,t,rfl⟩:=hs.all v (Qq q');refine⟨t,?_⟩;congr 1;rw[<-hs.strs];simp[List.getD,O2,q,mS]
 obtain⟨oS,_,_,_,_,gS,_⟩:=id hS;have ltS:=Tx gS;unfold ak.Frozenset.updateFrom;refine Tj (BL _ ?_);simp only[Pf,if_false];cases ot with
 | lst hl=>
  have rB:l<s.heap.objs.size:=by obtain⟨o,g,_⟩:=hl;exact Tx g
  refine Tj (bv (T := "list") hl.typeIs ?_);have ne:(aa.type "list" == aa.type "dict")=false:=by decide
  simp only[ne,Pf,if_false];refine Tj (cJ hl ?_);refine Tj (g7 ?_);have nI:S∉[s.heap.objs.size,l]:=by simp only[Ox,List.not_mem_nil,or_false,not_or];exact⟨Os ltS,yL.symm⟩
  have W:=(jQ.list (prog:=P) (w:=w) (A:=A.in1) (by simp[hh]) s.heap.objs.size l (Os rB) az).toS;rw[aN] at W;refine Xcc ss W S nI lU hb _ 0 _ rfl (Pi _) ⟨⟨_,am.get?_push_size _ rfl,rfl,rfl⟩,hl.push _⟩ (hS.stay λo q=>Tz _ q) λs' mv S'=>?_;rw[yK.eq_with mv];refine Tk (h s'.heap s'.toks S' λb o nb q=>mv.heap b o (λz=>?_) (Tz _ q));rcases Ox.mp z with z | z
  ·exact nb z
  ·exact absurd (Tx q) (by rw[Om.mp z];exact P1 _)
 | tup hl=>
  have rB:l<s.heap.objs.size:=by obtain⟨o,g,_⟩:=hl;exact Tx g
  refine Tj (bv (T := "tuple") hl.typeIs ?_);have ne:(aa.type "tuple" == aa.type "dict")=false:=by decide
  simp only[ne,Pf,if_false];refine Tj (lB hl ?_);refine Tj (g7 ?_);have nI:S∉[s.heap.objs.size,l]:=by simp only[Ox,List.not_mem_nil,or_false,not_or];exact⟨Os ltS,yL.symm⟩
  have W:=(jQ.tuple (prog:=P) (w:=w) (A:=A.in1) (by simp[hh]) s.heap.objs.size l (Os rB) az).toS;rw[aN] at W;refine Xcc ss W S nI lU hb _ 0 _ rfl (Pi _) ⟨⟨_,am.get?_push_size _ rfl,rfl,rfl⟩,hl.push _⟩ (hS.stay λo q=>Tz _ q) λs' mv S'=>?_;rw[yK.eq_with mv];refine Tk (h s'.heap s'.toks S' λb o nb q=>mv.heap b o (λz=>?_) (Tz _ q));rcases Ox.mp z with z | z
  ·exact nb z
  ·exact absurd (Tx q) (by rw[Om.mp z];exact P1 _)
def Src.push   (x:Src h l az) (o):Src (h.push o) l az:=by
 cases x with
 | lst y=>exact .lst (y.push o)
 | tup y=>exact .tup (y.push o)
def Src.any   (x:Src s.heap l az) (q:Q false s):ai (ah P w) A (ak.Frozenset.isAnySet (.ref l)) Q E s:=by
 cases x with
 | lst y=>
  obtain⟨o,g,c,n,d⟩:=y;obtain⟨oc,od,BM,os⟩:=o;simp only at c d;subst c d;have h1:=PySem.F.sub_list_set;have h2:=PySem.F.sub_list_frozenset;unfold ak.Frozenset.isAnySet
  wp_walk
  exact q
 | tup y=>
  obtain⟨o,g,c,n,d⟩:=y;obtain⟨oc,od,BM,os⟩:=o;simp only at c d;subst c d;have h1:JU (.type "tuple") (.type "set")=pure false:=by rw[cE];kernel_rfl
  have h2:JU (.type "tuple") (.type "frozenset")=pure false:=by rw[cE];kernel_rfl
  unfold ak.Frozenset.isAnySet
  wp_walk
  exact q
def Src.lt   (x:Src h l az):l<h.objs.size:=by
 cases x with
 | lst y=>obtain⟨o,g,_⟩:=y;exact Tx g
 | tup y=>obtain⟨o,g,_⟩:=y;exact Tx g
def Xjp    (hh:A.handled=none) (ot:Src s.heap l az) (hs:aE az.toList ss) (hb:ss.length+1<aX)
  (h:∀(h':am) (tk:Nat),SSet P w h' s.heap.objs.size (ddup ss)->(∀b o,s.heap.get? b=some o->h'.get? b=some o)->Q (.ref s.heap.objs.size) {s with heap:=h',toks:=tk}):
  ai (ah P w) A (call (.type "set") [.ref l]) Q E s:=by
 obtain⟨c,tl,BN⟩:=PySem.F.called_set.mro;have yM:=PySem.F.called_set.made;have BO:=PySem.F.called_set.sub;refine dZ (fO ?_);show ai _ _ (callAny (.type "set") _) _ _ s;refine Tk ⟨Code.quiet_builtin _ (by decide +kernel),bR PySem.F.entry_type_call ?_⟩;rw[av.under_plain (weight_type_call_type "set" [.ref l] []) rfl];have f1:=PySem.F.called_set.notType;have f2:=PySem.F.called_set.canCreate;have f3:=PySem.F.typeCall_set_1 (.ref l)
 repeat (any_goals (first | assumption | wp_step))
 refine br (Xjm (.ref l) (E:=E) (Q:=λobj s1=>obj = .ref s.heap.objs.size/\s1 = {s with heap:=s.heap.push (En w)}) ⟨rfl,rfl⟩) λr s1 hr=>?_;cases r with
 | error e=>exact hr
 | ok fl=>
  cases fl with
  | ret obj=>
   obtain⟨rfl,rfl⟩:=hr;have gS:(s.heap.push (En w)).get? s.heap.objs.size=some (En w):=am.get?_push_size _ rfl;have hT:af.TypeIs {s with heap:=s.heap.push (En w)} (.ref s.heap.objs.size) "set" := ⟨_,gS,rfl⟩;have f4:=PySem.F.called_set.init.lookup;have f5:=PySem.F.called_set.init.bind (.ref s.heap.objs.size)
   repeat (any_goals (first | assumption | wp_step))
   refine br (codeAny_call_builtin (R:=wants (λr s2=>r = .none/\∃h' tk,s2 = {s with heap:=h',toks:=tk}/\SSet P w h' s.heap.objs.size (ddup ss)/\∀b o,s.heap.get? b=some o->h'.get? b=some o) E)
    PySem.F.called_set.init.plain PySem.F.entry_set_init (check_set_init_1 hT ?_)) λr2 s2 fF=>?_
   ·have rC:=ot.push (En w);have lt:=ot.lt;unfold ak.«set.__init__» noKeywords;generalize hU:ak.Frozenset.updateFrom=U
    wp_walk
    subst hU;refine Xjo (s:={s with heap:=s.heap.push (En w)}) (by simp[hh]) rC hs hb (Xjn gS) (Os lt) (λQ q=>Src.any (s:={s with heap:=s.heap.push (En w)}) rC q) λh' tk S' kk=>?_;exact Tk ⟨rfl,h',tk,rfl,S',λb o q=>kk b o (Os (Tx q)) (Tz _ q)⟩
   ·cases r2 with
    | error e=>exact fF
    | ok r9=>
     cases r9 with
     | ret r=>
      obtain⟨rfl,h',tk,rfl,S',kk⟩:=fF
      repeat (any_goals (first | assumption | wp_step))
      exact h _ _ S' kk
     | _=>exact fF.elim
  | _=>exact hr.elim
end
namespace SF
def sIter:Slot "set" "__iter__" "set.__iter__" := PySem.F.slot_set_iter
def eIter:km table "set.__iter__" = some ak.«frozenset.__iter__»:=g9 (id' := "frozenset.__iter__") (by kernel_rfl) rfl (by decide +kernel) (by kernel_rfl)
def sNext:Slot "set_iterator" "__next__" "set_iterator.__next__" := .of (owner := "set_iterator") (n := "__next__") (by rw[qh,jB];kernel_rfl) (by decide +kernel) (by decide +kernel) (by decide +kernel) (by first | exact .inl (by decide +kernel) | exact .inr (by decide +kernel)) (by rw[cE];kernel_rfl)
def eNext:km table "set_iterator.__next__" = some ak.«set_iterator.__next__»:=entryFor_of_tree (by kernel_rfl)
def aNext(a):rD "set_iterator.__next__" ⟨[a],[]⟩:=by unfold rD;kernel_rfl
end SF
theorem Md{α : Type}:∀(xs:List α) (i:Nat) (hi:i<xs.length),(xs[i]::xs.eraseIdx i).Perm xs
 | x::xs,0,_=>Qk _
 | x::xs,i+1,hi=>by
  have ih:=Md xs i (by simpa using hi);rw[List.eraseIdx_cons_succ,List.getElem_cons_succ];exact(List.Perm.swap x _ _).trans (ih.cons x)
def Xjq{α : Type}(next):∀(n k:Nat) (left:List α) (out:Array α),left.length=n->(bX.go next n k left out).toList.Perm (out.toList++left):=by
 intro n
 induction n with
 | zero=>
  intro k left out e;rw[Px.mp e,Pw];exact Qk _
 | succ n ih=>
  intro k left out e;have bf:next k % left.length<left.length:=S9 _ (by lia);unfold bX.go;rw[Oj bf];dsimp only;refine(ih _ _ _ (by rw[Q9 bf,e];rfl)).trans ?_;rw[Array.toList_push,Pb];exact(Md left _ bf).append_left _
def Xcd{α : Type}(next)(xs:Array α):(bX next xs).toList.Perm xs.toList:=by
 have:=Xjq next xs.size 0 xs.toList #[] (by simp);simpa [bX] using this
section
variable {P:ap}{w:ax}{A:av}{E:Zb}{s:af}
def Xjr   (hn:n≠0) (h:∀i d,i<n->Q i {s with drawn:=d}):ai (ah P w) A (choose ot n) Q E s:=by
 intro Γ p hΓ;exact⟨hn,h _ _ (S9 _ (Nat.pos_of_ne_zero hn))⟩
def Xce{α : Type}:∀(n:Nat) (xs:List α) (s:af) (Q:List α->af->Prop),xs.length=n->(∀os d,os.Perm xs->Q os {s with drawn:=d})->ai (ah P w) A (iW n xs) Q E s:=by
 intro n
 induction n with
 | zero=>
  intro xs s Q e h;rw[Px.mp e] at h ⊢;unfold iW;exact Tk (h [] s.drawn (Qk _))
 | succ n ih=>
  intro xs s Q e h;cases xs with
  | nil=>cases e
  | cons y ys=>
   unfold iW;refine Tj (Xjr (by simp) λi d hi=>?_);rw[Oj hi];dsimp only;refine Tj (ih _ _ _ (by rw[Q9 hi,e];rfl) λos d' hp=>?_);exact Tk (h _ d' ((hp.cons _).trans (Md _ i hi)))
def SAt (h:am) (a:ae) (es:Array (Int×aa)) (ep:Nat) (t:ag):Prop:=∃o,h.get? a=some o/\o.ExactSet/\o.data = .set es ep t/\t.fits es.size=true
def Xjs     (hs:SAt s.heap a es ep t) (h:Q (!A6 w&&(!t.plain&&decide (es.size > 1))) s):ai (ah P w) A (setDrawn a) Q E s:=by
 obtain⟨o,ho,hex,hd,hf⟩:=hs;unfold setDrawn cr;refine Tj (aD ho hd hf ?_);dsimp only;refine Tj (Tj (aQ (Tk ?_)));exact Tk h
abbrev itO (f0:aa) (i:Nat) (a:ae) (n ep:Nat):aM:={cls:=.type "set_iterator",data:=.fields #[f0,.int i 0,.ref a,.int n 0,.int ep 0]}
inductive Ord (w:ax) (h:am) (a:ae) (es:Array (Int×aa)) (ep:Nat) (t:ag) (f0:aa) (i:Nat):List aa->Prop
 | txt:A6 w=true->f0 = .int 0 0->Ord w h a es ep t f0 i ((bX (w.params.setOrder a ep) es).toList.map (·.2))
 | drw (p:ae) (os:List Nat):A6 w=false->os.Perm (List.range es.size)->f0 = .ref p->(∃n,h.get? p=some ⟨.type "tuple",none,.seq (os.map λj=>aa.int (j:Nat) 0).toArray n, #[]⟩)->Ord w h a es ep t f0 i (os.map λj=>((es[j]?).map (·.2)).getD .none)
 | one (sl:Nat):A6 w=false->t.led=true->es.size<=1->f0 = .int sl 0->(i=0->sl=0)->(∀j,i=1->t.place[0]? = some j->sl=j+1)->Ord w h a es ep t f0 i (es.toList.map (·.2))
def Xjt     (hs:SAt s.heap a es ep t) (hb:es.size<aX) (hl:t.led = !A6 w) (hp:t.plain=true->es.size=0)
    (h:∀(f0:aa) (vs:List aa) (h1:am) (d:r6),(∀b o,s.heap.get? b=some o->h1.get? b=some o)->h1.objs.size<=s.heap.objs.size+1->s.heap.objs.size<=h1.objs.size->(∀p,f0 = .ref p->p<h1.objs.size)->Ord w (h1.push (itO f0 0 a es.size ep)) a es ep t f0 0 vs ->
      vs.Perm (es.toList.map (·.2))->Q (.ref h1.objs.size) {s with heap:=h1.push (itO f0 0 a es.size ep),drawn:=d}):
    ai (ah P w) A (fq (.ref a)) Q E s:=by
  obtain⟨o,ho,hex,hd,hf⟩:=id hs;have hT:s.TypeIs (.ref a) "set" := ⟨o,ho,hex.1⟩;refine cM hT SF.sIter (aG SF.sIter hT SF.eIter ?_ (PySem.F.args_set_iter_1 _));unfold ak.«frozenset.__iter__» ak.Frozenset.slot0 rE;simp only[List.isEmpty_nil,R7,Pf, ↓reduceIte,bind_assoc,Qu,bne_self_eq_false];unfold ak.Frozenset.addrOf ak.Frozenset.sizeOf;refine Tj (Tk ?_);dsimp only;refine Tj (Tk ?_);refine Tj (Tj (c8 ho hd hf (Tk ?_)));refine Tj (Xjs hs ?_);have fin:∀(f0:aa) (vs:List aa) (h1:am) (d:r6),(∀b o,s.heap.get? b=some o->h1.get? b=some o)->h1.objs.size<=s.heap.objs.size+1->s.heap.objs.size<=h1.objs.size->(∀p,f0 = .ref p->p<h1.objs.size)->Ord w (h1.push (itO f0 0 a es.size ep)) a es ep t f0 0 vs->vs.Perm (es.toList.map (·.2)) ->
      ai (ah P w) A.in1 (do       let r <-newFields "set_iterator" [f0,aU 0,.ref a,aU es.size,aU ep]
                                  ret r) (λfin s'=>∃r,fin = .done (.ret r)/\∃T v,s'.TypeIs r T/\lE (.type T) (ao.ofString "__next__")=pure (some v)/\Q r s') E {s with heap:=h1,drawn:=d}:=λf0 vs h1 d k1 k2 k3 k4 k5 k6=>
    Tj (aC (Tk ⟨_,rfl, "set_iterator",_,⟨_,am.get?_push_size _ rfl,rfl⟩,SF.sNext.lookup,h f0 vs h1 d k1 k2 k3 k4 k5 k6⟩))
  by_cases hc:(!A6 w&&(!t.plain&&decide (es.size > 1)))=true
  . rw[Tr hc];simp only[Oz,S8,decide_eq_true_eq] at hc;obtain⟨c1,c2,c3⟩:=hc;refine Tj (Xce _ _ _ _ Qg λos d po=>?_);have ui:os.length=es.size:=by rw[po.length_eq,Qg]
    refine Tj (dE ?_ (by rw[Oh,ui];exact aY hb));refine Tj (cb (Tz _ ho) hd hf ?_);refine fin _ _ _ d (λb o q=>Tz _ q) (by rw[bz];exact Oi _) (by rw[bz];exact Ql _) (λp e=>by cases e;rw[bz];exact Nat.lt_succ_self _) (.drw s.heap.objs.size os c1 po rfl ⟨0,Tz _ (am.get?_push_size _ rfl)⟩) ?_;have e:(os.map λj=>((es[j]?).map (·.2)).getD aa.none).Perm ((List.range es.size).map λj=>((es[j]?).map (·.2)).getD aa.none):=po.map _;refine e.trans ?_;have e2:((List.range es.size).map λj=>((es[j]?).map (·.2)).getD aa.none)=es.toList.map (·.2):=by
      apply List.ext_getElem?;intro i;have q:es.toList[i]? = es[i]?:=Rb;rw[O2,O2,q];by_cases hi:i<es.size
      . rw[List.getElem?_range hi,Q3,getElem?_pos es i hi];rfl
      . rw[Rw (by simpa using hi),getElem?_neg es i hi];rfl
    rw[e2]
  . rw[Tq hc];refine Tj (Tk ?_);refine Tj (cb ho hd hf ?_);cases hw:A6 w with
    | true=>exact fin _ _ _ s.drawn (λb o q=>q) (Ql _) (Oi _) (λp e=>by cases e) (.txt hw rfl) ((Xcd _ es).map _)
    | false=>
      have h1:es.size<=1:=by
        cases bS:t.plain with
        | true=>rw[hp bS];exact Pi _
        | false=>
          simp only[hw,bS,Bool.not_false,Qc,decide_eq_true_eq] at hc
          lia
      exact fin _ _ _ s.drawn (λb o q=>q) (Ql _) (Oi _) (λp e=>by cases e) (.one 0 hw (by rw[hl,hw];rfl) h1 rfl (λ_=>rfl) (λj e=>by cases e)) (Qk _)
end
end L2
namespace L2
open PySem.Calls
section
variable {P:ap}{w:ax}{A:av}{E:Zb}{s:af}{I a:ae}{es:Array (Int×aa)}{ep:Nat}{t:ag}
def ItS (w:ax) (I a:ae) (es:Array (Int×aa)) (ep:Nat) (t:ag) (vs:List aa) (fp:Option ae) (i:Nat) (h:am):Prop:=
 ∃f0,h.get? I=some (itO f0 i a es.size ep)/\Ord w h a es ep t f0 i vs/\SAt h a es ep t/\(∀p,f0 = .ref p->fp=some p)
def Xcf   (hI:s.heap.get? I=some (itO f0 i a es.size ep)) (hS:SAt s.heap a es ep t)
  (h1:∀sl,f0 = .int sl 0->ai (ah P w) A (do
   match <-jj a sl.toNat i ep with
   | some (x,next)=>bO (.ref I) 0 (aU next);bO (.ref I) 1 (aU ((i:Int)+1));ret x
   | none=>bO (.ref I) 2 .none;eT (<-jk (.type "StopIteration") [])) Q E s)
  (h2:∀p,f0 = .ref p->ai (ah P w) A (do
   let some ou <-seqItems? (.ref p) | unsupported "internal:set_iterator"
   match ou[i]? with
   | some (.int place _)=>let x <-vm a place.toNat ep;bO (.ref I) 1 (aU ((i:Int)+1));ret x
   | some _=>unsupported "internal:set_iterator"
   | none=>bO (.ref I) 0 (aU 0);bO (.ref I) 2 .none;eT (<-jk (.type "StopIteration") [])) Q E s)
  (hf:(∃sl,f0 = .int sl 0) \/ ∃p,f0 = .ref p):ai (ah P w) A (ak.«set_iterator.__next__» ⟨[.ref I],[]⟩) Q E s:=by
 obtain⟨o,ho,hex,hd,lm⟩:=id hS;unfold ak.«set_iterator.__next__» rE;simp only[List.isEmpty_nil,R7,Pf, ↓reduceIte,bind_assoc,Qu,bne_self_eq_false];refine Tj (Tk ?_);dsimp only;refine Tj (gA hI rfl ?_);dsimp only;refine Tj (c8 ho hd lm ?_);rw[Tq (by simp)];rcases hf with ⟨sl,rfl⟩ | ⟨p,rfl⟩
 ·exact h1 sl rfl
 ·exact h2 p rfl
def Jp{h:am}{f0 x:aa}{i j n:Nat}(hI:h.get? I=some (itO f0 i a n ep))(k)(v):
  (h.update I (aM.mapFields (·.setIfInBounds k v))).get? I=some {cls:=.type "set_iterator",data:=.fields ((#[f0,.int i 0,.ref a,.int n 0,.int ep 0]:Array aa).setIfInBounds k v)}:=
 am.get?_update_self _ hI rfl
def SAt.at(x:SAt h a es ep t)(k:∀o,h.get? a=some o->h'.get? a=some o):SAt h' a es ep t:=by
 obtain⟨o,ho,r⟩:=x;exact⟨o,k o ho,r⟩
def Xcg  (hw:A6 w=true) (hS:SAt s.heap a es ep t) (h:Q (((bX (w.params.setOrder a ep) es)[i]?).map λe=>(e.2,sl)) s):ai (ah P w) A (jj a sl i ep) Q E s:=by
 obtain⟨o,ho,hex,hd,hf⟩:=id hS;unfold jj cr;refine Tj (aD ho hd hf ?_);dsimp only;refine Tj (Tj (aQ (Tk ?_)));rw[Tr (show (ah P w).w.params.followText "set-order" = true from hw),Tq (by simp)];unfold mT cr;refine Tj (Tj (aD ho hd hf ?_));dsimp only;refine Tj (Tj (aQ (Tk ?_)));rw[Tr (show (ah P w).w.params.followText "set-order" = true from hw)];exact Tj (aQ (Tk (Tk h)))
def Xch  (hw:A6 w=false) (hl:t.led=true) (h1:es.size<=1) (hS:SAt s.heap a es ep t)
  (h:Q (match es[ag.below t.place sl]?,t.place[ag.below t.place sl]? with | some (_,x),some j=>some (x,j+1) | _,_=>none) s):ai (ah P w) A (jj a sl i ep) Q E s:=by
 obtain⟨o,ho,hex,hd,hf⟩:=id hS;unfold jj cr;refine Tj (aD ho hd hf ?_);dsimp only;refine Tj (Tj (aQ (Tk ?_)));rw[Tq (show ¬(ah P w).w.params.followText "set-order" = true from by show ¬A6 w=true;rw[hw];decide)];have d1:(!t.plain&&decide (es.size > 1))=false:=by rw[Tu (by lia),S6]
 refine bJ (λz=>?_) (λ_=>?_)
 ·have z':(!t.plain&&decide (es.size > 1))=true:=z;rw[d1] at z';cases z'
 refine Tj ?_;have m1:(!t.led && !es.isEmpty)=false:=by rw[hl];rfl
 refine bJ (λz=>?_) (λ_=>Tk (Tk h));have z':(!t.led && !es.isEmpty)=true:=z;rw[m1] at z';cases z'
def Xju(h:t.place.size<=1):ag.below t.place 0=0:=by
 generalize t.place=pl at *;obtain⟨l⟩:=pl
 match l,h with
 | [],_=>rfl
 | [x],_=>simp[ag.below,ag.below.go]
def Xjv  (h:t.place.size<=1) (hj:t.place[0]? = some j):ag.below t.place (j+1)=1:=by
 generalize t.place=pl at *;obtain⟨l⟩:=pl
 match l,h,hj with
 | [x],_,hj=>
  have:x=j:=by simpa using hj
  subst this;simp[ag.below,ag.below.go]
def Xci(h:t.fits n=true):t.place.size=n:=by
 unfold ag.fits at h;simp only[Oz,beq_iff_eq] at h;exact h.1
end
section
variable {P:ap}{w:ax}{A:av}{E:Zb}{s:af}{I a:ae}{es:Array (Int×aa)}{ep:Nat}{t:ag}{vs:List aa}{fp:Option ae}
def Ord.cases0   (x:Ord w h a es ep t f0 i vs):(∃sl:Int,f0 = .int sl 0) \/ ∃p,f0 = .ref p:=by
 cases x with
 | txt _ e=>exact .inl ⟨0,e⟩
 | drw p os _ _ e _=>exact .inr ⟨p,e⟩
 | one sl _ _ _ e _ _=>exact .inl ⟨sl,e⟩
def Xjw  (st:ItS w I a es ep t vs fp i s.heap) (hi:i<vs.length) (hl:vs.length=es.size) (uj:a≠I) (vn:∀p,fp=some p->p≠I)
  (hQ:∀h',ItS w I a es ep t vs fp (i+1) h'->am.SameBut I s.heap h'->Q (some vs[i]) {s with heap:=h'}):ai (ah P w) A (cB (.ref I)) Q E s:=by
 obtain⟨f0,hI,hO,hS,hp⟩:=st;have hT:s.TypeIs (.ref I) "set_iterator" := ⟨_,hI,rfl⟩;unfold cB;refine Tj (bP (aT (name:=ao.ofString "__next__") hT SF.sNext (aG SF.sNext hT SF.eNext ?_ (SF.aNext _))));have e1:((i:Int)+1)=((i+1:Nat):Int):=by lia
 have fin:∀(E':Zb) (nx:Nat),Ord w ((s.heap.update I (aM.mapFields (·.setIfInBounds 0 (aU nx)))).update I (aM.mapFields (·.setIfInBounds 1 (aU ((i:Int)+1))))) a es ep t (.int nx 0) (i+1) vs ->
   ai (ah P w) A.in1 (do
    bO (.ref I) 0 (aU nx)
    bO (.ref I) 1 (aU ((i:Int)+1))
    ret vs[i]) (λfin s'=>∃r,fin = .done (.ret r)/\ai (ah P w) A (pure (some r)) Q E s') E' s:=λE' nx O=>by
  refine Tj (bo hI rfl (by simp) ?_);refine Tj (bo (Jp (x:=.none) (j:=0) hI 0 (aU nx)) rfl (by simp) ?_);have g:=am.get?_update_self (aM.mapFields (·.setIfInBounds 1 (aU ((i:Int)+1)))) (Jp (x:=.none) (j:=0) hI 0 (aU nx)) rfl;refine Tk ⟨_,rfl,Tk (hQ _ ⟨_,g.trans ?_,O,hS.at λo q=>?_,λp z=>by cases z⟩ ((T0 ..).trans (T0 ..)))⟩
  ·rw[e1];rfl
  ·rw[((T0 s.heap I _).trans (T0 _ I _)).2 a uj];exact q
 refine Xcf hI hS (λsl e=>?_) (λp e=>?_) hO.cases0
 ·subst e;cases hO with
  | txt hw e=>
   cases e;have eW:i<(bX (w.params.setOrder a ep) es).size:=by simpa using hi
   refine Tj (Xcg hw hS ?_);rw[getElem?_pos _ i eW];have ev:((bX (w.params.setOrder a ep) es).toList.map (·.2))[i]=((bX (w.params.setOrder a ep) es)[i]).2:=by simp
   have f:=λE'=>fin E' 0 (.txt hw rfl);rw[ev] at f;exact f _
  | drw p os _ _ e _=>cases e
  | one iM hw qi h1 e hz ho=>
   cases e;obtain⟨_,_,_,_,lm⟩:=id hS;have jl:=Xci lm;have i0:i=0:=by
    have:i<es.size:=by rw[<-hl];exact hi
    lia
   subst i0;have z0:=hz rfl;subst z0;have he:0<es.size:=by rw[<-hl];exact hi
   have bS:0<t.place.size:=by rw[jl];exact he
   refine Tj (Xch hw qi h1 hS ?_);have b0:ag.below t.place ((0:Nat):Int).toNat=0:=Xju (by rw[jl];exact h1);rw[b0,getElem?_pos es 0 he,getElem?_pos t.place 0 bS];have ev:(es.toList.map (·.2))[0]=(es[0]).2:=by simp
   have f:=λE'=>fin E' (t.place[0]+1) (.one (t.place[0]+1) hw qi h1 rfl (λz=>by cases z) (λj _ q=>by rw[getElem?_pos t.place 0 bS] at q;cases q;rfl));rw[ev] at f;exact f _
 ·subst e;cases hO with
  | txt hw e=>cases e
  | one iM hw qi h1 e hz ho=>cases e
  | drw p' os hw lJ e mU=>
   cases e;obtain⟨n,mU⟩:=mU;have fX:i<os.length:=by simpa using hi
   have fE:os[i]<es.size:=P2.mp (lJ.mem_iff.mp (Pk fX));refine Tj (rF mU rfl ?_);have g:((os.map λj=>aa.int (j:Nat) 0).toArray)[i]? = some (.int ((os[i]:Nat):Int) 0):=by simp[fX]
   dsimp only;rw[g];dsimp only;obtain⟨o,ho,hex,hd,lm⟩:=id hS;unfold vm;refine Tj (Tj (aD ho hd lm ?_));dsimp only;rw[Tq (by simp),show ((os[i]:Nat):Int).toNat=os[i] from Qr _,getElem?_pos es _ fE];refine Tk ?_;refine Tj (bo hI rfl (by simp) ?_);have ev:(os.map λj=>((es[j]?).map (·.2)).getD aa.none)[i]=(es[os[i]]).2:=by simp[fE]
   have g2:=Jp (x:=.none) (j:=0) hI 1 (aU ((i:Int)+1));have BP:p≠I:=vn p (hp p rfl);have q:=hQ (s.heap.update I (aM.mapFields (·.setIfInBounds 1 (aU ((i:Int)+1))))) ⟨_,g2.trans (by rw[e1];rfl),.drw p os hw lJ rfl ⟨n,?_⟩,hS.at λo q=>?_,λp' z=>hp p' z⟩ (T0 ..)
   ·rw[ev] at q;exact Tk ⟨_,rfl,Tk q⟩
   ·rw[(T0 s.heap I _).2 p BP];exact mU
   ·rw[(T0 s.heap I _).2 a uj];exact q
end
section
variable {P:ap}{w:ax}{A:av}{E:Zb}{s:af}{I a:ae}{es:Array (Int×aa)}{ep:Nat}{t:ag}{vs:List aa}{fp:Option ae}
def Xcj{α : Type}{h0:am}{Q}{E'}(hh:A.handled=none)
  (k:∀e h',(∀b o,s.heap.get? b=some o->h'.get? b=some o)->af.TypeIs {s with heap:=h'} e "StopIteration" -> E' e {s with heap:=h'}):
  ai (ah P w) A (do       eT (<-jk (.type "StopIteration") []):fK α) Q E' s:=by
 refine Tj ?_;simp only[jk,newTuple];refine Tj (aC ?_ (by size_fits));refine Tj (m:=dF _ _) (dD (a:=aa.none) (by first | rfl | (simp only[dF];rfl)) ?_);refine aC ?_ (by size_fits);simp only[eT];refine Tj (uk ?_);rw[hh];refine Tj (Tk (yN ?_));exact k _ _ (λb o q=>Tz _ (Tz _ q)) ⟨_,am.get?_push_size _ rfl,rfl⟩
def Xjx(hh:A.handled=none)(st:ItS w I a es ep t vs fp vs.length s.heap)(hl:vs.length=es.size)
    (hQ:∀h',(∀b o,b≠I->s.heap.get? b=some o->h'.get? b=some o)->Q none {s with heap:=h'}):ai (ah P w) A (cB (.ref I)) Q E s:=by
  obtain⟨f0,hI,hO,hS,hp⟩:=st;have hT:s.TypeIs (.ref I) "set_iterator" := ⟨_,hI,rfl⟩;unfold cB;refine Tj (bP (aT (name:=ao.ofString "__next__") hT SF.sNext (aG SF.sNext hT SF.eNext ?_ (SF.aNext _))));have yO:A.in1.handled=none:=hh;have mV:∀(e:aa) (h':am),(∀b o,b≠I->s.heap.get? b=some o->h'.get? b=some o)->af.TypeIs {s with heap:=h'} e "StopIteration" ->
      ai (ah P w) A (do       if <-lV e (.type "StopIteration") then pure none else throw e) Q E {s with heap:=h'}:=λe h' k ty=>
    Tj (cu (T := "StopIteration") (b:=true) ty rG (Tk (hQ h' k)))
  have mW:∀(f:aM->aM) b o,b≠I->s.heap.get? b=some o->(s.heap.update I f).get? b=some o:=λf b o nb q=>by
    rw[(T0 s.heap I f).2 b nb];exact q
  have fin:∀(Q':PySem.Fin->af->Prop),ai (ah P w) A.in1 (do
        bO (.ref I) 2 .none
        eT (<-jk (.type "StopIteration") [])) Q' (λe s'=>ai (ah P w) A (do                 if <-lV e (.type "StopIteration") then pure none else throw e) Q E s') s:=λQ'=>by
    refine Tj (bo hI rfl (by simp) ?_);refine Xcj (h0:=s.heap) (s:={s with heap:=s.heap.update I (aM.mapFields (·.setIfInBounds 2 aa.none))}) yO λe h' k ty=>?_;exact mV e h' (λb o nb q=>k b o (mW _ b o nb q)) ty
  refine Xcf hI hS (λsl e=>?_) (λp e=>?_) hO.cases0
  . subst e;cases hO with
    | txt hw e=>
      cases e;refine Tj (Xcg hw hS ?_);rw[getElem?_neg _ _ (by simp)];exact fin _
    | drw p os _ _ e _=>cases e
    | one iM hw qi h1 e hz ho=>
      cases e;obtain⟨_,_,_,_,lm⟩:=id hS;have jl:=Xci lm;refine Tj (Xch hw qi h1 hS ?_);have hn:es[ag.below t.place ((iM:Nat):Int).toNat]? = none:=by
        rw[Qr];by_cases h0:es.size=0
        . exact getElem?_neg _ _ (by lia)
        . have e1:es.size=1:=by lia
          have bS:0<t.place.size:=by rw[jl,e1];decide
          have:=ho t.place[0] (by rw[hl,e1]) (getElem?_pos t.place 0 bS);rw[this,Xjv (by rw[jl];exact h1) (getElem?_pos t.place 0 bS)];exact getElem?_neg _ _ (by lia)
      rw[hn];exact fin _
  . subst e;cases hO with
    | txt hw e=>cases e
    | one iM hw qi h1 e hz ho=>cases e
    | drw p' os hw lJ e mU=>
      cases e;obtain⟨n,mU⟩:=mU;refine Tj (rF mU rfl ?_);dsimp only;rw[getElem?_neg _ _ (by simp)];dsimp only;refine Tj (bo hI rfl (by simp) ?_);refine Tj (bo (Jp (x:=.none) (j:=0) hI 0 (aU 0)) rfl (by simp) ?_);refine Xcj (h0:=s.heap) (s:={s with heap:=(s.heap.update I (aM.mapFields (·.setIfInBounds 0 (aU 0)))).update I (aM.mapFields (·.setIfInBounds 2 aa.none))}) yO λe h' k ty=>?_;refine mV e h' (λb o nb q=>k b o ?_) ty;show ((s.heap.update I _).update I _).get? b=some o;rw[(T0 _ I _).2 b nb];exact mW _ b o nb q
end
namespace SF
def sSelf:Slot "set_iterator" "__iter__" "set_iterator.__iter__" := .of (owner := "set_iterator") (n := "__iter__") (by rw[qh,jB];kernel_rfl) (by decide +kernel) (by decide +kernel) (by decide +kernel) (by first | exact .inl (by decide +kernel) | exact .inr (by decide +kernel)) (by rw[cE];kernel_rfl)
def eSelf:km table "set_iterator.__iter__" = some ak.«dict_keyiterator.__iter__»:=g9 (id' := "dict_keyiterator.__iter__") (by kernel_rfl) rfl (by decide +kernel) (by kernel_rfl)
def aSelf(a):rD "set_iterator.__iter__" ⟨[a],[]⟩:=by unfold rD;kernel_rfl
end SF
section
variable {P:ap}{w:ax}{A:av}{E:Zb}{s:af}{I a:ae}{es:Array (Int×aa)}{ep:Nat}{t:ag}{vs:List aa}{fp:Option ae}{ks:Za}
def ItS.at{i}(x:ItS w I a es ep t vs fp i h)(k:∀b∈I::a::fp.toList,∀o,h.get? b=some o->h'.get? b=some o):ItS w I a es ep t vs fp i h':=by
 obtain⟨f0,h1,h2,h3,h4⟩:=x;refine⟨f0,k I (by simp) _ h1,?_,h3.at λo q=>k a (by simp) o q,h4⟩;cases h2 with
 | txt e1 e2=>exact .txt e1 e2
 | drw p os e1 e2 e3 e4=>
  obtain⟨n,e4⟩:=e4;exact .drw p os e1 e2 e3 ⟨n,k p (by rw[h4 p e3];simp) _ e4⟩
 | one sl e1 e2 e3 e4 e5 e6=>exact .one sl e1 e2 e3 e4 e5 e6
def Xjy(hh:A.handled=none)(hl:vs.length=es.size)(uj:a≠I)(vn:∀p,fp=some p->p≠I):jQ P w A I (I::a::fp.toList) [I] vs.length (λi v=>vs[i]? = some v) (ItS w I a es ep t vs fp) where
 sub:=λb hb=>by simp at hb;simp[hb]
 frame:=λ_ _ _ st hk=>st.at hk
 item:=λi s Q E hi st hQ=>by
  refine Xjw st hi hl uj vn λh' a8 sb=>?_;exact hQ vs[i] h' s.toks (by simp[hi]) a8 λb o hb e=>by rw[sb.2 b (λz=>hb (by simp[z]))];exact e
 done:=λs Q E st hQ=>Xjx hh st hl λh' k=>hQ h' s.toks λb o hb e=>k b o (λz=>hb (by simp[z])) e
 self:=λi s Q E st hQ=>by
  obtain⟨f0,h1,_⟩:=st;have hT:s.TypeIs (.ref I) "set_iterator" := ⟨_,h1,rfl⟩;refine cM hT SF.sSelf (aG SF.sSelf hT SF.eSelf ?_ (SF.aSelf _));show ai _ _ (ret (.ref I)) _ _ s;exact Tk ⟨_,rfl, "set_iterator",_,hT,SF.sNext.lookup,hQ⟩
def Xjz  (hT:s.TypeIs (.ref r) "set") (h:Q false s):ai (ah P w) A (ak.List.listLengthHint (.ref r)) Q E s:=by
 unfold ak.List.listLengthHint;refine Tj (qd hT PySem.F.slot_set_len.lookup ?_);generalize hid:("set.__len__" : String)=BQ
 wp_delta
 rw[show splitId BQ=some ("set", "__len__") from by subst hid;decide +kernel];subst hid;refine Tj (cu (T := "set") (b:=true) hT (by rw[cE];kernel_rfl) ?_);refine bJ (λz=>absurd z (by decide)) (λ_=>?_);refine bJ (λ_=>?_) (λz=>absurd (by decide +kernel) z);exact Tj (bv hT (Tk h))
end
end L2
namespace L2
open PySem.Calls
section
variable {P:ap}{w:ax}{A:av}{E:Zb}{s:af}{a:ae}{ks:Za}
def Xj0  {S:ae} {res:aa} (hh:A.handled=none) (hs:SSet P w s.heap a ks) (nS:S≠a) (gS:s.heap.get? S=some {cls:=.type "list",data:=.seq #[] c0})
  (hR:∀s' acc c vs ls,(∀b o,b≠S->s.heap.get? b=some o->s'.heap.get? b=some o)->s'.os=s.os->s'.gens=s.gens->s'.heap.get? S=some {cls:=.type "list",dict:=none,data:=.seq acc c,slots := #[]}->acc.toList=vs->aE vs ls->ls.Perm ks->R (.ok (.ret res)) s'):
  ai (ah P w) A.in1 (ak.List.listExtendWith (.ref S) (.ref a) res)
   (λfin s'=>match fin with | .done f=>R (.ok f) s' | .again c'=>c'.quiet=true/\bB (ah P w) A c' R s') (λe s'=>R (.error e) s') s:=by
 obtain⟨o,es,ep,t,yP,ho,hex,hd,eD,bK,jC,hb,hf,hl,bS⟩:=id hs;have hT:s.TypeIs (.ref a) "set" := ⟨o,ho,hex.1⟩;have la:=Tx ho;have lS:=Tx gS;unfold ak.List.listExtendWith;refine Tj (bv (T := "set") hT ?_);have n1:ak.List.listSameRef (.ref S) (.ref a)=false:=by simp[ak.List.listSameRef,nS]
 have n2:(aa.type "set" == aa.type "list")=false:=by decide
 have n3:(aa.type "set" == aa.type "tuple")=false:=by decide
 simp only[n1,n2,n3,Tc,Pf,if_false];refine Tj (Xjt ⟨o,ho,hex,hd,hf⟩ hb hl bS λf0 vs h1 d k1 z1 z2 kp O pv=>?_);have jD:vs.length=es.size:=by rw[pv.length_eq,Oh,Oq]
 have nI:∀b,b<h1.objs.size->b≠h1.objs.size:=λb q=>Os q;have kI:∀b o,s.heap.get? b=some o->(h1.push (itO f0 0 a es.size ep)).get? b=some o:=λb o q=>Tz _ (k1 b o q);obtain⟨fp,vo⟩:∃fp:Option ae,(∀p,f0 = .ref p->fp=some p)/\∀p,fp=some p->p≠h1.objs.size/\p≠S:=by
  cases f0 with
  | ref p=>
   refine⟨some p,⟨λq e=>(by cases e;rfl),λq e=>?_⟩⟩;cases e;refine⟨Os (kp p rfl),λz=>?_⟩;subst z;cases O with
   | drw p' os _ _ e ht=>
    cases e;obtain⟨n,ht⟩:=ht;rw[kI _ _ gS] at ht;have hc:=congrArg aM.cls (O4 ht);exact absurd hc (by simp)
   | txt _ e=>cases e
   | one _ _ _ _ e _ _=>cases e
  | _=>exact⟨none,⟨λq e=>(by cases e),λq e=>(by cases e)⟩⟩
 have cq:ItS w h1.objs.size a es ep t vs fp 0 (h1.push (itO f0 0 a es.size ep)):=⟨f0,am.get?_push_size _ rfl,O,⟨o,kI _ _ ho,hex,hd,hf⟩,vo.1⟩;have W:=Xjy (P:=P) (w:=w) (A:=A.in1) (I:=h1.objs.size) (a:=a) (es:=es) (ep:=ep) (t:=t) (vs:=vs) (fp:=fp) hh jD (Os (O7 la z2)) (λp e=>(vo.2 p e).1);have yQ:S∉h1.objs.size::a::fp.toList:=by
  simp only[Ox,not_or];refine⟨Os (O7 lS z2),nS,λz=>?_⟩;cases vp:fp with
  | none=>rw[vp] at z;simp at z
  | some p=>
   rw[vp] at z;have:S=p:=by simpa using z
   exact(vo.2 p vp).2 this.symm
 have key:∀(h:am) (c1:Nat),ItS w h1.objs.size a es ep t vs fp 0 h->(∀b o,b≠S->s.heap.get? b=some o->h.get? b=some o)->h.get? S=some {cls:=.type "list",data:=.seq #[] c1} ->
   bB (ah P w) A (.builtin "list.extend.loop" ⟨[.ref S,.ref h1.objs.size,res],[]⟩) R {s with heap:=h,drawn:=d}:=by
  intro h c1 lX hk rH;refine codeAny_extend_loopS W.toS (by rw[jD];exact aY hb) S yQ res vs.length 0 _ #[] c1 rfl (Pi _) lX rH (ItemsOf.nil _) λs' acc c hm BR cZ=>?_;have BS:acc.toList=vs:=by
   apply List.ext_getElem?;intro i;by_cases hi:i<vs.length
   ·have eW:i<acc.size:=by rw[cZ.1];exact hi
    have:=cZ.2 i acc[i] (getElem?_pos acc i eW);rw[this];simp[eW]
   ·rw[Rw (by rw[Oq,cZ.1];lia),Rw (by lia)]
  have BU:aE vs (vs.map mS):=yI vs λv hv=>bK.all v (pv.mem_iff.mp hv);refine hR s' acc c vs (vs.map mS) (λb o nb q=>hm.heap b o (λz=>?_) (hk b o nb q)) hm.os hm.gens BR BS BU ?_
  ·rcases Ox.mp z with z | z
   ·exact nb z
   ·exact absurd (O7 (Tx q) z2) (by rw[Om.mp z];exact P1 _)
  ·have:=pv.map mS;rw[bK.strs] at this;exact this.trans jC
 have rH:=kI _ _ gS;have vq:af.TypeIs {s with heap:=h1.push (itO f0 0 a es.size ep),drawn:=d} (.ref a) "set" := ⟨o,kI _ _ ho,hex.1⟩;refine Tj (a7 (Xjz vq ?_));refine bJ (λ_=>?_) (λ_=>Tk ⟨cP PySem.F.plain_extend_loop _,key _ c0 cq (λb o _ q=>kI b o q) rH⟩);refine Tj (aR (Tj ?_));show ai _ _ (JV S (·.push .none) >>= λ_=>JV S (·.pop)) _ _ _;refine Tj (qj rH rfl ?_);have yR:=am.get?_update_self (aM.mapSeq (·.push aa.none)) rH rfl;refine qj (hz:=by seq_fits) yR rfl ?_;have BV:=am.get?_update_self (aM.mapSeq (·.pop)) yR rfl;have gB:∀b,b≠S->(((h1.push (itO f0 0 a es.size ep)).update S (aM.mapSeq (·.push aa.none))).update S (aM.mapSeq (·.pop))).get? b=(h1.push (itO f0 0 a es.size ep)).get? b:=λb nb=>
  (am.get?_update_other _ _ (Ne.symm nb)).trans (am.get?_update_other _ _ (Ne.symm nb))
 refine Tk ⟨cP PySem.F.plain_extend_loop _,key _ _ (cq.at λb vt o q=>?_) (λb o nb q=>?_) BV⟩
 ·rw[gB b (λz=>yQ (z ▸ vt))];exact q
 ·rw[gB b nb];exact kI b o q
def Xj1(hh:A.handled=none)(hs:SSet P w s.heap a ks)
    (h:∀s' vs ls,(∀b o,s.heap.get? b=some o->s'.heap.get? b=some o)->s'.os=s.os->s'.gens=s.gens->aE vs ls->ls.Perm ks->R vs s'):ai (ah P w) A (collect (.ref a)) R E s:=by
  have la:a<s.heap.objs.size:=by obtain⟨o,_,_,_,_,g,_⟩:=hs;exact Tx g
  unfold collect;refine Tj (g7 (bR entry_proto_collect' ?_));rw[av.under_plainId PySem.F.plain_proto_collect _];show ai _ A.in1 (newList [] >>= λl=>again (.builtin "list.__iadd__" ⟨[l,aa.ref a],[]⟩)) _ _ s;refine Tj (aC ?_);refine Tk ⟨cP PySem.F.plain_list_iadd _,bR entry_list_iadd' ?_⟩;rw[av.under_plainId PySem.F.plain_list_iadd _];have gS:(s.heap.push {cls:=.type "list",data:=.seq ([]:List aa).toArray}).get? s.heap.objs.size=some {cls:=.type "list",data:=.seq #[] 0}:=am.get?_push_size _ rfl;show ai _ A.in1 (ak.List.listExtendWith (.ref s.heap.objs.size) (.ref a) (.ref s.heap.objs.size)) _ _ _;have key:=Xj0 (A:=A) (s:={s with heap:=s.heap.push {cls:=.type "list",data:=.seq ([]:List aa).toArray} }) (S:=s.heap.objs.size) (res:=.ref s.heap.objs.size)
    (R:=λq s'=>∃acc c vs ls,q = .ok (.ret (.ref s.heap.objs.size))/\(∀b o,s.heap.get? b=some o->s'.heap.get? b=some o)/\s'.os=s.os/\s'.gens=s.gens/\s'.heap.get? s.heap.objs.size=some {cls:=.type "list",dict:=none,data:=.seq acc c,slots := #[]}/\acc.toList=vs/\aE vs ls/\ls.Perm ks)
    hh (hs.stay λo q=>Tz _ q) (Si la) gS (λs' acc c vs ls k e1 e2 g e3 e4 e5=>⟨acc,c,vs,ls,rfl,λb o q=>k b o (Os (Tx q)) (Tz _ q),e1,e2,g,e3,e4,e5⟩)
  have done:∀(q:qQ) (s':af),(∃acc c vs ls,q = .ok (.ret (.ref s.heap.objs.size))/\(∀b o,s.heap.get? b=some o->s'.heap.get? b=some o)/\s'.os=s.os/\s'.gens=s.gens/\s'.heap.get? s.heap.objs.size=some {cls:=.type "list",dict:=none,data:=.seq acc c,slots := #[]}/\acc.toList=vs/\aE vs ls/\ls.Perm ks) ->
      wants (λv s2=>ai (ah P w) A (match v with
        | .ref l=>(do match (<-load l).data with
                        | .seq xs _=>pure xs.toList
                        | _=>unsupported "internal:collect")
        | _=>unsupported "internal:collect") R E s2) E q s':=λq s' ⟨acc,c,vs,ls,e0,k,e1,e2,g,e3,e4,e5⟩=>by
    subst e0;show ai _ A (load s.heap.objs.size >>= _) _ _ s';refine Tj (lA g ?_);refine Tk ?_;rw[e3];exact h s' vs ls k e1 e2 e4 e5
  refine aJ key (λfin s' x=>?_) λe s' x=>?_
  . cases fin with
    | done f=>exact done _ _ x
    | again c1=>exact⟨x.1,br x.2 λq s2 y=>done q s2 y⟩
  . obtain⟨_,_,_,_,e',_⟩:=x;cases e'
end
section
variable {X:Cx}{pins:List (ae×aM)}{Z:St}{H:Hp}{s s':af}
def Inv.moved(I:Inv X pins Z H s)(k:∀b u,s.heap.get? b=some u->s'.heap.get? b=some u)(ho:s'.os=s.os)(hg:s'.gens=s.gens):Inv X pins Z H s':=by
 have J:=I.kept (h':=s'.heap) (t':=s'.toks) k;exact⟨J.ok,ho.trans I.os,by rw[hg];exact I.bare,J.base,J.loc,J.cell,J.free,J.freeC,J.pin,J.hok,J.len⟩
def Inv.laidM  (I:Inv X pins Z H s) (k:∀b u,s.heap.get? b=some u->s'.heap.get? b=some u) (ho:s'.os=s.os) (hg:s'.gens=s.gens) (hp:s.heap.objs.size<=a) (new:A3 X.prog X.w (upd H a o) s'.heap a o):Inv X pins Z (upd H a o) s':=by
 have J:=I.laid (h':=s'.heap) (t':=s'.toks) k hp new;exact⟨J.ok,ho.trans I.os,by rw[hg];exact I.bare,J.base,J.loc,J.cell,J.free,J.freeC,J.pin,J.hok,J.len⟩
end
section
variable {P:ap}{w:ax}{A:av}{E:Zb}{s:af}{ks:Za}
def Me  (cz:ks.length<64)
  (hc:∀(R:List aa->af->Prop),(∀s' vs ls,(∀b o,s.heap.get? b=some o->s'.heap.get? b=some o)->s'.os=s.os->s'.gens=s.gens->aE vs ls->ls.Perm ks->R vs s')->ai (ah P w) A.in1 (collect (.ref r)) R E s)
  (h:∀(s1 s':af) (vs:List aa) (ls:Za) (e:Nat),(∀b o,s.heap.get? b=some o->s1.heap.get? b=some o)->s1.os=s.os->s1.gens=s.gens->(∀b o,s1.heap.get? b=some o->s'.heap.get? b=some o)->s'.os=s1.os->s'.gens=s1.gens->s'.heap.get? s1.heap.objs.size=some (ar "list" vs.toArray e)->aE vs ls->ls.Perm ks->fZ ls=true->Q (.ref s1.heap.objs.size) s'):
  ai (ah P w) A (call (.builtin "sorted") [.ref r]) Q E s:=by
 refine Calls.call_function_entry fG eZ fc (vw _) ?_;unfold ak.«sorted»;refine Tj (m:=gC "sorted" 1 1 _) (Tk ?_);refine Tj (hc _ λs1 vs ls k1 o1 g1 st p=>?_);have hl:vs.length<64:=by rw[st.length,p.length_eq];exact cz
 refine Tj (bQ ?_ (by rw[Tp];lia));have gL:(s1.heap.push (ar "list" vs.toArray 0)).get? s1.heap.objs.size=some (ar "list" vs.toArray 0):=am.get?_push_size _ rfl;refine Tj (a7 (aG (s:={s1 with heap:=s1.heap.push (ar "list" vs.toArray 0)}) dG ⟨_,gL,rfl⟩ du (list_sort_treeK strKind_oneLt gL st.keysOf (λa b rest e=>keyKind_strs (by rw[<-e];exact st)) hl λa8 pp so=>⟨_,rfl,?_⟩) (rJ _)));obtain⟨qg,a1,a2,a3⟩:=sorted_out_str st pp so;obtain⟨e,he⟩:=sortedHeap_at (out:=(bi a8).map (·.2)) gL;refine Tk ⟨_,rfl,h s1 _ ((bi a8).map (·.2)).toList qg e k1 o1 g1 (λb o q=>?_) rfl rfl he a1 (a2.trans p) a3⟩;have lt:=Tx q;show (BW (s1.heap.push (ar "list" vs.toArray 0)) s1.heap.objs.size vs ((bi a8).map (·.2))).get? b=some o;rw[sortedHeap_old (Os lt) (by rw[bz];exact Py lt)];exact Tz _ q
end
def Eo (P:ap) (w:ax) (a:ae) (ks:Za):HO:=.ext λh=>SSet P w h a ks
def Xck  (h:aE vs ss):Vals (ss.map V.str) vs:=by
 induction h with
 | nil=>exact .nil
 | cons x t _ ih=>exact .cons ⟨t,rfl⟩ ih
theorem F7:∀{ss:Za} {vs:List aa},Vals (ss.map V.str) vs->aE vs ss
 | [],_,r=>by cases r;exact .nil
 | x::ss,_,r=>by
  cases r with
  | cons r1 r2=>
   obtain⟨t,rfl⟩:=r1;exact .cons x t (F7 r2)
section
variable {X:Cx}
def Hm:X.calm=true->Bu X (.type "set") (λxs H Q=>∃p ss,xs=[.ref p]/\(SqL X.K H p (ss.map V.str)\/SqT X.K H p (ss.map V.str))/\ss.length+1<aX/\∀a,H a=none->Q (.ref a) (upd H a (Eo X.prog X.w a (ddup ss)))):=by
 intro bA pins s Z H xs us Q I r h;obtain⟨p,ss,rfl,hq,hb,q⟩:=h;obtain⟨u,rfl,rx⟩:=Bq r;cases rx;obtain⟨aA,r',ot⟩:∃aA:List aa,Vals (ss.map V.str) aA/\Src s.heap p aA.toArray:=by
  rcases hq with hq | hq
  ·obtain⟨aA,r',pl,_⟩:=I.list hq;exact⟨aA,r',.lst pl.isList⟩
  ·obtain⟨aA,r',pl,_⟩:=I.tuple hq;exact⟨aA,r',.tup pl⟩
 refine Xjp (I.ok.hd bA) ot (F7 r') hb λh' tk S k=>?_;refine⟨.ref s.heap.objs.size,_,I.laidM (s':={s with heap:=h',toks:=tk}) k rfl rfl (Oi _) ?_,rfl,q _ (I.hok.fresh (Oi _))⟩;exact⟨S,by obtain⟨o,_,_,_,_,g,_⟩:=S;exact⟨o,g⟩,λh1 h2 S1 kk=>S1.stay kk⟩
def Mf    {s s1 s':af}    (I:Inv X pins Z H s) (cz:ks.length<64) (k1:∀b o,s.heap.get? b=some o->s1.heap.get? b=some o) (o1:s1.os=s.os) (g1:s1.gens=s.gens)
  (k2:∀b o,s1.heap.get? b=some o->s'.heap.get? b=some o) (o2:s'.os=s1.os) (g2:s'.gens=s1.gens) (he:s'.heap.get? s1.heap.objs.size=some (ar "list" vs.toArray e)) (st:aE vs ls) (p:ls.Perm ks)
  (q:∀l,H l=none->Q (.ref l) (upd H l (.lst (ls.map V.str)))):EP X pins Z Q (.ref s1.heap.objs.size) s':=by
 have I1:=I.moved k1 o1 g1;refine⟨.ref s1.heap.objs.size,_,I1.laidM k2 o2 g2 (Oi _) (show A3 X.prog X.w _ s'.heap _ (.lst (ls.map V.str)) from ⟨?_,vs,e,Xck st,he⟩),rfl,q _ (I1.hok.fresh (Oi _))⟩;rw[Oh,p.length_eq,Tp]
 lia
def Jq:X.calm=true->Bu X (.builtin "sorted") (λxs H Q=>∃a ks,xs=[.ref a]/\H a=some (Eo X.prog X.w a ks)/\ks.length<64/\∀l ls,H l=none->ls.Perm ks->fZ ls=true->Q (.ref l) (upd H l (.lst (ls.map V.str)))):=by
 intro bA pins s Z H xs us Q I r h;obtain⟨a,ks,rfl,ha,cz,q⟩:=h;obtain⟨u,rfl,rx⟩:=Bq r;cases rx;obtain⟨S,_⟩:=(show A3 X.prog X.w H s.heap a (.ext λh=>SSet X.prog X.w h a ks) from I.hok a _ ha);refine Me cz (λR k=>Xj1 (by show X.A.in1.handled=none;simp[I.ok.hd bA]) S k) λs1 s' vs ls e k1 o1 g1 k2 o2 g2 he st p so=>?_;exact Mf I cz k1 o1 g1 k2 o2 g2 he st p λl hl=>q l ls hl p so
end
def Inv.turned2        (I:Inv X pins Z H s) (k:∀b o,b≠e1->b≠e2->s.heap.get? b=some o->h'.get? b=some o) (f1:FpOk X pins H e1) (f2:FpOk X pins H e2):Inv X pins Z H {s with heap:=h',toks:=t'}:=by
 have no:∀b u,H b=some u->b≠e1/\b≠e2:=λb u q=>⟨λz=>(by rw[z,f1.1] at q;cases q),λz=>(by rw[z,f2.1] at q;cases q)⟩;have nn:∀b,b∉[e1,e2]->b≠e1/\b≠e2:=λb hb=>by simpa using hb
 refine I.step (g':=s.gens) (d':=s.drawn) (ch:=[e1,e2]) (λb hb=>?_) (λb o _ _ hc q _=>k b o (nn b hc).1 (nn b hc).2 q) (λb o _ _ hc q _=>⟨o.slots,k b o (nn b hc).1 (nn b hc).2 q⟩) (λ_ _ _ _ n=>n) (λb o hc q=>⟨o,k b o (nn b hc).1 (nn b hc).2 q⟩) (λ_ _ q=>q) (λ_ _ _ q=>q) (λb ps q=>⟨#[],by rw[q];simp⟩) (λm hm=>?_) (λb u q=>?_) I.bare
 ·have dL:b=e1\/b=e2:=by simpa using hb
  rcases dL with z | z
  ·subst z;exact⟨f1.2.2.2.1,f1.2.1,f1.2.2.2.2.1,f1.2.2.2.2.2⟩
  ·subst z;exact⟨f2.2.2.2.1,f2.2.1,f2.2.2.2.2.1,f2.2.2.2.2.2⟩
 ·obtain⟨o,es,ep,ho,r⟩:=hm;exact⟨o,es,ep,k _ o (Ne.symm f1.2.1) (Ne.symm f2.2.1) ho,r⟩
 ·refine(I.hok b u q).stay (λc v hc z=>k c v ?_ ?_ z) (λ_ z=>z) λ_ _ z=>z
  ·rcases hc with y | y
   ·rw[y];exact(no b u q).1
   ·exact(no c _ y).1
  ·rcases hc with y | y
   ·rw[y];exact(no b u q).2
   ·exact(no c _ y).2
def Ite (K:LY) (a:ae):It:=
 ⟨λi H=>∃xs x,SqL K H a xs/\xs[i]? = some x,λi H x H'=>∃tp,x = .ref tp/\H tp=none/\∀xs,SqL K H a xs->∃y,xs[i]? = some y/\H'=upd H tp (.tup [.int i,y]),λi H=>∃xs,SqL K H a xs/\xs.length<=i⟩
def Xj2{P:ap}{w:ax}{K:LY}{es:List aF}{k:Nat}{p:bN}(a e it:ae)(ne:e≠it):Turn P w K (.Tuple es k p) (Ite K a) [e,it] e (λi h=>(∃iz,IsEnum h e it i iz)/\h.IsListIter it a i) where
 mem:=by simp
 obj:=λi h st b hb=>by
  have dL:b=e\/b=it:=by simpa using hb
  rcases dL with z | z
  ·subst z;obtain⟨⟨iz,q⟩,_⟩:=st;exact⟨_,q,λv z=>by
    have z':uX.fields _=uX.cell v:=z;cases z'⟩
  ·subst z;obtain⟨o,q,c,d⟩:=st.2;exact⟨o,q,λv z=>by rw[d] at z;cases z⟩
 keep:=λi h h' st k=>by
  obtain⟨⟨iz,q⟩,l⟩:=st;exact⟨⟨iz,k e (by simp) _ q⟩,l.at λo z=>k it (by simp) o z⟩
 item:=by
  intro X hP hw hK hc i pins s Z H E I hf st hg;subst hP hw hK;obtain⟨xs,x,hq,hx⟩:=hg;obtain⟨aA,rv,pl,hz⟩:=I.list hq;obtain⟨u,hu,ru⟩:=rv.get hx;have f1:=hf e (by simp);have f2:=hf it (by simp);obtain⟨⟨iz,q⟩,l⟩:=st;refine wpAny_pyNext_enum_item q l pl.isList (x:=u) (by simpa using hu) ne λh' qo l' tp sz kk=>?_;have I1:Inv X pins Z H {s with heap:=h',toks:=s.toks+1}:=I.turned2 kk f1 f2;refine⟨_,rfl,?_⟩;have le:e<s.heap.objs.size:=Tx q;obtain⟨ol,ui,_⟩:=id l;have lit:it<s.heap.objs.size:=Tx ui;unfold c5;refine Tj (lA qo ?_);dsimp only;rw[Tr (by simp[aU])];refine Tj (aR ?_);show ai _ _ (bO (.ref e) 0 .none) _ _ _;refine bo qo rfl (by simp) ?_;have g:=am.get?_update_self (aM.mapFields (·.setIfInBounds 0 aa.none)) qo rfl;have sb:=T0 h' e (aM.mapFields (·.setIfInBounds 0 aa.none));have I2:Inv X pins Z (upd H s.heap.objs.size (.tup [.int i,x])) {s with heap:=h'.update e (aM.mapFields (·.setIfInBounds 0 aa.none)),toks:=s.toks+1}:=by
   have J:=I.laid (a:=s.heap.objs.size) (o:=.tup [.int i,x]) (h':=s.heap.push {cls:=.type "tuple",data:=.seq #[.int i s.toks,u]}) (t':=s.toks+1) (λb o z=>Tz _ z) (Oi _) (show A3 X.prog X.w _ _ _ (.tup [.int i,x]) from ⟨by show 2<=sizeLine;decide,[.int i s.toks,u],.cons ⟨_,rfl⟩ (.cons ru .nil),dh.new _ _⟩);have g1:FpOk X pins (upd H s.heap.objs.size (.tup [.int i,x])) e:=⟨by rw[Ad (Os le)];exact f1.1,f1.2⟩;have g2:FpOk X pins (upd H s.heap.objs.size (.tup [.int i,x])) it:=⟨by rw[Ad (Os lit)];exact f2.1,f2.2⟩;refine J.turned2 (λb o n1 n2 z=>?_) g1 g2;show (h'.update e _).get? b=some o;rw[sb.2 b n1];by_cases hb:b=s.heap.objs.size
   ·subst hb;have z':(s.heap.push {cls:=.type "tuple",data:=.seq #[.int i s.toks,u]}).get? s.heap.objs.size=some o:=z;rw[am.get?_push_size _ rfl] at z';cases z';exact tp
   ·have z':(s.heap.push {cls:=.type "tuple",data:=.seq #[.int i s.toks,u]}).get? b=some o:=z;rw[am.get?_push_ne _ _ _ hb] at z';exact kk b o n1 n2 z'
  refine⟨.ref s.heap.objs.size,_,I2,rfl,⟨_,rfl,I.hok.fresh (Oi _),λys hy=>⟨x,by rw[I.list_inj hy hq];exact hx,rfl⟩⟩,⟨⟨u,g.trans ?_⟩,l'.at λo z=>?_⟩,λb hb=>?_⟩
  ·rfl
  ·rw[sb.2 it (Ne.symm ne)];exact z
  ·have dL:b=e\/b=it:=by simpa using hb
   rcases dL with z | z
   ·subst z;rw[Ad (Os le)];exact f1.1
   ·subst z;rw[Ad (Os lit)];exact f2.1
 done:=by
  intro X hP hw hK hc i pins s Z H E I hf st hg;subst hP hw hK;obtain⟨xs,hq,hx⟩:=hg;obtain⟨aA,rv,pl,hz⟩:=I.list hq;have hl:=rv.length;have f2:=hf it (by simp);obtain⟨⟨iz,q⟩,l⟩:=st;exact wpAny_pyNext_enum_end (I.ok.hd hc) q l pl.isList (by simp;lia) λh' eb=>⟨rfl,I.turned (t':=s.toks) (λb o hb z=>eb b o hb z) f2.1 f2.2.1 f2.2.2.2.1 f2.2.2.2.2.1 f2.2.2.2.2.2⟩
 self:=λ_ _ _ _ _ st h=>by
  obtain⟨⟨iz,q⟩,_⟩:=st;exact mX q h
def Xj3 (K:LY) (ta:TA):TI:=fun Z H R=>ta Z H λvs H1=>∃a,vs=[.ref a]/\(∃xs,SqL K H1 a xs)/\R (Ite K a) H1
def Xj4       (hg:Gl X "enumerate") (hm:X.mg "enumerate" = none) (ha:PA X [l] ta) (hs:aB [l] X.env=[(false,eval l X.env)]:=by rfl):PI X (.Tuple es k p2) (.Call (.Name "enumerate" p) [l] [] pos) (Xj3 X.K ta):=by
 intro pins s Z H R I h;refine Call_ (Ey I hg hm (show bF "enumerate" = some (.type "enumerate") by decide +kernel) (PyProof.Rows.callWith_type1 (thn (ha pos pins s Z H _ I h) λus s1 ⟨vs,H1,I1,r1,q1⟩=>?_) hs rfl));obtain⟨a,e,⟨xs,hq⟩,q⟩:=q1;subst e;cases r1 with
 | cons r rr=>
  cases rr;cases r;obtain⟨aA,rv,pl,hz⟩:=I1.list hq;refine call_enumerate_list pl.isList λh' qe ql sz kk=>?_;refine mX qe ?_;have I2:Inv X pins Z H1 {s1 with heap:=h'}:=I1.kept (t':=s1.toks) kk;refine⟨_,[s1.heap.objs.size+1,s1.heap.objs.size],_,_,H1,rfl,I2,Xj2 a _ _ (Nat.succ_ne_self _),⟨⟨_,qe⟩,ql⟩,λb hb=>?_,q⟩;have dL:b=s1.heap.objs.size+1\/b=s1.heap.objs.size:=by simpa using hb
  rcases dL with z | z
  ·subst z;exact I1.fpOk (Ql _) (I1.hok.fresh (Ql _))
  ·subst z;exact I1.fpOk (Oi _) (I1.hok.fresh (Oi _))
section
variable {X:Cx}{es:List aF}{t:St->Hp->(Hp->Prop)->Prop}{e:aF}{te:TE}{pos:bN}
def Xj5 (te:TE) (t:St->Hp->(Hp->Prop)->Prop):St->Hp->(Hp->Prop)->Prop:=fun Z H Q=>te Z H λx H1=>∃z,x = .str z/\z.length<=400/\(∀c∈z.cps.toList,c<16 ^ 8)/\t Z H1 Q
def Xj6(ha:PE X e te)(h:PJ X es t)(he:cD (.FormattedValue e 114 none p::es) X.env=eval (.FormattedValue e 114 none p) X.env::cD es X.env:=by rfl):PJ X (.FormattedValue e 114 none p::es) (Xj5 te t):=by
 intro out pins s Z H Q I hw hl;rw[he];rw[O5] at hl;refine gx (h8 (thn (ha pins s Z H _ I hw) λv s1 ⟨x,H1,I1,r1,q1⟩=>?_));obtain⟨z,ez,h1,h2,q⟩:=q1;subst ez;obtain⟨tk,rfl⟩:=r1;have hz:=StrLaws.reprText_len z h2;have vy:(fe z).length<=sizeLine:=by rw[Tp];lia
 refine wpAny_pyReprObj_str ?_ vy;refine qk (λt' k=>⟨by rw[E9];lia,?_⟩) vy;exact h _ pins _ Z H1 Q ((I1.tok _).tok _) q (by rw[E9];lia)
theorem Xcl:∀ss l,l.length=ss.length->(∀i (hi:i<ss.length),∃t,l[i]? = some (.str ss[i] t))->aE l ss
 | [],l,e,_=>by rw[Px.mp e];exact .nil
 | y::ys,[],e,_=>by cases e
 | y::ys,v::vs,e,i6=>by
  obtain⟨t,q⟩:=i6 0 (by simp);have:v = .str y t:=by simpa using q
  subst this;refine .cons y t (Xcl ys vs (by simpa using e) λi hi=>?_);obtain⟨t',e'⟩:=i6 (i+1) (by simpa using hi);exact⟨t',by simpa using e'⟩
def Xcm:X.calm=true->Bu X (.builtin "sorted") (λxs H Q=>∃d kvs ss,xs=[.ref d]/\Rd H d (.dK kvs)/\kvs.map (·.1)=ss.map (λx=>(Sum.inr x:Key))/\ss.length<64/\∀l ls,H l=none->ls.Perm ss->fZ ls=true->Q (.ref l) (upd H l (.lst (ls.map V.str)))):=by
 intro bA pins s Z H xs us Q I r h;obtain⟨d,kvs,ss,rfl,hd,hk,cz,q⟩:=h;obtain⟨u,rfl,rx⟩:=Bq r;cases rx;obtain⟨hz,hm,vs,rv,o,es,ep,ho,hex,ul,hr⟩:=E7 I.hok hd;have jm:kvs.length=ss.length:=by have:=congrArg List.length hk;simpa using this
 have jD:vs.length=ss.length:=by rw[<-jm];exact(Paired.length rv).symm
 have BX:vs.map (·.1)=ss.map (λx=>(Sum.inr x:Key)):=by rw[<-hk];exact rv.keys.symm
 have i6:∀acc:Array aa,ItemsOf (λi v=>∃k x,vs[i]? = some (k,x)/\(Bb X.prog X.w).is k v=true) acc vs.length->aE acc.toList ss:=λacc cZ=>by
  refine Xcl ss _ (by rw[Oq,cZ.1,jD]) λi hi=>?_;have eW:i<acc.size:=by rw[cZ.1,jD];exact hi
  obtain⟨k',x,hx,BY⟩:=cZ.2 i acc[i] (getElem?_pos acc i eW);have j9:k'=Sum.inr ss[i]:=by
   have:=congrArg (λl=>l[i]?) BX;simp only[O2,hx,Q3,Oj hi] at this;exact O4 this
  subst j9;obtain⟨t,e⟩:=aa.isStrOf_shape BY;exact⟨t,by rw[Rb,getElem?_pos acc i eW,e]⟩
 refine Me cz (λR kR=>PySem.W.kdu_collect (PySem.W.kdl_dict (knd:=Bb X.prog X.w) (kvs:=vs) (ep:=ep) hm) (by show X.A.in1.handled=none;simp[I.ok.hd bA]) ⟨o,es,ho,hex,ul,hr⟩ (by rw[jD,Tp];lia) (λh' tk acc kk cZ=>kR {s with heap:=h',toks:=tk} acc.toList ss kk rfl rfl (i6 acc cZ) (Qk _)))
  λs1 s' vs ls e k1 o1 g1 k2 o2 g2 he st p so=>Mf I cz k1 o1 g1 k2 o2 g2 he st p λl hl=>q l ls hl p so
def rSlS:V->Option Int->Option Int->Hp->VK->Prop:=λx lo hi H Q=>∃z,x = .str z/\lo=none/\(∃j,hi=some j)/\z.length<=1000/\Q (.str (Txt.slice z lo hi)) H
def Xj7:SlR X rSlS:=by
 intro pins s Z H x v vl vu lo hi sl Q I rx hs pl pu h;obtain⟨z,rfl,rfl,⟨j,rfl⟩,hz,q⟩:=h;obtain⟨tz,rfl⟩:=rx;cases pl;cases pu;rename_i tu;refine⟨"str",_,PySem.F.slot_str_getitem.lookup,lF _ _ _,wpAny_getItem_str_slice (l:=none) (u:=some (j,tu)) (st:=none) hs rfl (post_val_or_str ⟨?_,λt' k=>?_⟩)⟩
 ·exact Pm (Txt.slice_le z none (some j)) (by rw[Tp];lia)
 ·exact⟨.str (Txt.slice z none (some j)),H,I.tok _,⟨t',rfl⟩,q⟩
end
end L2
set_option maxHeartbeats 4000000
namespace L2
def leS (x y:ao):Prop:=x.cps.toList<=y.cps.toList
def Xj8{x y:ao}(h:x.cps.toList=y.cps.toList):x=y:=by
 obtain⟨⟨a⟩⟩:=x;obtain⟨⟨b⟩⟩:=y;have:a=b:=h;rw[this]
def Xcn(h:leS x y)(g:leS y x):x=y:=Xj8 (List.le_antisymm h g)
def Xco(h:leS x y)(g:leS y z):leS x z:=List.le_trans h g
def Mg(x y):leS x y\/leS y x:=List.le_total _ _
def ltS (x y:ao):Prop:=x.cps.toList<y.cps.toList
instance (x y:ao):Decidable (ltS x y):=inferInstanceAs (Decidable (x.cps.toList<y.cps.toList))
instance (x y:ao):Decidable (leS x y):=inferInstanceAs (Decidable (x.cps.toList<=y.cps.toList))
def Jr(x):¬ltS x x:=List.lt_irrefl _
def Js(h:ltS x y)(g:ltS y z):ltS x z:=List.lt_trans h g
def Mh:¬ltS x y↔leS y x:=List.not_lt
def ltS_of(h:leS x y)(n:x≠y):ltS x y:=by
 by_cases q:ltS x y
 ·exact q
 ·exact absurd (Xcn h (Mh.mp q)) n
def Xj9(h:ltS x y):leS x y:=List.le_of_lt h
def Hn(h:ltS x y):x≠y:=λe=>Jr y (e ▸ h)
theorem Xcp:∀l p,risingS p l=true->(p::l).Pairwise leS
 | [],p,_=>by simp
 | x::r,p,h=>by
  have h':(!ltCps x.cps.toList p.cps.toList&&risingS x r)=true:=h;rw[Oz,ltCps_eq] at h';have ih:=Xcp r x h'.2;have yS:leS p x:=by
   have:=h'.1;simp only[S8,decide_eq_false_iff_not] at this;exact this
  refine Rc.mpr ⟨λy hy=>?_,ih⟩;rcases Ox.mp hy with e | e
  ·rw[e];exact yS
  ·exact Xco yS ((Rc.mp ih).1 y e)
theorem Xcq:∀l,fZ l=true->l.Pairwise leS
 | [],_=>by simp
 | x::r,h=>Xcp r x h
theorem Fa:∀{a b:Za},a.Perm b->a.Pairwise leS->b.Pairwise leS->a=b
 | [],b,p,_,_=>by rw[List.nil_perm.mp p]
 | x::a,[],p,_,_=>by have:=p.length_eq;simp at this
 | x::a,y::b,p,ha,hb=>by
  obtain⟨a1,a2⟩:=Rc.mp ha;obtain⟨b1,b2⟩:=Rc.mp hb;have e:x=y:=by
   have hx:x∈y::b:=p.mem_iff.mp Ov;have hy:y∈x::a:=p.mem_iff.mpr Ov;rcases Ox.mp hx with e | hx
   ·exact e
   ·rcases Ox.mp hy with e | hy
    ·exact e.symm
    ·exact Xcn (a1 y hy) (b1 x hx)
  subst e;rw[Fa (List.Perm.cons_inv p) a2 b2]
def srt (l:Za):Za:=l.mergeSort λx y=>decide (leS x y)
def Cw(l):(srt l).Perm l:=List.mergeSort_perm ..
def Eb(l):(srt l).Pairwise leS:=by
 have h:=List.pairwise_mergeSort (le:=λx y=>decide (leS x y)) (λa b c h1 h2=>Tt (Xco (Tv h1) (Tv h2)))
  (λa b=>by rcases Mg a b with h | h<;>simp[h]) l
 exact h.imp λh=>Tv h
def F8(p:ls.Perm ks)(h:fZ ls=true):ls=srt ks:=Fa (p.trans (Cw ks).symm) (Xcq _ h) (Eb _)
def Xcr(p:a.Perm b):srt a=srt b:=Fa ((Cw a).trans (p.trans (Cw b).symm)) (Eb _) (Eb _)
def Fb  : x∈srt l↔x∈l:=(Cw l).mem_iff
def dit (row:Za):Za:=srt (ddup row)
def Ao  : x∈dit row↔x∈row:=Fb.trans (Mc row x)
def F9(row):(dit row).Nodup:=(Cw _).nodup_iff.mpr (Hk row)
def Du(row):(dit row).Pairwise ltS:=by
 have h1:=Eb (ddup row);have h2:(dit row).Pairwise (· ≠ ·):=F9 row;exact(h1.and h2).imp λh=>ltS_of h.1 h.2
def Fc(row):(dit row).length<=row.length:=by
 have:=(Cw (ddup row)).length_eq;have h:=Hl row;unfold dit
 lia
def Ho{a b:Za}(ha:a.Nodup)(hb:b.Nodup)(h:∀x,x∈a↔x∈b):a.Perm b:=(List.perm_ext_iff_of_nodup ha hb).mpr h
def Xcs(p:ls.Perm ks)(h:fZ ls=true)(nd:ks.Nodup)(m:∀x,x∈ks↔x∈row):ls=dit row:=
 Fa (p.trans ((Ho nd (Hk row) λx=>(m x).trans (Mc row x).symm).trans (Cw _).symm)) (Xcq _ h) (Eb _)
structure Fn (P:ap) (w:ax) (K:LY) (mg:ao->Option aa) (base:am) (CX:CXT) (k:Nat) (x:ao) (ps:Za) (sp:Sp):Prop where
 ex:∃f fd,mg x=some (.ref f)/\ME K (.ref f)=true/\Binds K fd ps []/\FnOk P w K mg base CX k f fd ps sp
section
variable {X:Cx}{CX:CXT}{k:Nat}{ps:Za}{sp:Sp}{E:XK}{x:ao}{p pos:bN}{e:aF}{es:List aF}{t:TA}
def Ak(F:Fn X.prog X.w X.K X.mg X.base CX k x ps sp)(hr:Room k X.A)(hg:Gl X x)(hx:Passes CX X E)
  (ha:PA X (e::es) t) (gl:(x==("__debug__" : ao))=false:=by decide) (he:aB (e::es) X.env=(false,eval e X.env)::aB es X.env:=by rfl) (bS:(bC pos (aB es X.env)).any (·.1)=false:=by rfl):
  PE X (.Call (.Name x p) (e::es) [] pos) (Ll sp [] E t):=by
 obtain⟨f,fd,hm,hk,hb,hF⟩:=F.ex;exact Xhp hF hr hg hm hk hb .nil hx ha gl he bS
def Xka{st}{rest}   (P:St->Hp->Prop)(h2:∃u,PSs X rest u/\∀Z' H',P Z' H'->u D Z' H')
  (h1:∀nx,(∀Z' H',P Z' H'->nx Z' H')->∃t,PS X st t/\t {D with nx:=nx} Z H):∃t,PSs X (st::rest) t/\t D Z H:=by
 obtain⟨u,hu,ru⟩:=h2;obtain⟨t,ht,rt⟩:=h1 (u D) ru;exact⟨Db t u,Af ht hu,rt⟩
end
def A0{A B:Prop}(h1:c=true->A)(h2:c=false->B):if c=true then A else B:=by
 cases c with
 | true=>exact Cv (h1 rfl)
 | false=>exact Bs (h2 rfl)
def Same.upd{H H':Hp}{a:ae}{o:HO}(s:Same H H')(h:H a=none):Same H (upd H' a o):=λb u e=>by
 rw[Ad (Aw e h)];exact s b u e
def Same.upd0   (h:H a=none):Same H (L2.upd H a o):=(Same.refl H).upd h
def ku  {o u} (h:H b=some o) (hp:H p=none):upd H p u b=some o:=by
 rw[Ad (Aw h hp)];exact h
def Same.step  {o} (s:Same H H1) (hp:H1 p=none):Same H (L2.upd H1 p o):=s.upd (s.free hp)
def Same.go{p q}{o}(s:Same H H1)(hp:H1 p=none)(hq:L2.upd H1 p o q=none):Same H (L2.upd H1 p o):=s.step hp
def Fd{α : Type}(f)(xs:List α)(b)(hb:b<=xs.length):Bz (xs.map f) none (some (b:Int))=(xs.take b).map f:=by
 unfold Bz;rw[HT.sIx_none,Rr,HT.sIx_nat,Oh,List.map_take,Sx,Q4 hb]
def Fe{α : Type}(f)(xs:List α)(a)(ha:a<=xs.length):Bz (xs.map f) (some (a:Int)) none=(xs.drop a).map f:=by
 unfold Bz;rw[HT.sIx_none,HT.sIx_nat,Oh,Q4 ha,List.map_drop];exact Ph (by rw[Pz,Oh];lia)
def Xkb{α : Type}(f)(xs:List α)(a b)(fg:a<=b)(hb:b<=xs.length):Bz (xs.map f) (some (a:Int)) (some (b:Int))=((xs.drop a).take (b - a)).map f:=by
 unfold Bz;rw[HT.sIx_nat,HT.sIx_nat,Oh,Q4 hb,Q4 (Pm fg hb),List.map_take,List.map_drop]
def Xct (rK:bI) (fN N:Za) (cap:List (Option Nat)) (scope:bI):Bool:=
 (scope.names.all λy=>decide (scope.names.lookup y.1=some y.2)) &&
 (scope.names.all λy=>decide (y.2 ≠ .free)||decide (rK.names.lookup y.1=some .cell)||decide (rK.names.lookup y.1=some .free))&&decide (cap.length=N.length) &&
 ((List.range N.length).all λi=>match cap[i]?,N[i]? with
  | some (some j),some x=>decide (fN[j]? = some x)&&decide (scope.names.lookup x=some .free)
  | _,_=>true)
def CompScope.of   {cap} (rK) (fN) (h1:X.env.scope=rK) (h2:X.N=fN) (hk:scope.kind = .function) (h:Xct rK fN N cap scope=true):CompScope X N cap scope:=by
 unfold Xct at h;simp only[Oz,Pg,Q5,decide_eq_true_eq] at h;obtain⟨⟨⟨a1,a3⟩,a4⟩,a5⟩:=h;refine⟨hk,a1,λy hy e=>?_,a4,λi x j hN hc=>?_⟩
 ·show X.env.scope.names.lookup y.1=some .cell\/X.env.scope.names.lookup y.1=some .free;rw[h1];rcases a3 y hy with (z | z) | z
  ·exact absurd e z
  ·exact .inl z
  ·exact .inr z
 ·have hi:i<N.length:=(O6.mp hN).1;have q:=a5 i (P2.mpr hi);rw[hc,hN] at q;simp only[Oz,decide_eq_true_eq] at q;rw[h2];exact q
section
variable {X:Cx}
def Ec(K)(h:X.K=K):IxR X (Lq K):=by subst h;exact Lr
def Mi(K)(h:X.K=K):OpR X (aL .In) (rIn K false):=by subst h;exact Ls
def Xcu(K)(h:X.K=K):OpR X (aL .NotIn) (rIn K true):=by subst h;exact Jf
end
def Ff        (n:Nat) (hn:n<sizeLine) (vs:Nat->V) (ok:Nat->Bool) (ys:Nat->V)
  (kh:∀i H2,i<n->Same H1 H2->J.go i H2/\∀x H3,J.yld i H2 x H3->H3=H2/\x=vs i)
  (bK:∀H2,Same H1 H2->J.stop n H2)
  (rL:∀i H2 Q,i<n->Same H1 H2->(∀H',Same H2 H'->Q (ok i) H')->tt ((Ca cap Z).set j (some (vs i))) H2 Q)
  (step:∀i H2 Q,i<n->ok i=true->Same H1 H2->(∀H',Same H2 H'->Q (ys i) H')->te ((Ca cap Z).set j (some (vs i))) H2 Q)
  (hd:∀D H2,H1 D=none->Same H1 H2->H2 D=some (.lst (((List.range n).filter ok).map ys))->F D H2):F6 cap (Be j) tt te J Z H1 F:=by
 refine Ma n vs (λD i Z2 H2=>(∀v, Z2.set j v=(Ca cap Z).set j v)/\Same H1 H2/\H2 D=some (.lst (((List.range i).filter ok).map ys))) ?_ ?_ ?_ ?_ ?_
 ·intro D hD;exact⟨λ_=>rfl,(Same.refl H1).step hD,Ab⟩
 ·rintro D i Z2 H2 hD hi ⟨_,s2,_⟩;exact kh i H2 hi s2
 ·rintro D Z2 H2 hD ⟨_,s2,_⟩;exact bK H2 s2
 ·rintro D i Z2 H2 hD hi ⟨e,s2,hb⟩;show tt (Z2.set j (some (vs i))) H2 _;rw[e];refine rL i H2 _ hi s2 λH3 s3=>?_;have jn:=s2.trans s3;have um:=s3 _ _ hb;have jE:∀v,((Ca cap Z).set j (some (vs i))).set j v=(Ca cap Z).set j v:=λv=>by rw[Te]
  have hl:(((List.range i).filter ok).map ys).length<=i:=by
   rw[Oh];exact Pm (Po ..) (by rw[Qg];lia)
  refine A0 (λhk=>?_) (λhk=>?_)
  ·refine step i H3 _ hi hk jn λH4 s4=>?_;refine wput hi (s4 _ _ um) (by lia) ⟨jE,λb u e'=>?_,?_⟩
   ·rw[Ad (Aw e' hD)];exact s4 _ _ (jn b u e')
   ·rw[Ab,P9,O8,Ow];simp[hk]
  ·refine wskip hi ⟨jE,jn,?_⟩;rw[um,P9,O8,Ow];simp[hk]
 ·rintro D Z2 H2 hD ⟨_,s2,hb⟩;exact hd D H2 hD s2 hb
def Xkc       (n:Nat) (hn:n<sizeLine) (vs:Nat->V) (ys:Nat->V)
  (kh:∀i H2,i<n->Same H1 H2->J.go i H2/\∀x H3,J.yld i H2 x H3->H3=H2/\x=vs i)
  (bK:∀H2,Same H1 H2->J.stop n H2)
  (step:∀i H2 Q,i<n->Same H1 H2->(∀H',Same H2 H'->Q (ys i) H')->te ((Ca cap Z).set j (some (vs i))) H2 Q)
  (hd:∀D H2,H1 D=none->Same H1 H2->H2 D=some (.lst ((List.range n).map ys))->F D H2):F6 cap (Be j) E8 te J Z H1 F:=
 Ff n hn vs (λ_=>true) ys kh bK (λi H2 Q _ _ k=>k H2 (Same.refl _)) (λi H2 Q hi _ s k=>step i H2 Q hi s k) λD H2 hD s e=>hd D H2 hD s (by rw[e,Pl.mpr (λ_ _=>rfl)])
def Hq:Passes (CX1 X.prog X.w) X E0:=λ_ _ _ _ _ _ _ h=>by
 obtain⟨_,_,_,_,_,_,_,_,_,h⟩:=h;exact h.elim
structure DefAt (K:LY) (x:ao) (st:aP):Prop where
 ex:∃f fd,MC K aq x=some (some (.ref f))/\ME K (.ref f)=true/\Fun K x x st f fd
def DefAt.of{K}{x}{st}    {kV dq pm cdv ct}(a:MC K aq x=some (some (.ref f)))
  (l:K.lookup f=some ⟨oc,od,.func (MM x x (D8 st) (Co st) (defScope st) .none kV dq pm an cdv ct),iT⟩) (c:MO K cdv x=true) (k:ME K (.ref f)=true):DefAt K x st:=
 ⟨⟨f,_,a,k,Xbs l c k⟩⟩
def Fn.of   {K}     {k} {x} {st}  (X:K.In h) (G:h.Ns aq mg) (D:DefAt K x st)
  (hb:∀(kV dq pm:aa) (an:Option ae) (cdv ct:aa) (us:List aa),us.length=ps.length->cQ (MM x x (D8 st) (Co st) (defScope st) .none kV dq pm an cdv ct) ⟨us,[]⟩=pure (ps.zip us))
  (ok:∀f fd,Fun K x x st f fd->FnOk P w K mg base CX k f fd ps sp):Fn P w K mg base CX k x ps sp:=by
 obtain⟨f,fd,a,hk,F⟩:=D.ex;exact⟨⟨f,fd,MS X G a,hk,F.binds hb,ok f fd F⟩⟩
structure ExcAt (K:LY) (x:ao) (C:ae):Prop where
 a:MC K aq x=some (some (.ref C))
 e:MR K C bmV "ValueError.__new__" = true
 ga:MB K (.ref C) "__getattribute__" = some (some (.builtin "BaseException.__getattribute__"))
 gn:MB K (.ref C) "__getattr__" = some none
 cl:MB K (.ref C) "__class__" = some (some (.builtin "object.__class__"))
 sb:ML K (.ref C) (.type "BaseException")=some true
 so:ML K (.ref C) (.type "object")=some true
 sv:ML K (.ref C) (.type "ValueError")=some true
 ss:ML K (.ref C) (.ref C)=some true
 ic:MT K C=true
 ty:MV K (.ref C)=some (.type "type")
section
variable {K:LY}{x:ao}{C:ae}
def Xkd   (ic:MT K S=true) (ty:MV K (.ref S)=some (.type "type")) (h:ML K t (.ref S)=some b):NN K t (.ref S)=some b:=by
 unfold NN;have BZ:(NC K S).isSome=true:=ic;simp only[BZ,ty];exact h
def ExcAt.self(E:ExcAt K x C):M' K (.ref C) (.ref C)=some true:=by
 unfold M';rw[E.sb,Tr (by decide)];exact Xkd E.ic E.ty E.ss
end
structure ClsAt (K:LY) (x:ao) (C:ae):Prop where
 a:MC K aq x=some (some (.ref C))
 ic:MT K C=true
 ty:MV K (.ref C)=some (.type "type")
def Di(x)(row:Za):inV (.str x) (row.map V.str)=decide (x∈row):=by
 unfold inV;rw[Qn,Rp,decide_eq_true_eq];constructor
 ·rintro ⟨y,hy,e⟩;obtain⟨z,hz,rfl⟩:=Pd.mp hy;have:z=x:=by simpa [eqV] using e
  rw[<-this];exact hz
 ·intro hx;exact⟨.str x,Pd.mpr ⟨x,hx,rfl⟩,by simp[eqV]⟩
def Dj(row:Za):(row.map V.str).all Cn=true:=by
 rw[Pg];intro v h;obtain⟨x,_,rfl⟩:=Pd.mp h;rfl
def Xke{K}        {p q}(vz:p≠q)(hS:SqL K H1 a xs)(hn:xs.length<sizeLine)(ok)(ys)
  (rL:∀(i:Nat) x H2 Q,xs[i]? = some x->Same H1 H2->(∀H',Same H2 H'->Q (ok i) H')->tt (((Ca cap Z).set p (some (.int i))).set q (some x)) H2 Q)
  (step:∀(i:Nat) x H2 Q,xs[i]? = some x->ok i=true->Same H1 H2->(∀H',Same H2 H'->Q (ys i) H')->te (((Ca cap Z).set p (some (.int i))).set q (some x)) H2 Q)
  (hd:∀D H2,H1 D=none->Same H1 H2->H2 D=some (.lst (((List.range xs.length).filter ok).map ys))->F D H2):F6 cap (La K 2 (K9 (Be p) (K9 (Be q) Xaj))) tt te (Ite K a) Z H1 F:=by
 intro D hD;refine⟨wN xs.length λi Z2 H2=>(∀u v,(Z2.set p u).set q v=((Ca cap Z).set p u).set q v)/\Same H1 H2/\H2 D=some (.lst (((List.range i).filter ok).map ys)),⟨xs.length,by simp,Pi _,λ_ _=>rfl,(Same.refl H1).step hD,Ab⟩,?_⟩;rintro i m Z1 H2 ⟨rfl,hi,e,s2,hb⟩;have vA:SqL K H2 a xs:=s2.seq hS;by_cases bf:i<xs.length
 ·have hx:xs[i]? = some xs[i]:=Oj bf;refine .inr ⟨⟨xs,xs[i],vA,hx⟩,?_⟩;rintro x H3 ⟨tp,rfl,ht,hy⟩;obtain⟨y,kr,rfl⟩:=hy xs vA;rw[hx] at kr;cases kr;refine⟨tp,_,rfl,SqT.of Ab,rfl,_,_,rfl,_,_,rfl,rfl,?_⟩;have s3:Same H1 (upd H2 tp (.tup [.int i,xs[i]])):=s2.step ht;have um:upd H2 tp (.tup [.int i,xs[i]]) D=some (.lst (((List.range i).filter ok).map ys)):=ku hb ht;rw[e];refine rL i _ _ _ hx s3 λH4 s4=>?_;have vB:=s3.trans s4;have yT:=s4 _ _ um;have jE:∀u v,(((((Ca cap Z).set p (some (.int i))).set q (some xs[i])).set p u).set q v)=((Ca cap Z).set p u).set q v:=λu v=>by
   rw[List.set_comm _ _ (Ne.symm vz),Te,Te]
  have hl:(((List.range i).filter ok).map ys).length<=i:=by
   rw[Oh];exact Pm (Po ..) (by rw[Qg];lia)
  refine A0 (λhk=>?_) (λhk=>?_)
  ·refine step i _ H4 _ hx hk vB λH5 s5=>?_;refine wput bf (s5 _ _ yT) (by lia) ⟨jE,λb u e'=>?_,?_⟩
   ·rw[Ad (Aw e' hD)];exact s5 _ _ (vB b u e')
   ·rw[Ab,P9,O8,Ow];simp[hk]
  ·refine wskip bf ⟨jE,vB,?_⟩;rw[yT,P9,O8,Ow];simp[hk]
 ·have ei:i=xs.length:=by lia
  subst ei;exact .inl ⟨⟨xs,vA,Oi _⟩,hd D H2 hD s2 hb⟩
def Mj     (K:LY) (n:Nat) (hK:X.K=K) (hc:X.calm=true) (h:PGs X es t)
  (hn:(bG es X.env).length=n:=by rfl) (bK:(bG es X.env).findIdx? (·.1)=none:=by rfl):PG X (.Tuple es k pos) (La K n t):=by
 subst hK;exact Xak hc h hn bK
def C6{α : Type}(d)(p):∀(xs:List α),((List.range xs.length).filter λi=>p (xs.getD i d)).map (λi=>xs.getD i d)=xs.filter p:=by
 intro xs;have go:∀n,n<=xs.length->((List.range n).filter λi=>p (xs.getD i d)).map (λi=>xs.getD i d)=(xs.take n).filter p:=by
  intro n
  induction n with
  | zero=>intro _;rfl
  | succ n ih=>
   intro h;have hn:n<xs.length:=by lia
   have e:xs.getD n d=xs[n]:=by simp[List.getD,hn]
   rw[P9,O8,Ow,ih (by lia),O1 hn,O8,Pq,Pq,e];split
   ·simp[hn]
   ·simp
 rw[go _ (Oi _),P8]
abbrev TM:=St->Hp->(St->Hp->Prop)->Prop
def PM (X:Cx) (m:fK Unit) (t:TM):Prop:=∀pins s Z H (Q:St->Hp->Prop),Inv X pins Z H s->t Z H Q ->
 ai (ah X.prog X.w) X.A m (λ_ s'=>∃Z' H',Inv X pins Z' H' s'/\Q Z' H') X.xe s
def Ed (e:aF) (d:Nat) (tg iter:aF) (c7:List aF) (act:fK Unit) (it acc:aa) (env:dz):fK Fin:=do
 cV iter.pos
 match <-cB it with
 | none=>pure (.done .next)
 | some v=>
  c5 tg it v
  assign tg env v
  let mut ok:=true
  for c in c7 do
   if ok then ok <-isTrue c env (eval c env)
  if ok then act
  again (.compLoop e d it acc env)
structure Cm (e:aF):Prop where
 den1 : ∀ (P : ap) (w : ax) (d : Nat) (it acc : aa) (env : dz), (ah P w).den (.compLoop e d it acc env) = (cF e d it acc env).onRaise (fun x => do                      JW x env; theTreesLotGoes x)
 den2 : ∀ (P : ap) (w : ax) (d : Nat) (it acc : aa) (env : dz), (ah P w).den (.compStart e d it acc env) = (JX e d it acc env).onRaise (fun x => do                       JW x env; cV theWindowsPlace)
 und1:∀(A:av) (d:Nat) (it acc:aa) (env:dz),A.under (.compLoop e d it acc env)=A
 und2:∀(A:av) (d:Nat) (it acc:aa) (env:dz),A.under (.compStart e d it acc env)=A
def Hr    : Cm (.ListComp eE gs sc p):=⟨λ_ _ _ _ _ _=>rfl,λ_ _ _ _ _ _=>rfl,λ_ _ _ _ _=>rfl,λ_ _ _ _ _=>rfl⟩
def Xkf    : Cm (.DictComp k v gs sc p):=⟨λ_ _ _ _ _ _=>rfl,λ_ _ _ _ _ _=>rfl,λ_ _ _ _ _=>rfl,λ_ _ _ _ _=>rfl⟩
def tLp (g:TG) (tt:TT) (tm:TM) (J:It) (Z:St) (H1:Hp) (F:St->Hp->Prop):Prop:=
 ∃W:Nat->Nat->St->Hp->Prop,(∃m,W 0 m Z H1)/\∀i m Z1 H2,W i m Z1 H2 ->
  (J.stop i H2/\F Z1 H2)\/(J.go i H2/\∀x H3,J.yld i H2 x H3->g x Z1 H3 fun Z2 H4=>tt Z2 H4 λb H5=>
   if b=true then tm Z2 H5 fun Z3 H6=>∃m',m'<m/\W (i+1) m' Z3 H6 else ∃m',m'<m/\W (i+1) m' Z2 H5)
section
variable {Y:Cx}{e tg iter:aF}{d:Nat}{c7:List aF}{act:fK Unit}{acc:aa}{g:TG}{tt:TT}{tm:TM}{pins:List (ae×aM)}{Z:St}{H:Hp}{s:af}{J:It}{fp:List ae}{it:ae}{tn:Nat->am->Prop}{F:St->Hp->Prop}{R:qQ->af->Prop}
def Xcv(cm:Cm e)(hx:Y.xe=λ_ _=>False)(hc:Y.calm=true)(eq:cF e d (.ref it) acc Y.env=Ed e d tg iter c7 act (.ref it) acc Y.env)(hg:PG Y tg g)(ht:PIfs Y c7 tt)(hm:PM Y act tm)
  (I:Inv Y pins Z H s) (T:Turn Y.prog Y.w Y.K tg J fp it tn) (h0:tn 0 s.heap) (hf:∀b∈fp,FpOk Y pins H b) (hb:tLp g tt tm J Z H F) (fin:∀Z' H' s',Inv Y pins Z' H' s'->F Z' H'->R (.ok .next) s'):
  bB (ah Y.prog Y.w) Y.A (.compLoop e d (.ref it) acc Y.env) R s:=by
 obtain⟨W,⟨m0,w0⟩,turn⟩:=hb;have ik:∀{H':Hp},(∀b∈fp,H' b=none)->∀b∈fp,FpOk Y pins H' b:=λhn b hb=>⟨hn b hb,(hf b hb).2⟩;refine codeAny_loop rfl (λn s'=>∃i Z1 H2,Inv Y pins Z1 H2 s'/\tn i s'.heap/\(∀b∈fp,H2 b=none)/\W i n Z1 H2) (λn s' hI=>?_) m0 ⟨0, Z,H,I,h0,λb hb=>(hf b hb).1,w0⟩;obtain⟨i, Z1,H2,I',a8,yU,w'⟩:=hI;rw[cm.den1,cm.und1];refine wpAny_noted ?_;rw[eq];have no:∀{α : Type} {t:fK α} {Q : α->af->Prop} {E':Zb} {s₁ : af},ai (ah Y.prog Y.w) Y.A t Q Y.xe s₁->ai (ah Y.prog Y.w) Y.A t Q E' s₁:=λh=>aJ h (λ_ _ q=>q) λ_ _ z=>by rw[hx] at z;exact z.elim
 unfold Ed;rcases turn i n Z1 H2 w' with ⟨stop,q⟩ | ⟨go,step⟩
 ·refine Tj (bh (Tj (thn (T.done Y rfl rfl rfl hc i pins s' Z1 H2 _ I' (ik yU) a8 stop) λr s1 ⟨hr,I1⟩=>?_)));subst hr;exact Tk (fin Z1 H2 s1 I1 q)
 ·refine Tj (bh (Tj (thn (T.item Y rfl rfl rfl hc i pins s' Z1 H2 _ I' (ik yU) a8 go) λr s1 ⟨u,hr,h4⟩=>?_)));subst hr;refine Tj (thn h4 λ_ s5 ⟨x,H5,I5,r5,y5,nY,uY⟩=>?_);have uZ:=I5.pinned (ik uY) (T.obj _ _ nY);refine Tj (thn (no (hg _ s5 Z1 H5 x u _ uZ r5 (step x H5 y5))) λ_ s6 ⟨Z6,H6,I6,q6⟩=>?_);refine Tj (thn (no (ht _ s6 Z6 H6 _ I6 q6)) λb s7 ⟨H7,I7,q7⟩=>?_);have again:∀{s8:af} {Z8:St} {H8:Hp},Inv Y (pins++G2 fp s5.heap) Z8 H8 s8->(∃m',m'<n/\W (i+1) m' Z8 H8)->∃m,m<n/\∃i Z1 H2,Inv Y pins Z1 H2 s8/\tn i s8.heap/\(∀b∈fp,H2 b=none)/\W i m Z1 H2:=λ{s8 Z8 H8} I8 ⟨m',hm,w8⟩=>by
   refine⟨m',hm,i+1, Z8,H8,I8.unpinned,T.keep _ _ _ nY λb hb o e=>(I8.pin (b,o) (Pc _ (Pc _ (Jd hb e)))).1,λb hb=>?_,w8⟩;obtain⟨o,e,d⟩:=T.obj _ _ nY b hb;exact(I8.pin (b,o) (Pc _ (Pc _ (Jd hb e)))).2.1
  cases b with
  | false=>
   rw[Tq Oy] at q7;exact Tk ⟨rfl,again I7 q7⟩
  | true=>
   rw[Tr rfl] at q7;exact Tj (thn (no (hm _ s7 Z6 H7 _ I7 q7)) λ_ s8 ⟨Z8,H8,I8,q8⟩=>Tk ⟨rfl,again I8 q8⟩)
def Xcw      (cm:Cm e) (fM:(dM e)[d]? = some cl) (has:cl.is_async=0)
  (h0:bB (ah prog w) A (.compLoop e d mP acc env) R s)
  (h:ai (ah prog w) A (fq mP) (λvC s'=>bB (ah prog w) A (.compLoop e d vC acc env) R s') (notedBy (ah prog w) A env λx s'=>R (.error x) s') s):
  bB (ah prog w) A (.compStart e d mP acc env) R s:=by
 refine fO ?_;rw[cm.den2,cm.und2];refine wpAny_notedAt ?_;unfold JX;rw[fM];have e1:(Option.elim (some cl) false λx=>x.is_async != 0)=false:=by
  show (cl.is_async != 0)=false;rw[has];rfl
 rw[e1,Tq Oy];show ai _ A (ask >>= _) _ _ s;refine Tj (aQ (wpAny_ite ?_));split
 ·first
   | exact Tj (Tk (Tk (And.intro rfl h0)))
   | exact Tk (And.intro rfl h0)
 ·first
   | exact Tj (aR (Tj (bh (Tj (aJ h (λvC s' h'=>Tk (And.intro rfl h')) λ_ _ x=>x)))))
   | (refine Tj (aR ?_);show ai _ _ (cV cl.iter.pos >>= _) _ _ s;exact Tj (bh (Tj (aJ h (λvC s' h'=>Tk (And.intro rfl h')) λ_ _ x=>x))))
end
def Hs (te:TE) (D:ae):TM:=fun Z H Q=>te Z H λy H6=>∃ys,H6 D=some (.lst ys)/\ys.length<sizeLine/\Q Z (upd H6 D (.lst (ys++[y])))
def Jt    (he:PE Y eE te):PM Y (do  let _ <-call (.builtin "list.append") [.ref D,<-eval eE Y.env]) (Hs te D):=by
 intro pins s Z H Q I h;refine Tj (thn (he pins s Z H _ I h) λyv s8 ⟨y,H8,I8,r8,ys,hD,bf,q8⟩=>?_);exact Tj (thn (Jh (X:=Y) _ s8 Z H8 (.ref D) [y] (.ref D) [yv] (λ_ H9=>Q Z H9) I8 rfl (.cons r8 .nil) ⟨_,ys,y,rfl,rfl,hD,bf,q8⟩) λ_ s9 ⟨_,H9,I9,_,q9⟩=>Tk ⟨Z,H9,I9,q9⟩)
def Xcx (tk tv:TE) (D:ae):TM:=fun Z H Q=>tk Z H λk H1=>tv Z H1 λv H2=>∃kvs ky,k=kV ky/\H2 D=some (.dK kvs)/\kvs.length<sizeLine/\Q Z (upd H2 D (.dK (Bf kvs ky v)))
def Xkg    (hk:PE Y kx tk) (hv:PE Y vx tv):PM Y (do
  let kv <-eval kx Y.env
  let vv <-holding [kv] (eval vx Y.env)
  cV {kx.pos with endLine:=vx.pos.endLine,endCol:=vx.pos.endCol}
  holding [kv,vv] (dictSet D kv vv)) (Xcx tk tv D):=by
 intro pins s Z H Q I h;refine Tj (thn (hk pins s Z H _ I h) λkv s1 ⟨k,H1,I1,rk,q1⟩=>Tj (a7 (thn (hv pins s1 Z H1 _ I1 q1) λvv s2 ⟨v,H2,I2,rv,kvs,ky,ek,hD,hl,q⟩=>Tj (bh (a7 ?_)))));subst ek;obtain⟨z,hd,vs,cT,dd⟩:=Xbl I2.hok hD;have hz:vs.length<=sizeLine:=by rw[<-cT.length];exact z
 have oy:(Bf kvs ky v).length<=sizeLine:=by have:=Jj kvs ky v;lia
 refine wpAny_dictSet_pairs (knd:=Bb Y.prog Y.w) (hsz:=hz) (F3 rk) dd λh' lK hs=>⟨Z,_,?_,q⟩;have he:∃q,h'.get? D=some q:=let ⟨q,_,_,hq,_⟩:=lK; ⟨q,hq⟩;exact Jk I2 (by rw[hD];exact True.intro) hs he (Xbn oy hd (cT.put ky rv) lK)
def Xcy (wi:TI) (g:TG) (tt:TT) (tm:TM):TM:=fun Z H Q=>wi Z H λJ H1=>tLp g tt tm J Z H1 Q
def Xkh{Y:Cx}{e tg iter:aF}  {d:Nat}      (cm:Cm e)(hx:Y.xe=λ_ _=>False)(hc:Y.calm=true)(fM:(dM e)[d]? = some ⟨tg,iter,c7,0⟩)
  (eq:∀it,cF e d it (.ref D) Y.env=Ed e d tg iter c7 act it (.ref D) Y.env) (hi:PI Y tg iter wi) (hg:PG Y tg g) (ht:PIfs Y c7 tt) (hm:PM Y act tm)
  (hs:∀x,aH iter Y.env x=pure x:=by intro _;rfl):PM Y (do
   let x <-eval iter Y.env
   cV iter.pos
   let x <-aH iter Y.env x
   let _ <-runOwn (.compStart e d (<-holding [x] (fq x)) (.ref D) Y.env) Y.env) (Xcy wi g tt tm):=by
 intro pins s Z H Q I h;refine Tj (thn (hi pins s Z H _ I h) λv s1 h1=>Tj (bh (Tj (dD (hs v) (Tj (a7 (thn h1 λmP s2 h2=>?_)))))));obtain⟨it,fp,tn,J,H2,ei,I2,T,d0,f2,lp⟩:=h2;subst ei;refine Tj (wpAny_runOwn ?_);have go:∀s3,s3=s2->bB (ah Y.prog Y.w) Y.A (.compLoop e d (.ref it) (.ref D) Y.env) (λr s'=>match r with | .ok _=>∃Z' H',Inv Y pins Z' H' s'/\Q Z' H' | .error e=>False) s3:=by
  rintro s3 rfl;exact Xcv cm hx hc (eq _) hg ht hm I2 T d0 f2 lp fun Z' H' s' I' q=>⟨Z',H',I',q⟩
 have st:=Xcw (s:=s2) (R:=λr s'=>match r with | .ok _=>∃Z' H',Inv Y pins Z' H' s'/\Q Z' H' | .error e=>False) cm fM rfl (go s2 rfl) (T.self Y.A 0 s2 _ _ d0 (go s2 rfl));refine br st λr s' hr=>?_;cases r with
 | ok f=>exact Tk hr
 | error e=>exact hr.elim
def Xcz (cap:List (Option Nat)) (o0:ae->HO) (g:TG) (tt:TT) (tm:ae->TM) (J:It) (Z:St) (H1:Hp) (F:ae->Hp->Prop):Prop:=
 ∀D,H1 D=none->tLp g tt (tm D) J (Ca cap Z) (upd H1 D (o0 D)) λ_ H2=>F D H2
def Xc0 (cap:List (Option Nat)) (o0:HO) (g:TG) (tt:TT) (tm:ae->TM) (J:It) (Z:St) (H1:Hp) (F:ae->Hp->Prop):Prop:=
 ∀D,H1 D=none->tLp g tt (tm D) J (Ca cap Z) (upd H1 D o0) λ_ H2=>F D H2
section
variable {X:Cx}{N:Za}{cap:List (Option Nat)}{scope:bI}{e tg iter:aF}{c7:List aF}{g:TG}{tt:TT}{tm:ae->TM}{E:Zb}{cj:fK aa}{ob:aM}{o0:HO}{o1:ae->HO}{act:ae->dz->fK Unit}
def Xc1(C:CompScope X N cap scope)(bA:X.calm=true)(cm:Cm e)(fM:(dM e)[0]? = some ⟨tg,iter,c7,0⟩)
  (jW:∀(s:af) (Q:Zb) (E':Zb),Q (.ref s.heap.objs.size) {s with heap:=s.heap.push ob}->ai (ah X.prog X.w) X.A cj Q E' s)
  (qZ:∀pins Z H s,Inv X pins Z H s->Inv X pins Z (upd H s.heap.objs.size (o1 s.heap.objs.size)) {s with heap:=s.heap.push ob})
  (oz:∀it D env,cF e 0 it (.ref D) env=Ed e 0 tg iter c7 (act D env) it (.ref D) env)
  (hg:∀s0 H0 ex,PG (X.comp N scope s0 H0 ex) tg g) (ht:∀s0 H0 ex,PIfs (X.comp N scope s0 H0 ex) c7 tt) (hm:∀D s0 H0 ex,PM (X.comp N scope s0 H0 ex) (act D (X.comp N scope s0 H0 ex).env) (tm D))         {RR:aa->ae->qQ->af->Prop}
  (I:Inv X pins Z H s) (T:Turn X.prog X.w X.K tg J fp it tn) (h0:tn 0 s.heap) (hf:∀b∈fp,FpOk X pins H b) (hb:Xcz cap o1 g tt tm J Z H F)
  (fin:∀D L H' s' m,Inv X pins Z H' s'->FpOk X pins H' L->s'.heap.Ns L m->F D H'->RR (.ref D) L (.ok .next) s'):
  ai (ah X.prog X.w) X.A cj (λacc s₃=>ai (ah X.prog X.w) X.A (gu scope X.env.globals (Cf X.env scope.names []) [] X.env.qual none .none (some X.env)) (λrM s₄=>
   bB (ah X.prog X.w) X.A (.compStart e 0 (.ref it) acc {rM with scope:=relabel scope X.env}) (RR acc rM.locals) s₄) E s₃) E s:=by
 have jo:H s.heap.objs.size=none:=I.hok.fresh (Oi _);have lp:=hb s.heap.objs.size jo;have flt:∀b∈fp,b<s.heap.objs.size:=λb hb=>by
  obtain⟨o,e,_⟩:=T.obj _ _ h0 b hb;exact Tx e
 refine jW s _ _ (Xiv ?_);have I3:Inv X pins Z (upd H s.heap.objs.size (o1 s.heap.objs.size)) {s with heap:=s.heap.push ob}:=qZ pins Z H s I;generalize e3:({s with heap:=s.heap.push ob}:af)=s3 at I3;have uh:s3.heap=s.heap.push ob:=by rw[<-e3]
 have hsz:s3.heap.objs.size=s.heap.objs.size+1:=by rw[uh,am.size_push]
 have uo:∀b∈fp,FpOk X pins (upd H s.heap.objs.size (o1 s.heap.objs.size)) b:=λb hb=>by
  obtain⟨f0,f⟩:=hf b hb;exact⟨by rw[Ad (Os (flt b hb))];exact f0,f⟩
 have o3:∀b∈fp,b<s3.heap.objs.size:=λb hb=>by rw[hsz];exact Py (flt b hb)
 have hk:∀b o,s3.heap.get? b=some o->(bV (s3.heap.push {cls:=.type "dict",data:=.dict #[]}) scope.names).get? b=some o:=λb o e=>dt _ _ b o (Tz _ e);have IY:=Xiw (tk:=s3.toks) C I3 uo o3;generalize eY:X.comp N scope s3 (upd H s.heap.objs.size (o1 s.heap.objs.size)) fp=Y at IY;have yV:(s3.heap.push {cls:=.type "dict",data:=.dict #[]}).objs.size=s3.heap.objs.size+1:=am.size_push ..;have lX:tn 0 (bV (s3.heap.push {cls:=.type "dict",data:=.dict #[]}) scope.names):=T.keep _ _ _ h0 λb hb o e=>hk b o (by rw[uh];exact Tz _ e);have fY:∀{H':Hp},(∀b∈fp,H' b=none)->∀b∈fp,FpOk Y [] H' b:=λ{H'} hn b hb=>by
  subst eY;obtain⟨_,f1,f2,_,f4,_⟩:=uo b hb;refine⟨hn b hb,Os (o3 b hb),λz=>?_,.inl hb,λx c h=>?_,λp hp=>absurd (show p∈([]:List (ae×aM)) from hp) (by simp)⟩
  ·rcases Ox.mp (I3.stkSub b z) with e | e
   ·exact f1 e
   ·exact f2 e
  ·rcases Xbx (s:=s3) C I3.ok yV h with ⟨a,_⟩ | ⟨_,a⟩
   ·exact λz=>P1 _ (Qv a (by rw[z];exact o3 b hb))
   ·exact f4 x c a
 have vD:∀s4:af,s4 = {s3 with heap:=bV (s3.heap.push {cls:=.type "dict",data:=.dict #[]}) scope.names} ->
   bB (ah X.prog X.w) X.A (.compLoop e 0 (.ref it) (.ref s.heap.objs.size) (rh scope (G8 X scope s3) s3.heap.objs.size X.env))
    (RR (.ref s.heap.objs.size) s3.heap.objs.size) s4:=by
  rintro s4 rfl;have pP:Y.prog=X.prog:=by subst eY;rfl
  have pW:Y.w=X.w:=by subst eY;rfl
  have pK:Y.K=X.K:=by subst eY;rfl
  have pC:Y.calm=true:=by subst eY;exact bA
  have pA:Y.A=X.A:=by subst eY;rfl
  have pE:Y.env=rh scope (G8 X scope s3) s3.heap.objs.size X.env:=by subst eY;rfl
  have pX:Y.xe=λ_ _=>False:=by subst eY;rfl
  have T':Turn Y.prog Y.w Y.K tg J fp it tn:=by rw[pP,pW,pK];exact T
  have go:=Xcv (Y:=Y) (acc:=.ref s.heap.objs.size) (pins:=[]) (R:=RR (.ref s.heap.objs.size) s3.heap.objs.size) cm pX pC (oz _ _ _) (by subst eY;exact hg _ _ _) (by subst eY;exact ht _ _ _) (show PM Y (act s.heap.objs.size Y.env) (tm s.heap.objs.size) by subst eY;exact hm _ _ _ _)
   IY T' lX (fY λb hb=>(uo b hb).1) lp ?_
  ·rw[pP,pW,pA,pE] at go;exact go
  ·intro Z' H2 s1 I1 q;have IX:Inv X pins Z H2 s1:=by
    subst eY;refine I3.call' (ch:=fp) I1.os I1.base I1.hok I1.bare λb hb=>?_;obtain⟨_,f1,_,f3,f4,f5⟩:=uo b hb;exact⟨f3,f1,f4,f5⟩
   have hL:H2 s3.heap.objs.size=none:=by
    have z:=I1.free;rw[pE] at z;exact z
   obtain⟨m,hm,_⟩:=I1.loc;rw[pE] at hm;exact fin s.heap.objs.size s3.heap.objs.size H2 s1 m IX (I3.fpOk (Oi _) hL) hm q
 have lp:=vD _ rfl;have T1:=T.self;subst e3;exact Xcw cm fM rfl lp (T1 X.A 0 _ _ _ lX lp)
structure AccA (X:Cx) (cj:fK aa) (ob:aM) (o1:ae->HO):Prop where
 new:∀(s:af) (Q:Zb) (E':Zb),Q (.ref s.heap.objs.size) {s with heap:=s.heap.push ob}->ai (ah X.prog X.w) X.A cj Q E' s
 lay:∀pins Z H s,Inv X pins Z H s->Inv X pins Z (upd H s.heap.objs.size (o1 s.heap.objs.size)) {s with heap:=s.heap.push ob}
structure Acc (X:Cx) (cj:fK aa) (ob:aM) (o0:HO):Prop where
 new:∀(s:af) (Q:Zb) (E':Zb),Q (.ref s.heap.objs.size) {s with heap:=s.heap.push ob}->ai (ah X.prog X.w) X.A cj Q E' s
 lay:∀pins Z H s,Inv X pins Z H s->Inv X pins Z (upd H s.heap.objs.size o0) {s with heap:=s.heap.push ob}
def Ju:Acc X (newList []) {cls:=.type "list",data:=.seq ([]:List aa).toArray} (.lst []):=⟨λs Q E' h=>aC h,λpins Z H s I=>I.lnew (t':=s.toks) .nil (Pi _)⟩
def Xki:Acc X newDict {cls:=.type "dict",data:=.dict #[]} (.dK []):=⟨λs Q E' h=>aC h,λpins Z H s I=>I.laid (a:=s.heap.objs.size) (o:=.dK []) (t':=s.toks) (λ_ _ q=>Tz _ q) (Oi _) (Xbp s.heap I.big)⟩
def Xkj (cap:List (Option Nat)) (o0:ae->HO) (wi:TI) (g:TG) (tt:TT) (tm:ae->TM):TE:=fun Z H Q=>wi Z H λJ H1=>Xcz cap o0 g tt tm J Z H1 λD H2=>Q (.ref D) H2
def Xkk   (ac:AccA X cj ob o1) (he:eval e X.env=comprehension e scope X.env pos cj false (eval iter X.env)) (fJ:dM e=⟨tg,iter,c7,0⟩::gens)
  (C:CompScope X N cap scope) (bA:X.calm=true) (cm:Cm e) (hi:PI X tg iter wi)
  (oz:∀it D env,cF e 0 it (.ref D) env=Ed e 0 tg iter c7 (act D env) it (.ref D) env)
  (hg:∀s0 H0 ex,PG (X.comp N scope s0 H0 ex) tg g) (ht:∀s0 H0 ex,PIfs (X.comp N scope s0 H0 ex) c7 tt) (hm:∀D s0 H0 ex,PM (X.comp N scope s0 H0 ex) (act D (X.comp N scope s0 H0 ex).env) (tm D))
  (hs:∀x,aH iter X.env x=pure x):PE X e (Xkj cap o1 wi g tt tm):=by
 intro pins s Z H Q I h;rw[he];refine i7 (use:=none) fJ hs (Xbt (L6 C I.ok)) C.kind (λx hx hl=>by rw[C.uniq x hx,hl]) (thn (hi pins s Z H _ I h) λv s1 h1=>thn h1 λmP s2 h2=>?_);obtain⟨it,fp,tn,J,H2,ei,I2,T,d0,f2,R⟩:=h2;subst ei;refine Xc1 (RR:=λacc L=>compPost (ah X.prog X.w) X.A X.xe none (EP X pins Z Q) acc L) C bA cm (by rw[fJ];rfl) ac.new ac.lay oz hg ht hm I2 T d0 f2 R ?_;intro D L H' s' m I' fL hm q;refine⟨m,hm,λh' vE=>?_⟩;obtain⟨f0,f1,_,f3,f4,f5⟩:=fL;exact⟨.ref D,H',I'.turned (t':=s'.toks) (λb o hb e=>(vE.2 b hb).trans e) f0 f1 f3 f4 f5,rfl,q⟩
def Ml (cap:List (Option Nat)) (o0:HO) (wi:TI) (g:TG) (tt:TT) (tm:ae->TM):TE:=fun Z H Q=>wi Z H λJ H1=>Xc0 cap o0 g tt tm J Z H1 λD H2=>Q (.ref D) H2
def Mm   (ac:Acc X cj ob o0) (he:eval e X.env=comprehension e scope X.env pos cj false (eval iter X.env)) (fJ:dM e=⟨tg,iter,c7,0⟩::gens)
  (C:CompScope X N cap scope) (bA:X.calm=true) (cm:Cm e) (hi:PI X tg iter wi)
  (oz:∀it D env,cF e 0 it (.ref D) env=Ed e 0 tg iter c7 (act D env) it (.ref D) env)
  (hg:∀s0 H0 ex,PG (X.comp N scope s0 H0 ex) tg g) (ht:∀s0 H0 ex,PIfs (X.comp N scope s0 H0 ex) c7 tt) (hm:∀D s0 H0 ex,PM (X.comp N scope s0 H0 ex) (act D (X.comp N scope s0 H0 ex).env) (tm D))
  (hs:∀x,aH iter X.env x=pure x):PE X e (Ml cap o0 wi g tt tm):=
 Xkk (o1:=λ_=>o0) ⟨ac.new,ac.lay⟩ he fJ C bA cm hi oz hg ht hm hs
def Xc2 (i:Nat) (cap:List (Option Nat)) (o0:HO) (wi:TI) (g:TG) (tt:TT) (tm:ae->TM):TS:=λD Z H=>wi Z H λJ H1=>Xc0 cap o0 g tt tm J Z H1 λl H2=>D.nx (Z.set i (some (.ref l))) H2
def Xc3     (ac:Acc X cj ob o0) (he:∀use,evalThenUse e X.env use=(do     let _ <-comprehension e scope X.env ci cj false (eval iter X.env) (some use))) (fJ:dM e=⟨tg,iter,c7,0⟩::gens)
  (C:CompScope X N cap scope) (bA:X.calm=true) (cm:Cm e) (hN:X.N.Nodup) (rN:X.N[i]? = some y) (hy:X.env.scope.names.lookup y=some .local) (hi:PI X tg iter wi)
  (oz:∀it D env,cF e 0 it (.ref D) env=Ed e 0 tg iter c7 (act D env) it (.ref D) env)
  (hg:∀s0 H0 ex,PG (X.comp N scope s0 H0 ex) tg g) (ht:∀s0 H0 ex,PIfs (X.comp N scope s0 H0 ex) c7 tt) (hm:∀D s0 H0 ex,PM (X.comp N scope s0 H0 ex) (act D (X.comp N scope s0 H0 ex).env) (tm D))
  (rO:dJ e (some (.Name y py)) kw.line X.env=pure true) (hs:∀x,aH iter X.env x=pure x):PS X (.Assign [.Name y py] e kw) (Xc2 i cap o0 wi g tt tm):=by
 intro pins s Z H D I h;rw[exec_Assign_Name_used _ _ _ _ rO];refine Tj (bh (Tj ?_));rw[he];refine Tj (thn (i7 (use:=some (assign (.Name y py) X.env)) (Q:=λ_ s'=>SP X pins D .next s') fJ hs (Xbt (L6 C I.ok)) C.kind (λx hx hl=>by rw[C.uniq x hx,hl])
  (thn (hi pins s Z H _ I h) λv s1 h1=>thn h1 λmP s2 h2=>?_)) (λ_ s' hq=>Tk (Tk hq)))
 obtain⟨it,fp,tn,J,H2,ei,I2,T,d0,f2,R⟩:=h2;subst ei;refine Xc1 (o1:=λ_=>o0) (RR:=λacc L=>compPost (ah X.prog X.w) X.A X.xe (some (assign (.Name y py) X.env)) (λ_ s'=>SP X pins D .next s') acc L) C bA cm (by rw[fJ];rfl) ac.new ac.lay oz hg ht hm I2 T d0 f2 R ?_;intro l L H' s' m I' fL hm q;obtain⟨f0,f1,_,f3,f4,f5⟩:=fL;show ai _ X.A (assign (.Name y py) X.env (.ref l)) _ _ s';refine mO (Xac I' hN rN (.inl hy) (show Aj (.ref l) (.ref l) from rfl) (λs3 I3 ⟨a,sb,ha⟩=>?_) (.inr hy));have Ch:L≠a:=by
  rcases ha with rfl | ha
  ·exact f1
  ·exact λz=>f4 y a ha z.symm
 refine⟨m,hm.sameBut sb Ch,λh' vE=>?_⟩;exact⟨_,H',I3.turned (t':=s3.toks) (λb o hb e=>(vE.2 b hb).trans e) f0 f1 f3 f4 f5,q⟩
end
def act2 (eE tg iter k8 c9:aF) (c7 fz:List aF) (scope:bI) (pos:bN) (D:ae) (env:dz):fK Unit:=do
      let x <-eval c9 env
      cV c9.pos
      let x <-aH c9 env x
      let _ <-runOwn (.compStart (.ListComp eE [⟨tg,iter,c7,0⟩,⟨k8,c9,fz,0⟩] scope pos) 1 (<-holding [x] (fq x)) (.ref D) env) env
def Xkl(eE tg iter k8 c9)(c7 fz)(scope)(pos)(it)(D)(env):
  cF (.ListComp eE [⟨tg,iter,c7,0⟩,⟨k8,c9,fz,0⟩] scope pos) 0 it (.ref D) env=Ed (.ListComp eE [⟨tg,iter,c7,0⟩,⟨k8,c9,fz,0⟩] scope pos) 0 tg iter c7 (act2 eE tg iter k8 c9 c7 fz scope pos D env) it (.ref D) env:=by
 unfold cF Ed act2;dsimp only;simp only[List.getElem?_cons_zero,List.getElem?_cons_succ,bind_assoc,pure_bind];simp;rfl
section
variable {X:Cx}{N:Za}{cap:List (Option Nat)}{scope:bI}{tg iter k8 c9 eE kx vx:aF}{c7 fz:List aF}{g g2:TG}{tt yW:TT}{te tk tv:TE}{wi yX:TI}{pos:bN}
def Ga(C:CompScope X N cap scope)(bA:X.calm=true)(hi:PI X tg iter wi)
  (hg:∀s0 H0 ex,PG (X.comp N scope s0 H0 ex) tg g) (ht:∀s0 H0 ex,PIfs (X.comp N scope s0 H0 ex) c7 tt) (he:∀s0 H0 ex,PE (X.comp N scope s0 H0 ex) eE te)
  (hs:∀x,aH iter X.env x=pure x:=by intro _;rfl):PE X (.ListComp eE [⟨tg,iter,c7,0⟩] scope pos) (Xix cap wi g tt te):=
 Mm (act := fun D env => do let _ <- call (.builtin "list.append") [.ref D, <- eval eE env]) Ju rfl rfl C bA Hr hi (fun it D env => rfl) hg ht (fun D s0 H0 ex => Jt (he s0 H0 ex)) hs
def Jv{i:Nat}  (C:CompScope X N cap scope)(bA:X.calm=true)(hN:X.N.Nodup)(rN:X.N[i]? = some y)(hy:X.env.scope.names.lookup y=some .local)(hi:PI X tg iter wi)
  (hg:∀s0 H0 ex,PG (X.comp N scope s0 H0 ex) tg g) (ht:∀s0 H0 ex,PIfs (X.comp N scope s0 H0 ex) c7 tt) (he:∀s0 H0 ex,PE (X.comp N scope s0 H0 ex) eE te)
  (rO:dJ (.ListComp eE [⟨tg,iter,c7,0⟩] scope pos) (some (.Name y py)) kw.line X.env=pure true:=by rfl)
  (hs:∀x,aH iter X.env x=pure x:=by intro _;rfl):PS X (.Assign [.Name y py] (.ListComp eE [⟨tg,iter,c7,0⟩] scope pos) kw) (Xiy i cap wi g tt te):=
 Xc3 (act := fun D env => do let _ <- call (.builtin "list.append") [.ref D, <- eval eE env]) Ju (fun use => rfl) rfl C bA Hr hN rN hy hi (fun it D env => rfl) hg ht (fun D s0 H0 ex => Jt (he s0 H0 ex)) rO hs
def Xc4(C:CompScope X N cap scope)(bA:X.calm=true)(hi:PI X tg iter wi)
  (hg:∀s0 H0 ex,PG (X.comp N scope s0 H0 ex) tg g) (ht:∀s0 H0 ex,PIfs (X.comp N scope s0 H0 ex) c7 tt) (hk:∀s0 H0 ex,PE (X.comp N scope s0 H0 ex) kx tk) (hv:∀s0 H0 ex,PE (X.comp N scope s0 H0 ex) vx tv)
  (hs:∀x,aH iter X.env x=pure x:=by intro _;rfl):PE X (.DictComp kx vx [⟨tg,iter,c7,0⟩] scope pos) (Ml cap (.dK []) wi g tt (Xcx tk tv)):=
 Mm Xki rfl rfl C bA Xkf hi (λit D env=>compTurn_dict kx vx tg iter c7 scope pos it D env) hg ht (λD s0 H0 ex=>Xkg (hk s0 H0 ex) (hv s0 H0 ex)) hs
def Xc5(C:CompScope X N cap scope)(bA:X.calm=true)(hi:PI X tg iter wi)
  (hg:∀s0 H0 ex,PG (X.comp N scope s0 H0 ex) tg g) (ht:∀s0 H0 ex,PIfs (X.comp N scope s0 H0 ex) c7 tt)
  (eW:∀s0 H0 ex,PI (X.comp N scope s0 H0 ex) k8 c9 yX) (rP:∀s0 H0 ex,PG (X.comp N scope s0 H0 ex) k8 g2) (o4:∀s0 H0 ex,PIfs (X.comp N scope s0 H0 ex) fz yW) (he:∀s0 H0 ex,PE (X.comp N scope s0 H0 ex) eE te)
  (hs:∀x,aH iter X.env x=pure x:=by intro _;rfl) (vF:∀s0 H0 ex x,aH c9 (X.comp N scope s0 H0 ex).env x=pure x:=by intro _ _ _ _;rfl):
  PE X (.ListComp eE [⟨tg,iter,c7,0⟩,⟨k8,c9,fz,0⟩] scope pos) (Ml cap (.lst []) wi g tt λD=>Xcy yX g2 yW (Hs te D)):=
 Mm (act:=λD env=>act2 eE tg iter k8 c9 c7 fz scope pos D env) Ju rfl rfl C bA Hr hi (λit D env=>Xkl ..) hg ht (λD s0 H0 ex=>Xkh (Y:=X.comp N scope s0 H0 ex) (e:=.ListComp eE [⟨tg,iter,c7,0⟩,⟨k8,c9,fz,0⟩] scope pos) (d:=1) Hr rfl bA rfl (λit=>rfl) (eW s0 H0 ex) (rP s0 H0 ex) (o4 s0 H0 ex) (Jt (he s0 H0 ex)) (vF s0 H0 ex)) hs
end
mutual
def DAt (H:Hp):au->V->Prop
 | .none,v=>v = .non
 | .bool b,v=>v = .bl b
 | .int i,v=>v = .int i
 | .str x,v=>v = .str x
 | .list ds,v=>∃p xs,v = .ref p/\H p=some (.lst xs)/\DAll H ds xs
 | .tuple ds,v=>∃p xs,v = .ref p/\H p=some (.tup xs)/\DAll H ds xs
 | .dict _,_=>False
def DAll (H:Hp):List au->List V->Prop
 | [],vs=>vs=[]
 | d::ds,vs=>∃v r,vs=v::r/\DAt H d v/\DAll H ds r
end
mutual
theorem DAt.same{H H':Hp}(s:Same H H'):∀(d:au) (v:V),DAt H d v->DAt H' d v
 | .none,v,h=>by unfold DAt at h ⊢; exact h
 | .bool b,v,h=>by unfold DAt at h ⊢; exact h
 | .int i,v,h=>by unfold DAt at h ⊢; exact h
 | .str x,v,h=>by unfold DAt at h ⊢; exact h
 | .list ds,v,h=>by
  unfold DAt at h ⊢;obtain⟨p,xs,h1,h2,h3⟩:=h;exact⟨p,xs,h1,s _ _ h2,DAll.same s ds xs h3⟩
 | .tuple ds,v,h=>by
  unfold DAt at h ⊢;obtain⟨p,xs,h1,h2,h3⟩:=h;exact⟨p,xs,h1,s _ _ h2,DAll.same s ds xs h3⟩
 | .dict _,v,h=>by unfold DAt at h;exact h.elim
theorem DAll.same{H H':Hp}(s:Same H H'):∀(ds:List au) (vs:List V),DAll H ds vs->DAll H' ds vs
 | [],vs,h=>by unfold DAll at h ⊢; exact h
 | d::ds,vs,h=>by
  unfold DAll at h ⊢;obtain⟨v,r,h1,h2,h3⟩:=h;exact⟨v,r,h1,DAt.same s d v h2,DAll.same s ds r h3⟩
end
def Ep:DAll H [] []:=by unfold DAll;rfl
def Ht     (h:DAt H d v) (hs:DAll H ds vs):DAll H (d::ds) (v::vs):=by unfold DAll;exact⟨v,vs,rfl,h,hs⟩
theorem Jw   : ∀{ds:List au} {vs:List V},DAll H ds vs->DAt H d v->DAll H (ds++[d]) (vs++[v])
 | [],vs,h,hd=>by
  unfold DAll at h;subst h;exact Ht hd Ep
 | e::ds,vs,h,hd=>by
  unfold DAll at h;obtain⟨u,r,rfl,h2,h3⟩:=h;exact Ht h2 (Jw h3 hd)
theorem Gb:∀{ds:List au} {vs:List V},DAll H ds vs->vs.length=ds.length
 | [],vs,h=>by unfold DAll at h;subst h;rfl
 | e::ds,vs,h=>by
  unfold DAll at h;obtain⟨u,r,rfl,h2,h3⟩:=h;rw[O5,O5,Gb h3]
theorem Mn:∀{ds:List au} {vs:List V} {i:Nat} {d:au},DAll H ds vs->ds[i]? = some d->∃v,vs[i]? = some v/\DAt H d v
 | [],vs,i,d,h,e=>by simp at e
 | c::ds,vs,0,d,h,e=>by
  unfold DAll at h;obtain⟨u,r,rfl,h2,h3⟩:=h;simp at e;subst e;exact⟨u,rfl,h2⟩
 | c::ds,vs,i+1,d,h,e=>by
  unfold DAll at h;obtain⟨u,r,rfl,h2,h3⟩:=h;simpa using Mn h3 (by simpa using e)
def Mo(row:Za):DAll H (row.map au.str) (row.map V.str):=by
 induction row with
 | nil=>exact Ep
 | cons x r ih=>exact Ht (by unfold DAt;rfl) ih
def Xkm(row:List Int):DAll H (row.map au.int) (row.map V.int):=by
 induction row with
 | nil=>exact Ep
 | cons x r ih=>exact Ht (by unfold DAt;rfl) ih
def Mp    (h:H p=some (.tup xs)) (hs:DAll H ds xs):DAt H (.tuple ds) (.ref p):=by unfold DAt;exact⟨p,xs,rfl,h,hs⟩
def Xkn    (h:H p=some (.lst xs)) (hs:DAll H ds xs):DAt H (.list ds) (.ref p):=by unfold DAt;exact⟨p,xs,rfl,h,hs⟩
def Mq   (h:DAt H (.tuple ds) v):∃p xs,v = .ref p/\H p=some (.tup xs)/\DAll H ds xs:=by unfold DAt at h;exact h
section
variable {X:Cx}{pins:List (ae×aM)}{Z:St}{H:Hp}{s:af}
mutual
theorem Fg(I:Inv X pins Z H s):∀(d:au) (v:V) (u:aa),DAt H d v->Aj v u->∃as,Reads s.heap u d as
 | .none,v,u,h,r=>by unfold DAt at h;subst h;cases r;exact⟨_,.none⟩
 | .bool b,v,u,h,r=>by unfold DAt at h;subst h;cases r;exact⟨_,.bool b⟩
 | .int i,v,u,h,r=>by unfold DAt at h;subst h;obtain⟨t,rfl⟩:=r;exact⟨_,.int i t⟩
 | .str x,v,u,h,r=>by unfold DAt at h;subst h;obtain⟨t,rfl⟩:=r;exact⟨_,.str x t⟩
 | .list ds,v,u,h,r=>by
  unfold DAt at h;obtain⟨p,xs,rfl,hp,hs⟩:=h;cases r;obtain⟨aA,rv,pl,hz⟩:=I.list (SqL.of (K:=X.K) hp);obtain⟨as,ra⟩:=Mr I ds xs aA hs rv;obtain⟨o,ho,hc,n,hd⟩:=pl.isList;exact⟨_,.list ho hc hd (by simpa using ra)⟩
 | .tuple ds,v,u,h,r=>by
  unfold DAt at h;obtain⟨p,xs,rfl,hp,hs⟩:=h;cases r;obtain⟨aA,rv,pl,hz⟩:=I.tuple (SqT.of (K:=X.K) hp);obtain⟨as,ra⟩:=Mr I ds xs aA hs rv;obtain⟨o,ho,hc,n,hd⟩:=pl;exact⟨_,.tuple ho hc hd (by simpa using ra)⟩
 | .dict _,v,u,h,r=>by unfold DAt at h;exact h.elim
theorem Mr(I:Inv X pins Z H s):∀(ds:List au) (vs:List V) (us:List aa),DAll H ds vs->Vals vs us->∃as,ReadsAll s.heap us ds as
 | [],vs,us,h,r=>by unfold DAll at h;subst h;cases r;exact⟨_,.nil⟩
 | d::ds,vs,us,h,r=>by
  unfold DAll at h;obtain⟨v,vr,rfl,h1,h2⟩:=h;cases r with
  | cons r1 r2=>
   obtain⟨a1,q1⟩:=Fg I d v _ h1 r1;obtain⟨a2,q2⟩:=Mr I ds vr _ h2 r2;exact⟨_,.cons q1 q2⟩
end
def Xko(hu:X.A.units+3<bD):OpR X (aL .Eq) (λx y H Q=>∃d d',DAt H d x/\DAt H d' y/\d.canLay0=true/\d'.canLay0=true/\min d.depth d'.depth<=3/\Q (.bl (au.eqv d d')) H):=by
 intro pins s Z H x y v u Q I rx ry h;obtain⟨d,d',h1,h2,c1,c2,hd,q⟩:=h;obtain⟨as,ra⟩:=Fg I d x v h1 rx;obtain⟨bs,rb⟩:=Fg I d' y u h2 ry;exact SeqAt.compareEq_reads ra rb c1 c2 (by lia) ⟨.bl _,H,I,rfl,q⟩
def Xc6(hu:X.A.units+3<bD):OpR X (aL .NotEq) (λx y H Q=>∃d d',DAt H d x/\DAt H d' y/\d.canLay0=true/\d'.canLay0=true/\min d.depth d'.depth<=3/\Q (.bl (!au.eqv d d')) H):=by
 intro pins s Z H x y v u Q I rx ry h;obtain⟨d,d',h1,h2,c1,c2,hd,q⟩:=h;obtain⟨as,ra⟩:=Fg I d x v h1 rx;obtain⟨bs,rb⟩:=Fg I d' y u h2 ry;exact SeqAt.compareNe_reads ra rb c1 c2 (by lia) ⟨.bl _,H,I,rfl,q⟩
end
mutual
def Cg:au->Bool
 | .none | .int _=>true
 | .str x=>au.strOk x
 | .list xs | .tuple xs=>Dk xs
 | .bool _ | .dict _=>false
def Dk:List au->Bool
 | []=>true
 | x::xs=>Cg x&&Dk xs
end
mutual
theorem Gc:∀d:au,Cg d=true->d.canLay0=true
 | .none,_=>rfl
 | .int _,_=>rfl
 | .str x,h=>h
 | .list xs,h=>Jx xs h
 | .tuple xs,h=>Jx xs h
 | .bool _,h=>nomatch h
 | .dict _,h=>nomatch h
theorem Jx:∀ds:List au,Dk ds=true->au.canLayAll0 ds=true
 | [],_=>rfl
 | d::ds,h=>by
  have h':(Cg d&&Dk ds)=true:=h;rw[Oz] at h';show (d.canLay0&&au.canLayAll0 ds)=true;rw[Gc d h'.1,Jx ds h'.2];rfl
end
mutual
theorem Ms:∀(d d':au),Cg d=true->Cg d'=true->(au.eqv d d'=true↔d=d')
 | .none,d',_,h=>by cases d'<;>simp[au.eqv]
 | .int i,d',_,h=>by cases d'<;>simp_all [au.eqv,Cg]
 | .str x,d',_,h=>by cases d'<;>simp_all [au.eqv,Cg]
 | .list xs,d',g,h=>by
  cases d' with
  | list ys=>
   have:=Mt xs ys g h;simp only[au.eqv,this,au.list.injEq]
  | _=>simp[au.eqv]
 | .tuple xs,d',g,h=>by
  cases d' with
  | tuple ys=>
   have:=Mt xs ys g h;simp only[au.eqv,this,au.tuple.injEq]
  | _=>simp[au.eqv]
 | .bool _,_,g,_=>nomatch g
 | .dict _,_,g,_=>nomatch g
theorem Mt:∀(xs ys:List au),Dk xs=true->Dk ys=true->(au.eqvAll xs ys=true↔xs=ys)
 | [],[],_,_=>by simp[au.eqvAll]
 | [],_::_,_,_=>by simp[au.eqvAll]
 | _::_,[],_,_=>by simp[au.eqvAll]
 | x::xs,y::ys,g,h=>by
  have g':(Cg x&&Dk xs)=true:=g;have h':(Cg y&&Dk ys)=true:=h;rw[Oz] at g' h';have e1:=Ms x y g'.1 h'.1;have e2:=Mt xs ys g'.2 h'.2;simp only[au.eqvAll,Oz,e1,e2,List.cons.injEq]
end
def Xkp{α : Type}[DecidableEq α](f : α->au)(inj:∀a b,f a=f b->a=b)(a b)(ha:Cg (f a)=true)(hb:Cg (f b)=true):au.eqv (f a) (f b)=decide (a=b):=by
 rw[Qn,Ms _ _ ha hb,decide_eq_true_eq];exact⟨inj a b,λe=>by rw[e]⟩
theorem plainAll_map{α : Type}(f):∀(xs:List α),(∀x∈xs,Cg (f x)=true)->Dk (xs.map f)=true
 | [],_=>rfl
 | x::xs,h=>by
  show (Cg (f x)&&Dk (xs.map f))=true;rw[h x Ov,plainAll_map f xs λy hy=>h y (Op _ hy)];rfl
section
variable {X:Cx}{tg:aF}
def Xkq (tl:TE):TI:=fun Z H R=>tl Z H λx H1=>∃d kvs,x = .ref d/\((H1 d=some (.dK kvs)/\∀o,R (Itd d o kvs) (upd H1 d (.frz o (.dK kvs)))) \/ ∃o,H1 d=some (.frz o (.dK kvs))/\R (Itd d o kvs) H1)
def Ge  (hl:PE X l tl):PI X tg l (Xkq tl):=by
 intro pins s Z H R I h;refine thn (hl pins s Z H _ I h) λv s1 ⟨x,H1,I1,r1,q1⟩=>?_;obtain⟨d,kvs,e,q⟩:=q1;subst e;cases r1;rcases q with ⟨hH,q⟩ | ⟨o,hH,q⟩
 ·obtain⟨hz,hm,vs,rv,o,es,ep,ho,hex,hd,r⟩:=I1.hok d _ hH;have aN:kvs.length=vs.length:=Paired.length rv;refine eR (knd:=Bb X.prog X.w) hm ⟨o,es,ho,hex,hd,r⟩ ?_;have I2:=I1.freeze hH ho;refine⟨s1.heap.objs.size,[s1.heap.objs.size],_,_,_,rfl,I2.kept (t':=s1.toks) λb o e=>Tz _ e,L9 d _ o es ep hd kvs (Os (Tx ho)),⟨_,am.get?_push_size _ rfl,rfl,by rw[aN];rfl⟩,λb hb=>?_,q o⟩;have e:b=s1.heap.objs.size:=by simpa using hb
  subst e;exact I2.fpOk (Oi _) (I2.hok.fresh (Oi _))
 ·obtain⟨fo,hok⟩:=(show A3 X.prog X.w H1 s1.heap d (.frz o (.dK kvs)) from I1.hok d _ hH);obtain⟨hz,hm,vs,rv,o',es,ep,ho,hex,hd,r⟩:=hok;have eo:o'=o:=by rw[fo] at ho;exact(O4 ho).symm
  subst eo;have aN:kvs.length=vs.length:=Paired.length rv;refine eR (knd:=Bb X.prog X.w) hm ⟨o',es,ho,hex,hd,r⟩ ?_;refine⟨s1.heap.objs.size,[s1.heap.objs.size],_,_,_,rfl,I1.kept (t':=s1.toks) λb o e=>Tz _ e,L9 d _ o' es ep hd kvs (Os (Tx ho)),⟨_,am.get?_push_size _ rfl,rfl,by rw[aN];rfl⟩,λb hb=>?_,q⟩;have e:b=s1.heap.objs.size:=by simpa using hb
  subst e;exact I1.fpOk (Oi _) (I1.hok.fresh (Oi _))
end
def hid (D:ae) (H:Hp):Hp:=λb=>if b=D then none else H b
def Fh(D)(H):Same (hid D H) H:=λb o e=>by
 unfold hid at e;split at e
 ·cases e
 ·exact e
def Xc7(D)(H)(o):hid D (upd H D o)=hid D H:=by
 funext b;unfold hid;split
 ·rfl
 ·rename_i h;rw[Ad h]
def Hu{D}(s:Same H H'):Same (hid D H) (hid D H'):=λb o e=>by
 unfold hid at e ⊢;split at e
 ·cases e
 ·rename_i h;rw[Tq h];exact s b o e
def Cy   (h:H b=some o) (n:b≠D):hid D H b=some o:=by
 unfold hid;rw[Tq n];exact h
def Xc8     (hD:H D=some o) (np:H p=none) (h:DAll (hid D (upd H p (.tup xs))) ds xs):DAt (hid D (upd H p (.tup xs))) (.tuple ds) (.ref p):=
 Mp (Cy Ab (Aw hD np).symm) h
section
variable {tt:TT}{te:TE}{J:It}{Z:St}{H0 H1:Hp}{D:ae}{F:St->Hp->Prop}{j:Nat}{xs0:List V}
def Mu(n)(vs:Nat->V)(ok)(vG)(acc)(hH:H0 D=none)(s0:Same H0 H1)(i8:H1 D=some (.lst xs0))(bY:DAll (hid D H1) acc xs0)(yY:acc.length+n<sizeLine)
  (kh:∀i H2,i<n->Same H0 H2->J.go i H2/\∀x H3,J.yld i H2 x H3->H3=H2/\x=vs i)
  (bK:∀H2,Same H0 H2->J.stop n H2)
  (rL:∀(i:Nat) H2 Q,i<n->Same H0 H2->(∀H',Same H2 H'->Q (ok i) H')->tt (Z.set j (some (vs i))) H2 Q)
  (step:∀(i:Nat) xs H2 Q,i<n->ok i=true->Same H0 H2->H2 D=some (.lst xs)->(∀v H',Same H2 H'->DAt (hid D H') (vG i) v->Q v H')->te (Z.set j (some (vs i))) H2 Q)
  (fin:∀Z' H2 xs,(∀v, Z'.set j v = Z.set j v)->Same H0 H2->H2 D=some (.lst xs)->DAll (hid D H2) (acc++((List.range n).filter ok).map vG) xs->F Z' H2):
  tLp (Be j) tt (Hs te D) J Z H1 F:=by
 refine⟨wN n λi Z2 H2=>(∀v, Z2.set j v = Z.set j v)/\Same H0 H2/\∃xs,H2 D=some (.lst xs)/\DAll (hid D H2) (acc++((List.range i).filter ok).map vG) xs,⟨n,by simp,Pi _,λ_=>rfl,s0,xs0,i8,by simpa using bY⟩,?_⟩;rintro i m Z1 H2 ⟨rfl,hi,e,s2,xs,hD,dc⟩;by_cases bf:i<n
 ·obtain⟨h1,h2⟩:=kh i H2 bf s2;refine .inr ⟨h1,λx H3 y=>?_⟩;obtain⟨e1,e2⟩:=h2 x H3 y;subst e1 e2;show tt (Z1.set j (some (vs i))) H3 _;rw[e];refine rL i H3 _ bf s2 λH4 s4=>?_;have rQ:=s2.trans s4;have dP:=s4 _ _ hD;have lY:=DAll.same (Hu (D:=D) s4) _ _ dc;have jE:∀v,(Z.set j (some (vs i))).set j v = Z.set j v:=λv=>by rw[Te]
  have hl:xs.length<=acc.length+i:=by
   rw[Gb dc,Oo,Oh];have:((List.range i).filter ok).length<=i:=Pm (Po ..) (by rw[Qg];lia)
   lia
  refine A0 (λhk=>?_) (λhk=>?_)
  ·show te (Z.set j (some (vs i))) H4 _;refine step i xs H4 _ bf hk rQ dP λv H5 s5 hv=>?_;refine⟨xs,s5 _ _ dP,by lia,?_⟩;refine wskip bf ⟨jE,λb u e'=>?_,xs++[v],Ab,?_⟩
   ·rw[Ad (Aw e' hH)];exact s5 _ _ (rQ b u e')
   ·rw[Xc7,P9,O8,Ow,<-Pb];simp only[Pq,hk,if_true,List.filter_nil,O0,Td];exact Jw (DAll.same (Hu (D:=D) s5) _ _ lY) hv
  ·refine wskip bf ⟨jE,rQ,xs,dP,?_⟩;rw[P9,O8];simpa [hk] using lY
 ·have ei:i=n:=by lia
  subst ei;exact .inl ⟨bK H2 s2,fin Z1 H2 xs e s2 hD dc⟩
def Xkr(n:Nat)(vs:Nat->V)(acc:Nat->List au)(hH:H0 D=none)(s0:Same H0 H1)(i8:H1 D=some (.lst xs0))(bY:DAll (hid D H1) (acc 0) xs0)(EZ:St->Prop)(hE:EZ Z)
  (kh:∀i H2,i<n->Same H0 H2->J.go i H2/\∀x H3,J.yld i H2 x H3->H3=H2/\x=vs i)
  (bK:∀H2,Same H0 H2->J.stop n H2)
  (step:∀(i:Nat) Z1 xs H2 (Q:St->Hp->Prop),i<n->EZ Z1->Same H0 H2->H2 D=some (.lst xs)->DAll (hid D H2) (acc i) xs->(∀Z' H' i9,EZ Z'->Same H0 H'->H' D=some (.lst i9)->DAll (hid D H') (acc (i+1)) i9->Q Z' H')->tm (Z1.set j (some (vs i))) H2 Q)
  (fin:∀Z' H2 xs,Same H0 H2->H2 D=some (.lst xs)->DAll (hid D H2) (acc n) xs->F Z' H2):
  tLp (Be j) E8 tm J Z H1 F:=by
 refine⟨wN n λi Z2 H2=>EZ Z2/\Same H0 H2/\∃xs,H2 D=some (.lst xs)/\DAll (hid D H2) (acc i) xs,⟨n,by simp,Pi _,hE,s0,xs0,i8,bY⟩,?_⟩;rintro i m Z1 H2 ⟨rfl,hi,e,s2,xs,hD,dc⟩;by_cases bf:i<n
 ·obtain⟨h1,h2⟩:=kh i H2 bf s2;refine .inr ⟨h1,λx H3 y=>?_⟩;obtain⟨e1,e2⟩:=h2 x H3 y;subst e1 e2;unfold Be E8;dsimp only;rw[Tr rfl];exact step i Z1 xs H3 _ bf e s2 hD dc fun Z' H' i9 e' s' eF o5=>wskip bf ⟨e',s',i9,eF,o5⟩
 ·have ei:i=n:=by lia
  subst ei;exact .inl ⟨bK H2 s2,fin Z1 H2 xs s2 hD dc⟩
def Xks(n:Nat)(vs:Nat->V)(acc:Nat->List au)(G:Hp->Prop)(hH:H0 D=none)(s0:Same H0 H1)(g0:G H1)(i8:H1 D=some (.lst xs0))(bY:DAll (hid D H1) (acc 0) xs0)(EZ:St->Prop)(hE:EZ Z)
  (kh:∀i H2,i<n->Same H0 H2->J.go i H2/\∀x H3,J.yld i H2 x H3->H3=H2/\x=vs i)
  (bK:∀H2,Same H0 H2->J.stop n H2)
  (step:∀(i:Nat) Z1 xs H2 (Q:St->Hp->Prop),i<n->EZ Z1->Same H0 H2->G H2->H2 D=some (.lst xs)->DAll (hid D H2) (acc i) xs->(∀Z' H' i9,EZ Z'->Same H0 H'->G H'->H' D=some (.lst i9)->DAll (hid D H') (acc (i+1)) i9->Q Z' H')->tm (Z1.set j (some (vs i))) H2 Q)
  (fin:∀Z' H2 xs,Same H0 H2->G H2->H2 D=some (.lst xs)->DAll (hid D H2) (acc n) xs->F Z' H2):
  tLp (Be j) E8 tm J Z H1 F:=by
 refine⟨wN n λi Z2 H2=>EZ Z2/\Same H0 H2/\G H2/\∃xs,H2 D=some (.lst xs)/\DAll (hid D H2) (acc i) xs,⟨n,by simp,Pi _,hE,s0,g0,xs0,i8,bY⟩,?_⟩;rintro i m Z1 H2 ⟨rfl,hi,e,s2,g2,xs,hD,dc⟩;by_cases bf:i<n
 ·obtain⟨h1,h2⟩:=kh i H2 bf s2;refine .inr ⟨h1,λx H3 y=>?_⟩;obtain⟨e1,e2⟩:=h2 x H3 y;subst e1 e2;unfold Be E8;dsimp only;rw[Tr rfl];exact step i Z1 xs H3 _ bf e s2 g2 hD dc fun Z' H' i9 e' s' g' eF o5=>wskip bf ⟨e',s',g',i9,eF,o5⟩
 ·have ei:i=n:=by lia
  subst ei;exact .inl ⟨bK H2 s2,fin Z1 H2 xs s2 g2 hD dc⟩
end
section
variable {X:Cx}{pos np jh:bN}{body:List aP}{b0:aP}{suite:List aP}{x:ao}{Cc:ae}{tb:(ae->St->Hp->Prop)->TS}{th:TS}
def Xkt (K:LY) (Cc:ae) (tb:(ae->St->Hp->Prop)->TS) (th:TS):TS:=λD Z H=>∃R:ae->St->Hp->Prop,tb R D Z H/\∀C Z1 H1,R C Z1 H1->M' K (.ref C) (.ref Cc)=some true/\th D Z1 H1
def Xku(bK:X.stack=X.env::X.outer)(jA:X.env.frame=some X.env.locals)(hg:Gl X x)(hm:X.mg x=some (.ref Cc))
  (hb:∀pn R,PSs (X.tryC pn R) body (tb R)) (hh:∀pn ex,PSs (X.suite pn ex) (b0::suite) th) (gl:(x==("__debug__" : ao))=false:=by decide):
  PS X (.Try body [.ExceptHandler (some (.Name x np)) none (b0::suite) jh] [] [] pos) (Xkt X.K Cc tb th):=by
 intro pins s Z H D I h;obtain⟨R,yY,CA⟩:=h;have rR:∀p∈X.pn++pins++[],p∈X.pn++pins:=λp hp=>by simpa using hp
 have k9:∀p∈X.pn++pins,p∈X.pn++pins++[]:=λp hp=>by simpa using hp
 have I0:Inv (X.tryC (X.pn++pins) R) [] Z H s:=I.as I.ok.hd I.ok.frames rR;refine wpAny_Try_except (aJ (hb (X.pn++pins) R [] s Z H D I0 yY) (λfl s1 q=>?_) λe s1 q=>?_)
 ·have uq:∀{Z':St} {H':Hp},Inv (X.tryC (X.pn++pins) R) [] Z' H' s1->Inv X pins Z' H' s1:=λJ=>J.back I.ok k9;cases fl with
  | next=>
   obtain⟨Z',H',J,q⟩:=q;exact dm ⟨Z',H',uq J,q⟩
  | brk=>
   obtain⟨Z',H',J,q⟩:=q;exact⟨Z',H',uq J,q⟩
  | cont=>
   obtain⟨Z',H',J,q⟩:=q;exact⟨Z',H',uq J,q⟩
  | ret u=>
   obtain⟨v, Z',H',J,r,q⟩:=q;exact⟨v, Z',H',uq J,r,q⟩
 ·obtain⟨Z1,Hc,sc,Ic,ex,c,H1,B,a0,rfl,fE,jZ,F,C,hC,hR⟩:=q;cases hC;obtain⟨hx,CB⟩:=CA c Z1 H1 hR;have F':Flown X.prog X.w (X.env::X.outer) Hc sc.heap H1 ex c B a0 s1.heap:=by rw[<-bK];exact F
  have vH:X.A.frames=some (X.env::X.outer):=by rw[<-bK];exact I.ok.frames
  have step:∀(h5:am) (tk:Nat),B.StaysIn h5->s1.heap.UpToSlots h5->Inv (X.re (X.pn++pins) X.A X.calm λ_ _=>True) [] Z1 H1 {s1 with heap:=h5,toks:=tk}:=λh5 tk st up=>by
   obtain⟨un,hok,_⟩:=F'.move st up;refine Ic.call' (ch:=[]) fE ?_ hok jZ (λb z=>absurd z (by simp));show Un (frs X.stack) [] Hc H1 sc.heap h5;rw[bK];exact un
  refine wpAny_looks_onW (L:=X.env.locals) vH jA F'.fly λh4 vI yZ=>?_;refine wpAny_landsW vI λh5 vJ za=>?_;have I5:=step h5 s1.toks vJ.1 (yZ.trans za);have zb:Inv (X.suite (X.pn++pins) ex) [] Z1 H1 {s1 with heap:=h5}:=Inv.as (X:=X.re (X.pn++pins) X.A X.calm λ_ _=>True) I5 (λz=>absurd z (by decide)) I.ok.frames (λp hp=>hp);have LT:NQ (ah X.prog X.w) h5 (typeOf (.ref ex)) (.ref c):=by
   obtain⟨ob,ur,vK⟩:=vJ.there;rw[<-vK];exact(NQ.ld ur).andThen .now
  refine wpAny_handleBy_cons (codeAny_handlers_test ?_) (by intro q;cases q);refine Iy (X:=X.suite (X.pn++pins) ex) zb (show Gl (X.suite (X.pn++pins) ex) x from hg) hm ?_ gl;refine(PySem.W.exm_one (zb.kIn) LT hx).here ?_;refine codeAny_handlers_suite (lands_againW vJ λh6 CC CD=>?_);have vL:=(yZ.trans za).trans CD;have I6:=step h6 s1.toks CC.1 vL;have CF:Inv (X.suite (X.pn++pins) ex) [] Z1 H1 {s1 with heap:=h6}:=Inv.as (X:=X.re (X.pn++pins) X.A X.calm λ_ _=>True) I6 (λz=>absurd z (by decide)) I.ok.frames (λp hp=>hp);refine aJ (hh (X.pn++pins) ex [] _ _ _ _ CF CB) (λfl s9 q9=>?_) λ_ _ z=>z.elim;have lZ:∀{Z':St} {H':Hp},Inv (X.suite (X.pn++pins) ex) [] Z' H' s9->Inv X pins Z' H' s9:=λJ=>J.back I.ok k9;cases fl with
  | next=>
   obtain⟨Z',H',J,q⟩:=q9;exact⟨Z',H',lZ J,q⟩
  | brk=>
   obtain⟨Z',H',J,q⟩:=q9;exact⟨Z',H',lZ J,q⟩
  | cont=>
   obtain⟨Z',H',J,q⟩:=q9;exact⟨Z',H',lZ J,q⟩
  | ret u=>
   obtain⟨v, Z',H',J,r,q⟩:=q9;exact⟨v, Z',H',lZ J,r,q⟩
end
section
variable {X:Cx}
def Xkv:X.calm=true->Bu X (.builtin "any") (λxs H Q=>∃(a:ae) (bs:List Bool),xs=[.ref a]/\H a=some (.lst (bs.map V.bl))/\Q (.bl (bs.any id)) H):=by
 intro hc pins s Z H xs us Q I r h;obtain⟨a,bs,rfl,ha,q⟩:=h;obtain⟨u,rfl,ru⟩:=Bq r;cases ru;obtain⟨aA,rv,p,hz⟩:=I.list (SqL.of ha);have hl:=rv.length;rw[Oh] at hl;refine call_any_walk (cJ p.isList ?_);have bf:a≠s.heap.objs.size:=by
  obtain⟨o,ho,_⟩:=p.isList;exact Os (Tx ho)
 refine⟨s.heap.objs.size,_,_,_,_,_,λj=>bs.getD j false,rfl,jQ.list (A:=X.A.in1) (show X.A.in1.handled=none from I.ok.hd hc) s.heap.objs.size a bf aA.toArray,⟨⟨_,am.get?_push_size _ rfl,rfl,rfl⟩,p.isList.push _⟩,λi v s' Q' E' hP hQ=>?_,λh' tk k=>?_⟩
 ·have hv:aA[i]? = some v:=by simpa using hP
  have hi:i<aA.length:=(O6.mp hv).1;have g:(bs.map V.bl)[i]? = some (.bl (bs[i]'(by lia))):=by
   rw[O2,Oj (by lia)];rfl
  obtain⟨u,hu,ru⟩:=rv.get g;rw[hv] at hu;cases hu;cases ru;have e:bs.getD i false=bs[i]'(by lia):=by simp[List.getD,(by lia:i<bs.length)]
  have rp:Q' (bs.getD i false) s':=hQ;rw[e] at rp;exact aS rp
 ·refine⟨.bl (bs.any id),H,I.kept (t':=tk) λb o e=>k b o (λz=>?_) (Tz _ e),?_,q⟩
  ·have z':b=s.heap.objs.size:=by simpa using z
   exact absurd (Tx e) (by rw[z'];exact P1 _)
  ·show aa.bool _=aa.bool _;congr 1;rw[Ol,<-hl];rw[Qn,Rp,Rp];constructor
   ·rintro ⟨j,hj,e⟩;have fj:=P2.mp hj;refine⟨_,Pk fj,?_⟩;simpa [List.getD,fj] using e
   ·rintro ⟨b,hb,e⟩;obtain⟨j,hj,rfl⟩:=P3.mp hb;exact⟨j,P2.mpr hj,by simpa [List.getD,hj] using e⟩
def Xc9:Bu X (.builtin "sorted") (λxs H Q=>∃a ks,xs=[.ref a]/\H a=some (.lst (ks.map V.str))/\ks.length<64/\∀l,H l=none->Q (.ref l) (upd H l (.lst ((srt ks).map V.str)))):=by
 intro pins s Z H xs us Q I r h;obtain⟨a,ks,rfl,ha,cz,q⟩:=h;obtain⟨u,rfl,rx⟩:=Bq r;cases rx;obtain⟨aA,rv,pl,hz⟩:=I.list (SqL.of ha);have hl:=rv.length;rw[Oh] at hl;refine sorted_strs pl.isList (F7 rv) (by lia) λout qm h1 h2 h3=>?_;obtain⟨e,he⟩:=vM s.heap aA out;have es:qm=srt ks:=F8 h2 h3;subst es;have hf:H (s.heap.objs.size+1)=none:=I.hok.fresh (Ql _);refine⟨.ref (s.heap.objs.size+1),_,I.laid (t':=s.toks) (h':=o6 s.heap aA out) (o:=.lst ((srt ks).map V.str)) (λb ob q=>ut q) (Ql _) ?_,rfl,q _ hf⟩;refine⟨by rw[Oh,h2.length_eq,Tp];lia,out.toList,e,Xck h1,?_⟩;rw[he]
def Mv:R2:=λx y H Q=>∃a b xs ys,x = .ref a/\y = .ref b/\H a=some (.tup xs)/\H b=some (.tup ys)/\xs.length+ys.length<=sizeLine/\∀p H',Same H H'->H' p=some (.tup (xs++ys))->Q (.ref p) H'
def Hv:OpR X (bq .Add) Mv:=by
 intro pins s Z H x y v u Q I rx ry h;obtain⟨a,b,xs,ys,rfl,rfl,ha,hb,hz,q⟩:=h;by_cases hx:xs=[]
 ·subst hx;cases rx;cases ry;obtain⟨aA,r1,p1,_⟩:=I.tuple (SqT.of (K:=X.K) ha);obtain⟨iq,r2,p2,_⟩:=I.tuple (SqT.of (K:=X.K) hb);cases r1;obtain⟨⟨cls,dd,data,sl⟩,ho,hc,n,hd⟩:=id p1;obtain⟨⟨qS,mQ,data2,mR⟩,j8,gp,n2,cK⟩:=id p2;simp only at hc hd gp cK;subst hc hd gp cK;exact je ⟨_,ho,rfl⟩ ⟨_,j8,rfl⟩ fu il PySem.F.slot_tuple_add PySem.F.entry_tuple_add (PySem.F.args_tuple_add_2 _ _)
   (tuple_addW0 a b _ _ n n2 dd mQ sl mR (by simp)) ⟨ho,j8,⟨.ref b,H,I,rfl,q b H (Same.refl H) hb⟩⟩
 ·refine Xhx pins s Z H (.ref a) (.ref b) v u Q I rx ry ⟨a,b,xs,ys,rfl,rfl,SqT.of ha,SqT.of hb,hx,hz,λhy=>?_,λhy p np=>?_⟩
  ·subst hy;exact q a H (Same.refl H) (by rw[Pw];exact ha)
  ·exact q p _ ((Same.refl H).step np) Ab
end
end L2
namespace HT
open PySem.Calls L2
section
variable {prog:ap}{w:ax}{A:av}{E:Zb}{s:af}
def getItem_tuple_whole    {lo hi} (ht:dh s.heap t az) (hs:s.heap.IsSliceOf sl vl vu .none) (pl:d9 vl lo) (pu:d9 vu hi)
  (hw:sIx az.size 0 lo=0/\sIx az.size az.size hi=az.size) (h:Q (.ref t) s):ai (ah prog w) A (bZ (.ref t) (.ref sl)) Q E s:=by
 obtain⟨os,fE,nZ,lh⟩:=id hs;have li:s.TypeIs (.ref sl) "slice" := ⟨os,fE,nZ⟩;unfold bZ
 try with_reducible refine a7 ?_
 first | refine Tj (Tk ?_) | skip
 refine Tj (eM ht.typeIs (by decide) ?_);refine Tj (aT (name:=ao.ofString "__getitem__") ht.typeIs PyProof.Rows.slot_tuple_getitem
  (aG PyProof.Rows.slot_tuple_getitem ht.typeIs dO ?_ (eh _ _)))
 show ai _ _ (ak.Tuple.tupleItemsOf (.ref t) >>= _) _ _ s;refine Tj (im ht ?_);refine Tj (bv li ?_);rw[Tr (by decide)];refine Tj (Xa6 hs pl pu ?_);have vN:((((sIx az.size 0 lo:Nat):Int)==0&&(1:Int)==1&&(sIx az.size az.size hi - sIx az.size 0 lo)==az.size)=true):=by
  rw[hw.1,hw.2];simp
 show ai _ _ (if (((sIx az.size 0 lo:Nat):Int)==0&&(1:Int)==1&&(sIx az.size az.size hi - sIx az.size 0 lo)==az.size)=true then _ else _) _ _ s;rw[Tr vN];have hx:∀{Q':Bool->af->Prop},Q' true s->ai (ah prog w) A.in1 (ak.Tuple.tupleIsExact (.ref t)) Q' E s:=λ{Q'} q=>by
  unfold ak.Tuple.tupleIsExact;obtain⟨o,ho,hc,n,hd⟩:=ht
  repeat (first | exact Tk q | refine Tj (bv ⟨o,ho,hc⟩ ?_) | refine bv ⟨o,ho,hc⟩ ?_ | wp_step)
 refine Tj (hx ?_);rw[Tr rfl];exact Tj (aR (Tj (Tk (Tk ⟨_,rfl,Tk h⟩))))
def Xkw(n:Nat):ak.Slice.sliceAdjust none none (-1) (n:Int)=((n:Int) - 1, -1):=by
 unfold ak.Slice.sliceAdjust;simp
def Xkx(n:Nat):ak.Slice.slicePlaces ((n:Int) - 1) (-1) (-1)=n:=by
 unfold ak.Slice.slicePlaces;rw[Tq (by decide)];by_cases h:(n:Int) - 1 > -1
 ·rw[Tr h,show (- -1:Int)=1 from rfl,Int.ediv_one]
  lia
 ·rw[Tq h]
  lia
def Xky  {n:Nat}  (hs:s.heap.IsSliceOf sl .none .none (.int (-1) tk))
  (h:Q ((n:Int) - 1, -1,n) s):ai (ah prog w) A (ak.Slice.sliceApplied (.ref sl) (pure (n:Int))) Q E s:=by
 obtain⟨os,fE,nZ,lh⟩:=id hs;unfold ak.Slice.sliceApplied ak.Slice.sliceFields;refine Tj (Tj (cL fE lh (x:=.none) rfl (Tj (cL fE lh (x:=.none) rfl (Tj (cL fE lh (x:=.int (-1) tk) rfl (Tk ?_)))))));refine Tj (ud ?_);show ai _ _ (if ((-1:Int)==0)=true then _ else _) _ _ s;rw[Tq (by decide)];refine Tj (dA (Tj (dA (Tj (Tk ?_)))));show ai _ _ (match ak.Slice.sliceAdjust none none (-1) (n:Int) with | (lo,hi)=>pure (lo,(-1:Int),ak.Slice.slicePlaces lo hi (-1))) _ _ s;rw[Xkw];show ai _ _ (pure ((n:Int) - 1,(-1:Int),ak.Slice.slicePlaces ((n:Int) - 1) (-1) (-1))) _ _ s;rw[Xkx];exact Tk h
def Xkz(xs:Array aa):((List.range xs.size).filterMap λ(m:Nat)=>xs[((xs.size:Int) - 1+(m:Int) * -1).toNat]?).toArray=xs.toList.reverse.toArray:=by
 have e:(List.range xs.size).filterMap (λ(m:Nat)=>xs[((xs.size:Int) - 1+(m:Int) * -1).toNat]?)=((List.range xs.size).map λk=>xs.size - 1 - k).filterMap (xs[·]?):=by
  rw[Sv];have key:∀(l:List Nat),(∀m∈l,m<xs.size)->l.filterMap (λ(m:Nat)=>xs[((xs.size:Int) - 1+(m:Int) * -1).toNat]?)=l.filterMap ((λx=>xs[x]?) ∘ λk=>xs.size - 1 - k):=by
   intro l
   induction l with
   | nil=>intro _;rfl
   | cons m l ih=>
    intro hm;have h1:=hm m Ov;have e1:((xs.size:Int) - 1+(m:Int) * -1).toNat=xs.size - 1 - m:=by lia
    rw[Qj,Qj,ih λx hx=>hm x (Op _ hx),e1];rfl
  exact key _ λm hm=>P2.mp hm
 rw[e,PySem.W.krv_range,List.filterMap_reverse,PySem.W.krv_all]
def getItem_tuple_rev    (ht:dh s.heap t az) (hs:s.heap.IsSliceOf sl .none .none (.int (-1) tk))
  (h:Q (.ref s.heap.objs.size) {s with heap:=s.heap.push {cls:=.type "tuple",data:=.seq az.toList.reverse.toArray} })
  (hsz:az.size<=sizeLine):ai (ah prog w) A (bZ (.ref t) (.ref sl)) Q E s:=by
 have dB:sizeOk (.seq az.toList.reverse.toArray):=by
  show az.toList.reverse.toArray.size<=sizeLine;rw[Ol,R0,Oq];exact hsz
 obtain⟨os,fE,nZ,lh⟩:=id hs;have li:s.TypeIs (.ref sl) "slice" := ⟨os,fE,nZ⟩;unfold bZ
 try with_reducible refine a7 ?_
 first | refine Tj (Tk ?_) | skip
 refine Tj (eM ht.typeIs (by decide) ?_);refine Tj (aT (name:=ao.ofString "__getitem__") ht.typeIs PyProof.Rows.slot_tuple_getitem
  (aG PyProof.Rows.slot_tuple_getitem ht.typeIs dO ?_ (eh _ _)))
 show ai _ _ (ak.Tuple.tupleItemsOf (.ref t) >>= _) _ _ s;refine Tj (im ht ?_);refine Tj (bv li ?_);rw[Tr (by decide)];refine Tj (Xky hs ?_);have eC:¬((((az.size:Int) - 1)==0&&(-1:Int)==1&&az.size==az.size)=true):=by
  intro q;rw[Oz,Oz] at q;exact absurd (eq_of_beq q.1.2) (by decide)
 show ai _ _ (if (((az.size:Int) - 1)==0&&(-1:Int)==1&&az.size==az.size)=true then _ else _) _ _ s;rw[Tq eC,Xkz]
 first
  | exact Tj (m:=ak.Tuple.tupleExact _) (aC (Tk ⟨_,rfl,Tk h⟩) dB)
  | exact Tj (m:=ak.Tuple.tupleExact _) (aC (Tj (Tk (Tk ⟨_,rfl,Tk h⟩))) dB)
  | exact Tj (Tj (m:=ak.Tuple.tupleExact _) (aC (Tk (Tk ⟨_,rfl,Tk h⟩)) dB))
  | exact Tj (Tj (m:=ak.Tuple.tupleExact _) (aC (Tk ⟨_,rfl,Tk h⟩) dB))
end
end HT
namespace L2
section
variable {X:Cx}{pos p2:bN}{e:aF}{te:TE}
def Mw:V->Option Int->Option Int->Hp->VK->Prop:=λx lo hi H Q=>∃a xs,x = .ref a/\H a=some (.tup xs)/\∀p H',Same H H'->H' p=some (.tup (Bz xs lo hi))->Q (.ref p) H'
def Hw:SlR X Mw:=by
 intro pins s Z H x v vl vu lo hi sl Q I rx hs pl pu h;obtain⟨a,xs,rfl,hx,q⟩:=h;by_cases hw:HT.sIx xs.length 0 lo=0/\HT.sIx xs.length xs.length hi=xs.length
 ·cases rx;obtain⟨aA,r,ht,hz⟩:=I.tuple (SqT.of (K:=X.K) hx);have aN:aA.toArray.size=xs.length:=by rw[Ol];exact r.length.symm
  refine⟨"tuple",_,PyProof.Rows.slot_tuple_getitem.lookup,ht.typeIs,?_⟩;refine HT.getItem_tuple_whole ht hs pl pu (by rw[aN];exact hw) ⟨.ref a,H,I,rfl,q a H (Same.refl H) ?_⟩;unfold Bz;rw[hw.1,hw.2,Rr,Sx,P8];exact hx
 ·exact Xhv pins s Z H (.ref a) v vl vu lo hi sl Q I rx hs pl pu ⟨a,xs,rfl,SqT.of hx,hw,λp np=>q p _ ((Same.refl H).step np) Ab⟩
def Xk0 (te:TE):TE:=fun Z H Q=>te Z H λx H1=>∃a xs,x = .ref a/\H1 a=some (.tup xs)/\∀p,H1 p=none->Q (.ref p) (upd H1 p (.tup xs.reverse))
def Xk1  (he:PE X e te):PE X (.Subscript e (.Slice none none (some (.UnaryOp .USub (.Constant (.int 1) k p3) p4)) p2) pos) (Xk0 te):=by
 intro pins s Z H Q I h;refine el (thn (he pins s Z H _ I h) λv s1 ⟨x,H1,I1,r1,q1⟩=>?_);have kg:PE X (.UnaryOp .USub (.Constant (.int 1) k p3) p4) (tUn (rU λi=>.int (-i)) (tC (.int 1))):=Lb Ld Ag;refine jS ?_;rw[dX];refine Tk (Tk ?_);rw[io];refine thn (kg pins s1 Z H1 (λy H2=>y = .int (-1)/\H2=H1) I1 ⟨1,rfl,rfl,rfl⟩) λu s2 ⟨y,H2,I2,r2,ey,eH⟩=>?_;subst ey eH;obtain⟨t,rfl⟩:=r2;obtain⟨a,xs,ex,hx,q⟩:=q1;subst ex;cases r1;have I4:Inv X pins Z H2 {s2 with heap:=s2.heap.push {cls:=.type "slice",data:=.fields #[.none,.none,.int (-1) t]} }:=I2.kept (t':=s2.toks) λb ob q=>Tz _ q;obtain⟨vh,r4,lT,qf⟩:=I4.tuple (SqT.of (K:=X.K) hx);have aN:=r4.length;refine jT (ops:=[.ref a,.ref s2.heap.objs.size]) lT.typeIs PyProof.Rows.slot_tuple_getitem.lookup (HT.getItem_tuple_rev lT (am.IsSliceOf.new ..) ?_ (by rw[Ol];lia)) (by with_unfolding_all rfl);refine⟨.ref _,_,I4.laid (t':=s2.toks) (o:=.tup xs.reverse) (λb ob q=>Tz _ q) (Oi _) ?_,rfl,q _ (I4.hok.fresh (Oi _))⟩;exact⟨by rw[R0];exact qf,_,Vals.reverse r4,dh.new _ _⟩
end
section
variable {X:Cx}{es:List aF}{t:L2.St->Hp->(Hp->Prop)->Prop}{e:aF}{te:TE}{pos:bN}
def Xk2 (te:TE) (t:L2.St->Hp->(Hp->Prop)->Prop):L2.St->Hp->(Hp->Prop)->Prop:=fun Z H Q=>te Z H λx H1=>∃(a:ae) (ss:Za),x = .ref a/\H1 a=some (.tup (ss.map V.str))/\ss.length<=24/\(∀z∈ss,z.length<=20/\∀c∈z.cps.toList,c<16 ^ 8)/\t Z H1 Q
theorem Xda:∀(ss:Za),(∀z∈ss,z.length<=20/\∀c∈z.cps.toList,c<16 ^ 8)->piled (ss.map fe)<=204 * ss.length
 | [],_=>by simp[piled]
 | z::ss,h=>by
  obtain⟨h1,h2⟩:=h z Ov;have:=StrLaws.reprText_len z h2;have ih:=Xda ss λy hy=>h y (Op _ hy);rw[O0,piled_cons,O5]
  lia
def Xk3(ts):(iX ts).length<=piled ts+3:=by
 unfold iX;rw[i5,i5];have e1:((("(" : String):ao)).length=1:=rfl;have e3:(((if ts.length==1 then ",)" else ")" : String):ao)).length<=2:=by split<;>decide
 rw[e1];by_cases h:ts=[]
 ·subst h;have:(ao.join ", " []).length=0:=rfl
  lia
 ·have:=join_length_add ts h
  lia
theorem Xdb  : ∀{ss:Za} {us:List aa},(∀z∈ss,z.length<=20/\∀c∈z.cps.toList,c<16 ^ 8)->Vals (ss.map V.str) us->ReprAll P w us (ss.map fe)
 | [],_,_,r=>by cases r;exact .nil
 | z::ss,_,h,r=>by
  cases r with
  | cons r1 r2=>
   obtain⟨tk,rfl⟩:=r1;obtain⟨h1,h2⟩:=h z Ov;have:=StrLaws.reprText_len z h2;exact .cons (ReprIs.str z tk (by rw[Tp];lia)) (Xdb (λy hy=>h y (Op _ hy)) r2)
def Xk4  (hr:Room k X.A) (ha:PE X e te) (h:PJ X es t) (he:cD (.FormattedValue e 114 none p::es) X.env=eval (.FormattedValue e 114 none p) X.env::cD es X.env:=by rfl):PJ X (.FormattedValue e 114 none p::es) (Xk2 te t):=by
 intro out pins s Z H Q I hw hl;rw[he];rw[O5] at hl;refine gx (h8 (thn (ha pins s Z H _ I hw) λv s1 ⟨x,H1,I1,r1,q1⟩=>?_));obtain⟨a,ss,ez,hp,h1,h2,q⟩:=q1;subst ez;cases r1;obtain⟨aA,rv,pl,hz⟩:=I1.tuple (SqT.of (K:=X.K) hp);obtain⟨o,ho,hc,n,hd⟩:=pl;have yH:=Xk3 (ss.map fe);have vy:=Xda ss h2;have yV:(iX (ss.map fe)).length<=5000:=by lia
 have qf:(iX (ss.map fe)).length<=sizeLine:=by rw[Tp];lia
 refine wpAny_pyReprObj_tuple (g:=[]) ⟨o,ho,hc⟩ hr.gd (by simp) hr.units0 ho hd (Xdb h2 (by simpa using rv)) (λu tk=>?_) qf;refine qk (λt' k=>⟨by rw[E9];lia,?_⟩) qf;exact h _ pins _ Z H1 Q ((I1.tok _).tok _) q (by rw[E9];lia)
end
end L2
namespace SH
open L2
structure Bl (mg:ao->Option aa):Prop where
 len:mg "len" = none
 range:mg "range" = none
 list:mg "list" = none
 min:mg "min" = none
 isi:mg "isinstance" = none
 all:mg "all" = none
 str:mg "str" = none
 val:mg "ValueError" = none
 sorted:mg "sorted" = none
 set:mg "set" = none
 enum:mg "enumerate" = none
 int:mg "int" = none
 bool:mg "bool" = none
 tuple:mg "tuple" = none
 any:mg "any" = none
 dict:mg "dict" = none
 sum:mg "sum" = none
 max:mg "max" = none
structure DrawOk (H:Hp) (dr sc:ae):Prop where
 ex:∃(ns:List Int) (p:Nat) (c m k:Int),H dr=some (.lst [.ref sc,.int p,.int c,.int m,.int k])/\H sc=some (.lst (ns.map V.int))/\p<=ns.length/\ns.length<=63/\0<=m/\m<1000000007
def Xdc (K:LY):Sp:=λvs H Q _=>∃(a:ae) (ns:List Int),vs=[.ref a]/\SqL K H a (ns.map V.int)/\ns.length<=63/\∀dr sc H',H dr=none->H sc=none->DrawOk H' dr sc->Same H H'->Q (.ref dr) H'
def Mx:Sp:=λvs H Q _=>∃(dr sc:ae) (n:Int),vs=[.ref dr,.int n]/\0<n/\n<=1000/\DrawOk H dr sc /\
 ∀r H',0<=r->r<n->DrawOk H' dr sc->(∀b o,H b=some o->b≠dr->H' b=some o)->Q (.int r) H'
abbrev NP:Za:=["_law_draw", "_law_many", "_law_cell", "_law_got"]
def D5 (H:Hp) (dr sc:ae) (ns:List Int) (p:Nat) (c m k:Int):Prop:=H dr=some (.lst [.ref sc,.int p,.int c,.int m,.int k])/\H sc=some (.lst (ns.map V.int))
def cpow3(h0:0<=m)(h1:m<1000000007):CPow m 3:=⟨by decide,by decide,by lia⟩
def Dv (row:Za) (x:ao) (a b:Nat):Za:=row.take a++[x]++(row.drop a).take (b - a)++[x]++row.drop b
def Xdd(row)(x)(a b)(fg:a<=b):(Dv row x a b).Perm (x::x::row):=by
 unfold Dv;have e:row=row.take a++((row.drop a).take (b - a)++row.drop b):=by
  have e1:row.drop b=(row.drop a).drop (b - a):=by rw[List.drop_drop];congr 1;lia
  rw[e1,Pa,Pa]
 generalize hA:row.take a=A at *;generalize hB:(row.drop a).take (b - a)=B at *;generalize hC:row.drop b=C at *;rw[e];have p1:(A++[x]++B++[x]++C).Perm (x::(A++B++[x]++C)):=by
  have:A++[x]++B++[x]++C=A++x::(B++[x]++C):=by simp
  rw[this];refine Rq.trans ?_;simp
 refine p1.trans (List.Perm.cons x ?_);have:A++B++[x]++C=(A++B)++x::C:=by simp
 rw[this];refine Rq.trans ?_;simp
def Xde:Sp:=λvs H Q _=>∃(r:ae) (row:Za) (x:ao) (a b:Nat),vs=[.ref r,.str x,.int a,.int b]/\H r=some (.lst (row.map V.str))/\row.length<=1000/\a<=b/\b<=row.length /\
 ∀l H',H l=none->H' l=some (.lst ((Dv row x a b).map V.str))->Same H H'->Q (.ref l) H'
abbrev NPut:Za:=["_law_row_here", "_law_name", "_law_at", "_law_to", "_law_told"]
def A5 (x:ao):Nat->Za->List Int
 | _,[]=>[]
 | n,y::r=>if y=x then (n:Int)::A5 x (n+1) r else A5 x (n+1) r
def plc (row:Za) (x:ao):List Int:=A5 x 0 row
theorem Xdf(x y):∀n r,A5 x n (r++[y])=A5 x n r++(if y=x then [((n+r.length:Nat):Int)] else [])
 | n,[]=>by
  show (if y=x then ((n:Nat):Int)::A5 x (n+1) [] else A5 x (n+1) [])=_;split<;>simp[A5]
 | n,z::r=>by
  have ih:=Xdf x y (n+1) r;show (if z=x then (n:Int)::A5 x (n+1) (r++[y]) else A5 x (n+1) (r++[y]))=(if z=x then (n:Int)::A5 x (n+1) r else A5 x (n+1) r)++_;rw[ih,O5,show n+1+r.length=n+(r.length+1) by lia];split<;>simp
theorem Jy(x):∀n r,(A5 x n r).length=r.count x
 | _,[]=>rfl
 | n,z::r=>by
  show (if z=x then (n:Int)::A5 x (n+1) r else A5 x (n+1) r).length=_;rw[List.count_cons];split
  ·rename_i e;rw[O5,Jy,Tr (by simpa using e)]
  ·rename_i e;rw[Jy,Tq (by simpa using e)];rfl
def My(row)(x):(plc row x).length=row.count x:=Jy x 0 row
def Mz(r)(x y):plc (r++[y]) x=plc r x++(if y=x then [(r.length:Int)] else []):=by
 have e:=Xdf x y 0 r;rw[Qi] at e;exact e
structure Wh (H:Hp) (kvs:List (Key×V)) (row:Za):Prop where
 keys:∀k∈kvs.map (·.1),∃x,k=Sum.inr x/\x∈row
 val:∀x∈row,∃l,Av kvs (Sum.inr x:Key)=some (.ref l)/\H l=some (.lst ((plc row x).map V.int))
 none:∀x,x∉row->Av kvs (Sum.inr x:Key)=none
 nd:(kvs.map (·.1)).Nodup
 len:kvs.length<=row.length
def Xdg  {k:Key}  (h:Av kvs k=some l):(Bf kvs k v).map (·.1)=kvs.map (·.1):=by
 unfold Bf;rw[D7,h,Tr Sw,Pn];refine Pj λp _=>?_;show (if p.1=k then (p.1,v) else p).1=p.1;split<;>rfl
def Wh.snoc   (w:Wh H kvs row) (y) (l) (hl:H' l=some (.lst ((plc (row++[y]) y).map V.int)))
  (s:∀b xs,H b=some (.lst xs)->H' b=some (.lst xs)):Wh H' (Bf kvs (Sum.inr y) (.ref l)) (row++[y]):=by
 refine⟨λk hk=>?_,λx hx=>?_,λx hx=>?_,?_,?_⟩
 ·by_cases hy:y∈row
  ·obtain⟨l0,e,_⟩:=w.val y hy;rw[Xdg e] at hk;obtain⟨x,e1,e2⟩:=w.keys k hk;exact⟨x,e1,P7 _ e2⟩
  ·rw[F2 _ (w.none y hy),Ow] at hk;rcases Ou.mp hk with hk | hk
   ·obtain⟨x,e1,e2⟩:=w.keys k hk;exact⟨x,e1,P7 _ e2⟩
   ·exact⟨y,by simpa using hk,by simp⟩
 ·rw[Ji];by_cases e:x=y
  ·subst e;exact⟨l,Tr rfl,hl⟩
  ·have jg:x∈row:=by
    rcases Ou.mp hx with z | z
    ·exact z
    ·exact absurd (Om.mp z) e
   obtain⟨l0,e1,e2⟩:=w.val x jg;refine⟨l0,by rw[Tq (λz=>e (Q0 z))];exact e1,?_⟩;rw[Mz,Tq (λz=>e z.symm),Pw];exact s _ _ e2
 ·rw[Ji];have h1:x∉row:=λz=>hx (P7 _ z);have h2:x≠y:=λz=>hx (by rw[z];simp);rw[Tq (λz=>h2 (Q0 z))];exact w.none x h1
 ·by_cases hy:y∈row
  ·obtain⟨l0,e,_⟩:=w.val y hy;rw[Xdg e];exact w.nd
  ·exact Xiu _ w.nd (w.none y hy)
 ·have:=Jj kvs (Sum.inr y:Key) (.ref l);have:=w.len;rw[Oo,Pp]
  lia
def M0:Sp:=λvs H Q _=>∃(r:ae) (row:Za),vs=[.ref r]/\H r=some (.lst (row.map V.str))/\row.length<=1000 /\
 ∀d kvs H',H d=none->H' d=some (.dK kvs)->Wh H' kvs row->Same H H'->Q (.ref d) H'
abbrev NWh:Za:=["_law_row_here", "_law_told", "_law_at"]
def inn (a b:Int) (ys:List Int):List Int:=ys.filter λt=>decide (a<t)&&decide (t<b)
def M3(a b)(ys):(inn a b ys).length<=ys.length:=Po ..
def words3:Za:=["same", "cross", "around"]
def Dw (a b c e:Int) (same:Bool):ao:=
 if (same||decide (0<(inn a b [c,e]).length))=true then words3.getD (inn a b [c,e]).length "apart" else if c<a/\b<e then "within" else "apart"
def spWord:Sp:=λvs H Q _=>∃(d l1 l2:ae) (kvs:List (Key×V)) (x y:ao) (a b c e:Int),vs=[.ref d,.str x,.str y]/\Rd H d (.dK kvs)/\Av kvs (Sum.inr x:Key)=some (.ref l1)/\Av kvs (Sum.inr y:Key)=some (.ref l2) /\
 H l1=some (.lst [.int a,.int b])/\H l2=some (.lst [.int c,.int e])/\∀H',Same H H'->Q (.str (Dw a b c e (decide (x=y)))) H'
abbrev NWo:Za:=["_law_where_here", "_law_one", "_law_other", "_law_low", "_law_high", "_law_inner"]
def Rd.same   (r:Rd H d o) (s:Same H H'):Rd H' d o:=by
 rcases r with r | ⟨u,r⟩
 ·exact .inl (s _ _ r)
 ·exact .inr ⟨u,s _ _ r⟩
def DGet.rd     (e:Rd H a (.dK kvs)) (h:Av kvs (Sum.inr x:Key)=some v):DGet H a (.str x) (some v):=.inl ⟨kvs,Sum.inr x,e,rfl,h.symm⟩
def Xk5  (h:row.count x=2):∃a b,plc row x=[a,b]:=by
 have e:=My row x;rw[h] at e
 match q:plc row x,e with
 | [a,b],_=>exact⟨a,b,rfl⟩
abbrev NBa:Za:=["_law_row_here", "_law_name", "_law_where_here", "_law_met", "_law_at", "_law_other"]
abbrev NBc:Za:=["_law_one", "_law_name", "_law_where_here"]
abbrev Fi:ao := "kqvzbdgmprtxhnjfwlycsaeiou"
def signOf (i:Nat):ao:=⟨#[(Fi.cps.toList).getD i 0]⟩
def Hy (st:Nat) (late:Bool) (k:Nat):ao:=
 if late=true then (repS "m" ((st+k * k) % 7)++signOf ((st+k) % 26)) ++ "y" else signOf ((st+k) % 26)++repS "m" ((st+k * k) % 7)
def A8 (st:Nat) (late:Bool) (n:Nat):Za:=(List.range n).map (Hy st late)
def Xk6:∀st<26,∀late:Bool,(A8 st late 14).Nodup:=by decide +kernel
def Jz{st}{late}(hs:st<26)(hn:n<=14):(A8 st late n).Nodup:=by
 refine(Xk6 st hs late).sublist ?_;unfold A8;refine List.Sublist.map _ ?_;have e:List.range 14=List.range n++(List.range (14 - n)).map (n + ·):=by
  rw[<-List.range_add];congr 1
  lia
 rw[e];exact List.sublist_append_left ..
def But (dr:ae) (H H':Hp):Prop:=∀b o,H b=some o->b≠dr->H' b=some o
def But.refl(dr)(H):But dr H H:=λ_ _ e _=>e
def But.trans  (a:But dr H H1) (b:But dr H1 H2):But dr H H2:=λc o e h=>b c o (a c o e h) h
def But.same  (a:But dr H H1) (b:Same H1 H2):But dr H H2:=λc o e h=>b c o (a c o e h)
def But.free   (a:But dr H H') (hd:H' dr=some o) (h:H' b=none):H b=none:=by
 cases q:H b with
 | none=>rfl
 | some u=>
  by_cases e:b=dr
  ·rw[e,hd] at h;cases h
  ·rw[a b u q e] at h;cases h
def But.upd{dr a}{H H'}{o}(x:But dr H H')(h:H a=none):But dr H (L2.upd H' a o):=λb u e hb=>by
 rw[Ad (Aw e h)];exact x b u e hb
def DrawOk.at{H}(d:DrawOk H dr sc):∃xs,H dr=some (.lst xs):=let ⟨_,_,_,_,_,h,_⟩:=d.ex; ⟨_,h⟩
def DrawOk.same  (d:DrawOk H dr sc) (s:Same H H'):DrawOk H' dr sc:=
 let ⟨ns,p,c,m,k,h1,h2,r⟩:=d.ex; ⟨ns,p,c,m,k,s _ _ h1,s _ _ h2,r⟩
def DrawOk.upd{H}{dr sc a}{o}(d:DrawOk H dr sc)(h1:a≠dr)(h2:a≠sc):DrawOk (L2.upd H a o) dr sc:=
 let ⟨ns,p,c,m,k,e1,e2,r⟩:=d.ex; ⟨ns,p,c,m,k,by rw[Ad h1.symm];exact e1,by rw[Ad h2.symm];exact e2,r⟩
def DrawOk.ne  (d:DrawOk H dr sc) (h:H a=none):a≠dr/\a≠sc:=by
 obtain⟨ns,p,c,m,k,e1,e2,r⟩:=d.ex;exact⟨(Aw e1 h).symm,(Aw e2 h).symm⟩
def spNames:Sp:=λvs H Q _=>∃(dr sc:ae) (n:Nat),vs=[.ref dr,.int n]/\n<=14/\DrawOk H dr sc /\
 ∀l st late H',H l=none->st<26->H' l=some (.lst ((A8 st late n).map V.str))->l≠sc->DrawOk H' dr sc->But dr H H'->Q (.ref l) H'
abbrev FnPick (P:ap) (w:ax) (K:LY) (mg:ao->Option aa) (base:am):Prop:=Fn P w K mg base CX0 1 "_law_pick" ["_law_draw", "_law_many"] Mx
abbrev NNa:Za:=["_law_draw", "_law_many", "_law_base", "_law_start", "_law_late", "_law_told", "_law_k", "_law_sign", "_law_hum"]
def Xk7{i:Nat}(h:i<26):atI Fi.cps.toList (i:Int)=some ((Fi.cps.toList).getD i 0):=by
 have hl:i<Fi.cps.toList.length:=h;refine E5 ?_;rw[Oj hl];simp[List.getD,Oj hl]
def Fj(h:l.Nodup){row:Za}(p:row.Perm (l++l)):∀y∈row,row.count y=2:=λy hy=>by
 rw[p.count_eq,Rl];have iY:y∈l:=by
  rcases Ou.mp (p.mem_iff.mp hy) with z | z
  ·exact z
  ·exact z
 have e1:l.count y<=1:=List.nodup_iff_count.mp h y;have e2:0<l.count y:=Sy.mpr iY
 lia
def Xdh{A row cf:Za}(p:row.Perm (A++A))(q:cf.Perm (x::x::row)):cf.Perm ((A++[x])++(A++[x])):=by
 refine q.trans (((p.cons x).cons x).trans ?_);have e:(A++[x])++(A++[x])=A++x::(A++x::[]):=by simp
 rw[e];refine List.Perm.trans ?_ Rq.symm;refine List.Perm.cons x ?_;have e2:A++(A++x::[])=(A++A)++x::[]:=by simp
 rw[e2];refine List.Perm.trans ?_ Rq.symm;simp
abbrev NRo:Za:=["_law_draw", "_law_names_here", "_law_cut", "_law_row_here", "_law_name", "_law_at", "_law_to", "_law_more"]
def Xrz:Sp:=λvs H Q _=>∃(dr sc:ae) (m:Nat),vs=[.ref dr,.int m]/\m<=14/\DrawOk H dr sc /\
 ∀(l:ae) (row:Za) (n st:Nat) (late:Bool) (H':Hp),H l=none->n<=m->st<26->H' l=some (.lst (row.map V.str))->row.Perm (A8 st late n++A8 st late n)->DrawOk H' dr sc->But dr H H'->Q (.ref l) H'
abbrev NIs:Za:=["_law_draw", "_law_most", "_law_few", "_law_many"]
def Xk8(K)(T):MA K (.type T) (.type T)=some true:=by
 unfold MA;rw[Tr (beq_self_eq_true _)]
def M4(row)(x):((List.range row.length).filter λi=>decide (row.getD i ao.empty=x)).map (λi:Nat=>(i:Int))=plc row x:=by
 have go:∀n,n<=row.length->((List.range n).filter λi=>decide (row.getD i ao.empty=x)).map (λi:Nat=>(i:Int))=plc (row.take n) x:=by
  intro n
  induction n with
  | zero=>intro _;rfl
  | succ n ih=>
   intro h;have hn:n<row.length:=by lia
   have e:row.getD n ao.empty=row[n]:=by simp[List.getD,hn]
   rw[P9,O8,Ow,ih (by lia),O1 hn,Mz,Pq,e,O3,Q4 (by lia)];by_cases q:row[n]=x
   ·rw[Tr q,Tr (Tt q)];rfl
   ·rw[Tq q,Tq (by simpa using q)];rfl
 rw[go _ (Oi _),P8]
def okN (x:ao):Prop:=x.length<=20/\∀c∈x.cps.toList,c<0x110000
def Xdi (C:ae):Sp:=λvs H Q E=>∃(r:ae) (row:Za) (x:ao),vs=[.ref r,.str x]/\H r=some (.lst (row.map V.str))/\okN x /\
 (x∈row->∀H',Same H H'->Q .non H')/\(x∉row->∀H',Same H H'->E (.ref C) none H')
def spDitches:Sp:=λvs H Q _=>∃(r:ae) (row:Za),vs=[.ref r]/\H r=some (.lst (row.map V.str))/\row.length<=60 /\
 ∀l H',H l=none->H' l=some (.lst ((dit row).map V.str))->Same H H'->Q (.ref l) H'
def Xdj (C:ae):Sp:=λvs H Q E=>∃(r:ae) (row:Za) (x:ao),vs=[.ref r,.str x]/\H r=some (.lst (row.map V.str))/\okN x/\row.length<=1000 /\
 (x∈row->∃a b,plc row x=[a,b]/\∀l H',H l=none->H' l=some (.tup [.int a,.int b])->Same H H'->Q (.ref l) H')/\(x∉row->∀H',Same H H'->E (.ref C) none H')
abbrev NEn:Za:=["row", "name", "found"]
abbrev NEc:Za:=["at", "end", "name"]
end SH
namespace L2
def Xk9(K)  (ne:(aa.type a==aa.type b)=false)(m:NK b=true)(h:(fastBuiltinMro a).map (·.contains (aa.type b))=some r):MA K (.type a) (.type b)=some r:=by
 unfold MA;rw[ne,Tq Oy];show (if NK b=true then ML K (.type a) (.type b) else none)=some r;rw[Tr m];exact h
def Xla(K):MA K (.type "int") (.type "bool")=some false:=Xk9 K (by decide +kernel) (by decide +kernel) (by decide +kernel)
def Fl(x y):decide (V.str x=V.str y)=decide (x=y):=by
 by_cases z:x=y
 ·rw[z];simp
 ·rw[Tu z,Tu (λq=>z (by injection q))]
def J3(row:Za):∀v∈row.map V.str,Cn v=true:=λv h=>by
 obtain⟨x,_,rfl⟩:=Pd.mp h;rfl
def Cb{α : Type}(f : α->V)(d : α)(xs:List α)(hi:i<xs.length):(xs.map f).getD i .non=f (xs.getD i d):=by simp[List.getD,hi]
def Xlb{α : Type}(f : α->V)(d : α)(xs:List α)(hi:i<xs.length):atI (xs.map f) (i:Int)=some (f (xs.getD i d)):=by
 refine E5 ?_;rw[O2,Oj hi];simp[List.getD,hi]
end L2
namespace SH
open L2
def Wh.names   (w:Wh H kvs row):∃ss:Za,kvs.map (·.1)=ss.map (λx=>(Sum.inr x:Key))/\ss.Nodup/\∀x,x∈ss↔x∈row:=by
 have e:∀ks:List Key,(∀k∈ks,∃x,k=Sum.inr x)->∃ss:Za,ks=ss.map (λx=>(Sum.inr x:Key)):=by
  intro ks
  induction ks with
  | nil=>intro _;exact⟨[],rfl⟩
  | cons k r ih=>
   intro h;obtain⟨x,rfl⟩:=h k Ov;obtain⟨ss,rfl⟩:=ih λk hk=>h k (Op _ hk);exact⟨x::ss,rfl⟩
 obtain⟨ss,hs⟩:=e (kvs.map (·.1)) λk hk=>let ⟨x,h,_⟩:=w.keys k hk; ⟨x,h⟩;have inj:∀x,x∈ss↔(Sum.inr x:Key)∈kvs.map (·.1):=λx=>by
  rw[hs,Pd];constructor
  ·exact λh=>⟨x,h,rfl⟩
  ·rintro ⟨y,hy,e⟩;rw[<-Q0 e];exact hy
 refine⟨ss,hs,?_,λx=>?_⟩
 ·have:=w.nd;rw[hs] at this;exact List.Pairwise.of_map _ (λa b fg e=>fg (congrArg _ e)) this
 ·rw[inj];constructor
  ·intro h;obtain⟨y,e,hy⟩:=w.keys _ h;rw[Q0 e];exact hy
  ·intro h;obtain⟨l,e,_⟩:=w.val x h;exact G7 e
structure Isl (row:Za):Prop where
 ex:∃n st late,n<=14/\st<26/\row.Perm (A8 st late n++A8 st late n)
def Xdk{st n}  (hn:n<=14)(h:x∈A8 st late n):x∈A8 st late 14:=by
 unfold A8 at h ⊢;obtain⟨i,hi,rfl⟩:=Pd.mp h;exact Pd.mpr ⟨i,P2.mpr (by have:=P2.mp hi;lia),rfl⟩
instance (x:ao):Decidable (okN x):=inferInstanceAs (Decidable (_/\_))
def Xlc:∀st<26,∀late:Bool,∀x∈A8 st late 14,okN x:=by decide +kernel
def Isl.two(h:Isl row):∀y∈row,row.count y=2:=by
 obtain⟨n,st,late,hn,hs,p⟩:=h.ex;exact Fj (Jz hs hn) p
def Isl.len(h:Isl row):row.length<=28:=by
 obtain⟨n,st,late,hn,hs,p⟩:=h.ex;have:=p.length_eq;unfold A8 at this;simp at this
 lia
def Isl.ok(h:Isl row):∀y∈row,okN y:=λy hy=>by
 obtain⟨n,st,late,hn,hs,p⟩:=h.ex;refine Xlc st hs late y (Xdk hn ?_);rcases Ou.mp (p.mem_iff.mp hy) with z | z<;>exact z
def Gf:Za->ao
 | [] => "noneatal"
 | y::_=>Txt.slice y none (some 7)++ao.ofString "q"
def stranger14:∀st<26,∀late:Bool,∀y∈A8 st late 14,okN (Txt.slice y none (some 7)++ao.ofString "q")/\Txt.slice y none (some 7)++ao.ofString "q" ∉ A8 st late 14:=by decide +kernel
def Isl.stranger(h:Isl row):okN (Gf row)/\Gf row∉row:=by
 cases row with
 | nil=>exact⟨by decide +kernel,by simp⟩
 | cons y r=>
  obtain⟨n,st,late,hn,hs,p⟩:=h.ex;have sub:∀z∈y::r,z∈A8 st late 14:=λz hz=>Xdk hn (by rcases Ou.mp (p.mem_iff.mp hz) with q | q<;>exact q);obtain⟨h1,h2⟩:=stranger14 st hs late y (sub y Ov);exact⟨h1,λz=>h2 (sub _ z)⟩
def Xld(h:okN x):Cg (.str x)=true:=by
 show au.strOk x=true;unfold au.strOk;rw[<-Array.all_toList,Pg];intro c hc;exact Tt (h.2 c hc)
def Xdl   : i∈plc row x ↔ ∃k:Nat,i=k/\row[k]? = some x:=by
 rw[<-M4,Pd];constructor
 ·rintro ⟨k,hk,rfl⟩;obtain⟨h1,h2⟩:=Ot.mp hk;have j9:=P2.mp h1;refine⟨k,rfl,?_⟩;have:=Tv h2;rw[Oj j9];simpa [List.getD,j9] using this
 ·rintro ⟨k,rfl,hk⟩;have j9:k<row.length:=(O6.mp hk).1;refine⟨k,Ot.mpr ⟨P2.mpr j9,Tt ?_⟩,rfl⟩;simp[List.getD,hk]
def Xle(row)(x):(plc row x).Pairwise (· < ·):=by
 rw[<-M4,Qz];refine List.Pairwise.imp ?_ (List.Pairwise.filter _ (List.pairwise_lt_range (n:=row.length)));intro a b h
 lia
def pl (row:Za) (x:ao):Int×Int:=((plc row x).getD 0 0,(plc row x).getD 1 0)
def Xdm   (h:plc row x=[a,b]):pl row x=(a,b):=by
 unfold pl;rw[h];rfl
def Fm  (h:row.count x=2):plc row x=[(pl row x).1,(pl row x).2]:=by
 obtain⟨a,b,e⟩:=Xk5 h;rw[Xdm e,e]
def Cd  (h:row.count x=2):(pl row x).1<(pl row x).2:=by
 have h1:=Xle row x;rw[Fm h] at h1;simpa using h1
def Fo  (hx:row.count x=2) (hy:row.count y=2) (n:x≠y):(pl row x).1≠(pl row y).1/\(pl row x).1≠(pl row y).2/\(pl row x).2≠(pl row y).1/\(pl row x).2≠(pl row y).2:=by
 have key:∀i,i∈plc row x->i∈plc row y->False:=λi h1 h2=>by
  obtain⟨k,e1,g1⟩:=Xdl.mp h1;obtain⟨m,e2,g2⟩:=Xdl.mp h2;have:k=m:=by lia
  subst this;rw[g1] at g2;exact n (O4 g2)
 rw[Fm hx,Fm hy] at key;refine⟨λe=>key (pl row x).1 (by simp) (by rw[e];simp),λe=>key (pl row x).1 (by simp) (by rw[e];simp),λe=>key (pl row x).2 (by simp) (by rw[e];simp),λe=>key (pl row x).2 (by simp) (by rw[e];simp)⟩
def nIn (a b:Int) (ys:List Int):Nat:=(inn a b ys).length
def Ce(a b c e):nIn a b [c,e]=(if a<c/\c<b then 1 else 0)+(if a<e/\e<b then 1 else 0):=by
 unfold nIn inn;simp only[Pq,List.filter_nil,Oz,decide_eq_true_eq];split<;>split<;>rfl
def lieT (a b c e:Int):ao:=if a=c/\b=e then "same" else if nIn c e [a,b]=1 then "cross" else if nIn c e [a,b]=2 then "within" else if nIn a b [c,e]=2 then "around" else "apart"
def Xlf(h1:a<b)(h2:c<e)(n1:a≠c)(n2:a≠e)(n3:b≠c)(n4:b≠e):lieT a b c e=Dw a b c e false:=by
  unfold lieT Dw;rw[Tq (λz=>n1 z.1)];have e1:=Ce a b c e;have e2:=Ce c e a b;have e3:(inn a b [c,e]).length=nIn a b [c,e]:=rfl;rw[e3];generalize nIn a b [c,e]=p at *;generalize nIn c e [a,b]=q at *;by_cases p1:a<c/\c<b<;>by_cases p2:a<e/\e<b<;>by_cases q1:c<a/\a<e<;>by_cases q2:c<b/\b<e <;>
    (first | rw[Tr p1] at e1 | rw[Tq p1] at e1)<;>(first | rw[Tr p2] at e1 | rw[Tq p2] at e1) <;>
    (first | rw[Tr q1] at e2 | rw[Tq q1] at e2)<;>(first | rw[Tr q2] at e2 | rw[Tq q2] at e2)<;>subst e1 e2<;>first
    | (exfalso;lia)
    | rfl
    | (have hw:(c<a/\b<e):=by lia
       rw[Tr hw];rfl)
    | (have hw:¬(c<a/\b<e):=by lia
       rw[Tq hw];rfl)
def Xlg:lieT a b a b=Dw a b a b true:=by
 unfold lieT Dw;rw[Tr ⟨rfl,rfl⟩,Bool.true_or,Tr rfl];have e1:=Ce a b a b;have e3:(inn a b [a,b]).length=nIn a b [a,b]:=rfl;rw[e3,e1,Tq (by lia),Tq (by lia)];rfl
def lieR (row:Za) (x y:ao):ao:=lieT (pl row x).1 (pl row x).2 (pl row y).1 (pl row y).2
def Gg  (hx:row.count x=2) (hy:row.count y=2):lieR row x y=Dw (pl row x).1 (pl row x).2 (pl row y).1 (pl row y).2 (decide (x=y)):=by
 unfold lieR;by_cases n:x=y
 ·subst n;rw[Tt rfl];exact Xlg
 ·rw[Tu n];obtain⟨n1,n2,n3,n4⟩:=Fo hx hy n;exact Xlf (Cd hx) (Cd hy) n1 n2 n3 n4
def crs (row:Za):List (ao×ao):=(dit row).flatMap λx=>((dit row).filter λy=>decide (ltS x y)&&decide (lieR row x y = "cross")).map λy=>(x,y)
def prD (p:ao×ao):au:=.tuple [.str p.1,.str p.2]
structure Spn (H:Hp) (kvs:List (Key×V)) (row:Za) (ns:Za):Prop where
 keys:kvs.map (·.1)=ns.map (λx=>(Sum.inr x:Key))
 val:∀x∈ns,∃l,Av kvs (Sum.inr x:Key)=some (.ref l)/\H l=some (.tup [.int (pl row x).1,.int (pl row x).2])
def Spn.mono   (s:Spn H kvs row ns) (h:Same H H'):Spn H' kvs row ns:=⟨s.keys,λx hx=>let ⟨l,h1,h2⟩:=s.val x hx; ⟨l,h1,h _ _ h2⟩⟩
end SH
namespace L2
open PySem
def hu3  (hr:Room k A):A.units+3<bD:=by have:=hr.units;lia
end L2
namespace SH
open L2
structure Row2 (row:Za):Prop where
 two:∀y∈row,row.count y=2
 ok:∀y∈row,okN y
 len:row.length<=60
def Isl.row2(h:Isl row):Row2 row:=⟨h.two,h.ok,by have:=h.len;lia⟩
def spSpans:Sp:=λvs H Q _=>∃(r:ae) (row:Za),vs=[.ref r]/\H r=some (.lst (row.map V.str))/\Row2 row /\
 ∀d kvs H',H d=none->H' d=some (.dK kvs)->Spn H' kvs row (dit row)->Same H H'->Q (.ref d) H'
def Lie4 (a b c e:Int):Prop:=c<=e/\(b=e->a=c)
def lie4  (hx:row.count x=2) (hy:row.count y=2):Lie4 (pl row x).1 (pl row x).2 (pl row y).1 (pl row y).2:=
 ⟨Int.le_of_lt (Cd hy),λe=>by
  by_cases n:x=y
  ·rw[n]
  ·exact absurd e (Fo hx hy n).2.2.2⟩
def Xlh(n:¬(a=c/\b=e))(h:((decide (c<a)&&decide (a<e))==(decide (c<b)&&decide (b<e)))=false):lieT a b c e = "cross" := by
 unfold lieT;rw[Tq n,Tr];rw[Ce];rw[<-Bool.decide_and,<-Bool.decide_and] at h;by_cases q1:c<a/\a<e<;>by_cases q2:c<b/\b<e<;>simp[q1,q2] at h ⊢
def Xli(n:¬(a=c/\b=e))(h:((decide (c<a)&&decide (a<e))==(decide (c<b)&&decide (b<e)))=true)(h2:(decide (c<a)&&decide (a<e))=true):lieT a b c e = "within" := by
 unfold lieT;rw[h2,beq_iff_eq] at h;simp only[Oz,decide_eq_true_eq] at h2;have h3:c<b/\b<e:=by simpa using h.symm
 rw[Tq n,Ce,Tr h2,Tr h3,Tq (by decide),Tr rfl]
def Xlj(l:Lie4 a b c e)(n:¬(a=c/\b=e))(h:((decide (c<a)&&decide (a<e))==(decide (c<b)&&decide (b<e)))=true)(h2:(decide (c<a)&&decide (a<e))=false):lieT a b c e=if (decide (a<c)&&decide (c<b))=true then "around" else "apart" := by
 unfold lieT;rw[h2,beq_iff_eq] at h;have h2:¬(c<a/\a<e):=λz=>by rw[Tt z.1,Tt z.2] at h2;cases h2
 have h3:¬(c<b/\b<e):=λz=>by rw[Tt z.1,Tt z.2] at h;cases h
 rw[Tq n,Ce,Tq h2,Tq h3,Tq (by decide),Tq (by decide),Ce];obtain⟨l1,l2⟩:=l;have key:a<c/\c<b->a<e/\e<b:=λz=>by
  have:b≠e:=λq=>n ⟨l2 q,q⟩
  lia
 by_cases q:a<c/\c<b
 ·rw[Tr q,Tr (key q),Tr rfl,Tr (by simp[q])]
 ·rw[Tq q,Tq (by split<;>decide),Tq (by simpa using q)]
def spLieOf:Sp:=λvs H Q _=>∃(p q:ae) (a b c e:Int),vs=[.ref p,.ref q]/\H p=some (.tup [.int a,.int b])/\H q=some (.tup [.int c,.int e])/\Lie4 a b c e/\∀H',Same H H'->Q (.str (lieT a b c e)) H'
def M5    {x y z} (ha:∀Q':VK,Q' (.int x) H->ta Z H Q') (hb:∀Q':VK,Q' (.int y) H->tb Z H Q') (hc:∀Q':VK,Q' (.int z) H->tc Z H Q') (h:Q (.bl (decide (x<y)&&decide (y<z))) H):
  Lh (rI0 λi j=>.bl (decide (i<j))) (rI0 λi j=>.bl (decide (i<j))) ta tb tc Z H Q:=by
 refine ha _ (hb _ ⟨x,y,rfl,rfl,_,rfl,?_⟩);refine A0 (λq=>hc _ ⟨y,z,rfl,rfl,?_⟩) (λq=>?_)
 ·rw[q,Qc] at h;exact h
 ·rw[q,Qa] at h;exact h
def Xdn:Sp:=λvs H Q _=>∃(r:ae) (row:Za),vs=[.ref r]/\H r=some (.lst (row.map V.str))/\Row2 row /\
 ∀l xs H',H l=none->H' l=some (.lst xs)->DAll (hid l H') ((crs row).map prD) xs->Same H H'->Q (.ref l) H'
abbrev NSp:Za:=["name", "row"]
abbrev NLo:Za:=["here", "there", "first", "last"]
abbrev NCr:Za:=["row", "span"]
abbrev NCc:Za:=["one", "other", "span"]
def Spn.snoc     (s:Spn H kvs row ns) (nx:x∉ns) (h:H' l=some (.tup [.int (pl row x).1,.int (pl row x).2])) (k:∀b xs,H b=some (.tup xs)->H' b=some (.tup xs)):
  Spn H' (Bf kvs (Sum.inr x) (.ref l)) row (ns++[x]):=by
 have hn:Av kvs (Sum.inr x:Key)=none:=by
  cases e:Av kvs (Sum.inr x:Key) with
  | none=>rfl
  | some v=>
   exfalso;have:=G7 e;rw[s.keys] at this;obtain⟨y,hy,e2⟩:=Pd.mp this;rw[Q0 e2] at hy;exact nx hy
 refine⟨by rw[F2 _ hn,Ow,Ow,s.keys];rfl,λy hy=>?_⟩;rw[Ji];by_cases e:y=x
 ·subst e;exact⟨l,Tr rfl,h⟩
 ·have iY:y∈ns:=by
   rcases Ou.mp hy with z | z
   ·exact z
   ·exact absurd (Om.mp z) e
  obtain⟨l0,h1,h2⟩:=s.val y iY;exact⟨l0,by rw[Tq (λz=>e (Q0 z))];exact h1,k _ _ h2⟩
def Spn.get    {x} (s:Spn H kvs row ns) (hd:Rd H d (.dK kvs)) (hx:x∈ns):∃l,DGet H d (.str x) (some (.ref l))/\H l=some (.tup [.int (pl row x).1,.int (pl row x).2]):=by
 obtain⟨l,h1,h2⟩:=s.val x hx;exact⟨l,DGet.rd hd h1,h2⟩
def Spn.at{H}{kvs}{row ns}(s:Spn H kvs row ns)(i)(hi:i<ns.length):(kvs.map λp=>kV p.1).getD i .non = .str (ns.getD i ao.empty):=by
 have e:(kvs.map λp=>kV p.1)=ns.map V.str:=by
  have:(kvs.map λp=>kV p.1)=(kvs.map (·.1)).map kV:=by rw[Pn];rfl
  rw[this,s.keys,Pn];rfl
 rw[e];exact Cb V.str ao.empty ns hi
def Spn.len   (s:Spn H kvs row ns):kvs.length=ns.length:=by
 have:=congrArg List.length s.keys;simpa using this
def Cp{ns:Za}(hi:i<ns.length):ns.getD i ao.empty∈ns:=by
 have:ns.getD i ao.empty=ns[i]:=by simp[List.getD,hi]
 rw[this];exact Pk hi
def Wh.two'    (w:Wh H kvs row) (hx:x∈row) (h:row.count x=2):∃l,Av kvs (Sum.inr x:Key)=some (.ref l)/\H l=some (.lst [.int (pl row x).1,.int (pl row x).2]):=by
 obtain⟨l,h1,h2⟩:=w.val x hx;rw[Fm h] at h2;exact⟨l,h1,h2⟩
theorem Hz:∀{ss:Za} {xs:List V},DAll H (ss.map au.str) xs->xs=ss.map V.str
 | [],xs,h=>by unfold List.map DAll at h;exact h
 | s::ss,xs,h=>by
  rw[O0] at h;unfold DAll at h;obtain⟨v,r,rfl,h1,h2⟩:=h;unfold DAt at h1;rw[h1,Hz h2];rfl
def Xdo:Sp:=λvs H Q _=>∃i:Int,vs=[.int i]/\Q (.bl true) H
def M6:Sp:=λvs H Q _=>∃(r:ae) (row:Za),vs=[.ref r]/\H r=some (.lst (row.map V.str))/\(∀y∈row,y.length<=20)/\∀H',Same H H'->Q (.str (Gf row)) H'
def B0 (h9:ao) (ln:Bool):Bool:=if h9 = "within" then ln else (!decide (h9 = "apart") || !ln)
def told (ss:Za):Za:=srt (ddup ss)
def Ae (row plot:Za):Bool:=decide (plot=told plot)&&plot.all (λx=>decide (x∈row))&&plot.all λx=>(dit row).all λy=>B0 (lieR row x y) (decide (y∈plot))
def trD (t:ao×ao×ao):au:=.tuple [.str t.1,.str t.2.1,.str t.2.2]
def Cq (row:Za) (x y:ao):Bool:=decide (lieR row x y = "within")||(decide (lieR row x y = "apart")&&decide (ltS x y))
def bars (row:Za):List (ao×ao×ao):=(dit row).flatMap λx=>((dit row).filter (Cq row x)).map λy=>(x,y,lieR row x y)
def Cz (bs:List (ao×ao×ao)) (plot:Za):Bool:=bs.all λt => !(decide (t.1∈plot) && !decide (decide (t.2.1∈plot)=decide (t.2.2 = "within")))
def Er (row plot:Za):Bool:=decide (plot=(dit row).filter λy=>decide (y∈plot))&&Cz (bars row) plot
def Xlk(h1:a<b)(h2:c<e)(n1:a≠c)(n2:a≠e)(n3:b≠c)(n4:b≠e)(h:lieT a b c e = "apart"):lieT c e a b = "apart" := by
 unfold lieT at h ⊢;rw[Tq (λz=>n1 z.1)] at h;rw[Tq (λz=>n1 z.1.symm)];have e1:=Ce a b c e;have e2:=Ce c e a b;generalize nIn a b [c,e]=p at *;generalize nIn c e [a,b]=q at *;by_cases p1:a<c/\c<b<;>by_cases p2:a<e/\e<b<;>by_cases q1:c<a/\a<e<;>by_cases q2:c<b/\b<e <;>
  (first | rw[Tr p1] at e1 | rw[Tq p1] at e1)<;>(first | rw[Tr p2] at e1 | rw[Tq p2] at e1) <;>
  (first | rw[Tr q1] at e2 | rw[Tq q1] at e2)<;>(first | rw[Tr q2] at e2 | rw[Tq q2] at e2)<;>subst e1 e2<;>first
  | (exfalso;lia)
  | rfl
  | (exfalso;revert h;decide +kernel)
def Xll  (hx:row.count x=2) (hy:row.count y=2) (h:lieR row x y = "apart"):lieR row y x = "apart" := by
 by_cases n:x=y
 ·subst n;exact h
 ·obtain⟨n1,n2,n3,n4⟩:=Fo hx hy n;exact Xlk (Cd hx) (Cd hy) n1 n2 n3 n4 h
def J4(row)(x):lieR row x x = "same" := by
 unfold lieR lieT;rw[Tr ⟨rfl,rfl⟩]
def M7{l:Za}(h:l.Pairwise ltS):l.Pairwise leS:=h.imp λh=>Xj9 h
def Bj{l:Za}(h:l.Pairwise ltS):l.Nodup:=h.imp λh=>Hn h
def J5(h:l.Nodup):(ddup l).Perm l:=Ho (Hk l) h (Mc l)
def J6(h:l.Pairwise ltS):told l=l:=Fa ((Cw _).trans (J5 (Bj h))) (Eb _) (M7 h)
def M8(l):(told l).Pairwise ltS:=Du l
def Xdp  : x∈told l↔x∈l:=Ao
def M9:(plot=(dit row).filter λy=>decide (y∈plot))↔(plot=told plot/\∀x∈plot,x∈row):=by
 constructor
 ·intro h;have hp:plot.Pairwise ltS:=by
   rw[h];exact(Du row).filter _
  refine⟨(J6 hp).symm,λx hx=>?_⟩;rw[h] at hx;exact Ao.mp (Ot.mp hx).1
 ·rintro ⟨h1,h2⟩;have hp:plot.Pairwise ltS:=by rw[h1];exact M8 plot
  have hq:((dit row).filter λy=>decide (y∈plot)).Pairwise ltS:=(Du row).filter _;refine Fa (Ho (Bj hp) (Bj hq) λx=>?_) (M7 hp) (M7 hq);rw[Ot,decide_eq_true_eq,Ao];exact⟨λh=>⟨h2 x h,h⟩,λh=>h.2⟩
def J7  : t∈bars row↔t.1∈row/\t.2.1∈row/\Cq row t.1 t.2.1=true/\t.2.2=lieR row t.1 t.2.1:=by
 unfold bars;rw[List.mem_flatMap];constructor
 ·rintro ⟨x,hx,h⟩;obtain⟨y,hy,rfl⟩:=Pd.mp h;obtain⟨h1,h2⟩:=Ot.mp hy;exact⟨Ao.mp hx,Ao.mp h1,h2,rfl⟩
 ·rintro ⟨h1,h2,h3,h4⟩;refine⟨t.1,Ao.mpr h1,Pd.mpr ⟨t.2.1,Ot.mpr ⟨Ao.mpr h2,h3⟩,?_⟩⟩;rw[<-h4]
def J8(h:∀y∈row,row.count y=2):Er row plot=Ae row plot:=by
 unfold Er Ae;by_cases hp:plot=(dit row).filter λy=>decide (y∈plot)
 ·obtain⟨p1,p2⟩:=M9.mp hp;have e1:plot.all (λx=>decide (x∈row))=true:=Pg.mpr λx hx=>Tt (p2 x hx);rw[Tt hp,Tt p1,e1,Qc,Qc];show Cz (bars row) plot=(true&&_);rw[Qc,Qn];unfold Cz;rw[Pg,Pg];constructor
  ·intro hf x hx;rw[Pg];intro y hy;have o7:=Ao.mp hy;unfold B0;by_cases hw:lieR row x y = "within"
   ·rw[Tr hw];have:=hf (x,y,lieR row x y) (J7.mpr ⟨p2 x hx,o7,by unfold Cq;rw[Tt hw];rfl,rfl⟩);simpa [hx,hw] using this
   ·rw[Tq hw];by_cases ha:lieR row x y = "apart"
    ·have fw:x≠y:=λz=>by
      rw[z,J4] at ha
      revert ha
      decide
     have zc:=Xll (h x (p2 x hx)) (h y o7) ha;have key:y∉plot:=λkD=>by
      rcases Mg x y with hle | hle
      ·have bf:=ltS_of hle fw;have:=hf (x,y,lieR row x y) (J7.mpr ⟨p2 x hx,o7,by unfold Cq;rw[Tt ha,Tt bf,R8,Tf],rfl⟩);rw[ha] at this;simp[hx,kD] at this
       revert this
       decide
      ·have bf:=ltS_of hle (λz=>fw z.symm);have:=hf (y,x,lieR row y x) (J7.mpr ⟨o7,p2 x hx,by unfold Cq;rw[Tt zc,Tt bf,R8,Tf],rfl⟩);rw[zc] at this;simp[hx,kD] at this
       revert this
       decide
     rw[Tu key];simp
    ·rw[Tu ha];rfl
  ·intro hf t ht;obtain⟨h1,h2,h3,h4⟩:=J7.mp ht;by_cases hx:t.1∈plot
   ·have:=hf t.1 hx;rw[Pg] at this;have:=this t.2.1 (Ao.mpr h2);rw[h4];unfold B0 at this;by_cases hw:lieR row t.1 t.2.1 = "within"
    ·rw[Tr hw] at this;simp[hw,Tv this]
    ·rw[Tq hw] at this;have ha:lieR row t.1 t.2.1 = "apart" := by
      unfold Cq at h3;rw[Tu hw,Bool.false_or,Oz] at h3;exact Tv h3.1
     rw[ha] at this;have hn:t.2.1∉plot:=by simpa using this
     have fw:¬(("apart" : ao) = "within"):=by decide
     simp[hn,ha,fw]
   ·simp[hx]
 ·rw[Tu hp,Qa];by_cases p1:plot=told plot
  ·have:¬ ∀x∈plot,x∈row:=λp2=>hp (M9.mpr ⟨p1,p2⟩);have e1:plot.all (λx=>decide (x∈row))=false:=by
    rw[Rx];intro z;rw[Pg] at z;exact this λx hx=>Tv (z x hx)
   rw[e1,S6,Qa]
  ·rw[Tu p1,Qa,Qa]
theorem Na:∀{bs:List Bool} {xs:List V},DAll H (bs.map au.bool) xs->xs=bs.map V.bl
 | [],xs,h=>by unfold List.map DAll at h;exact h
 | s::ss,xs,h=>by
  rw[O0] at h;unfold DAll at h;obtain⟨v,r,rfl,h1,h2⟩:=h;unfold DAt at h1;rw[h1,Na h2];rfl
def Xlm(a b:Za)(h:au.tuple (a.map au.str)=au.tuple (b.map au.str)):a=b:=by
 injection h with h
 exact(Sz (λx y e=>by injection e)).mp h
def Xln{ss:Za}(h:∀y∈ss,okN y):Dk (ss.map au.str)=true:=plainAll_map au.str ss λx hx=>Xld (h x hx)
def Es{ss:Za}(h:∀y∈ss,okN y):Cg (.tuple (ss.map au.str))=true:=Xln h
theorem Xdq:∀(ss:Za),au.depthAll (ss.map au.str)=0
 | []=>rfl
 | s::ss=>by
  rw[O0];unfold au.depthAll;rw[Xdq ss];rfl
def Nb(a b:Za):min (au.depth (.tuple (a.map au.str))) (au.depth (.tuple (b.map au.str)))<=3:=by
 have e:au.depth (.tuple (a.map au.str))=au.depthAll (a.map au.str)+1:=rfl;rw[e,Xdq]
 lia
def Nc{a b:Za}(ha:∀y∈a,okN y)(hb:∀y∈b,okN y):au.eqv (.tuple (a.map au.str)) (.tuple (b.map au.str))=decide (a=b):=
 Xkp (λl:Za=>au.tuple (l.map au.str)) Xlm a b (Es ha) (Es hb)
def Fp  {ss:Za} (h:H p=some (.tup (ss.map V.str))):DAt H (.tuple (ss.map au.str)) (.ref p):=Mp h (Mo ss)
def spTold (K:LY):Sp:=λvs H Q _=>∃(p:ae) (ss:Za),vs=[.ref p]/\(SqL K H p (ss.map V.str)\/SqT K H p (ss.map V.str))/\ss.length<=60 /\
 ∀l H',H l=none->H' l=some (.tup ((told ss).map V.str))->Same H H'->Q (.ref l) H'
def spAllows:Sp:=λvs H Q _=>∃(h9:ao) (ln:Bool),vs=[.str h9,.bl ln]/\Q (.bl (B0 h9 ln)) H
def Xdr:Sp:=λvs H Q _=>∃(r p:ae) (row ss:Za),vs=[.ref r,.ref p]/\H r=some (.lst (row.map V.str))/\Row2 row/\H p=some (.tup (ss.map V.str))/\(∀y∈ss,okN y)/\ss.length<=60 /\
 ∀H',Same H H'->Q (.bl (Ae row ss)) H'
abbrev NIp:Za:=["row", "plot", "span"]
abbrev NI1:Za:=["name", "span"]
abbrev NI2:Za:=["name", "other", "plot", "span"]
def Spn.has    (s:Spn H kvs row (dit row)):(Av kvs (Sum.inr x:Key)).isSome=decide (x∈row):=by
 by_cases hx:x∈row
 ·obtain⟨l,h1,_⟩:=s.val x (Ao.mpr hx);rw[h1,Tt hx];rfl
 ·rw[Tu hx];cases e:Av kvs (Sum.inr x:Key) with
  | none=>rfl
  | some v=>
   exfalso;have:=G7 e;rw[s.keys] at this;obtain⟨y,hy,e2⟩:=Pd.mp this;rw[Q0 e2] at hy;exact hx (Ao.mp hy)
def Xds(h:∀y∈ss,okN y):∀y∈told ss,okN y:=λy hy=>h y (Xdp.mp hy)
def Xlo{α : Type}(d)(p)(xs:List α):((List.range xs.length).map λi=>p (xs.getD i d)).any id=xs.any p:=by
 have e:(List.range xs.length).map (λi=>p (xs.getD i d))=xs.map p:=by
  have:=C6 d (λ_=>true) xs;rw[Pl.mpr (λ_ _=>rfl),Pl.mpr (λ_ _=>rfl)] at this
  conv=>rhs;rw[<-this]
  rw[Pn];rfl
 rw[e,List.any_map];rfl
theorem Xdt{α : Type}(f):∀(xs:List α),(xs.flatMap f).all id=xs.all λx=>(f x).all id
 | []=>rfl
 | x::xs=>by
  rw[Rm,List.all_append,List.all_cons,Xdt f xs]
def Xlp{α β : Type}(d)(f : α->List β)(xs:List α):(List.range xs.length).flatMap (λi=>f (xs.getD i d))=xs.flatMap f:=by
 have this:=C6 d (λ_=>true) xs;rw[Pl.mpr (λ_ _=>rfl),Pl.mpr (λ_ _=>rfl)] at this
 conv=>rhs;rw[<-this]
 rw[List.flatMap_map]
end SH
namespace L2
def Xlq (K:LY) (i:Nat):TE:=fun Z H Q=>∃v, Z[i]? = some (some v)/\∃p ss,v = .ref p/\(SqL K H p (ss.map V.str)\/SqT K H p (ss.map V.str))/\ss.length<=60/\∀l H',H l=none->H' l=some (.lst ((dit ss).map V.str))->Same H H'->Q (.ref l) H'
def Xdu  {i:Nat}  (hc:X.calm=true) (CG:Gl X "sorted") (mY:X.mg "sorted" = none) (rP:Gl X "set") (qp:X.mg "set" = none) (hv:PE X (.Name x pos) (C4 i))
  (h1:aB [.Call (.Name "set" p2) [.Name x pos] [] q2] X.env=[(false,eval (.Call (.Name "set" p2) [.Name x pos] [] q2) X.env)]:=by rfl) (h2:aB [.Name x pos] X.env=[(false,eval (.Name x pos) X.env)]:=by rfl):
  PE X (.Call (.Name "sorted" p1) [.Call (.Name "set" p2) [.Name x pos] [] q2] [] q1) (Xlq X.K i):=by
 intro pins s Z H Q I h;obtain⟨v,CH,p,ss,ev,hq,hl,k⟩:=h;refine(A7 (Jq hc) CG mY (by rfl) (Aa (B1 (Hm hc) rP qp (by rfl) (Aa hv Ac) (by decide) (by decide) h2) Ac) (by decide) (by decide) h1) pins s Z H Q I ?_;refine⟨v,CH,p,ss,by rw[ev],hq,by unfold aX;lia,λa na=>?_⟩;have f7:=Hl ss;refine⟨a,ddup ss,rfl,Ab,by lia,λl ls nl hp hs=>?_⟩;rw[F8 hp hs];have s1:Same H (upd H a (Eo X.prog X.w a (ddup ss))):=(Same.refl H).step na;exact k l _ (s1.free nl) Ab (s1.step nl)
end L2
namespace SH
open L2
def Isl.dlen(h:Isl row):(dit row).length<=14:=by
 obtain⟨n,st,late,hn,hs,p⟩:=h.ex;have hp:(dit row).Perm (A8 st late n):=Ho (F9 row) (Jz hs hn) λx=>by
  rw[Ao,p.mem_iff,Ou,or_self]
 rw[hp.length_eq];unfold A8;rw[Oh,Qg];exact hn
def Am (ss:Za) (x:ao):Za:=srt (ss.filter (λy=>decide (y≠x))++(if x∈ss then [] else [x]))
def spFlip:Sp:=λvs H Q _=>∃(p:ae) (ss:Za) (x:ao),vs=[.ref p,.str x]/\H p=some (.tup (ss.map V.str))/\ss.length<=60 /\
 ∀q H',H q=none->H' q=some (.tup ((Am ss x).map V.str))->Same H H'->Q (.ref q) H'
def Xlr  (h:y∈Am ss x):y∈ss\/y=x:=by
 unfold Am at h;rw[Fb,Ou] at h;rcases h with h | h
 ·exact .inl (Ot.mp h).1
 ·split at h
  ·simp at h
  ·exact .inr (Om.mp h)
def Xls(ss)(x):(Am ss x).length<=ss.length+1:=by
 unfold Am;rw[(Cw _).length_eq,Oo];have:=Po (λy=>decide (y≠x)) ss;generalize (ss.filter λy=>decide (y≠x)).length=n at *;split
 ·rw[Qu];lia
 ·rw[Pp];lia
def spOdd:Sp:=λvs H Q _=>∃(dr sc r p:ae) (row ss:Za),vs=[.ref dr,.ref r,.ref p]/\DrawOk H dr sc/\H r=some (.lst (row.map V.str))/\r≠dr/\Isl row/\H p=some (.tup (ss.map V.str))/\(∀y∈ss,okN y)/\ss.length<=50 /\
 ∀(q:ae) (qm:Za) (H':Hp),H' q=some (.tup (qm.map V.str))->(∀y∈qm,okN y)->qm.length<=ss.length+1->DrawOk H' dr sc->But dr H H'->Q (.ref q) H'
def spFits:Sp:=λvs H Q _=>∃(b p:ae) (xs:List V) (bs:List (ao×ao×ao)) (ss:Za),vs=[.ref b,.ref p]/\H b=some (.lst xs)/\DAll H (bs.map trD) xs/\H p=some (.tup (ss.map V.str)) /\
 ∀H',Same H H'->Q (.bl (Cz bs ss)) H'
def spBars:Sp:=λvs H Q _=>∃(r:ae) (row:Za),vs=[.ref r]/\H r=some (.lst (row.map V.str))/\Row2 row /\
 ∀l xs H',H l=none->H' l=some (.lst xs)->DAll H' ((bars row).map trD) xs->Same H H'->Q (.ref l) H'
def spGood:Sp:=λvs H Q _=>∃(r p:ae) (row ss:Za),vs=[.ref r,.ref p]/\H r=some (.lst (row.map V.str))/\Row2 row/\H p=some (.tup (ss.map V.str))/\(∀y∈ss,okN y)/\ss.length<=60 /\
 ∀H',Same H H'->Q (.bl (Er row ss)) H'
def Xlt   (h:DAt H (trD t) v):∃p,v = .ref p/\H p=some (.tup [.str t.1,.str t.2.1,.str t.2.2]):=by
 obtain⟨p,xs,rfl,hp,hs⟩:=Mq h;have:=Hz (ss:=[t.1,t.2.1,t.2.2]) hs;rw[this] at hp;exact⟨p,rfl,hp⟩
def C0 (row:Za) (x:ao) (ys:Za):List (ao×ao×ao):=(ys.filter (Cq row x)).map λy=>(x,y,lieR row x y)
def C7 (row:Za) (i:Nat):List (ao×ao×ao):=((dit row).take i).flatMap λx=>C0 row x (dit row)
def Xlu(row):C7 row (dit row).length=bars row:=by
 unfold C7;rw[P8];rfl
def Xlv(row)(hi:i<(dit row).length):C7 row (i+1)=C7 row i++C0 row ((dit row).getD i ao.empty) (dit row):=by
 unfold C7;rw[O1 hi,Ro,Rm,Rz,Pw];simp[List.getD,hi]
def Xlw(row)(x)(hj:j<(dit row).length):C0 row x ((dit row).take (j+1))=C0 row x ((dit row).take j)++(if Cq row x ((dit row).getD j ao.empty)=true then [(x,(dit row).getD j ao.empty,lieR row x ((dit row).getD j ao.empty))] else []):=by
 unfold C0;have e:(dit row).getD j ao.empty=(dit row)[j]:=by simp[List.getD,hj]
 rw[O1 hj,O8,Ow,e,Pq];split<;>rfl
def Xdv(row)(x)(ys):(C0 row x ys).length<=ys.length:=by
 unfold C0;rw[Oh];exact Po ..
def Xlx(row)(i):(C7 row i).length<=i * (dit row).length:=by
 unfold C7;rw[List.length_flatMap];have h:∀l:Za,(l.map λx=>(C0 row x (dit row)).length).sum<=l.length * (dit row).length:=by
  intro l
  induction l with
  | nil=>simp
  | cons x l ih=>
   rw[O0,Ps,O5,Nat.succ_mul];have:=Xdv row x (dit row)
   lia
 refine Pm (h _) (Nat.mul_le_mul_right _ ?_);rw[O3]
 lia
abbrev NFl:Za:=["_law_plot", "_law_name"]
abbrev NFl1:Za:=["_law_one", "_law_name"]
abbrev NOd:Za:=["_law_draw", "_law_row_here", "_law_plot", "_law_way", "_law_at", "_law_name"]
abbrev NFi:Za:=["_law_bars_here", "_law_plot", "_law_one", "_law_other", "_law_word_here"]
abbrev NBr:Za:=["_law_row_here", "_law_where_here", "_law_told", "_law_one", "_law_other", "_law_word_here"]
abbrev NGo:Za:=["_law_row_here", "_law_plot"]
abbrev NGo1:Za:=["_law_name", "_law_plot"]
def Xly{α : Type}(f)(xs:List α)(b:Nat):Bz (xs.map f) none (some (b:Int))=(xs.take b).map f:=by
 by_cases hb:b<=xs.length
 ·exact Fd f xs b hb
 ·unfold Bz;rw[HT.sIx_none,Rr,HT.sIx_nat,Oh,Nat.min_eq_right (by lia),Sx,Ph (by rw[Oh];lia),Ph (by lia)]
def spAskPlot (C:ae):Sp:=λvs H Q E=>∃(r p:ae) (row ss:Za),vs=[.ref r,.ref p]/\H r=some (.lst (row.map V.str))/\Row2 row/\H p=some (.tup (ss.map V.str))/\(∀y∈ss,okN y)/\ss.length<=24 /\
 (Ae row ss=true->∀H',Same H H'->Q .non H')/\(Ae row ss=false->∀H',Same H H'->E (.ref C) none H')
def Xlz{ss:Za}(h:∀y∈ss,okN y):∀z∈ss,z.length<=20/\∀c∈z.cps.toList,c<16 ^ 8:=λz hz=>⟨(h z hz).1,λc hc=>Qv ((h z hz).2 c hc) (by decide)⟩
def DrawOk.ntup  (d:DrawOk H dr sc):∀q ys,H q=some (.tup ys)->q≠dr:=λq ys e z=>by
 obtain⟨xs,h⟩:=d.at;rw[z,h] at e;cases e
def mid (row:Za) (x:ao):Za:=((row.dropWhile λy=>decide (y≠x)).tail).takeWhile λy=>decide (y≠x)
def Xdw{x y:ao}(h:x∉y::r):decide (y≠x)=true:=by
 have:y≠x:=λe=>h (by rw[e];exact Ov);simpa using this
def drop_split{x:ao}(h:x∉A):(A++x::R).dropWhile (λy=>decide (y≠x))=x::R:=by
 induction A with
 | nil=>rw[Rj,Q6,Tq (by simp)]
 | cons y r ih=>
  rw[List.cons_append,Q6,Tr (Xdw h)];exact ih λz=>h (Op _ z)
def take_split{x:ao}(h:x∉A):(A++x::R).takeWhile (λy=>decide (y≠x))=A:=by
 induction A with
 | nil=>rw[Rj,Q7,Tq (by simp)]
 | cons y r ih=>
  rw[List.cons_append,Q7,Tr (Xdw h)];rw[ih λz=>h (Op _ z)]
def Nd  (hA:x∉A) (hB:x∉B):mid (A++x::(B++x::C)) x=B:=by
 unfold mid;rw[drop_split hA,List.tail_cons,take_split hB]
def split1:∀{row:Za},x∈row->∃A R,row=A++x::R/\x∉A:=by
 intro row
 induction row with
 | nil=>intro h;cases h
 | cons y r ih=>
  intro h;by_cases e:x=y
  ·exact⟨[],r,by rw[e];rfl,by simp⟩
  ·obtain⟨A,R,h1,h2⟩:=ih ((Ox.mp h).resolve_left e);exact⟨y::A,R,by rw[h1];rfl,λz=>(Ox.mp z).elim e h2⟩
def split2{x:ao}(h:row.count x=2):∃A B C,row=A++x::(B++x::C)/\x∉A/\x∉B/\x∉C:=by
 obtain⟨A,R,h1,h2⟩:=split1 (Sy.mp (by lia:0<row.count x));rw[h1,Rl,Rs.mpr h2,Ry] at h;have hR:R.count x=1:=by lia
 obtain⟨B,C,h3,h4⟩:=split1 (Sy.mp (by lia:0<R.count x));rw[h3,Rl,Rs.mpr h4,Ry] at hR;exact⟨A,B,C,by rw[h1,h3],h2,h4,Rs.mp (by lia)⟩
theorem Ia(x):∀n l r,A5 x n (l++r)=A5 x n l++A5 x (n+l.length) r
 | n,[],r=>rfl
 | n,y::l,r=>by
  have ih:=Ia x (n+1) l r;have e:n+(y::l).length=n+1+l.length:=by rw[O5];lia
  rw[e];show (if y=x then (n:Int)::A5 x (n+1) (l++r) else A5 x (n+1) (l++r))=(if y=x then (n:Int)::A5 x (n+1) l else A5 x (n+1) l)++_;rw[ih];split<;>rfl
theorem J9(x):∀n l,∀i∈A5 x n l,(n:Int)<=i/\i<n+l.length
 | n,[]=>λi h=>by cases h
 | n,y::l=>λi h=>by
  have ih:=J9 x (n+1) l;have h':i=n\/i∈A5 x (n+1) l:=by
   change i∈(if y=x then (n:Int)::A5 x (n+1) l else A5 x (n+1) l) at h;split at h
   ·exact Ox.mp h
   ·exact .inr h
  rw[O5];rcases h' with rfl | h'
  ·lia
  ·have:=ih i h'
   lia
theorem Ka:∀n l,x∉l->A5 x n l=[]
 | _,[],_=>rfl
 | n,y::l,h=>by
  show (if y=x then (n:Int)::A5 x (n+1) l else A5 x (n+1) l)=[];rw[Tq (λe=>h (by rw[e];exact Ov))];exact Ka _ _ λz=>h (Op _ z)
def Xl0  (hx:row.count x=2) (n:x≠y):nIn (pl row x).1 (pl row x).2 (plc row y)=(mid row x).count y:=by
 obtain⟨A,B,C,e,hA,hB,hC⟩:=split2 hx;have ex:plc row x=[(A.length:Int),((A.length+1+B.length:Nat):Int)]:=by
  unfold plc;rw[e,Ia,Ka _ _ hA];show []++(if x=x then _ else _)=_;rw[Tr rfl,Ia,Ka _ _ hB];show []++(_::([]++(if x=x then _ else _)))=_;rw[Tr rfl,Ka _ _ hC];simp
 have ey:plc row y=A5 y 0 A++(A5 y (A.length+1) B++A5 y (A.length+1+B.length+1) C):=by
  unfold plc;rw[e,Ia];show _++(if x=y then _ else _)=_;rw[Tq n,Ia];show _++(_++(if x=y then _ else _))=_;rw[Tq n];simp
 rw[Xdm ex,ey];unfold nIn inn;rw[O8,O8];have e1:(A5 y 0 A).filter (λt=>decide ((A.length:Int)<t)&&decide (t<((A.length+1+B.length:Nat):Int)))=[]:=by
  rw[Q8];intro i hi;have:=J9 y 0 A i hi;simp;intro
  lia
 have e2:(A5 y (A.length+1) B).filter (λt=>decide ((A.length:Int)<t)&&decide (t<((A.length+1+B.length:Nat):Int)))=A5 y (A.length+1) B:=by
  rw[Pl];intro i hi;have:=J9 y (A.length+1) B i hi;simp
  lia
 have e3:(A5 y (A.length+1+B.length+1) C).filter (λt=>decide ((A.length:Int)<t)&&decide (t<((A.length+1+B.length:Nat):Int)))=[]:=by
  rw[Q8];intro i hi;have:=J9 y _ C i hi;simp;intro
  lia
 rw[e1,e2,e3,Rj,Pw,Jy];rw[e,Nd hA hB]
def A2 (row:Za) (x y:ao):Prop:=lieR row x y = "cross"
instance (row:Za) (x y:ao):Decidable (A2 row x y):=inferInstanceAs (Decidable (_=_))
def Nf:Dw a b c e false = "cross" ↔ nIn a b [c,e]=1:=by
 unfold Dw;have e3:(inn a b [c,e]).length=nIn a b [c,e]:=rfl;have h2:(inn a b [c,e]).length<=2:=M3 a b [c,e];rw[e3] at *;generalize nIn a b [c,e]=q at *
 match q,h2 with
 | 0,_=>
  rw[Tq (by decide)];split<;>decide
 | 1,_=>rw[Tr (by decide)];decide
 | 2,_=>rw[Tr (by decide)];decide
def Kb  (hx:row.count x=2) (hy:row.count y=2) (n:x≠y):A2 row x y↔(mid row x).count y=1:=by
 unfold A2;rw[Gg hx hy,Tu n,Nf,<-Fm hy,Xl0 hx n]
def Ee  (hx:row.count x=2):¬A2 row x x:=by
 unfold A2 lieR lieT;rw[Tr ⟨rfl,rfl⟩];decide
def C8  (hx:row.count x=2) (hy:row.count y=2) (h:A2 row x y):A2 row y x:=by
 by_cases n:x=y
 ·subst n;exact h
 ·obtain⟨n1,n2,n3,n4⟩:=Fo hx hy n;unfold A2 at *;rw[Gg hx hy,Tu n,Nf,Ce] at h;rw[Gg hy hx,Tu (λe=>n e.symm),Nf,Ce];have l1:=Cd hx;have l2:=Cd hy;generalize (pl row x).1=a at *;generalize (pl row x).2=b at *;generalize (pl row y).1=c at *;generalize (pl row y).2=e at *;by_cases p1:a<c/\c<b<;>by_cases p2:a<e/\e<b<;>by_cases q1:c<a/\a<e<;>by_cases q2:c<b/\b<e <;>
  (first | rw[Tr p1] at h | rw[Tq p1] at h)<;>(first | rw[Tr p2] at h | rw[Tq p2] at h) <;>
  (first | rw[Tr q1] | rw[Tq q1])<;>(first | rw[Tr q2] | rw[Tq q2])<;>lia
def Xdx  (h:p x=true):∀row:Za,mid (row.filter p) x=(mid row x).filter p:=by
 have tk:∀l:Za,(l.filter p).takeWhile (λy=>decide (y≠x))=(l.takeWhile λy=>decide (y≠x)).filter p:=by
  intro l
  induction l with
  | nil=>rfl
  | cons y r ih=>
   by_cases e:y=x
   ·subst e;rw[Pq,Tr h,Q7,Tq (by simp),Q7,Tq (by simp)];rfl
   ·rw[Q7,Tr (Tt e),Pq,Pq];by_cases q:p y=true
    ·rw[Tr q,Tr q,Q7,Tr (Tt e),ih]
    ·rw[Tq q,Tq q,ih]
 intro row;unfold mid;rw[<-tk];congr 1
 induction row with
 | nil=>rfl
 | cons y r ih=>
  by_cases e:y=x
  ·subst e;rw[Pq,Tr h,Q6,Tq (by simp),Q6,Tq (by simp)];rfl
  ·rw[Q6,Tr (Tt e),<-ih,Pq];by_cases q:p y=true
   ·rw[Tr q,Q6,Tr (Tt e)]
   ·rw[Tq q]
def Xl1  (hx:row.count x=2) (hy:row.count y=2) (jg:me.count x=2) (iY:me.count y=2)
  (e:row.filter (λz=>decide (z=x\/z=y))=me.filter (λz=>decide (z=x\/z=y))):A2 row x y↔A2 me x y:=by
 by_cases n:x=y
 ·subst n;exact⟨λh=>absurd h (Ee hx),λh=>absurd h (Ee jg)⟩
 ·rw[Kb hx hy n,Kb jg iY n];have h1:∀r:Za,(mid r x).count y=(mid (r.filter λz=>decide (z=x\/z=y)) x).count y:=λr=>by
   rw[Xdx (by simp),List.count_filter (by simp)]
  rw[h1 row,h1 me,e]
def Bk (row:Za):Prop:=∀x∈row,∀y∈row,∀z∈row,A2 row x y->A2 row x z->¬A2 row y z
def Xl2:Bk []:=λx h=>by cases h
def Xdy{x}(h:Bk row)(h2:∀y∈row,row.count y=2)(iw:∀y∈cf,cf.count y=2)(dy:∀y∈cf,y=x\/y∈row)
  (hf:∀p:ao->Bool,p x=false->cf.filter p=row.filter p) (hb:∀y∈cf,∀z∈cf,A2 cf x y->A2 cf x z->¬A2 cf y z):Bk cf:=by
 intro a ha b dL c hc k1 k2 k3;have hJ:=C8 (iw a ha) (iw b dL) k1;have jn:=C8 (iw a ha) (iw c hc) k2;have CI:=C8 (iw b dL) (iw c hc) k3;by_cases ea:a=x
 ·subst ea;exact hb b dL c hc k1 k2 k3
 by_cases eb:b=x
 ·subst eb;exact hb a ha c hc hJ k3 k2
 by_cases ec:c=x
 ·subst ec;exact hb a ha b dL jn CI k1
 have ra:=(dy a ha).resolve_left ea;have rb:=(dy b dL).resolve_left eb;have rc:=(dy c hc).resolve_left ec;have go:∀u v:ao,u≠x->v≠x->u∈row->v∈row->u∈cf->v∈cf->A2 cf u v->A2 row u v:=λu v nu nv hu hv mu mv k=>
  (Xl1 (iw u mu) (iw v mv) (h2 u hu) (h2 v hv) (hf _ (by
   rw[decide_eq_false_iff_not];rintro (e | e)
   ·exact nu e.symm
   ·exact nv e.symm))).mp k
 exact h a ra b rb c rc (go a b ea eb ra rb ha dL k1) (go a c ea ec ra rc ha hc k2) (go b c eb ec rb rc dL hc k3)
def Xl3    (fg:a<=b) (h:p x=false):(Dv row x a b).filter p=row.filter p:=by
 unfold Dv;have e:row=row.take a++((row.drop a).take (b - a)++row.drop b):=by
  have e1:row.drop b=(row.drop a).drop (b - a):=by rw[List.drop_drop];congr 1;lia
  rw[e1,Pa,Pa]
 conv=>rhs;rw[e]
 simp[O8,Pq,h]
def Xl4  (hx:(A++[x,x]++C).count x=2) (hy:(A++[x,x]++C).count y=2):¬A2 (A++[x,x]++C) x y:=by
 by_cases n:x=y
 ·subst n;exact Ee hx
 ·rw[Kb hx hy n];have hA:x∉A:=by
   rw[<-Rs];rw[Rl,Rl,Ry,Ry] at hx
   lia
  have e:A++[x,x]++C=A++x::([]++x::C):=by simp
  rw[e,Nd hA (by simp)];simp
def Xl5{row:Za}   (h:p x=false):(row.take a++[x,x]++row.drop a).filter p=row.filter p:=by
 simp[O8,Pq,h];rw[<-O8,Pa]
def Xdz  (hF:F.Nodup) (hx:x∈F) (n:x≠y):(mid (F++F.reverse) x).count y≠1:=by
 obtain⟨A,B,rfl,hA⟩:=split1 hx;have hB:x∉B:=by
  have h1:=(Qf.mp hF).2.1;exact(Pu.mp h1).1
 have e:(A++x::B)++(A++x::B).reverse=A++x::((B++B.reverse)++x::A.reverse):=by simp
 rw[e,Nd hA (by simp[hB]),Rl,List.count_reverse]
 lia
def Et  (hn:ns.Nodup) (c) (h2:∀z∈ns,(ns++(ns.take c).reverse++(ns.drop c).reverse).count z=2)
  (h:(x∈ns.take c/\y∈ns.take c)\/(x∈ns.drop c/\y∈ns.drop c)):¬A2 (ns++(ns.take c).reverse++(ns.drop c).reverse) x y:=by
 have sub:(∀z,z∈ns.take c->z∈ns)/\∀z,z∈ns.drop c->z∈ns:=⟨λz=>Pr,λz=>P4⟩;have hx:x∈ns:=h.elim (λz=>sub.1 _ z.1) λz=>sub.2 _ z.1;have hy:y∈ns:=h.elim (λz=>sub.1 _ z.2) λz=>sub.2 _ z.2;by_cases n:x=y
 ·subst n;exact Ee (h2 x hx)
 rw[Kb (h2 x hx) (h2 y hy) n];have key:(mid (ns++(ns.take c).reverse++(ns.drop c).reverse) x).count y=(mid ((ns++(ns.take c).reverse++(ns.drop c).reverse).filter λz=>decide (z=x\/z=y)) x).count y:=by
  rw[Xdx (by simp),List.count_filter (by simp)]
 rw[key];have dj:∀z,z∈ns.take c->z∈ns.drop c->False:=by
  have:=hn;rw[<-Pa c ns] at this;intro z h1 h2;exact(Qf.mp this).2.2 z h1 z h2 rfl
 have e0:ns.filter (λz=>decide (z=x\/z=y))=(ns.take c).filter (λz=>decide (z=x\/z=y))++(ns.drop c).filter (λz=>decide (z=x\/z=y)):=by
  rw[<-O8,Pa]
 rw[O8,O8,e0,List.filter_reverse,List.filter_reverse];rcases h with ⟨h1,h2⟩ | ⟨h1,h2⟩
 ·have e:(ns.drop c).filter (λz=>decide (z=x\/z=y))=[]:=by
   rw[Q8];intro z hz q;rcases Tv q with q | q
   ·exact dj x h1 (q ▸ hz)
   ·exact dj y h2 (q ▸ hz)
  rw[e,Pw,List.reverse_nil,Pw];exact Xdz ((hn.sublist (P5 ..)).filter _) (Ot.mpr ⟨h1,by simp⟩) n
 ·have e:(ns.take c).filter (λz=>decide (z=x\/z=y))=[]:=by
   rw[Q8];intro z hz q;rcases Tv q with q | q
   ·exact dj x (q ▸ hz) h1
   ·exact dj y (q ▸ hz) h2
  rw[e,Rj,List.reverse_nil,Pw];exact Xdz ((hn.sublist (Qt ..)).filter _) (Ot.mpr ⟨h1,by simp⟩) n
def noThree_grid(hn:ns.Nodup)(c)(h2:∀z∈ns,(ns++(ns.take c).reverse++(ns.drop c).reverse).count z=2):Bk (ns++(ns.take c).reverse++(ns.drop c).reverse):=by
 have mem:∀z,z∈ns++(ns.take c).reverse++(ns.drop c).reverse->z∈ns.take c\/z∈ns.drop c:=by
  intro z hz;rw[<-Ou,Pa];simp only[Ou,List.mem_reverse] at hz;rcases hz with (h | h) | h
  ·exact h
  ·exact Pr h
  ·exact P4 h
 intro x hx y hy z hz k1 k2 k3;rcases mem x hx with a | a<;>rcases mem y hy with b | b<;>rcases mem z hz with d | d
 ·exact Et hn c h2 (.inl ⟨a,b⟩) k1
 ·exact Et hn c h2 (.inl ⟨a,b⟩) k1
 ·exact Et hn c h2 (.inl ⟨a,d⟩) k2
 ·exact Et hn c h2 (.inr ⟨b,d⟩) k3
 ·exact Et hn c h2 (.inl ⟨b,d⟩) k3
 ·exact Et hn c h2 (.inr ⟨a,d⟩) k2
 ·exact Et hn c h2 (.inr ⟨a,b⟩) k1
 ·exact Et hn c h2 (.inr ⟨a,b⟩) k1
def spBarredN:Sp:=λvs H Q _=>∃(r:ae) (row:Za) (x:ao),vs=[.ref r,.str x]/\H r=some (.lst (row.map V.str))/\row.length<=1000/\(∀y∈row,row.count y=2)/\x∈row /\
 ∀b H',(b=false->∀y∈row,∀z∈row,A2 row x y->A2 row x z->¬A2 row y z)->Same H H'->Q (.bl b) H'
def spRowN:Sp:=λvs H Q _=>∃(dr sc nl:ae) (ns:Za),vs=[.ref dr,.ref nl]/\DrawOk H dr sc/\H nl=some (.lst (ns.map V.str))/\nl≠dr/\ns.Nodup/\ns.length<=14 /\
 ∀(l:ae) (row:Za) (H':Hp),H l=none->H' l=some (.lst (row.map V.str))->row.Perm (ns++ns)->Bk row->DrawOk H' dr sc->But dr H H'->Q (.ref l) H'
def spIslandN:Sp:=λvs H Q _=>∃(dr sc:ae) (m:Nat),vs=[.ref dr,.int m]/\m<=14/\DrawOk H dr sc /\
 ∀(l:ae) (row:Za) (n st:Nat) (late:Bool) (H':Hp),H l=none->n<=m->st<26->H' l=some (.lst (row.map V.str))->row.Perm (A8 st late n++A8 st late n)->Bk row->DrawOk H' dr sc->But dr H H'->Q (.ref l) H'
def Xd0{_:Decidable p}(h:decide p=false):¬p:=Tw h
def Wh.pl{H:Hp}{kvs:List (Key×V)}{row:Za}{x:ao}(w:Wh H kvs row)(hx:x∈row)(h:row.count x=2):∃l,Av kvs (Sum.inr x:Key)=some (.ref l)/\H l=some (.lst [.int (pl row x).1,.int (pl row x).2]):=by
 obtain⟨l,h1,h2⟩:=w.val x hx;rw[Fm h] at h2;exact⟨l,h1,h2⟩
def deg2 {α : Type} (R : α -> α->Bool) (l:List α):Nat:=(l.map λx=>l.countP (R x)).sum
def Xl6{a b:List Nat}(p:a.Perm b):a.sum=b.sum:=by
 induction p with
 | nil=>rfl
 | cons x _ ih=>simp[ih]
 | swap x y l=>simp;lia
 | trans _ _ h1 h2=>exact h1.trans h2
def Xl7{α : Type}{R}{a b:List α}(p:a.Perm b):deg2 R a=deg2 R b:=by
 unfold deg2;have e:(a.map λx=>a.countP (R x))=a.map λx=>b.countP (R x):=Pj λx _=>p.countP_eq _;rw[e];exact Xl6 (p.map _)
theorem Fq{α : Type}(f g : α->Nat):∀l:List α,(l.map λx=>f x+g x).sum=(l.map f).sum+(l.map g).sum
 | []=>rfl
 | x::r=>by simp[Fq f g r];lia
theorem Ef{α : Type}(p):∀l:List α,(l.map λx=>if p x=true then 1 else 0).sum=l.countP p
 | []=>rfl
 | x::r=>by
  rw[O0,Ps,Ef p r,Qy]
  lia
theorem Ib{α : Type}:∀l:List α,(l.map λ_=>0).sum=0
 | []=>rfl
 | _::r=>by rw[O0,Ps,Ib r]
def mantel{α : Type}[DecidableEq α]{R}:∀(n:Nat) (l:List α),l.length=n->l.Nodup->(∀x∈l,R x x=false)->(∀x∈l,∀y∈l,R x y=R y x) ->
  (∀x∈l,∀y∈l,∀z∈l,R x y=true->R x z=true->R y z=false)->2 * deg2 R l<=n * n:=by
 intro n
 induction n using Nat.strongRecOn with
 | ind n ih=>
  intro l hl nd irr sy zd;by_cases h:∃u∈l,∃v∈l,R u v=true
  ·obtain⟨u,hu,v,hv,mf⟩:=h;have CJ:u≠v:=λe=>by subst e;rw[irr u hu] at mf;cases mf
   have p1:l.Perm (u::l.erase u):=List.perm_cons_erase hu;have CK:v∈l.erase u:=(Sk CJ.symm).mpr hv;have p2:l.Perm (u::v::(l.erase u).erase v):=p1.trans (List.Perm.cons u (List.perm_cons_erase CK));generalize (l.erase u).erase v=r at p2;have aN:=p2.length_eq;simp only[O5] at aN;have CL:=p2.nodup_iff.mp nd;have mr:∀x∈r,x∈l:=λx hx=>p2.mem_iff.mpr (Op _ (Op _ hx));have ze:r.Nodup:=(Pu.mp (Pu.mp CL).2).2;have JY:=ih r.length (by lia) r rfl ze (λx hx=>irr x (mr x hx)) (λx hx y hy=>sy x (mr x hx) y (mr y hy)) (λx hx y hy z hz=>zd x (mr x hx) y (mr y hy) z (mr z hz));have e:deg2 R l=2+2 * (r.countP (R u)+r.countP (R v))+deg2 R r:=by
    rw[Xl7 p2];unfold deg2;rw[O0,O0,Ps,Ps];have ef:(r.map λx=>(u::v::r).countP (R x))=r.map λx=>((if R u x=true then 1 else 0)+(if R v x=true then 1 else 0))+r.countP (R x):=by
     refine Pj λx hx=>?_;rw[Qy,Qy,sy x (mr x hx) u hu,sy x (mr x hx) v hv]
     lia
    rw[ef,Fq,Fq,Ef,Ef,Qy,Qy,Qy,Qy,irr u hu,irr v hv,mf,sy v hv u hu,mf];simp
    lia
   have le:r.countP (R u)+r.countP (R v)<=r.length:=by
    rw[<-Ef (R u),<-Ef (R v),<-Fq];have:∀m:List α,(∀x∈m,x∈l)->(m.map λx=>(if R u x=true then 1 else 0)+(if R v x=true then 1 else 0)).sum<=m.length:=by
     intro m
     induction m with
     | nil=>intro _;exact Oi _
     | cons x t CM=>
      intro hm;have h1:=CM λy hy=>hm y (Op _ hy);have hx:=hm x Ov;have h2:(if R u x=true then 1 else 0)+(if R v x=true then 1 else 0)<=1:=by
       by_cases a:R u x=true
       ·have:=zd u hu v hv x hx mf a;rw[this,Tr a];decide
       ·rw[Tq a];split<;>decide
      rw[O0,Ps,O5]
      lia
    exact this r mr
   have hn:n=r.length+2:=by lia
   rw[e,hn];have:(r.length+2) * (r.length+2)=r.length * r.length+4 * r.length+4:=by
    rw[Nat.add_mul,Nat.mul_add];lia
   rw[this]
   lia
  ·have z:deg2 R l=0:=by
    unfold deg2;have:(l.map λx=>l.countP (R x))=l.map λ_=>0:=by
     refine Pj λx hx=>?_;rw[List.countP_eq_zero];intro y hy q;exact h ⟨x,hx,y,hy,q⟩
    rw[this];exact Ib l
   rw[z];exact Pi _
theorem Xd1{α β : Type}(p : α -> β->Bool)(m:List β):∀l:List α,(l.map λx=>m.countP (p x)).sum=(m.map λy=>l.countP λx=>p x y).sum
 | []=>by
  show 0=_
  induction m with
  | nil=>rfl
  | cons y r ih=>rw[O0,Ps,<-ih];rfl
 | x::l=>by
  rw[O0,Ps,Xd1 p m l];have e:(m.map λy=>(x::l).countP λx=>p x y)=m.map λy=>(if p x y=true then 1 else 0)+l.countP λx=>p x y:=by
   refine Pj λy _=>?_;rw[Qy]
   lia
  rw[e,Fq,Ef]
def Xd2(h2:∀y∈row,row.count y=2):2 * (crs row).length=deg2 (λx y=>decide (A2 row x y)) (dit row):=by
 have e:(crs row).length=((dit row).map λx=>(dit row).countP λy=>decide (ltS x y)&&decide (A2 row x y)).sum:=by
  unfold crs;rw[List.length_flatMap];congr 1;refine Pj λx _=>?_;rw[Oh,List.countP_eq_length_filter];rfl
 have e2:=Xd1 (λx y=>decide (ltS x y)&&decide (A2 row x y)) (dit row) (dit row);have e3:2 * (crs row).length=((dit row).map λx=>(dit row).countP λy=>decide (ltS x y)&&decide (A2 row x y)).sum+((dit row).map λy=>(dit row).countP λx=>decide (ltS x y)&&decide (A2 row x y)).sum:=by
  rw[<-e2,e];lia
 rw[e3,<-Fq];unfold deg2;congr 1;refine Pj λx hx=>?_;rw[<-Ef,<-Ef,<-Ef,<-Fq];congr 1;refine Pj λy hy=>?_;have jg:=Ao.mp hx;have iY:=Ao.mp hy;by_cases c:A2 row x y
 ·have c':=C8 (h2 x jg) (h2 y iY) c;have n:x≠y:=λe=>by subst e;exact Ee (h2 x jg) c
  by_cases l:ltS x y
  ·have l':¬ltS y x:=λq=>Jr x (Js l q);simp[c,c',l,l']
  ·have l':ltS y x:=ltS_of (Mh.mp l) n.symm;simp[c,c',l,l']
 ·have c':¬A2 row y x:=λq=>c (C8 (h2 y iY) (h2 x jg) q);simp[c,c']
def Ng(h2:∀y∈row,row.count y=2)(h3:Bk row)(hl:(dit row).length<=14):(crs row).length<=49:=by
 have m:=mantel (R:=λx y=>decide (A2 row x y)) (dit row).length (dit row) rfl (F9 row) (λx hx=>Tu (Ee (h2 x (Ao.mp hx))))
  (λx hx y hy=>by
   by_cases c:A2 row x y
   ·rw[Tt c,Tt (C8 (h2 x (Ao.mp hx)) (h2 y (Ao.mp hy)) c)]
   ·rw[Tu c,Tu λq=>c (C8 (h2 y (Ao.mp hy)) (h2 x (Ao.mp hx)) q)])
  (λx hx y hy z hz a b=>Tu (h3 x (Ao.mp hx) y (Ao.mp hy) z (Ao.mp hz) (Tv a) (Tv b)))
 rw[<-Xd2 h2] at m;have:(dit row).length * (dit row).length<=14 * 14:=S5 hl hl
 lia
def upB (row:Za) (x y:ao):Bool:=decide (y=x)||decide (lieR row x y = "within")
def span (row:Za) (x:ao):Nat:=((pl row x).2 - (pl row x).1).toNat
def Xl8(a b c e):lieT a b c e = "same" \/ lieT a b c e = "cross" \/ lieT a b c e = "within" \/ lieT a b c e = "around" \/ lieT a b c e = "apart" := by
 unfold lieT;split
 ·exact .inl rfl
 ·split
  ·exact .inr (.inl rfl)
  ·split
   ·exact .inr (.inr (.inl rfl))
   ·split
    ·exact .inr (.inr (.inr (.inl rfl)))
    ·exact .inr (.inr (.inr (.inr rfl)))
def Xl9  (hx:row.count x=2) (hy:row.count y=2) (n:x≠y) (h:lieR row x y = "around"):span row y<span row x:=by
 obtain⟨n1,n2,n3,n4⟩:=Fo hx hy n;have l1:=Cd hx;have l2:=Cd hy;unfold span;unfold lieR lieT at h;rw[Tq (λz=>n1 z.1)] at h;split at h
 ·exact absurd h (by decide)
 ·split at h
  ·exact absurd h (by decide)
  ·split at h
   ·rename_i q;rw[Ce] at q;generalize (pl row x).1=a at *;generalize (pl row x).2=b at *;generalize (pl row y).1=c at *;generalize (pl row y).2=e at *;by_cases p1:a<c/\c<b
    ·by_cases p2:a<e/\e<b
     ·lia
     ·rw[Tr p1,Tq p2] at q;lia
    ·rw[Tq p1] at q;split at q<;>lia
   ·exact absurd h (by decide)
def Xd3  (hx:row.count x=2) (hy:row.count y=2) (h:lieR row x y = "same"):x=y:=by
 refine Classical.byContradiction λn=>?_;obtain⟨n1,n2,n3,n4⟩:=Fo hx hy n;unfold lieR lieT at h;rw[Tq (λz=>n1 z.1)] at h;split at h
 ·exact absurd h (by decide)
 ·split at h
  ·exact absurd h (by decide)
  ·split at h
   ·exact absurd h (by decide)
   ·exact absurd h (by decide)
theorem least{α : Type}(f : α->Nat):∀l:List α,l≠[]->∃a∈l,∀b∈l,f a<=f b
 | [],h=>absurd rfl h
 | [a],_=>⟨a,Ov,λb hb=>by rw[Om.mp hb];exact Oi _⟩
 | a::c::r,_=>by
  obtain⟨m,hm,hl⟩:=least f (c::r) (by simp);by_cases q:f a<=f m
  ·exact⟨a,Ov,λb hb=>by
    rcases Ox.mp hb with e | e
    ·rw[e];exact Oi _
    ·exact Pm q (hl b e)⟩
  ·exact⟨m,Op _ hm,λb hb=>by
    rcases Ox.mp hb with e | e
    ·rw[e];lia
    ·exact hl b e⟩
def cands (row:Za):List (Za):=(dit row).map (λa=>(dit row).filter (upB row a))++(crs row).map λp=>(dit row).filter λy=>upB row p.1 y||upB row p.2 y
def Xd4(h2:∀y∈row,row.count y=2)(h3:Bk row)(fw:S≠[])(hg:Ae row S=true):S∈cands row:=by
 have uu:=hg;rw[<-J8 h2] at uu;unfold Er at uu;rw[Oz] at uu;have hS:=Tv uu.1;unfold Ae at hg;rw[Oz,Oz] at hg;obtain⟨⟨_,vO⟩,dc⟩:=hg;have inr:∀x∈S,x∈row:=λx hx=>Tv (Pg.mp vO x hx);have al:∀x∈S,∀y∈row,B0 (lieR row x y) (decide (y∈S))=true:=λx hx y hy=>Pg.mp (Pg.mp dc x hx) y (Ao.mpr hy);have within:∀x∈S,∀y∈row,lieR row x y = "within" -> y∈S:=λx hx y hy e=>by
  have:=al x hx y hy;unfold B0 at this;rw[Tr e] at this;exact Tv this
 have apart:∀x∈S,∀y∈S,lieR row x y ≠ "apart" := λx hx y hy e=>by
  have:=al x hx y (inr y hy);unfold B0 at this;rw[Tq (by rw[e];decide),e,Tt hy] at this;exact absurd this (by decide)
 have h9:∀a∈S,∀c∈S,upB row a c=false->¬span row c<span row a->A2 row a c:=λa ha c hc hu hs=>by
  have zf:=Bool.or_eq_false_iff.mp hu;have n1:c≠a:=Tw zf.1;have n2:=Tw zf.2;rcases Xl8 (pl row a).1 (pl row a).2 (pl row c).1 (pl row c).2 with q | q | q | q | q
  ·exact absurd (Xd3 (h2 a (inr a ha)) (h2 c (inr c hc)) q).symm n1
  ·exact q
  ·exact absurd q n2
  ·exact absurd (Xl9 (h2 a (inr a ha)) (h2 c (inr c hc)) (λe=>n1 e.symm) q) hs
  ·exact absurd q (apart a ha c hc)
 have o8:∀a∈S,∀y∈row,upB row a y=true->y∈S:=λa ha y hy q=>by
  rcases Sn.mp q with q | q
  ·rw[Tv q];exact ha
  ·exact within a ha y hy (Tv q)
 obtain⟨a,ha,la⟩:=least (span row) S fw;unfold cands;rw[Ou];by_cases bY:∀c∈S,upB row a c=true
 ·left;rw[Pd];refine⟨a,Ao.mpr (inr a ha),?_⟩;rw[hS];refine List.filter_congr λy hy=>?_;by_cases q:y∈S
  ·rw[bY y q,Tt q]
  ·rw[Tu q,Rx];exact λz=>q (o8 a ha y (Ao.mp hy) z)
 ·right;have vP:S.filter (λc => !upB row a c)≠[]:=λe=>bY λc hc=>by
   rw[Q8] at e;have:=e c hc;simpa using this
  obtain⟨b,hb,lb⟩:=least (span row) _ vP;obtain⟨mh,vQ⟩:=Ot.mp hb;have vQ:upB row a b=false:=by simpa using vQ
  have cab:=h9 a ha b mh vQ (by have:=la b mh;lia);have all2:∀c∈S,upB row a c=true\/upB row b c=true:=λc hc=>by
   refine Classical.byContradiction λz=>?_;have z1:upB row a c=false:=by
    cases q:upB row a c with
    | false=>rfl
    | true=>exact absurd (.inl q) z
   have z2:upB row b c=false:=by
    cases q:upB row b c with
    | false=>rfl
    | true=>exact absurd (.inr q) z
   have k1:=h9 a ha c hc z1 (by have:=la c hc;lia);have k2:=h9 b mh c hc z2 (by have:=lb c (Ot.mpr ⟨hc,by simp[z1]⟩);lia);exact h3 a (inr a ha) b (inr b mh) c (inr c hc) cab k1 k2
  have key:∀p q:ao,p∈S->q∈S->(∀c∈S,upB row p c=true\/upB row q c=true)->(dit row).filter (λy=>upB row p y||upB row q y)=S:=λp q hp hq h=>by
   conv=>rhs;rw[hS]
   refine List.filter_congr λy hy=>?_;by_cases m:y∈S
   ·rw[Tt m,Sn];exact h y m
   ·rw[Tu m,Bool.or_eq_false_iff];exact⟨Rx.mpr λz=>m (o8 p hp y (Ao.mp hy) z),Rx.mpr λz=>m (o8 q hq y (Ao.mp hy) z)⟩
  have CN:a≠b:=λe=>by subst e;exact Ee (h2 a (inr a ha)) cab
  have mk:∀p q:ao,p∈S->q∈S->ltS p q->A2 row p q->(p,q)∈crs row:=λp q hp hq l c=>by
   unfold crs;rw[List.mem_flatMap];refine⟨p,Ao.mpr (inr p hp),Pd.mpr ⟨q,Ot.mpr ⟨Ao.mpr (inr q hq),?_⟩,rfl⟩⟩;rw[Oz];exact⟨Tt l,Tt c⟩
  rw[Pd];by_cases l:ltS a b
  ·exact⟨(a,b),mk a b ha mh l cab,key a b ha mh all2⟩
  ·have l':=ltS_of (Mh.mp l) CN.symm;exact⟨(b,a),mk b a mh ha l' (C8 (h2 a (inr a ha)) (h2 b (inr b mh)) cab),key b a mh ha λc hc=>(all2 c hc).symm⟩
theorem Nh{α : Type}[DecidableEq α]:∀{a b:List α},a.Nodup->(∀x∈a,x∈b)->a.length<=b.length
 | [],_,_,_=>Pi _
 | x::r,b,h,s=>by
  obtain⟨h1,h2⟩:=Pu.mp h;have hx:=s x Ov;have:=Nh (a:=r) (b:=b.erase x) h2 λy hy=>(Sk (show y≠x from λe=>h1 (e ▸ hy))).mpr (s y (Op _ hy));rw[R1 hx] at this;have:0<b.length:=Sc hx;rw[O5]
  lia
def Xd5{L:List (Za)}(h2:∀y∈row,row.count y=2)(h3:Bk row)(hl:(dit row).length<=14)(nd:L.Nodup)(h:∀S∈L,S≠[]/\Ae row S=true):L.length<64:=by
 have l1:=Nh nd λS hS=>Xd4 h2 h3 (h S hS).1 (h S hS).2;have l2:=Ng h2 h3 hl;unfold cands at l1;rw[Oo,Oh,Oh] at l1
 lia
end SH
namespace L2
open PySem.W (KasT kas_asc kas_desc kas_rev kas_tail3 kas_descPart kas_count kas_place kas_bin kas_sort kas_ask kas_item kat_run kat_snds kat_kind kat_lt KatLex kat_cons kat_go kat_yes kat_no kat_one kat_nil KatTups)
def KAll {α : Type} (n:Nat) (P : α->Prop):KasT α->Prop
 | .ret a=>P a
 | .ask i j k=>i<n/\j<n/\∀b,KAll n P (k b)
theorem KAll.bind{α β : Type}{P}{Q : β->Prop}{f}(hf:∀a,P a->KAll n Q (f a)):∀{t:KasT α},KAll n P t->KAll n Q (t.bind f)
 | .ret a,h=>hf a h
 | .ask i j k,h=>⟨h.1,h.2.1,λb=>KAll.bind hf (h.2.2 b)⟩
theorem KAll.wp{α : Type}{n}{G}  (hc:∀i j C,i<n->j<n->(∀b,C b s)->vR i j C s):
  ∀{t:KasT α},KAll n (λa=>G a s) t->t.kasWp vR G s
 | .ret a,h=>h
 | .ask i j k,h=>hc i j _ h.1 h.2.1 λb=>KAll.wp hc (h.2.2 b)
def Gd (n:Nat) (p:Array Nat):Prop:=p.Perm (List.toArray (List.range n))
def Gd.lt{n}{p}(h:Gd n p)(hn:0<n)(i):p.getD i 0<n:=by
 by_cases hi:i<p.size
 ·have e:p.getD i 0=p[i]:=by simp[Array.getD,hi]
  rw[e];have:p[i]∈p:=Array.getElem_mem hi;have:=h.mem_iff.mp this;simpa using this
 ·have e:p.getD i 0=0:=by simp[Array.getD,hi]
  rw[e];exact hn
def Gd.rev  (h:Gd n p) (i j):Gd n (kas_rev p i j):=(zg p i j _).trans h
theorem Ni  (hn:0<n) (h:Gd n p):∀f m,KAll n (λ_=>True) (kas_asc p f m)
 | 0,_=>trivial
 | f+1,m=>⟨h.lt hn _,h.lt hn _,λb=>by
  cases b with
  | true=>exact trivial
  | false=>exact Ni hn h f (m+1)⟩
theorem Kc(hn:0<n):∀f (p:Array Nat) m q,Gd n p->KAll n (λr=>Gd n r.1) (kas_desc f p m q)
 | 0,p,m,q,h=>h
 | f+1,p,m,q,h=>⟨h.lt hn _,h.lt hn _,λb=>by
  cases b with
  | true=>
   show KAll n _ (if q > 0 then kas_desc f (kas_rev p (m - (q+1)) m) (m+1) 0 else kas_desc f p (m+1) 0);split
   ·exact Kc hn f _ _ _ (h.rev _ _)
   ·exact Kc hn f _ _ _ h
  | false=>
   refine⟨h.lt hn _,h.lt hn _,λd=>?_⟩;cases d with
   | true=>exact h
   | false=>exact Kc hn f _ _ _ h⟩
def Xd6  (hn:0<n) (h:Gd n p) (m r):KAll n (λr=>Gd n r.2) (kas_tail3 m r p):=by
 unfold kas_tail3;refine KAll.bind (P:=λ_=>True) (Q:=λ(r:Nat×Array Nat)=>Gd n r.2) (λa _=>?_) (Ni hn (h.rev 0 m) _ _);exact h.rev 0 m
def Xd7  (hn:0<n) (h:Gd n p) (m r):KAll n (λr=>Gd n r.2) (kas_descPart m r p):=by
 refine KAll.bind (P:=λr=>Gd n r.1) (λa ha=>?_) (Kc hn _ _ _ _ h);split
 ·exact Xd6 hn (ha.rev _ _) _ _
 ·exact Xd6 hn ha _ _
def Xma  (hn:0<n) (h:Gd n p) (r):KAll n (λr=>Gd n r.2) (kas_count r p):=by
 refine KAll.bind (P:=λ_=>True) (λa _=>?_) (Ni hn h _ _);split
 ·exact h
 ·split
  ·refine⟨h.lt hn _,h.lt hn _,λb=>?_⟩;cases b with
   | true=>exact h
   | false=>exact Xd7 hn (h.rev _ _) _ _
  ·exact Xd7 hn h _ _
theorem Nj  (hn:0<n) (h:Gd n p) (k):∀f l r,KAll n (λ_=>True) (kas_place p k f l r)
 | 0,_,_=>trivial
 | f+1,l,r=>by
  show KAll n _ (if l ≥ r then _ else _);split
  ·exact trivial
  ·refine⟨h.lt hn _,h.lt hn _,λb=>?_⟩;cases b with
   | true=>exact Nj hn h k f _ _
   | false=>exact Nj hn h k f _ _
theorem Xd8(hn:0<n):∀f (p:Array Nat) k,Gd n p->KAll n (Gd n) (kas_bin f p k)
 | 0,p,_,h=>h
 | f+1,p,k,h=>KAll.bind (P:=λ_=>True) (λl _=>Xd8 hn f _ _ ((kE p k _).trans h)) (Nj hn h k _ _ _)
def Nk{n}(hn:0<n):KAll n (Gd n) (kas_sort n):=by
 refine KAll.bind (P:=λr=>Gd n r.2) (λa ha=>?_) (Xma hn (So _) n);split
 ·exact Xd8 hn _ _ _ ha
 ·exact ha
section
variable {prog:ap}{w:ax}{A:av}{E:Zb}{s:af}
def Gh (h:am) (v:aa):Prop:=∃a o xs n ss,v = .ref a/\h.get? a=some o/\o.cls = .type "tuple" /\ o.data = .seq xs n/\aE xs.toList ss/\ss≠[]
theorem Xd9  (h:∀c,C c s):∀{us vs:List aa} {as bs:Za} (i:Nat),aE us as->aE vs bs->KatLex prog w A b fin C (us.zip vs) i s
 | _,_,_,_,_,.nil,_=>kat_nil (h _)
 | _,_,_,_,_,.cons _ _ _,.nil=>kat_nil (h _)
 | _,_,_,_,i,.cons x t r,.cons y u r'=>by
  refine kat_cons (eqBool_str ?_);refine kat_go (λ_=>kat_yes (Xd9 h (i+1) r r')) (λ_=>kat_no ?_);cases (b&&i==0) with
  | true=>exact oneLt_str (h _)
  | false=>exact kat_one _ _ (PyProof.Rows.lt_str (h _))
def Xmb  (hx:Gh s.heap x) (hy:Gh s.heap y) (h:∀c,C c s):ai (ah prog w) A (mi (tuples' true) x y) C E s:=by
 obtain⟨a,o,xs,n,ss,rfl,h1,_,h2,h3,_⟩:=hx;obtain⟨b,o',ys,n',qm,rfl,g1,_,g2,g3,_⟩:=hy;exact kat_lt h1 h2 g1 g2 (Xd9 h 0 h3 g3)
theorem Xea:∀{vs:List aa},(∀v∈vs,Gh s.heap v)->∃fs,KatTups s.heap vs fs/\fs.length=vs.length/\∀f∈fs,∃x t,f = .str x t
 | [],_=>⟨[],KatTups.nil,rfl,λ_ h=>by cases h⟩
 | v::vs,h=>by
  obtain⟨fs,h1,h2,h3⟩:=Xea (vs:=vs) λu hu=>h u (Op _ hu);obtain⟨a,o,xs,n,ss,rfl,g1,g2,g3,g4,g5⟩:=h v Ov;obtain⟨f,x,t,hf,rfl⟩:∃f x t,xs[0]? = some f/\f = .str x t:=by
   have e:xs[0]? = xs.toList[0]?:=by simp
   rw[e];generalize xs.toList=l at g4;cases g4 with
   | nil=>exact absurd rfl g5
   | cons x t r=>exact⟨_,x,t,rfl,rfl⟩
  exact⟨_::fs,KatTups.cons g1 g2 g3 hf h1,by simp[h2],λf hf=>by
   rcases Ox.mp hf with e | e
   ·exact⟨x,t,e⟩
   ·exact h3 f e⟩
def Xmc{n}  (hn:vs.length=n)(h:Gd n p):(p.toList.map λi=>vs.getD i aa.none).Perm vs:=by
 have e:((List.range n).map λi=>vs.getD i aa.none)=vs:=by
  refine Ra (by simp[hn]) λi h1 h2=>?_;simp[Qd,List.getElem_range,List.getD,h2]
 have q:p.toList.Perm (List.range n):=by
  have:=h.toList;simpa using this
 have:=q.map λi=>vs.getD i aa.none;rw[e] at this;exact this
def Xmd    (ho:s.heap.get? a=some (ar "list" vs.toArray n)) (hv:∀v∈vs,Gh s.heap v) (cz:vs.length<64)
  (h:∀out:Array aa,out.toList.Perm vs->P (.done (.ret .none)) {s with heap:=BW s.heap a vs out}):ai (ah prog w) A (ak.«list.sort» ⟨[.ref a],[]⟩) P E s:=by
 rw[list_sort_plain];have ha:a<s.heap.objs.size:=Tx ho;refine Tj (dg ho rfl ?_);refine Tj (b9 ho rfl ?_);obtain⟨e1,gc⟩:∃e1,(s.heap.update a (aM.mapSeq λ_ => #[])).get? a=some (ar "list" #[] e1):=⟨_,dw ho (λ_ => #[])⟩;refine Tj (cN gc rfl ?_);refine Tj (dE ?_);refine Tj (bQ ?_);refine a7 ?_;have mZ:(((s.heap.update a (aM.mapSeq λ_ => #[])).push (ar "tuple" vs.toArray 0)).push (ar "list" #[] 0)).get? a=some (ar "list" #[] e1):=by
  rw[am.get?_push_ne _ _ _ (by rw[bz,am.size_update];exact Os (Py ha)),am.get?_push_ne _ _ _ (by rw[am.size_update];exact Os ha)];exact gc
 have vS:∀v∈vs,Gh (((s.heap.update a (aM.mapSeq λ_ => #[])).push (ar "tuple" vs.toArray 0)).push (ar "list" #[] 0)) v:=λv hm=>by
  obtain⟨b,o,xs,k,ss,rfl,g1,g2,g3,g4,g5⟩:=hv v hm;refine⟨b,o,xs,k,ss,rfl,?_,g2,g3,g4,g5⟩;have fw:b≠a:=λe=>by
   rw[e,ho] at g1;have e1:=O4 g1;rw[<-e1] at g2;exact absurd (show aa.type "list" = aa.type "tuple" from g2) (by decide)
  exact Tz _ (Tz _ (by rw[am.get?_update_ne _ _ _ _ fw];exact g1))
 show ai (ah prog w) A _ P E {s with heap:=((s.heap.update a (aM.mapSeq λ_ => #[])).push (ar "tuple" vs.toArray 0)).push (ar "list" #[] 0)};dsimp only;have hsz:vs.toArray.size=vs.length:=by simp
 by_cases h2:vs.toArray.size<2
 ·rw[Tr h2,Tr h2];refine Tj (Tk ?_);rw[StateT.run_pure];refine Tj (Tk ?_);dsimp only;refine Tj (cN mZ rfl ?_);refine Tj (b9 mZ rfl ?_ (hsz2:=by rw[Array.size_map];show (pairsOf vs).size<=_;rw[pairsOf_size,Tp];lia));simp only[bne_self_eq_false,Pf,if_false];refine Tk (h _ ?_);have e:((bi (aV.mk' general' (vs.toArray.zip vs.toArray) #[] 7 none)).map (·.2)).toList=vs:=by
   show ((vs.toArray.zip vs.toArray).map (·.2)).toList=vs;simp only[Array.toList_map,List.zip_toArray];exact Sj (Oi _)
  rw[e]
 ·rw[Tq h2,Tq h2];obtain⟨fs,t1,t2,t3⟩:=Xea (s:={s with heap:=((s.heap.update a (aM.mapSeq λ_ => #[])).push (ar "tuple" vs.toArray 0)).push (ar "list" #[] 0)}) vS;refine Tj (kat_kind (T:=.type "str") t1 (by lia) (λv hm=>?_) (by decide) ?_)
  ·obtain⟨x,t,rfl⟩:=t3 v hm;exact .now
  have eb:((aa.type "str") != aa.type "tuple")=true:=by decide
  rw[eb];refine Tj (aJ (kat_run (κ:=tuples' true) (ks:=vs) (vs:=vs) (Q:=λa8 s'=>s' = {s with heap:=((s.heap.update a (aM.mapSeq λ_ => #[])).push (ar "tuple" vs.toArray 0)).push (ar "list" #[] 0)}/\bp a8=none/\((bi a8).map (·.2)).toList.Perm vs)
   (G:=λp s'=>s' = {s with heap:=((s.heap.update a (aM.mapSeq λ_ => #[])).push (ar "tuple" vs.toArray 0)).push (ar "list" #[] 0)}/\Gd vs.length p) rfl (by lia) cz (λp a8 s' a1 a2 a3 a4=>⟨a4.1,a3,?_⟩) ?_) ?_ λ_ _ e=>e)
  ·rw[kat_snds rfl a2];exact Xmc rfl a4.2
  ·refine KAll.wp (n:=vs.length) (λi j C hi hj hC=>?_) ?_
   ·show ai _ _ (mi (tuples' true) (vs.getD i aa.none) (vs.getD j aa.none)) C _ _;have m:∀i,i<vs.length->vs.getD i aa.none∈vs:=λi hi=>by
     have:vs.getD i aa.none=vs[i]:=by simp[List.getD,hi]
     rw[this];exact Pk hi
    exact Xmb (vS _ (m i hi)) (vS _ (m j hj)) hC
   ·have q:=Nk (n:=vs.length) (by lia);have imp:∀{t:KasT (Array Nat)},KAll vs.length (Gd vs.length) t->KAll vs.length (λp=>({s with heap:=((s.heap.update a (aM.mapSeq λ_ => #[])).push (ar "tuple" vs.toArray 0)).push (ar "list" #[] 0)}:af) = {s with heap:=((s.heap.update a (aM.mapSeq λ_ => #[])).push (ar "tuple" vs.toArray 0)).push (ar "list" #[] 0)}/\Gd vs.length p) t:=by
     intro t
     induction t with
     | ret a=>exact λh=>⟨rfl,h⟩
     | ask i j k ih=>exact λh=>⟨h.1,h.2.1,λb=>ih b (h.2.2 b)⟩
    exact imp q
  rintro ⟨⟨⟩,a8⟩ s' ⟨rfl,hf,hp⟩;dsimp only;refine Tj (cN mZ rfl ?_);refine Tj (b9 mZ rfl ?_ (hsz2:=by
   have:=hp.length_eq;rw[Oq] at this;rw[this,Tp];lia))
  rw[hf];simp only[bne_self_eq_false,Pf,if_false];exact Tk (h _ hp)
def Xme   (hl:s.heap.IsList l vs.toArray) (hv:∀v∈vs,Gh s.heap v) (cz:vs.length<64)
  (h:∀out:Array aa,out.toList.Perm vs->Q (.ref (s.heap.objs.size+1)) {s with heap:=o6 s.heap vs out}):
  ai (ah prog w) A (call (.builtin "sorted") [.ref l]) Q E s:=by
 refine Calls.call_function_entry fG eZ fc (vw _) ?_;unfold ak.«sorted»;refine Tj (m:=gC "sorted" 1 1 _) (Tk ?_);refine Tj (jp hl ?_);refine Tj (bQ ?_);have hsz:((s.heap.push (ar "list" #[] 0)).update s.heap.objs.size (aM.mapSeq (· ++ vs.toArray))).objs.size=s.heap.objs.size+1:=by
  rw[am.size_update,bz]
 have iP:(((s.heap.push (ar "list" #[] 0)).update s.heap.objs.size (aM.mapSeq (· ++ vs.toArray))).push (ar "list" vs.toArray 0)).get? (s.heap.objs.size+1)=some (ar "list" vs.toArray 0):=by
  rw[<-hsz];exact am.get?_push_size _ rfl
 have keep:∀b o,s.heap.get? b=some o->(((s.heap.push (ar "list" #[] 0)).update s.heap.objs.size (aM.mapSeq (· ++ vs.toArray))).push (ar "list" vs.toArray 0)).get? b=some o:=λb o q=>by
  have bf:b<s.heap.objs.size:=Tx q;rw[am.get?_push_ne _ _ _ (by rw[hsz];exact Os (Py bf)),am.get?_update_ne _ _ _ _ (Os bf),am.get?_push_ne _ _ _ (Os bf)];exact q
 show ai _ _ _ _ _ {s with heap:=((s.heap.push (ar "list" #[] 0)).update s.heap.objs.size (aM.mapSeq (· ++ vs.toArray))).push (ar "list" vs.toArray 0)};rw[hsz];refine Tj (a7 (aG dG ⟨_,iP,rfl⟩ du (Xmd iP (λv hm=>?_) cz λout a1=>⟨_,rfl,?_⟩) (rJ _)))
 ·obtain⟨b,o,xs,k,ss,rfl,g1,g⟩:=hv v hm;exact⟨b,o,xs,k,ss,rfl,keep _ _ g1,g⟩
 ·exact Tk ⟨_,rfl,h out a1⟩
end
section
variable {X:Cx}
def Xmf:Bu X (.builtin "sorted") (λxs H Q=>∃(a:ae) (ps:List ae),xs=[.ref a]/\H a=some (.lst (ps.map V.ref))/\(∀p∈ps,∃ss:Za,H p=some (.tup (ss.map V.str))/\ss≠[])/\ps.length<64/\∀(l:ae) (iZ:List ae),H l=none->iZ.Perm ps->Q (.ref l) (upd H l (.lst (iZ.map V.ref)))):=by
 intro pins s Z H xs us Q I r h;obtain⟨a,ps,rfl,ha,ht,cz,q⟩:=h;obtain⟨u,rfl,rx⟩:=Bq r;cases rx;obtain⟨aA,rv,pl,hz⟩:=I.list (SqL.of ha);have kF:aA=ps.map aa.ref:=by
  clear ht cz q hz pl ha
  induction ps generalizing aA with
  | nil=>cases rv;rfl
  | cons p t ih=>
   cases rv with
   | cons r t'=>cases r;rw[ih _ t'];rfl
 subst kF;refine Xme pl.isList (λv hm=>?_) (by rw[Oh];exact cz) λout h1=>?_
 ·obtain⟨p,hp,rfl⟩:=Pd.mp hm;obtain⟨ss,g1,g2⟩:=ht p hp;obtain⟨iq,r2,p2,_⟩:=I.tuple (SqT.of (K:=X.K) g1);obtain⟨o,ho,hc,n,hd⟩:=id p2;exact⟨p,o,iq.toArray,n,ss,rfl,ho,hc,hd,by simpa using F7 r2,g2⟩
 ·obtain⟨e,he⟩:=vM s.heap (ps.map aa.ref) out;have hf:H (s.heap.objs.size+1)=none:=I.hok.fresh (Ql _);obtain⟨iZ,e1,e2⟩:∃iZ:List ae,out.toList=iZ.map aa.ref/\iZ.Perm ps:=by
   have inj:∀{a b:List aa},a.Perm b->∀q:List ae,b=q.map aa.ref->∃q':List ae,a=q'.map aa.ref/\q'.Perm q:=by
    intro a b p
    induction p with
    | nil=>intro q e;exact⟨[],rfl,by cases q with | nil=>exact .nil | cons _ _=>cases e⟩
    | cons x _ ih=>
     intro q e;cases q with
     | nil=>cases e
     | cons y t=>
      injection e with e1 e2
      obtain⟨q',h1,h2⟩:=ih t e2;exact⟨y::q',by rw[h1,e1];rfl,.cons y h2⟩
    | swap x y l=>
     intro q e
     match q,e with
     | u::v::t,e=>
      injection e with e1 e2
      injection e2 with e2 e3
      exact⟨v::u::t,by rw[e1,e2,e3];rfl,.swap u v t⟩
     | [_],e=>injection e with _ e2;cases e2
     | [],e=>cases e
    | trans _ _ i1 i2=>
     intro q e;obtain⟨q1,g1,g2⟩:=i2 q e;obtain⟨q2,g3,g4⟩:=i1 q1 g1;exact⟨q2,g3,g4.trans g2⟩
   exact inj h1 ps rfl
  refine⟨.ref (s.heap.objs.size+1),_,I.laid (t':=s.toks) (h':=o6 s.heap (ps.map aa.ref) out) (o:=.lst (iZ.map V.ref)) (λb ob q=>ut q) (Ql _) ?_,rfl,q _ iZ hf e2⟩;refine⟨by rw[Oh,e2.length_eq,Tp];lia,out.toList,e,?_,?_⟩
  ·rw[e1];clear e1 e2 he h1
   induction iZ with
   | nil=>exact .nil
   | cons p t ih=>exact .cons rfl ih
  ·rw[he]
end
section
variable {X:Cx}
def Xmg:Bu X (.builtin "sorted") (λxs H Q=>∃(a:ae) (ks:Za),xs=[.ref a]/\H a=some (.tup (ks.map V.str))/\ks.length<64/\∀l,H l=none->Q (.ref l) (upd H l (.lst ((srt ks).map V.str)))):=by
 intro pins s Z H xs us Q I r h;obtain⟨a,ks,rfl,ha,cz,q⟩:=h;obtain⟨u,rfl,rx⟩:=Bq r;cases rx;obtain⟨aA,r2,p2,_⟩:=I.tuple (SqT.of (K:=X.K) ha);obtain⟨o,ho,hc,n,hd⟩:=id p2;have hl:aA.length=ks.length:=by
  have:=r2.length;rw[Oh] at this;exact this.symm
 refine Me cz (λR k=>wpAny_collect_seq a (.inr rfl) ho hc hd (λh' kk=>k _ _ ks kk rfl rfl (by simpa using F7 r2) (Qk _)) (by rw[Ol,hl,Tp];lia)) λs1 s' vs ls e k1 o1 g1 k2 o2 g2 he st p so=>?_;refine Mf I cz k1 o1 g1 k2 o2 g2 he st p λl hl=>?_;rw[F8 p so];exact q l hl
def Xmh(hu:X.A.units+4<bD):OpR X (aL .NotIn) (λx y H Q=>∃d ds,DAt H d x/\DAt H (.list ds) y/\d.canLay0=true/\au.canLayAll0 ds=true/\d.depth<=3/\Q (.bl (!ds.any λe=>au.eqv e d)) H):=by
 intro pins s Z H x y v u Q I rx ry h;obtain⟨d,ds,h1,h2,c1,c2,hd,q⟩:=h;obtain⟨as,ra⟩:=Fg I d x v h1 rx;obtain⟨bs,rb⟩:=Fg I (.list ds) y u h2 ry;exact SeqAt.notIn_list_reads rb ra c2 c1 (by lia) ⟨.bl _,H,I,rfl,q⟩
end
end L2
namespace SH
open L2
def tupD (ss:Za):au:=.tuple (ss.map au.str)
def Plts (row:Za) (H:Hp) (ps:List ae):Prop:=∀p∈ps,∃ss:Za,H p=some (.tup (ss.map V.str))/\Ae row ss=true
def Plts.same   (h:Plts row H ps) (s:Same H H'):Plts row H' ps:=λp hp=>let ⟨ss,h1,h2⟩:=h p hp; ⟨ss,s _ _ h1,h2⟩
theorem Xeb:∀{Ts:List (Za)} {xs:List V},DAll H (Ts.map tupD) xs->∃ps:List ae,xs=ps.map V.ref/\ps.length=Ts.length/\∀p∈ps,∃T∈Ts,H p=some (.tup (T.map V.str))
 | [],xs,h=>by unfold List.map DAll at h;exact⟨[],h,rfl,λ_ q=>by cases q⟩
 | T::Ts,xs,h=>by
  rw[O0] at h;unfold DAll at h;obtain⟨v,vr,rfl,h1,h2⟩:=h;obtain⟨p,ys,rfl,hp,hy⟩:=Mq h1;rw[Hz hy] at hp;obtain⟨ps,rfl,hl,hq⟩:=Xeb h2;exact⟨p::ps,rfl,by simp[hl],λq jq=>by
   rcases Ox.mp jq with e | e
   ·exact⟨T,Ov,e ▸ hp⟩
   ·obtain⟨T',h1,h2⟩:=hq q e;exact⟨T',Op _ h1,h2⟩⟩
def Bn(h:Ae row ss=true):(∀x∈ss,x∈row)/\ss.Pairwise ltS:=by
 unfold Ae at h;rw[Oz,Oz] at h;refine⟨λx hx=>Tv (Pg.mp h.1.2 x hx),?_⟩;rw[Tv h.1.1];exact M8 ss
def Ie(h:Ae row ss=true):ss.length<=(dit row).length:=
 Nh (Bj (Bn h).2) λx hx=>Ao.mpr ((Bn h).1 x hx)
def Kd(row):Ae row []=true:=by
 unfold Ae;rw[J6 .nil];rfl
def Xmi  (h2:∀y∈row,row.count y=2) (h:Ae row ss=true) (hx:x∈row) (n:x∉ss) (hf:Cz (bars row) (srt (ss++[x]))=true):Ae row (srt (ss++[x]))=true:=by
 rw[<-J8 h2];unfold Er;rw[hf,Bool.and_true];obtain⟨hr,hl⟩:=Bn h;have nd:(ss++[x]).Nodup:=by
  rw[Qf];exact⟨Bj hl,by simp,λa ha b hb e=>n (by rw[Om.mp hb] at e;exact e ▸ ha)⟩
 refine Tt (M9.mpr ⟨?_,λy hy=>?_⟩)
 ·unfold told;have e1:srt (ddup (srt (ss++[x])))=srt (srt (ss++[x])):=Xcr (J5 ((Cw _).nodup_iff.mpr nd));have e2:srt (srt (ss++[x]))=srt (ss++[x]):=Fa (Cw _) (Eb _) (Eb _);exact(e1.trans e2).symm
 ·rcases Ou.mp (Fb.mp hy) with q | q
  ·exact hr y q
  ·rw[Om.mp q];exact hx
def Xmj  : srt (ss++[x])≠[]:=λe=>by
 have:x∈srt (ss++[x]):=Fb.mpr (by simp);rw[e] at this;cases this
structure Fresh (row:Za) (H:Hp) (f:ae) (xs:List V) (Ts:List (Za)):Prop where
 at':H f=some (.lst xs)
 all:DAll H (Ts.map tupD) xs
 nd:Ts.Nodup
 ok:∀T∈Ts,T≠[]/\Ae row T=true
def Fresh.same    {xs} (h:Fresh row H f xs Ts) (s:Same H H'):Fresh row H' f xs Ts:=⟨s _ _ h.at',DAll.same s _ _ h.all,h.nd,h.ok⟩
def spPlots:Sp:=λvs H Q _=>∃(r:ae) (row:Za),vs=[.ref r]/\H r=some (.lst (row.map V.str))/\Row2 row/\Bk row/\(dit row).length<=14 /\
 ∀(l:ae) (ps:List ae) (H':Hp),H l=none->H' l=some (.lst (ps.map V.ref))->ps≠[]->ps.length<=1000->Plts row H' ps->Same H H'->Q (.ref l) H'
abbrev NPl:Za:=["_law_row_here", "_law_bars_here", "_law_names_here", "_law_told", "_law_layer", "_law_k", "_law_fresh", "_law_plot", "_law_name", "_law_over"]
end SH
namespace L2
section
variable {prog:ap}{w:ax}{A:av}{E:Zb}{h:am}{g:Array rq}{d:r6}{t:Nat}{os:vi}
variable {nm q:ao}{C N:ae}{bs bm vf:List aa}{hdct:Bool}{sn:Za}{sub:List aa}{ab:Bool}{col:Option Bool}{dd:Option ae}{k0 k1 k2 k3 k5:Option aa}{B iV o9:String}
end
end L2
namespace L2
open PySem.W
open Builtin Builtin.ObjectAttr
def Xec:List aa:=[.type "ValueError",.type "Exception",.type "BaseException",.type "object"]
section
variable {prog:ap}{w:ax}{A:av}{E:Zb}{K:Frag}{s:af}{x C:ae}{o:aM}{name:ao}{v:aa}{cd:JZ}{rs:List ae}
end
end L2
namespace L2
def Xmk (h:am) (e:ae) (dd:Option ae):Prop:=∃oe,h.get? e=some oe/\oe.dict=dd
section
variable {M:zh}{A:av}{E:Zb}{s:af}
def Xed (base:am) (l:List dz) (e:ae) (cls a0:aa) (dd:Option ae) (h:am):Prop:=am.FlyingW base l e cls a0 h/\Xmk h e dd
structure MadeD (h h':am) (e:ae) (cls:aa) (args:List aa) (dx:ae):Prop where
 keeps:∀b o,h.get? b=some o->h'.get? b=some o
 new:h.get? e=none
 CO:h.get? dx=none
 there:∃t,h'.get? e=some {cls:=cls,dict:=some dx,data:=.fields #[.ref t,.none,.none,.none,.bool false,.none]}/\h.get? t=none/\h'.get? t=some {cls:=.type "tuple",data:=.seq args.toArray}
end
section
variable {M:zh}{A:av}{E:Zb}{s:af}
end
structure FlownD (P:ap) (w:ax) (outer:List dz) (H:Hp) (hc:am) (H':Hp) (ex C:ae) (dd:Option ae) (B:am) (a0:aa) (h:am):Prop where
 un:Un (frs outer) [] H H' hc h
 hok:HOk P w H' h
 fly:Xed B outer ex (.ref C) a0 dd h
 inB:∀b o,h.get? b=some o->b∉frs outer->((∃o',hc.get? b=some o')\/H' b≠none)->B.get? b=some o
 frf:∀b∈frs outer,H' b=none
def CX2 (P:ap) (w:ax):CXT:=λouter H s E e s'=>
 ∃ex C dd H' B a0,e = .ref ex/\s'.os=s.os/\cA s'.gens/\FlownD P w outer H s.heap H' ex C dd B a0 s'.heap/\E (.ref C) dd H'
section
variable {P:ap}{w:ax}{K:LY}{mg:ao->Option aa}{base:am}{N:Za}{qual:ao}{scope:bI}{f:ae}{cd:aa}{A:av}{outer:List dz}{s:af}{H:Hp}{E:XK}
def Xr0 (X:Cx) (E:XK):Prop:=∀(pins:List (ae×aM)) (Z:St) (H:Hp) (s:af) (h':am) (ex C:ae) (args:List aa),
 Inv X pins Z H s->am.MadeExcOf s.heap h' ex (.ref C) args->E (.ref C) none H->X.xe (.ref ex) {s with heap:=h'}
end
def made (t:ae):Array aa := #[.ref t,.none,.none,.none,.bool false,.none]
def excN (a C:ae) (h:am):Prop:=∃t sl,h.get? a=some ⟨.ref C,none,.fields (made t),sl⟩
def excW (a C dx:ae) (h:am):Prop:=∃t sl,h.get? a=some ⟨.ref C,some dx,.fields (made t),sl⟩
def xdP (dx:ae) (fs:List (ao×V)) (h:am):Prop:=∃mA,h.Ns1 dx mA/\∀f,Cj (fs.lookup f) (mA f)
structure ExK (K:LY) (C:ae) (f:ao):Prop where
 cls:∃(cd:JZ) (rs:List ae),NC K C=some cd/\cd.mro=rs.map aa.ref++Xec/\cd.hasDict=true
 sa:MB K (.ref C) "__setattr__" = some (some (.builtin "object.__setattr__"))
 no:MB K (.ref C) f=some none
section
variable {X:Cx}{pins:List (ae×aM)}{Z:St}{H:Hp}{s:af}{A:av}{E:Zb}
end
section
variable {M:zh}{A:av}{E:Zb}{s:af}{env:dz}
variable {nm q:ao}{C N:ae}{bs bm:List aa}{hdct:Bool}{sn:Za}{sub:List aa}{ab:Bool}{col:Option Bool}{dd:Option ae}{k0 k1 k2 k3 k5:Option aa}{iV:String}
end
section
variable {prog:ap}{w:ax}{A:av}{E:Zb}{s:af}{env:dz}
variable {nm q:ao}{C N:ae}{bs bm vf:List aa}{hdct:Bool}{sn:Za}{sub:List aa}{ab:Bool}{col:Option Bool}{dd:Option ae}{k0 k1 k2 k3 k5:Option aa}{B iV o9:String}
end
section
variable {P:ap}{w:ax}{K:LY}{mg:ao->Option aa}{base:am}{N:Za}{qual:ao}{scope:bI}{f:ae}{cd:aa}{A:av}{outer:List dz}{s:af}{H:Hp}{E:XK}
end
def Xml (K:LY) (C fI:ae):Bool:=match K.lookup C with
 | some ⟨.type "type",_,.cls cd,sl⟩=>(match cd.mro,sl.toList with
  | .ref C'::bm,[_,_,_,_,some (.builtin n),_]=>C'==C&&n == "ValueError.__new__" && !cd.hasDel&&PySem.W.tailIn K bmV bm&&PySem.W.nsOkIn K cd.ns&&MC K cd.ns "__init__" == some (some (.ref fI))&&(K.lookup fI).any (λo=>o.cls == .type "function")
  | _,_=>false)
 | _=>false
def Xr1 (C:ae) (f:ao) (E:XK) (t:TA):TS:=λ_ Z H=>t Z H λvs H1=>∃y,vs=[y]/\∀ex dx,H1 ex=none->H1 dx=none->dx≠ex->E (.ref C) (some dx) (hid ex (upd (upd (upd H1 ex (.ext (excN ex C))) ex (.ext (excW ex C dx))) dx (.ext (xdP dx [(f,y)]))))
section
variable {M:zh}{A:av}{E:Zb}{s:af}
end
def Xmm (ex C:ae) (dd:Option ae) (h:am):Prop:=∃o vs,h.get? ex=some o/\o.cls = .ref C/\o.data = .fields vs/\o.dict=dd
def Xee (ex C:ae) (dd:Option ae):HO:=.ext (Xmm ex C dd)
def Cx.tryD (X:Cx) (pn:List (ae×aM)) (R:ae->Option ae->St->Hp->Prop):Cx:=X.re pn X.A X.calm λe s1=>
 ∃Z Hc sc,Inv (X.re pn X.A X.calm λ_ _=>True) [] Z Hc sc/\CX2 X.prog X.w X.stack Hc sc (λc dd H1=>∃C,c = .ref C/\R C dd Z H1) e s1
section
variable {X:Cx}{pn:List (ae×aM)}{R:ae->Option ae->St->Hp->Prop}{k:Nat}{f:ae}{fd:aw}{ps:Za}{sp:Sp}{fC:List V}{ds:List aa}{x:ao}{p pos:bN}{e:aF}{es:List aF}{t:TA}
end
abbrev THd:=ae->Option ae->Ends->St->Hp->Prop
structure Landed (X:Cx) (pins:List (ae×aM)) (ex c:ae) (dd:Option ae) (Z1:St) (H1:Hp) (B:am) (a0:aa) (s1 s5:af):Prop where
 step:∀(h5:am) (tk:Nat),B.StaysIn h5->s1.heap.UpToSlots h5->Inv (X.re (X.pn++pins) X.A X.calm λ_ _=>True) [] Z1 H1 {s1 with heap:=h5,toks:=tk}
 fly:Xed B (X.env::X.outer) ex (.ref c) a0 dd s5.heap
 up:s1.heap.UpToSlots s5.heap
 as:s5 = {s1 with heap:=s5.heap}
 own:∀h5,B.StaysIn h5->s1.heap.UpToSlots h5->∀o,h5.get? ex=some o->ex∉frs (X.env::X.outer)->H1 ex=none/\X.s₀.heap.get? ex=none/\∀p∈(X.pn++pins)++[],p.1≠ex
section
variable {X:Cx}{pos np jh:bN}{b0:aP}{suite:List aP}{n x:ao}{i:Nat}{Cc:ae}{th:TS}{rest:THd}{hs:List dY}
def tHd (K:LY) (i:Nat) (Cc:ae) (th:TS) (rest:THd):THd:=λC dd D Z H=>∃b,M' K (.ref C) (.ref Cc)=some b/\if b=true then
 ∀ex,H ex=none->th {nx:=fun Z2 H2=>D.nx (Z2.set i none) H2,rt:=D.rt,bk:=fun Z2 H2=>D.bk (Z2.set i none) H2,ct:=fun Z2 H2=>D.ct (Z2.set i none) H2} (Z.set i (some (.ref ex))) (upd H ex (Xee ex C dd))
 else rest C dd D Z H
end
section
variable {X:Cx}{pos:bN}{body:List aP}{h0:dY}{hs:List dY}{tb:(ae->Option ae->St->Hp->Prop)->TS}{th:THd}
def tTryD (tb:(ae->Option ae->St->Hp->Prop)->TS) (th:THd):TS:=λD Z H=>∃R:ae->Option ae->St->Hp->Prop,tb R D Z H/\∀C dd Z1 H1,R C dd Z1 H1->th C dd D Z1 H1
end
section
variable {prog:ap}{w:ax}{A:av}{E:Zb}{K:LY}{C a:ae}{h:am}{g:Array rq}{d:r6}{t:Nat}{os:vi}{ox:aM}{od:Option aM}{name:ao}{v:aa}
end
def tFldE (K:LY) (ta:TE) (f:ao):TE:=fun Z H Q=>ta Z H λx H1=>∃a C dx fs v,x = .ref a/\H1 a=some (Xee a C (some dx))/\H1 dx=some (.ext (xdP dx fs))/\ExcF K C/\ExK K C f/\fs.lookup f=some v/\Q v H1
section
variable {X:Cx}{e:aF}{f:ao}{pos:bN}{ta:TE}
end
section
variable {X:Cx}
end
section
variable {X:Cx}{a b c d:aF}{ta tb tc td:TE}{pos:bN}{es:List aF}{t:St->Hp->(Hp->Prop)->Prop}{e:aF}{te:TE}
def Xr2 (r r' vT:R2) (ta tb tc td:TE):TT:=fun Z H Q=>ta Z H λx H1=>tb Z H1 λy H2=>r x y H2 λz H3=>∃k,z = .bl k /\
 (if k=true then tc Z H3 λw H4=>r' y w H4 λz' H5=>∃k',z' = .bl k'/\(if k'=true then td Z H5 λu H6=>vT w u H6 λz2 H7=>∃k2,z2 = .bl k2/\Q k2 H7 else Q false H5) else Q false H3)
end
def Tups (H:Hp) (ps:List ae) (Ts:List (Za)):Prop:=ps.length=Ts.length/\∀i,i<ps.length->H (ps.getD i 0)=some (.tup ((Ts.getD i []).map V.str))
def Tups.same   (h:Tups H ps Ts) (s:Same H H'):Tups H' ps Ts:=⟨h.1,λi hi=>s _ _ (h.2 i hi)⟩
def Tups.nil(H):Tups H [] []:=⟨rfl,λi hi=>absurd hi (Qo _)⟩
def Tups.cons{H}{p}{T}{ps}{Ts}(h:H p=some (.tup (T.map V.str)))(r:Tups H ps Ts):Tups H (p::ps) (T::Ts):=by
 refine⟨by simp[r.1],λi hi=>?_⟩;cases i with
 | zero=>exact h
 | succ i=>exact r.2 i (by simpa using hi)
theorem Tups.app:∀{ps qs:List ae} {Ts Us:List (Za)},Tups H ps Ts->Tups H qs Us->Tups H (ps++qs) (Ts++Us)
 | [],qs,Ts,Us,h,g=>by
  have:Ts=[]:=Px.mp h.1.symm;rw[this];exact g
 | p::ps,qs,[],Us,h,g=>by have:=h.1;simp at this
 | p::ps,qs,T::Ts,Us,h,g=>by
  have r:Tups H ps Ts:=⟨by simpa using h.1,λi hi=>by simpa using h.2 (i+1) (by simpa using hi)⟩;exact Tups.cons (h.2 0 (by simp)) (Tups.app r g)
end L2
namespace SH
open L2
def Nl  : B0 h9 ln=true↔(h9 = "within" -> ln=true)/\(h9 = "apart" -> ln=false):=by
 unfold B0;by_cases h:h9 = "within"
 ·rw[Tr h];have n:h9 ≠ "apart" := by rw[h];decide
  exact⟨λz=>⟨λ_=>z,λz=>absurd z n⟩,λz=>z.1 h⟩
 ·rw[Tq h];by_cases g:h9 = "apart"
  ·rw[Tt g];constructor
   ·exact λz=>⟨λq=>absurd q h,λ_=>by simpa using z⟩
   ·intro z;rw[z.2 g];rfl
  ·rw[Tu g];exact⟨λ_=>⟨λq=>absurd q h,λq=>absurd q g⟩,λ_=>rfl⟩
def Ig:Ae row S=true↔S.Pairwise ltS/\(∀x∈S,x∈row)/\(∀x∈S,∀y∈row,lieR row x y = "within" -> y∈S)/\(∀x∈S,∀y∈S,lieR row x y ≠ "apart"):=by
 constructor
 ·intro h;obtain⟨h1,h2⟩:=Bn h;unfold Ae at h;rw[Oz] at h;have al:∀x∈S,∀y∈row,B0 (lieR row x y) (decide (y∈S))=true:=λx hx y hy=>Pg.mp (Pg.mp h.2 x hx) y (Ao.mpr hy);refine⟨h2,h1,λx hx y hy e=>Tv ((Nl.mp (al x hx y hy)).1 e),λx hx y hy e=>?_⟩;have:=(Nl.mp (al x hx y (h1 y hy))).2 e;rw[Tt hy] at this;cases this
 ·rintro ⟨h1,h2,h3,h4⟩;unfold Ae;rw[Oz,Oz];refine⟨⟨Tt (J6 h1).symm,Pg.mpr λx hx=>Tt (h2 x hx)⟩,Pg.mpr λx hx=>Pg.mpr λy hy=>Nl.mpr ⟨λe=>Tt (h3 x hx y (Ao.mp hy) e),λe=>Tu λz=>h4 x hx y z e⟩⟩
def Ke(h:lieT a b c e = "within"):c<a/\a<e/\c<b/\b<e:=by
 unfold lieT at h;split at h
 ·exact absurd h (by decide)
 ·split at h
  ·exact absurd h (by decide)
  ·split at h
   ·rename_i q;rw[Ce] at q;by_cases p1:c<a/\a<e
    ·by_cases p2:c<b/\b<e
     ·exact⟨p1.1,p1.2,p2.1,p2.2⟩
     ·rw[Tr p1,Tq p2] at q;lia
    ·rw[Tq p1] at q;split at q<;>lia
   ·split at h
    ·exact absurd h (by decide)
    ·exact absurd h (by decide)
def Xef  (hx:row.count x=2) (h:lieR row x y = "within"):span row x<span row y:=by
 have l1:=Cd hx;obtain⟨h1,h2,h3,h4⟩:=Ke h;unfold span
 lia
def Xmn{S:Za}(h:S.Pairwise ltS):(S.filter p).Pairwise ltS:=h.filter p
theorem Xeg:∀{Ts:List (Za)} {xs:List V},DAll H (Ts.map tupD) xs->∃ps:List ae,xs=ps.map V.ref/\Tups H ps Ts
 | [],xs,h=>by unfold List.map DAll at h;exact⟨[],h,Tups.nil H⟩
 | T::Ts,xs,h=>by
  rw[O0] at h;unfold DAll at h;obtain⟨v,vr,rfl,h1,h2⟩:=h;obtain⟨p,ys,rfl,hp,hy⟩:=Mq h1;rw[Hz hy] at hp;obtain⟨ps,rfl,hq⟩:=Xeg h2;exact⟨p::ps,rfl,Tups.cons hp hq⟩
def Cov (row:Za) (Us:List (Za)) (j:Nat) (Ts:List (Za)):Prop:=∀i,i<j->∀x∈row,x∉Us.getD i []->Ae row (srt (Us.getD i []++[x]))=true->srt (Us.getD i []++[x])∈Ts
theorem Xeh{α : Type}{R}(irr:∀a,¬R a a)(tr:∀a b c,R a b->R b c->R a c):∀{A B:List α},A.Pairwise R->B.Pairwise R->(∀x,x∈A↔x∈B)->A=B
 | [],[],_,_,_=>rfl
 | [],b::_,_,_,h=>absurd ((h b).mpr Ov) (by simp)
 | a::_,[],_,_,h=>absurd ((h a).mp Ov) (by simp)
 | a::A,b::B,hA,hB,h=>by
  obtain⟨a1,a2⟩:=Rc.mp hA;obtain⟨b1,b2⟩:=Rc.mp hB;have e:a=b:=by
   rcases Ox.mp ((h a).mp Ov) with z | z
   ·exact z
   ·rcases Ox.mp ((h b).mpr Ov) with u | u
    ·exact u.symm
    ·exact absurd (tr _ _ _ (a1 b u) (b1 a z)) (irr a)
  subst e;rw[Xeh irr tr a2 b2 λx=>?_];constructor
  ·intro hx;rcases Ox.mp ((h x).mp (Op _ hx)) with z | z
   ·exact absurd (z ▸ a1 x hx) (irr a)
   ·exact z
  ·intro hx;rcases Ox.mp ((h x).mpr (Op _ hx)) with z | z
   ·exact absurd (z ▸ b1 x hx) (irr a)
   ·exact z
def LayC (row:Za) (n:Nat) (Us:List (Za)):Prop:=∀T,T∈Us↔Ae row T=true/\T.length=n
end SH
namespace L2
end L2
namespace SH
open L2
def Xei:Sp:=λvs H Q _=>∃(dr sc l:ae) (xs:List V),vs=[.ref dr,.ref l]/\DrawOk H dr sc/\H l=some (.lst xs)/\l≠dr/\0<xs.length/\xs.length<=1000 /\
 ∀(i:Nat) (H':Hp),i<xs.length->DrawOk H' dr sc->But dr H H'->Q (xs.getD i .non) H'
def mostL (a b c:Za):Za:=srt ((a.filter λx=>decide (x∈b)||decide (x∈c))++(b.filter λx=>decide (x∈c) && !decide (x∈a)))
def lt_uniq{a b:Za}(ha:a.Pairwise ltS)(hb:b.Pairwise ltS)(h:∀x,x∈a↔x∈b):a=b:=Xeh Jr (λ_ _ _=>Js) ha hb h
end SH
set_option maxHeartbeats 3200000
namespace L2
open PySem.Calls
def it5 (mask:Nat):Nat->Nat->Nat
 | 0,i=>i
 | m+1,i=>it5 mask m ((i * 5+1) % (mask+1))
def Xmo:∀i<8,∀j<8,∃m<8,it5 7 m i=j:=by decide +kernel
def Xmp:∀i<16,∀j<16,∃m<16,it5 15 m i=j:=by decide +kernel
def Xmq:∀i<32,∀j<32,∃m<32,it5 31 m i=j:=by decide +kernel
def Mask (mask:Nat):Prop:=mask=7\/mask=15\/mask=31
def Xmr(h:Mask mask):∀i<mask+1,∀j<mask+1,∃m<mask+1,it5 mask m i=j:=by
 rcases h with rfl | rfl | rfl
 ·exact Xmo
 ·exact Xmp
 ·exact Xmq
section
variable {mask:Nat}{owner:Array (Option Nat)}
abbrev Free (owner:Array (Option Nat)) (j:Nat):Prop:=owner.getD j (some 0)=none
def Xej(fuel i p):(∃j,ag.layClean.free mask owner (fuel+1) i p=some j/\Free owner j) \/
  (¬Free owner i/\ag.layClean.free mask owner (fuel+1) i p=ag.layClean.free mask owner fuel ((i * 5+1+p / 32) % (mask+1)) (p / 32)):=by
 rw[ag.layClean.free];cases hf:(List.range (ag.runEnd mask i+1 - i)).find? λk=>(owner.getD (i+k) (some 0)).isNone with
 | some k=>
  left;refine⟨i+k,rfl,?_⟩;have:=List.find?_some hf;exact Option.isNone_iff_eq_none.mp this
 | none=>
  right;refine⟨λz=>?_,rfl⟩;rw[List.find?_eq_none] at hf;have hr:0<ag.runEnd mask i+1 - i:=by
   unfold ag.runEnd;split<;>lia
  have:=hf 0 (P2.mpr hr);rw[Nat.add_zero] at this;have z:owner.getD i (some 0)=none:=z;rw[z] at this;exact this rfl
theorem Xek:∀fuel i,(∃m,m<fuel/\Free owner (it5 mask m i))->∃j,ag.layClean.free mask owner fuel i 0=some j/\Free owner j
 | 0,_,⟨_,h,_⟩=>absurd h (Qo _)
 | fuel+1,i,⟨m,hm,hf⟩=>by
  rcases Xej (mask:=mask) (owner:=owner) fuel i 0 with h | ⟨h1,h2⟩
  ·exact h
  ·rw[h2];cases m with
   | zero=>exact absurd hf h1
   | succ m=>exact Xek fuel _ ⟨m,by lia,hf⟩
theorem Xel:∀c fuel i p,p<32 ^ c->i<mask+1->(∀i,i<mask+1->∃m,m<fuel/\Free owner (it5 mask m i))->∃j,ag.layClean.free mask owner (fuel+c) i p=some j/\Free owner j
 | 0,fuel,i,p,hp,hi,h=>by
  have:p=0:=by lia
  subst this;exact Xek fuel i (h i hi)
 | c+1,fuel,i,p,hp,hi,h=>by
  rcases Xej (mask:=mask) (owner:=owner) (fuel+c) i p with h' | ⟨_,h2⟩
  ·exact h'
  ·rw[<-Nat.add_assoc,h2];exact Xel c fuel _ _ (by rw[Nat.pow_succ] at hp;lia) (S9 _ (by lia)) h
def C9 (owner:Array (Option Nat)):List Nat:=owner.toList.filterMap id
def Xms(h:Free owner j):(C9 (owner.setIfInBounds j (some k))).Perm (k::C9 owner):=by
 have hj:j<owner.size:=by
  by_cases q:j<owner.size
  ·exact q
  ·have h:owner.getD j (some 0)=none:=h;simp[Array.getD,q] at h
 have h':owner.toList[j]'(by simpa using hj)=none:=by
  have h:owner.getD j (some 0)=none:=h;simpa [Array.getD,hj] using h
 unfold C9;rw[Array.toList_setIfInBounds];have e:∀(l:List (Option Nat)) (j:Nat) (hj:j<l.length),l[j]=none->((l.set j (some k)).filterMap id).Perm (k::l.filterMap id):=by
  intro l
  induction l with
  | nil=>intro j hj;exact absurd hj (Qo _)
  | cons o l ih=>
   intro j hj hn;cases j with
   | zero=>
    have:o=none:=hn;subst this;simp
   | succ j=>
    have:=ih j (by simpa using hj) (by simpa using hn);cases o with
    | none=>simpa using this
    | some v=>
     simp only[List.set_cons_succ,Qj,id];exact(this.cons v).trans (List.Perm.swap k v _)
 exact e _ j (by simpa using hj) h'
def Xmt(hn:(C9 owner).length<owner.size):∃j,j<owner.size/\Free owner j:=by
 refine Classical.byContradiction λz=>?_;have all:∀o∈owner.toList,o≠none:=λo ho e=>by
  obtain⟨j,hj,e2⟩:=P3.mp ho;have fj:j<owner.size:=by simpa using hj
  refine z ⟨j,fj,?_⟩;show owner.getD j (some 0)=none;rw[<-e,<-e2];simp[Array.getD,fj]
 have:(C9 owner).length=owner.toList.length:=by
  unfold C9;generalize owner.toList=l at all;clear hn z
  induction l with
  | nil=>rfl
  | cons o l ih=>
   cases o with
   | none=>exact absurd rfl (all none Ov)
   | some v=>
    have:=ih λo ho=>all o (Op _ ho);simp only[Qj,id,O5,this]
 exact absurd hn (by rw[this,Oq];exact P1 _)
end
def Xmu(h):ag.bits h<32 ^ 14:=by
 unfold ag.bits;have h1:h % (2 ^ 64:Int)<2 ^ 64:=Rt _ (by decide);have h2:0<=h % (2 ^ 64:Int):=R9 _ (by decide);have:(h % (2 ^ 64:Int)).toNat<2 ^ 64:=by lia
 exact O7 this (by decide)
def Nm (mask:Nat) (acc:Option (Array (Option Nat)×Nat)) (h:Int):Option (Array (Option Nat)×Nat):=do
 let (owner,k) <-acc
 let j <-ag.layClean.free mask owner (ag.turns mask) (ag.bits h % (mask+1)) (ag.bits h)
 pure (owner.setIfInBounds j (some k),k+1)
theorem Xem(hm:Mask mask):∀(hs:List Int) (owner:Array (Option Nat)) (k:Nat),owner.size=mask+1->(C9 owner).Perm (List.range k)->k+hs.length<=mask ->
  ∃iA,hs.foldl (Nm mask) (some (owner,k))=some (iA,k+hs.length)/\iA.size=mask+1/\(C9 iA).Perm (List.range (k+hs.length))
 | [],owner,k,h1,h2,_=>⟨owner,rfl,h1,h2⟩
 | h::hs,owner,k,h1,h2,h3=>by
  have hl:(C9 owner).length=k:=by rw[h2.length_eq,Qg]
  rw[O5] at h3;obtain⟨j0,vU,uv⟩:=Xmt (owner:=owner) (by lia);obtain⟨j,e,hf⟩:=Xel (mask:=mask) (owner:=owner) 14 (mask+1) (ag.bits h % (mask+1)) (ag.bits h) (Xmu h) (S9 _ (by lia)) λi hi=>by
   obtain⟨m,mY,qp⟩:=Xmr hm i hi j0 (by lia);exact⟨m,mY,by rw[qp];exact uv⟩
  have e1:Nm mask (some (owner,k)) h=some (owner.setIfInBounds j (some k),k+1):=by
   show (do let j <-ag.layClean.free mask owner (ag.turns mask) (ag.bits h % (mask+1)) (ag.bits h);pure (owner.setIfInBounds j (some k),k+1))=_;have:ag.turns mask=mask+1+14:=by unfold ag.turns;lia
   rw[this,e];rfl
  rw[Rv,e1];obtain⟨o',a1,a2,a3⟩:=Xem hm hs (owner.setIfInBounds j (some k)) (k+1) (by simpa using h1) (by
   refine(Xms hf).trans ((h2.cons k).trans ?_);rw[P9];exact(List.perm_append_singleton k (List.range k)).symm) (by lia)
  rw[show k+(h::hs).length=k+1+hs.length by rw[O5];lia];exact⟨o',a1,a2,a3⟩
def Xmv(mask)(hs):ag.layClean mask hs=(hs.toList.foldl (Nm mask) (some (Array.replicate (mask+1) none,0))).map (·.1):=by
 unfold ag.layClean;rw[<-Array.foldl_toList];rfl
def Xen:∀owner,((List.range owner.size).filterMap λj=>(owner.getD j none).map (j, ·)).map (·.2)=C9 owner:=by
 intro owner;unfold C9;rw[List.map_filterMap];have e:owner.toList=(List.range owner.size).map λj=>owner.getD j none:=by
  refine Ra (by simp) λi h1 h2=>?_;have:i<owner.size:=by simpa using h1
  simp[Array.getD,this]
 rw[e,Sv];congr 1;funext j;show Option.map _ (Option.map _ (owner.getD j none))=owner.getD j none;cases owner.getD j none<;>rfl
def Xmw{mask finger moves}{led plain}{hs}(hm:Mask mask)(hn:hs.size<=mask):
  ∃t o,ag.laid mask finger moves led plain hs=some (t,o)/\o.toList.Perm (List.range hs.size)/\t.fits hs.size=true/\t.led=led/\t.plain=plain:=by
 obtain⟨owner,e1,e2,e3⟩:=Xem hm hs.toList (Array.replicate (mask+1) none) 0 (by simp) (by
  unfold C9;rw[Array.toList_replicate];have:∀n,(List.replicate n (none:Option Nat)).filterMap id=[]:=λn=>by
   induction n with
   | zero=>rfl
   | succ n ih=>rw[Qs];simpa using ih
  rw[this];exact Qk _) (by simpa using hn)
 rw[Oq,Qi] at e1 e3;have ec:ag.layClean mask hs=some owner:=by rw[Xmv,e1];rfl
 unfold ag.laid;rw[ec];refine⟨_,_,rfl,?_,?_,rfl,rfl⟩
 ·show (((List.range (mask+1)).filterMap λj=>(owner.getD j none).map (j, ·)).map (·.2)).Perm _;rw[<-e2,Xen];exact e3
 ·have l1:(((List.range (mask+1)).filterMap λj=>(owner.getD j none).map (j, ·))).length=hs.size:=by
   have:=congrArg List.length (Xen owner);rw[Oh,e2,e3.length_eq,Qg] at this;exact this
  simp only[ag.fits,ag.fill,Oz,beq_iff_eq,decide_eq_true_eq,Ol,Oh,l1];exact⟨trivial,by simpa using hn⟩
def Xmx{mask finger moves}{led plain}(hm:Mask mask):∃t,ag.laid mask finger moves led plain #[]=some (t, #[])/\t.mask=mask/\t.place = #[]/\t.dummies = #[]/\t.led=led/\t.plain=plain:=by
 have ec:ag.layClean mask #[]=some (Array.replicate (mask+1) none):=rfl;unfold ag.laid;rw[ec];have l0:((List.range (mask+1)).filterMap λj=>((Array.replicate (mask+1) (none:Option Nat)).getD j none).map (j, ·))=[]:=by
  rw[List.filterMap_eq_nil_iff];intro j hj;have:j<mask+1:=P2.mp hj;simp[Array.getD,this]
 refine⟨⟨mask, #[], #[],finger,led,moves,plain⟩,?_,rfl,rfl,rfl,rfl,rfl⟩;show some (_,_)=_;rw[l0];rfl
def reord (es:Array (Int×aa)) (laid:Option (ag×Array Nat)):fK (Array (Int×aa)×ag):=do
 let some (t,rS):=laid | unsupported "internal:set-table-without-room"
 let cG:=rS.filterMap (es[·]?)
 if cG.size != es.size then unsupported "internal:set-table-lost-an-element"
 pure (cG,t)
def Xmy(a:ae)(iB:Nat):setRelay a iB=(do
  let (es,_,t) <-gD a
  if ag.sizeAbove iB > sizeLine then unsupported "set:memory"
  let (es,t) <-reord es (t.relaid (es.map (·.1)) iB)
  gz a es t):=rfl
def Xmz(s o:ae)(i6:fK Unit):setMerge s o i6=(do
  if s==o then return
  let (eo,kG,to) <-gD o
  if eo.isEmpty then return
  mj s eo.size
  let (_,_,ts) <-gD s
  match ts.road to with
  | .slotForSlot=>gz s eo {to with finger:=ts.finger,led:=ts.led&&to.led,moves:=ts.moves,plain:=ts.plain&&to.plain}
  | .clean=>
   let (es,t) <-reord eo (ag.laid ts.mask ts.finger ts.moves (led:=ts.led&&to.led) (plain:=ts.plain&&to.plain) (eo.map (·.1)))
   gz s es t
  | .oneByOne=>
   for (h,x) in <-iC o [s] (some s) do
    let _ <-holding [x] (cY s x h)
    i6
    if (<-gD o).2.1 != kG then unsupported "set.changed-during-merge"):=rfl
def Nn (es:Array (Int×aa)) (t:ag):fK Unit:=do
 if !t.led&&es.size > 1 then unsupported "set:maker-not-led"
def Xm0(a:ae):mT a=(do
  let (es,kG,t) <-gD a
  if <-cr then return bX ((<-ask).params.setOrder a kG) es
  if !t.plain&&decide (es.size > 1) then return (<-iW es.size es.toList).toArray
  Nn es t
  return es):=rfl
def Xm1:∀m<16,5<=m->(ag.sizeAbove (m * 2) - 1=15\/ag.sizeAbove (m * 2) - 1=31)/\m<=ag.sizeAbove (m * 2) - 1/\¬ag.sizeAbove (m * 2) > sizeLine:=by decide +kernel
section
variable {P:ap}{w:ax}{A:av}{E:Zb}{s:af}{a b c:ae}{ks ls:Za}
def wp_reord{es}   (h:o.toList.Perm (List.range es.size))(q:∀cG:Array (Int×aa),cG.toList.Perm es.toList->cG.size=es.size->Q (cG,t) s):
  ai (ah P w) A (reord es (some (t,o))) Q E s:=by
 have p:(o.filterMap (es[·]?)).toList.Perm es.toList:=by
  rw[Array.toList_filterMap];have:=h.filterMap (λi=>es[i]?)
  rwa [filterMap_getElem?_range] at this
 have z:(o.filterMap (es[·]?)).size=es.size:=by rw[<-Oq,p.length_eq,Oq]
 unfold reord;dsimp only;rw[z];simp only[bne_self_eq_false,Pf,if_false];exact Tk (q _ p z)
def Kf(hT:s.TypeIs (.ref a) "set")(h:Q true s):ai (ah P w) A (ak.Frozenset.isAnySet (.ref a)) Q E s:=by
 unfold ak.Frozenset.isAnySet;show ai _ _ (lV (.ref a) (.type "set") >>= λb=>_) _ _ s;refine Tj (cu hT ji ?_);exact Tk h
def Xm2(hT:s.TypeIs (.ref a) "set")(h:Q (.type "set") s):ai (ah P w) A (ak.Frozenset.baseOf a) Q E s:=by
 unfold ak.Frozenset.baseOf;refine Tj (cu hT ji ?_);exact Tk h
def SSet.typeIs(S:SSet P w s.heap a ks):s.TypeIs (.ref a) "set" := by
 obtain⟨o,_,_,_,_,ho,hex,_⟩:=S;exact⟨o,ho,hex.1⟩
structure Nu (w:ax) (h:am) (a:ae) (n:Nat):Prop where
 ex:∃o ep t,h.get? a=some o/\o.ExactSet/\o.data = .set #[] ep t/\t.place = #[]/\t.dummies = #[]/\Mask t.mask/\n<=t.mask/\t.led = !A6 w/\t.plain=true
def Xm3{t:ag}(h1:t.place = #[])(h2:t.dummies = #[]):t.fits 0=true:=by
 simp[ag.fits,ag.fill,h1,h2]
def Xm4    (ho:s.heap.get? a=some o) (hex:o.ExactSet) (hd:o.data = .set #[] ep (.fresh 0 0 (!A6 w))) (hn:n<16)
  (h:∀h',am.SameBut a s.heap h'->Nu w h' a n->Q () {s with heap:=h'}):ai (ah P w) A (mj a n) Q E s:=by
 have hf:(ag.fresh 0 0 (!A6 w)).fits (#[]:Array (Int×aa)).size=true:=rfl;unfold mj;refine Tj (aD ho hd hf ?_);dsimp only;by_cases hr:n * 5 ≥ 21
 ·have e:(ag.fresh 0 0 (!A6 w)).roomFor n=some (n * 2):=by
   unfold ag.roomFor;rw[Tr (by show (0+0+n) * 5 ≥ 7 * 3;lia)];show some ((0+n) * 2)=_;rw[Qi]
  rw[e];dsimp only;rw[Xmy];refine Tj (aD ho hd hf ?_);dsimp only;obtain⟨m1,m2,m3⟩:=Xm1 n hn (by lia);have hM:Mask (ag.sizeAbove (n * 2) - 1):=.inr m1;rw[Tq m3];obtain⟨t,e1,t1,t2,t3,t4,t5⟩:=Xmx (finger:=(ag.fresh 0 0 (!A6 w)).finger) (moves:=(ag.fresh 0 0 (!A6 w)).movedTo (ag.sizeAbove (n * 2) - 1)) (led := !A6 w) (plain:=true) hM;have e2:(ag.fresh 0 0 (!A6 w)).relaid ((#[]:Array (Int×aa)).map (·.1)) (n * 2)=some (t, #[]):=by
   unfold ag.relaid;rw[Array.map_empty];exact e1
  rw[e2];refine Tj (wp_reord (es := #[]) (by simp) λcG p z=>?_);have:cG = #[]:=Array.eq_empty_of_size_eq_zero z;subst this;refine bw ho hd ?_ (Pi _);have g:=am.get?_update_self (aM.putSet #[] t) ho (by rw[bW #[] t hd];rfl);rw[bW #[] t hd] at g;exact h _ (T0 _ a _) ⟨_,ep+1,t,g,hex,rfl,t2,t3,by rw[t1];exact hM,by rw[t1];exact m2,t4,t5⟩
 ·have e:(ag.fresh 0 0 (!A6 w)).roomFor n=none:=by
   unfold ag.roomFor;rw[Tq (by show ¬(0+0+n) * 5 ≥ 7 * 3;lia)]
  rw[e];exact Tk (h _ (am.SameBut.refl a _) ⟨o,ep,_,ho,hex,hd,rfl,rfl,.inl rfl,by show n<=7;lia,rfl,rfl⟩)
def Xm5{id}  {ep}(ho:s.heap.get? c=some o)(hex:o.ExactSet)(hd:o.data = .set #[] ep (.fresh 0 0 (!A6 w)))(S:SSet P w s.heap b ls)(hl:ls.length<16)(CP:c≠b)
  (h:∀h',am.SameBut c s.heap h'->SSet P w h' c ls->Q () {s with heap:=h'}):ai (ah P w) A (ak.Frozenset.merge id c b) Q E s:=by
 obtain⟨ob,eo,K',to,KA,ur,CQ,zi,vV,rT,zj,vW,vX,iU,rV⟩:=S;have hz:eo.size=ls.length:=by
  have:=rT.length;rw[Oh,Oq] at this;rw[this,zj.length_eq]
 unfold ak.Frozenset.merge;refine Tj (cb ur zi vX ?_);rw[Xmz];rw[Tq (by simpa using CP)];refine Tj (aD ur zi vX ?_);dsimp only;by_cases he:eo.isEmpty=true
 ·rw[Tr he];have e0:eo = #[]:=by simpa using he
  have:ls=[]:=Px.mp (by rw[<-hz,e0];rfl);subst this;exact Tk (h _ (am.SameBut.refl c _) ⟨o, #[],ep,_,[],ho,hex,hd,λe he=>by simp at he,.nil,Qk _,by decide,rfl,rfl,λ_=>rfl⟩)
 ·rw[Tq he];refine Tj (Xm4 ho hex hd (by rw[hz];exact hl) λh1 mo nu=>?_);obtain⟨o1,CS,t1,gc,vY,oA,p1,p2,hM,zk,l1,zl⟩:=nu.ex;have oo:t1.fits (#[]:Array (Int×aa)).size=true:=Xm3 p1 p2;refine Tj (aD (s:={s with heap:=h1}) gc oA oo ?_);dsimp only;have fin:∀(cG:Array (Int×aa)) (t':ag),cG.toList.Perm eo.toList->t'.fits cG.size=true->t'.led = !A6 w->(t'.plain=true->cG.size=0)->Q () {s with heap:=h1.update c (aM.putSet cG t')}:=λcG t' pp ff fl fp=>by
   obtain⟨qg,a8,q'⟩:=Jo pp rT;have z':cG.size=eo.size:=by rw[<-Oq,pp.length_eq,Oq]
   have g:=am.get?_update_self (aM.putSet cG t') gc (by rw[bW cG t' oA];rfl);rw[bW cG t' oA] at g;exact h _ (mo.trans (T0 _ c _)) ⟨_,cG,CS+1,t',qg,g,vY,rfl,vV.perm pp,a8,q'.trans zj,by rw[z'];exact vW,ff,fl,fp⟩
  have rW:t1.road to=if (t1.mask==to.mask&&to.dummies.isEmpty)=true then ag.Road.slotForSlot else ag.Road.clean:=by
   unfold ag.road;have:(t1.fill != 0)=false:=by simp[ag.fill,p1,p2]
   rw[this,Tq (by decide)]
  rw[rW];by_cases hr:(t1.mask==to.mask&&to.dummies.isEmpty)=true
  ·rw[Tr hr];dsimp only;refine bw (s:={s with heap:=h1}) gc oA ?_ (aY vW);exact fin eo _ (Qk _) vX (by show (t1.led&&to.led)=_;rw[l1,iU,R8]) (by show (t1.plain&&to.plain)=true->_;rw[zl,Qc];exact rV)
  ·rw[Tq hr];dsimp only;obtain⟨t2,od,e1,e2,e3,e4,e5⟩:=Xmw (finger:=t1.finger) (moves:=t1.moves) (led:=t1.led&&to.led) (plain:=t1.plain&&to.plain) (hs:=eo.map (·.1)) hM (by rw[Array.size_map];exact zk);rw[e1];rw[Array.size_map] at e2 e3;refine Tj (wp_reord e2 λcG pp zz=>?_);refine bw (s:={s with heap:=h1}) gc oA ?_ (aY (by rw[zz];exact vW));exact fin cG t2 pp (by rw[zz];exact e3) (by rw[e4,l1,iU,R8]) (by rw[e5,zl,Qc,zz];exact rV)
def Wl (P:ap) (w:ax) (wl:Array (Int×aa)) (ks:Za):Prop:=eS (PySem.strKind P w) wl.toList/\∃zs,aE (wl.toList.map (·.2)) zs/\zs.Perm ks
def Xm6{es wl:Array (Int×aa)}(eD:eS (PySem.strKind P w) es.toList)(hs:aE (es.toList.map (·.2)) yP)(hp:yP.Perm ks)(pp:wl.toList.Perm es.toList):Wl P w wl ks:=by
 obtain⟨zs,st,q⟩:=Jo pp hs;exact⟨eD.perm pp,zs,st,q.trans hp⟩
theorem Xeo  (hf:∀(x:Int×aa) (r:Option Bool×Unit),(∀p,x.2 ≠ .ref p)->f x r=pure (.yield (none,()))):
  ∀(l:List (Int×aa)),(∀e∈l,∀p,e.2 ≠ .ref p)->Q (none,()) s->ai (ah P w) A (forIn l (none,()) f) Q E s
 | [],_,h=>by rw[Sg];exact Tk h
 | x::l,hn,h=>by
  rw[R5,hf x _ (hn x Ov)];exact Tj (Tk (Xeo hf l (λe he=>hn e (Op _ he)) h))
end
section
variable {P:ap}{w:ax}{A:av}{E:Zb}{s:af}{a b c:ae}{ks ls:Za}
def Xep(h:eS (PySem.strKind P w) l):∀e∈l,∀p,e.2 ≠ .ref p:=λe he p z=>by
 have:=(h e he).2;rw[z] at this;cases this
def Xeq  (hf:∀(x:Int×aa) (r:Option Bool×Unit),(∀p,x.2 ≠ .ref p)->f x r=pure (.yield (none,())))
  {es:Array (Int×aa)} (hn:∀e∈es.toList,∀p,e.2 ≠ .ref p) (h:Q (none,()) s):ai (ah P w) A (forIn es (none,()) f) Q E s:=by
 rw[<-Rf];exact Xeo hf _ hn h
def Xm7(S:SSet P w s.heap a ks)(F:SSet P w s.heap b ls)(h:Q true s):ai (ah P w) A (KB [a,b]) Q E s:=by
 obtain⟨o,es,ep,t,l0,ho,hex,hd,eD,bK,hp,hb,hf,hl,bS⟩:=S;obtain⟨o',cG,lg,t',KC,fo,CT,gW,vZ,CU,lR,dL,CV,oy,CW⟩:=F;have hq:∀(x:Int×aa) (r:Option Bool×Unit),(∀p,x.2 ≠ .ref p)->(match x.2 with
   | aa.ref a=>do
    let jr <-specialOf x.2 (ao.ofString "__eq__")
    if (jr != some (aa.builtin "object.__eq__"))=true then pure (ForInStep.done (some false,())) else pure (ForInStep.yield (none,()))
   | x=>pure (ForInStep.yield (none,())):fK (ForInStep (Option Bool×Unit)))=pure (.yield (none,())):=λx r hx=>by
  split
  ·rename_i e;exact absurd e (hx _)
  ·rfl
 unfold KB;simp only[R5,Sg];refine Tj (Tj (Tj (c8 ho hd hf (Tj (Xeq hq (Xep eD) (Tk ?_))))));refine Tj (Tj (c8 fo gW CV (Tj (Xeq hq (Xep vZ) (Tk ?_)))));exact Tk (Tk h)
def wp_unseen(S:SSet P w s.heap a ks)(F:SSet P w s.heap c ls)(lq:a≠c)
  (h:∀wl h' d,Wl P w wl ks->am.SameBut c s.heap h'->SSet P w h' c ls->Q wl {s with heap:=h',drawn:=d}):ai (ah P w) A (iC a [c] (some c)) Q E s:=by
 obtain⟨o,es,ep,t,l0,ho,hex,hd,eD,bK,hp,hb,hf,hl,bS⟩:=id S;have rX:∀wl:Array (Int×aa),wl.toList.Perm es.toList->Wl P w wl ks:=λwl pp=>Xm6 eD bK hp pp;have walk:ai (ah P w) A (mT a) Q E s:=by
  rw[Xm0];refine Tj (aD ho hd hf ?_);dsimp only;unfold cr;refine Tj (Tj (aQ (Tk ?_)));show ai _ _ (if A6 w=true then _ else _) _ _ s;cases hw:A6 w with
  | true=>
   rw[Tr rfl];refine Tj (aQ (Tk ?_));exact h _ s.heap s.drawn (rX _ (Xcd _ es)) (am.SameBut.refl c _) F
  | false=>
   rw[Tq (by decide)];by_cases hc:(!t.plain&&decide (es.size > 1))=true
   ·rw[Tr hc];refine Tj (Xce _ _ _ _ (Oq) λos d po=>Tk ?_);exact h _ s.heap d (rX _ (by simpa using po)) (am.SameBut.refl c _) F
   ·rw[Tq hc];have hm:Nn es t=pure ():=by
     unfold Nn;rw[hl,hw];rfl
    refine Tj (dD hm (Tk ?_));exact h _ s.heap s.drawn (rX _ (Qk _)) (am.SameBut.refl c _) F
 unfold iC;refine Tj (aD ho hd hf ?_);dsimp only;unfold cr;refine Tj (Tj (aQ (Tk ?_)));show ai _ _ (if (A6 w||(t.led&&t.plain)||decide (es.size<=1))=true then mT a else _) _ _ s;by_cases hc:(A6 w||(t.led&&t.plain)||decide (es.size<=1))=true
 ·rw[Tr hc];exact walk
 ·rw[Tq hc];refine Tj (Xm7 S F ?_);simp only[R7,Pf,if_false];refine Tj (aR ?_);obtain⟨oc,ec,CY,tc,lc,l8,wa,uw,wb,wc,CZ,zm,zn,Do,we⟩:=id F;refine Tj (aD l8 uw zn ?_);dsimp only;by_cases hs:((tc.led && !t.led)||(tc.plain && !t.plain))=true
  ·rw[Tr hs];refine Tj (bw l8 uw (Tk ?_) (aY zm));obtain⟨g,S1⟩:_/\SSet P w (s.heap.update c (aM.putSet ec {tc with led:=tc.led&&t.led,plain:=tc.plain&&t.plain})) c ls:=by
    have g:=am.get?_update_self (aM.putSet ec {tc with led:=tc.led&&t.led,plain:=tc.plain&&t.plain}) l8 (by rw[bW ec _ uw];rfl);rw[bW ec _ uw] at g;exact⟨g,_,ec,CY+1,_,lc,g,wa,rfl,wb,wc,CZ,zm,zn,by show (tc.led&&t.led)=_;rw[Do,hl,R8],by
     show (tc.plain&&t.plain)=true->_;intro z;rw[Oz] at z;exact we z.1⟩
   exact h _ _ s.drawn (rX _ (Qk _)) (T0 _ c _) S1
  ·rw[Tq hs];exact Tk (h _ s.heap s.drawn (rX _ (Qk _)) (am.SameBut.refl c _) F)
def xor1 (ks:Za) (x:ao):Za:=if x∈ks then ks.erase x else ks++[x]
def Kg{α : Type}(xs:Array α)(i):(ag.eraseAt xs i).toList=xs.toList.eraseIdx i:=by
 unfold ag.eraseAt;rw[Array.toList_append,Array.toList_extract,Array.toList_extract,List.eraseIdx_eq_take_drop_succ];simp[List.extract];exact Ph (by simp)
theorem Xer:∀(l:Za),l.Nodup->∀(j:Nat) (hj:j<l.length),l.erase l[j]=l.eraseIdx j
 | x::l,nd,0,_=>by simp
 | x::l,nd,j+1,hj=>by
  obtain⟨h1,h2⟩:=Pu.mp nd;have fj:j<l.length:=by simpa using hj
  have ne:x≠l[j]:=λe=>h1 (e ▸ Pk fj);rw[List.getElem_cons_succ,List.eraseIdx_cons_succ,List.erase_cons_tail (by simpa using ne),Xer l h2 j fj]
theorem Xes{α β : Type}(f : α -> β):∀(l:List α) (j:Nat),(l.eraseIdx j).map f=(l.map f).eraseIdx j
 | [],_=>rfl
 | x::l,0=>rfl
 | x::l,j+1=>by simp[Xes f l j]
theorem Xet:∀{vs:List aa} {ls:Za} (i:Nat),aE vs ls->aE (vs.eraseIdx i) (ls.eraseIdx i)
 | _,_,_,.nil=>by simp;exact .nil
 | _,_,0,.cons x t h=>h
 | _,_,i+1,.cons x t h=>.cons x t (Xet i h)
def Xm8  (h:aE vs ls) {i} (hi:i<vs.length):∃t,vs[i] = .str (ls.getD i ao.empty) t:=by
 induction h generalizing i with
 | nil=>exact absurd hi (Qo _)
 | cons x t _ ih=>
  cases i with
  | zero=>exact⟨t,rfl⟩
  | succ i=>exact ih (by simpa using hi)
def Xm9   (S:SSet P w s.heap a ks) (nd:ks.Nodup) (hr:ks.length+1<aX)
  (h:∀h',am.SameBut a s.heap h'->SSet P w h' a (xor1 ks x)->Q () {s with heap:=h'}):
  ai (ah P w) A (holding [.str x tk] do
   if !(<-f8 a (.str x tk) ((PySem.strKind P w).hash x)) then
    let _ <-cY a (.str x tk) ((PySem.strKind P w).hash x)) Q E s:=by
 obtain⟨o,es,ep,t,l0,ho,hex,hd,eD,hs,hp,hb,hf,hl,bS⟩:=id S;have fr:(PySem.strKind P w).is x (.str x tk)=true:=gy P w x tk;have dy:x∈ks ↔ ∃e∈es.toList,(PySem.strKind P w).is x e.2=true:=hp.mem_iff.symm.trans (Xb8 hs);have aN:es.size=ks.length:=by
  have:=hs.length;rw[Oh,Oq] at this;rw[this,hp.length_eq]
 refine a7 (Tj ?_);unfold f8 setFind setFindIn;refine Tj (Tj (aD ho hd hf ?_));dsimp only;rw[JT (knd:=PySem.strKind P w) rfl hb eD];simp only[↓reduceIte];refine Tj (aR (Tj (on fr ho hd hf eD ?_)));cases oo:List.findIdx? (λe=>(PySem.strKind P w).is x e.2) es.toList with
 | none=>
  dsimp only;have hx:x∉ks:=λz=>by
   obtain⟨e,he,q⟩:=dy.mp z;have:=List.findIdx?_eq_none_iff.mp oo e he;rw[q] at this;cases this
  refine Tk (Tk ?_);simp only[Bool.not_false,if_true];refine Tj (sset_add S hr λb h' sb S'=>Tk ?_);refine h h' sb ?_;unfold xor1;rw[Tq hx];rw[Tq hx] at S';exact S'
 | some j=>
  dsimp only;obtain⟨hj,rA,_⟩:=R6.mp oo;have hx:x∈ks:=dy.mpr ⟨es.toList[j],Pk hj,rA⟩;rw[Qi];refine Tk ?_;dsimp only;refine Tj (aD ho hd hf ?_);dsimp only;have DA:j<es.size:=by simpa using hj
  have zE:(ag.eraseAt es j).size=es.size - 1:=by
   rw[<-Oq,Kg,Q9 hj,Oq]
  refine Tj (bw ho hd ?_ (aY (by rw[zE];lia)));refine Tj (wpAny_point (Tk ?_));simp only[R7,Pf,if_false];refine Tk ?_;have g:=am.get?_update_self (aM.putSet (ag.eraseAt es j) (t.drop j)) ho (by rw[bW _ _ hd];rfl);rw[bW _ _ hd] at g;have mq:t.place.size=es.size/\t.fill<=t.mask:=by
   simpa [ag.fits,Oz] using hf
  have kH:(t.drop j).fits (es.size - 1)=true/\(t.drop j).led=t.led/\(t.drop j).plain=t.plain:=by
   unfold ag.drop;have zo:j<t.place.size:=by rw[mq.1];exact DA
   rw[getElem?_pos t.place j zo];dsimp only;refine⟨?_,rfl,rfl⟩;have z1:(ag.eraseAt t.place j).size=t.place.size - 1:=by
    rw[<-Oq,Kg,Q9 (by simpa using zo),Oq]
   have z2:∀p v,(ag.insertAt t.dummies p v).size=t.dummies.size+1:=λp v=>by
    have:=(ag.insertAt_perm t.dummies p v).length_eq;simpa using this
   simp only[ag.fits,ag.fill,Oz,beq_iff_eq,decide_eq_true_eq,z1,z2];have:=mq.2;unfold ag.fill at this
   lia
  have wf:l0.getD j ao.empty=x:=by
   obtain⟨tt,e⟩:=Xm8 hs (i:=j) (by simpa using hj);rw[Qd] at e;rw[e] at rA;obtain⟨t3,e3⟩:=aa.isStrOf_shape (x:=x) (v:=.str (l0.getD j ao.empty) tt) rA;injection e3
  have KD:l0.length=es.size:=by
   have:=hs.length;rw[Oh,Oq] at this;exact this.symm
  have DB:l0.Nodup:=hp.nodup_iff.mpr nd;have DC:l0.eraseIdx j=l0.erase x:=by
   have vU:j<l0.length:=by lia
   have e:l0[j]=x:=by rw[<-wf];simp[List.getD,vU]
   rw[<-e];exact(Xer l0 DB j vU).symm
  refine h _ (T0 _ a _) ⟨_,_,ep+1,_,l0.eraseIdx j,g,hex,rfl,?_,?_,?_,by rw[zE];lia,by rw[zE];exact kH.1,kH.2.1.trans hl,?_⟩
  ·intro e he;rw[Kg] at he;exact eD e (List.mem_of_mem_eraseIdx he)
  ·rw[Kg];have:(es.toList.eraseIdx j).map (·.2)=(es.toList.map (·.2)).eraseIdx j:=by
    exact Xes _ _ _
   rw[this];exact Xet j hs
  ·rw[DC];unfold xor1;rw[Tr hx];exact hp.erase x
  ·rw[kH.2.2,zE];intro z;rw[bS z]
end
def Xna (a:ae) (h:Int) (x:aa):fK Unit:=holding [x] do
 if !(<-f8 a x h) then
  let _ <-cY a x h
def Xeu(ks)(x):(xor1 ks x).length<=ks.length+1:=by
 unfold xor1;split
 ·exact Nat.le_succ_of_le (List.length_erase_le ..)
 ·rw[Oo];exact Oi _
def Xev  (h:ks.Nodup):(xor1 ks x).Nodup:=by
 unfold xor1;split
 ·exact h.erase x
 ·rename_i hx;exact Qf.mpr ⟨h,by simp,λa ha b hb e=>hx (by rw[Om.mp hb] at e;exact e ▸ ha)⟩
def Xnb  (h:ks.Nodup):y∈xor1 ks x↔(y∈ks/\y≠x)\/(y=x/\x∉ks):=by
 unfold xor1;split
 ·rename_i hx;rw[h.mem_erase_iff];constructor
  ·exact λz=>.inl ⟨z.2,z.1⟩
  ·rintro (z | z)
   ·exact⟨z.2,z.1⟩
   ·exact absurd hx z.2
 ·rename_i hx;rw[Ou,Om];constructor
  ·rintro (z | z)
   ·exact .inl ⟨z,λe=>hx (e ▸ z)⟩
   ·exact .inr ⟨z,hx⟩
  ·rintro (z | z)
   ·exact .inl z.1
   ·exact .inr z.1
theorem Xew:∀(zs ms:Za),ms.Nodup->zs.Nodup->(zs.foldl xor1 ms).Nodup/\(zs.foldl xor1 ms).length<=ms.length+zs.length/\∀y,y∈zs.foldl xor1 ms↔(y∈ms/\y∉zs)\/(y∉ms/\y∈zs)
 | [],ms,h,_=>⟨h,Oi _,λy=>by simp⟩
 | z::zs,ms,h,hz=>by
  obtain⟨n1,n2⟩:=Pu.mp hz;obtain⟨a1,a2,a3⟩:=Xew zs (xor1 ms z) (Xev h) n2;refine⟨a1,?_,λy=>?_⟩
  ·have:=Xeu ms z;rw[O5];rw[Rv]
   lia
  ·rw[Rv,a3,Xnb h,Ox];by_cases e:y=z
   ·subst e;by_cases g:y∈ms<;>simp[g,n1]
   ·by_cases g:y∈ms<;>simp[g,e]
section
variable {P:ap}{w:ax}{A:av}{E:Zb}{s:af}{a b c:ae}{ks ls:Za}
theorem Xex{id}   (hf:∀x u,f x u=(do Xna c x.1 x.2; ak.Frozenset.unchanged id a ep;pure (.yield ⟨⟩)))   (hd:o.data = .set es ep t)(lm:t.fits es.size=true)(lq:a≠c):
  ∀l zs ms s Q,s.heap.get? a=some o->eS (PySem.strKind P w) l->aE (l.map (·.2)) zs->SSet P w s.heap c ms->ms.Nodup->ms.length+l.length<aX ->
   (∀h',am.SameBut c s.heap h'->SSet P w h' c (zs.foldl xor1 ms)->Q ⟨⟩ {s with heap:=h'})->ai (ah P w) A (forIn l PUnit.unit f) Q E s
 | [],zs,ms,s,Q,_,_,hz,hS,_,_,h=>by
  rw[Sg];cases hz;exact Tk (h s.heap (am.SameBut.refl c _) hS)
 | (hh,x)::l,zs,ms,s,Q,ho,eD,hz,hS,nd,hb,h=>by
  have DD:aE (x::l.map (·.2)) zs:=hz;clear hz;cases DD with
  | cons y t' hz=>
   obtain⟨⟨k,hk,he⟩,_⟩:=eD.head;have hk:(PySem.strKind P w).is k (.str y t')=true:=hk;obtain⟨t3,e3⟩:=aa.isStrOf_shape (x:=k) (v:=.str y t') hk;injection e3 with e3 _
   subst e3;have he:hh=(PySem.strKind P w).hash y:=he;subst he;rw[O5] at hb;rw[R5,hf];refine Tj (Tj (Xm9 hS nd (by lia) λh1 mo S1=>?_));have gc:h1.get? a=some o:=(mo.2 a lq).trans ho;refine Tj ?_;unfold ak.Frozenset.unchanged;refine Tj (cb (s:={s with heap:=h1}) gc hd lm ?_);simp only[bne_self_eq_false,Pf,if_false];refine Tk (Tk ?_);have hl:=Xeu ms y;exact Xex hf hd lm lq l _ (xor1 ms y) {s with heap:=h1} Q gc eD.tail hz S1 (Xev nd) (by lia) λh2 rY S2=>h h2 (mo.trans rY) S2
def Xey (i:String) (l:ae) (r:aa):fK aa:=do
 let iD <-ak.Frozenset.newFrom i (<-ak.Frozenset.baseOf l) r
 holding [iD] (ak.Frozenset.symmetricDifferenceUpdate i (<-ak.Frozenset.addrOf iD) (.ref l))
 return iD
def Xnc(x y:aa):ak.«frozenset.__xor__» ⟨[x,y],[]⟩=(do
  let (self,gB) <-ak.Frozenset.slot1 "__xor__" ⟨[x,y],[]⟩
  let (l,r):=if false then (gB,self) else (self,gB)
  if !(<-ak.Frozenset.isAnySet l <&&> ak.Frozenset.isAnySet r) then rule s!"frozenset.{"__xor__"}.declined"; return <-ret .notImplemented
  ret (<-Xey s!"frozenset.{"__xor__"}" (<-ak.Frozenset.addrOf l) r)):=rfl
def Xnd   (S:SSet P w s.heap a ks) (F:SSet P w s.heap c ms) (lq:a≠c) (hk:ks.Nodup) (hm:ms.Nodup) (l1:ks.length<16) (l2:ms.length<16)
  (h:∀h' d zs,am.SameBut c s.heap h'->SSet P w h' c zs->zs.Nodup->zs.length<=32->(∀y,y∈zs↔(y∈ms/\y∉ks)\/(y∉ms/\y∈ks))->Q () {s with heap:=h',drawn:=d}):
  ai (ah P w) A (ak.Frozenset.symmetricDifferenceUpdate i c (.ref a)) Q E s:=by
 obtain⟨o,es,ep,t,l0,ho,hex,hd,eD,bK,hp,hb,hf,hl,bS⟩:=id S;unfold ak.Frozenset.symmetricDifferenceUpdate;rw[Tq (by simpa using lq)];refine Tj (bv (T := "set") S.typeIs ?_);rw[Tq (by decide)];refine Tj (Kf S.typeIs ?_);rw[Tr rfl];refine Tj (Tk ?_);refine Tj (Tk ?_);refine Tj (cb ho hd hf ?_);refine a7 (Tj (wp_unseen S F lq λwl h1 d W mo S1=>?_));obtain⟨wg,zs,kj,q1⟩:=W;rw[<-Rf];have gc:h1.get? a=some o:=(mo.2 a lq).trans ho;have qW:wl.toList.length=ks.length:=by
  have:=kj.length;rw[Oh] at this;rw[this,q1.length_eq]
 have wj:zs.Nodup:=q1.nodup_iff.mpr hk;obtain⟨x1,x2,x3⟩:=Xew zs ms hm wj;refine Tj (Xex (id:=i) (c:=c) (a:=a) (s:={s with heap:=h1,drawn:=d}) (λx u=>rfl) hd hf lq wl.toList zs ms _ gc wg kj S1 hm (by rw[qW];unfold aX;lia) λh2 rY S2=>Tk ?_);refine h h2 d _ (mo.trans rY) S2 x1 ?_ λy=>?_
 ·have:=q1.length_eq
  lia
 ·rw[x3,q1.mem_iff]
def Xne(S:SSet P w s.heap a ks)(F:SSet P w s.heap b ls)(hk:ks.Nodup)(hl:ls.Nodup)(l1:ks.length<16)(l2:ls.length<16)
  (h:∀h' d zs,(∀e o,s.heap.get? e=some o->h'.get? e=some o)->SSet P w h' s.heap.objs.size zs->zs.Nodup->zs.length<=32->(∀y,y∈zs↔(y∈ls/\y∉ks)\/(y∉ls/\y∈ks))->Q (.ref s.heap.objs.size) {s with heap:=h',drawn:=d}):
  ai (ah P w) A (bq .BitXor (.ref a) (.ref b)) Q E s:=by
 have ha:=S.typeIs;have hb:=F.typeIs;have la:a<s.heap.objs.size:=by obtain⟨o,_,_,_,_,g,_⟩:=S;exact Tx g
 have lb:b<s.heap.objs.size:=by obtain⟨o,_,_,_,_,g,_⟩:=F;exact Tx g
 have eX:km table "set.__xor__" = some ak.«frozenset.__xor__»:=g9 (id' := "frozenset.__xor__") (by kernel_rfl) rfl (by decide +kernel) (by kernel_rfl);refine wpAny_binaryOp_same (T := "set") (id := "set.__xor__") ha hb PySem.F.fills_set_xor PySem.F.slot_set_xor (aG PySem.F.slot_set_xor ha eX ?_ (PySem.F.args_set_xor_2 _ _));rw[Xnc];unfold ak.Frozenset.slot1 rE;simp only[List.isEmpty_nil,R7,Pf, ↓reduceIte,bind_assoc,Qu,O5,bne_self_eq_false,pure_bind];refine Tj ?_;show ai _ _ (ak.Frozenset.isAnySet (.ref a) >>= λb1=>_) _ _ s;refine Tj (Kf ha ?_);show ai _ _ (ak.Frozenset.isAnySet (.ref b)) _ _ s;refine Kf hb ?_;simp only[R7,Pf, ↓reduceIte];refine Tj ?_;show ai _ _ (pure a) _ _ s;refine Tk ?_;refine Tj ?_;unfold Xey;refine Tj (Xm2 ha ?_);refine Tj ?_;unfold ak.Frozenset.newFrom newSet cr;refine Tj (Tj (Tj (aQ (Tk ?_))));dsimp only;simp only[newObj];refine Tj (jY (Tk ?_));have keep:∀e o,s.heap.get? e=some o->(s.heap.push {cls:=.type "set",dict:=none,data:=.set #[] 0 (.fresh 0 0 (!A6 w))}).get? e=some o:=λe o q=>Tz _ q;refine Tj ?_;show ai _ _ (pure s.heap.objs.size) _ _ _;refine Tk ?_;refine Tj (a7 ?_);unfold ak.Frozenset.updateFrom;have F1:SSet P w (s.heap.push {cls:=.type "set",dict:=none,data:=.set #[] 0 (.fresh 0 0 (!A6 w))}) b ls:=F.stay λo q=>keep b o q;refine Tj (Kf (s:={s with heap:=s.heap.push {cls:=.type "set",dict:=none,data:=.set #[] 0 (.fresh 0 0 (!A6 w))} }) F1.typeIs ?_);rw[Tr rfl];unfold ak.Frozenset.addrOf;refine Tj (Tk ?_);refine Xm5 (s:={s with heap:=s.heap.push {cls:=.type "set",dict:=none,data:=.set #[] 0 (.fresh 0 0 (!A6 w))} }) (c:=s.heap.objs.size) (ep:=0) (am.get?_push_size _ rfl) ⟨rfl,rfl,rfl⟩ rfl F1 l2 (Si lb) λh1 mo S1=>?_;refine Tk ?_;have k1:∀e o,s.heap.get? e=some o->h1.get? e=some o:=λe o q=>(mo.2 e (Os (Tx q))).trans (keep e o q);refine Tj (Tk ?_);refine Tj (a7 (Xnd (s:={s with heap:=h1}) (S.stay λo q=>k1 a o q) S1 (Os la) hk hl l1 l2 λh2 d zs rY S2 n2 z2 m2=>?_));refine Tk (Tk ⟨_,rfl,by simp,?_⟩);exact h h2 d zs (λe o q=>(rY.2 e (Os (Tx q))).trans (k1 e o q)) S2 n2 z2 m2
end
section
variable {X:Cx}
def Xnf:OpR X (bq .BitXor) (λx y H Q=>∃a b ks ls,x = .ref a/\y = .ref b/\H a=some (Eo X.prog X.w a ks)/\H b=some (Eo X.prog X.w b ls)/\ks.Nodup/\ls.Nodup/\ks.length<16/\ls.length<16 /\
  ∀c zs,H c=none->zs.Nodup->zs.length<=32->(∀y,y∈zs↔(y∈ls/\y∉ks)\/(y∉ls/\y∈ks))->Q (.ref c) (upd H c (Eo X.prog X.w c zs))):=by
 intro pins s Z H x y v u Q I rx ry h;obtain⟨a,b,ks,ls,rfl,rfl,ha,hb,nk,nl,l1,l2,q⟩:=h;cases rx;cases ry;obtain⟨S,_⟩:=(show A3 X.prog X.w H s.heap a (.ext λh=>SSet X.prog X.w h a ks) from I.hok a _ ha);obtain⟨F,_⟩:=(show A3 X.prog X.w H s.heap b (.ext λh=>SSet X.prog X.w h b ls) from I.hok b _ hb);refine Xne S F nk nl l1 l2 λh' d zs k S' n' z' m'=>?_;refine⟨.ref s.heap.objs.size,_,I.laidM (s':={s with heap:=h',drawn:=d}) k rfl rfl (Oi _) ?_,rfl,q _ zs (I.hok.fresh (Oi _)) n' z' m'⟩;exact⟨S',by obtain⟨o,_,_,_,_,g,_⟩:=S';exact⟨o,g⟩,λh1 h2 S1 kk=>S1.stay kk⟩
end
end L2
set_option maxHeartbeats 4000000
namespace SH
open L2
def Ah (a b:Za):Za:=srt ((a.filter λx => !decide (x∈b))++(b.filter λx => !decide (x∈a)))
def Dx  : x∈Ah a b↔(x∈a/\x∉b)\/(x∈b/\x∉a):=by
 unfold Ah;rw[Fb,Ou,Ot,Ot];simp
def Xez{a b:Za}(ha:a.Nodup)(hb:b.Nodup):((a.filter λx => !decide (x∈b))++(b.filter λx => !decide (x∈a))).Nodup:=by
 rw[Qf];refine⟨ha.filter _,hb.filter _,λx hx y hy e=>?_⟩;subst e;have h1:=(Ot.mp hx).1;have h2:=(Ot.mp hy).2;simp[h1] at h2
def Fs(ha:a.Nodup)(hb:b.Nodup):(Ah a b).Pairwise ltS:=by
 have DE:(Ah a b).Nodup:=(Cw _).nodup_iff.mpr (Xez ha hb);exact(List.pairwise_and_iff.mpr ⟨Eb _,DE⟩).imp λ{x y} (h:leS x y/\x≠y)=>ltS_of h.1 h.2
def Kh(ha:a.Nodup)(hb:b.Nodup):Ah a b=Ah b a:=
 lt_uniq (Fs ha hb) (Fs hb ha) λx=>Dx.trans ⟨λh=>Dx.mpr h.symm,λh=>(Dx.mp h).symm⟩
def Np(a b):(Ah a b).length<=a.length+b.length:=by
 unfold Ah;rw[(Cw _).length_eq,Oo];have h1:=Po (λx => !decide (x∈b)) a;have h2:=Po (λx => !decide (x∈a)) b
 lia
def xor_srt(ha:a.Nodup)(hb:b.Nodup)(hz:zs.Nodup)(h:∀y,y∈zs↔(y∈b/\y∉a)\/(y∉b/\y∈a)):srt zs=Ah a b:=by
 refine Xcr (Ho hz (Xez ha hb) λy=>?_);rw[h,Ou,Ot,Ot];simp;by_cases h1:y∈a<;>by_cases h2:y∈b<;>simp[h1,h2]
def spParting:Sp:=λvs H Q _=>∃(p q:ae) (a b:Za),vs=[.ref p,.ref q]/\H p=some (.tup (a.map V.str))/\H q=some (.tup (b.map V.str))/\a.Nodup/\b.Nodup/\a.length<16/\b.length<16 /\
 ∀l H',H l=none->H' l=some (.lst ((Ah a b).map V.str))->Same H H'->Q (.ref l) H'
def spApart:Sp:=λvs H Q _=>∃(p q:ae) (a b:Za),vs=[.ref p,.ref q]/\H p=some (.tup (a.map V.str))/\H q=some (.tup (b.map V.str))/\a.length<=24/\b.length<=24 /\
 ∀l H',H l=none->H' l=some (.lst ((Ah a b).map V.str))->Same H H'->Q (.ref l) H'
abbrev NAp:Za:=["_law_one_here", "_law_other", "_law_mine"]
abbrev NAp1:Za:=["_law_name", "_law_other"]
abbrev NAp2:Za:=["_law_name", "_law_one_here"]
structure Two (H:Hp) (r p q:ae) (row a b:Za):Prop where
 hr:H r=some (.lst (row.map V.str))
 r2:Row2 row
 hd:(dit row).length<=14
 hp:H p=some (.tup (a.map V.str))
 hq:H q=some (.tup (b.map V.str))
 oa:∀y∈a,okN y
 ob:∀y∈b,okN y
 la:a.length<=24
 lb:b.length<=24
def Two.same  {row a b} (t:Two H r p q row a b) (s:Same H H'):Two H' r p q row a b:=⟨s _ _ t.hr,t.r2,t.hd,s _ _ t.hp,s _ _ t.hq,t.oa,t.ob,t.la,t.lb⟩
def Gi(h:Ae row a=true):a.Nodup:=Bj (Bn h).2
end SH
namespace L2
def tSset (K:LY) (te:TE):TE:=fun Z H Q=>te Z H λv H1=>∃p ss,v = .ref p/\(SqL K H1 p (ss.map V.str)\/SqT K H1 p (ss.map V.str))/\ss.length<=60/\∀l H',H1 l=none->H' l=some (.lst ((dit ss).map V.str))->Same H1 H'->Q (.ref l) H'
end L2
namespace SH
open L2
def Xe0 (a b:Za):Za:=(dit (a++b)).filter λx => !(decide (x∈a)&&decide (x∈b))
structure First (a b:Za) (x y:ao):Prop where
 hx:x∈a
 hy:y∈a
 lt:ltS x y
 df:lieR a x y≠lieR b x y
 fst:∀x' y',x'∈a->y'∈a->ltS x' y'->lieR a x' y'≠lieR b x' y'->ltS x x'\/(x'=x/\(y'=y\/ltS y y'))
inductive Due (a b:Za):Option (Za)->Prop
 | ditch (x:ao) (h:x∈Xe0 a b) (f:∀y∈Xe0 a b,y=x\/ltS x y):Due a b (some [ao.ofString "ditch",x])
 | lie (x y:ao) (h:∀z,z∈a↔z∈b) (f:First a b x y):Due a b (some [ao.ofString "lie",x,y])
 | none (h:∀z,z∈a↔z∈b) (f:∀x y,x∈a->y∈a->ltS x y->lieR a x y=lieR b x y):Due a b none
structure Two2 (H:Hp) (p q:ae) (a b:Za):Prop where
 hp:H p=some (.lst (a.map V.str))
 hq:H q=some (.lst (b.map V.str))
 ra:Row2 a
 rb:Row2 b
 la:a.length<=28
 lb:b.length<=28
 da:(ddup a).length<16
 db:(ddup b).length<16
def DueAt (H:Hp):Option (Za)->V->Prop
 | none,v=>v = .non
 | some ss,v=>∃l,v = .ref l/\H l=some (.tup (ss.map V.str))
end SH
namespace L2
open PySem
end L2
namespace SH
open L2
def Gj (t:ao):Bool:=(decide (1<=t.length)&&decide (t.length<=8))&&t.cps.toList.all λc=>decide (97<=c)&&decide (c<=122)
structure Asc (t:ao):Prop where
 KE:t.cps.all (· < 128)=true
 len:t.length<=20
structure IsT (row:Za) (x y z:ao):Prop where
 hx:x∈row
 hy:y∈row
 hz:z∈row
 KF:ltS x y
 KG:ltS y z
 xy:lieR row x y = "cross"
 yz:lieR row y z = "cross"
 xz:lieR row x z = "cross"
structure First3 (row:Za) (x y z:ao):Prop where
 t:IsT row x y z
 fst:∀x' y' z',IsT row x' y' z'->ltS x x'\/(x'=x/\(ltS y y'\/(y'=y/\(z'=z\/ltS z z'))))
def noT (row:Za):Prop:=∀x y z,¬IsT row x y z
def ltP2 (p q:ao×ao):Prop:=ltS p.1 q.1\/(p.1=q.1/\ltS p.2 q.2)
def Xr3 (H:Hp) (dx:ae) (x y z:ao):Prop:=∃t,H dx=some (.ext (xdP dx [(ao.ofString "three",.ref t)]))/\H t=some (.tup [.str x,.str y,.str z])
inductive PO
 | name | taken | full | place
 | barred (x y z:ao)
 | told
def Xr4 (row:Za) (x:ao) (a b:Int):PO->Prop
 | .name=>Gj x=false
 | .taken=>Gj x=true/\x∈row
 | .full=>Gj x=true/\x∉row/\14<=(dit row).length
 | .place=>Gj x=true/\x∉row/\(dit row).length<14/\¬(0<=a/\a<=b/\b<=row.length)
 | .barred u v w=>Gj x=true/\x∉row/\(dit row).length<14/\(0<=a/\a<=b/\b<=row.length)/\First3 (Dv row x a.toNat b.toNat) u v w
 | .told=>Gj x=true/\x∉row/\(dit row).length<14/\(0<=a/\a<=b/\b<=row.length)/\noT (Dv row x a.toNat b.toNat)
structure PutC where
 name:ae
 taken:ae
 full:ae
 place:ae
 barred:ae
def PutC.of (C:PutC):PO->ae
 | .name=>C.name
 | .taken=>C.taken
 | .full=>C.full
 | .place=>C.place
 | .barred ..=>C.barred
 | .told=>0
def Ft:PO->Bool
 | .barred ..=>false
 | .told=>false
 | _=>true
def Ki:PO->Nat
 | .name=>0
 | .taken=>1
 | .full=>2
 | .place=>3
 | .barred ..=>4
 | .told=>5
structure PutK (K:LY) (C:PutC) (S:ae):Prop where
 fn:ExcF K C.name
 ft:ExcF K C.taken
 ff:ExcF K C.full
 fp:ExcF K C.place
 fb:ExcF K C.barred
 kb:ExK K C.barred "three"
 eb:M' K (.ref C.barred) (.ref C.barred)=some true
 nb:∀o,Ft o=true->M' K (.ref (C.of o)) (.ref C.barred)=some false
 es:∀o,Ft o=true->M' K (.ref (C.of o)) (.ref S)=some true
 v:∀o,Ft o=true->MA K (.ref (C.of o)) (.type "ValueError")=some true
 kn:∀o,Ft o=true->MA K (.ref (C.of o)) (.ref C.name)=some (decide (Ki o=0))
 kt:∀o,Ft o=true->MA K (.ref (C.of o)) (.ref C.taken)=some (decide (Ki o=1))
 kf:∀o,Ft o=true->MA K (.ref (C.of o)) (.ref C.full)=some (decide (Ki o=2))
 kp:∀o,Ft o=true->MA K (.ref (C.of o)) (.ref C.place)=some (decide (Ki o=3))
structure LR (st:Nat) (late:Bool) (a:Za):Prop where
 lt:st<26
 sub:∀y∈a,y∈A8 st late 14
 two:∀y∈a,a.count y=2
 len:a.length<=28
end SH
namespace L2
def mroB (K:LY) (C S:ae):Bool:=(NC K C).any λcd=>cd.hasDict&&cd.mro==aa.ref C::aa.ref S::Xec
structure InitAt (K:LY) (x q:ao) (st:aP) (f:ao) (C fI S:ae):Prop where
 a:MC K aq x=some (some (.ref C))
 m:∃fd,Fun K "__init__" q st fI fd
 e:Xml K C fI=true
 ga:MB K (.ref C) "__getattribute__" = some (some (.builtin "BaseException.__getattribute__"))
 gn:MB K (.ref C) "__getattr__" = some none
 cl:MB K (.ref C) "__class__" = some (some (.builtin "object.__class__"))
 sb:ML K (.ref C) (.type "BaseException")=some true
 so:ML K (.ref C) (.type "object")=some true
 ss:ML K (.ref C) (.ref C)=some true
 ic:MT K C=true
 ty:MV K (.ref C)=some (.type "type")
 sa:MB K (.ref C) "__setattr__" = some (some (.builtin "object.__setattr__"))
 no:MB K (.ref C) f=some none
 mr:mroB K C S=true
section
variable {K:LY}{x q f:ao}{st:aP}{C fI S:ae}
end
end L2
namespace SH
open L2
end SH
namespace L2
section
variable {X:Cx}{pos np jh:bN}{b0:aP}{suite:List aP}{x:ao}{Cc:ae}{th:TS}{rest:THd}{hs:List dY}
def tHdN (K:LY) (Cc:ae) (th:TS) (rest:THd):THd:=λC dd D Z H=>∃b,M' K (.ref C) (.ref Cc)=some b/\if b=true then th D Z H else rest C dd D Z H
end
section
variable {X:Cx}
end
end L2
namespace SH
open L2
def Nq  : n∈Am S x↔(n∈S/\n≠x)\/(x∉S/\n=x):=by
 unfold Am;rw[Fb,Ou,Ot,decide_eq_true_eq];by_cases h:x∈S
 ·rw[Tr h];simp[h]
 ·rw[Tq h];simp[h]
def Xe1(S)(x):Ah S [x]=Am S x:=by
 unfold Ah Am;have e1:(S.filter λy => !decide (y∈[x]))=S.filter λy=>decide (y≠x):=by
  congr 1;funext y;by_cases z:y=x<;>simp[z]
 have e2:([x].filter λy => !decide (y∈S))=if x∈S then [] else [x]:=by
  by_cases z:x∈S<;>simp[z]
 rw[e1,e2]
def Ih(x)(h:S.Nodup):(Am S x).Pairwise ltS:=by
 rw[<-Xe1];exact Fs h (by simp)
def spAcross:Sp:=λvs H Q _=>∃(p:ae) (ss:Za) (x:ao),vs=[.ref p,.str x]/\H p=some (.tup (ss.map V.str))/\ss.Nodup/\ss.length<16 /\
 ∀q H',H q=none->H' q=some (.tup ((Am ss x).map V.str))->Same H H'->Q (.ref q) H'
def Xng  (hS:Ae row S=true) (hx:x∈row):∀y∈Am S x,y∈row:=λy hy=>by
 rcases Nq.mp hy with h | h
 ·exact(Bn hS).1 y h.1
 ·rw[h.2];exact hx
def Xnh  (h2:∀y∈row,row.count y=2) (hS:Ae row S=true) (hx:x∈row):Cz (bars row) (Am S x)=Ae row (Am S x):=by
 rw[<-J8 h2];unfold Er;have e:Am S x=(dit row).filter λy=>decide (y∈Am S x):=by
  refine lt_uniq (Ih x (Gi hS)) ((Du row).filter _) λy=>?_;rw[Ot,Ao,decide_eq_true_eq];exact⟨λh=>⟨Xng hS hx y h,h⟩,λh=>h.2⟩
 rw[Tt e,Qc]
def Xni (row:Za):Za->Nat->Za->Nat ⊕ Za
 | S,_,[]=>.inr S
 | S,i,x::r=>if Ae row (Am S x)=true then Xni row (Am S x) (i+1) r else .inl i
def AtAt (H:Hp) (dx:ae) (n:Nat):Prop:=H dx=some (.ext (xdP dx [(ao.ofString "at",.int n)]))
structure LedC where
 plot:ae
 ditch:ae
 beside:ae
end SH
namespace L2
def Xnj  (rv:Vals (ns.map V.int) aA):∃ps:List (Int×Tok),aA=ps.map (λp=>aa.int p.1 p.2)/\ps.map (·.1)=ns:=by
 induction ns generalizing aA with
 | nil=>cases rv;exact⟨[],rfl,rfl⟩
 | cons n t ih=>
  cases rv with
  | cons r t'=>
   obtain⟨tk,rfl⟩:=r;obtain⟨ps,rfl,e⟩:=ih t';exact⟨(n,tk)::ps,rfl,by rw[O0,e]⟩
theorem Xe2(ps:List (Int×Tok)):∀j,j<=ps.length->rZ (nh ps.toArray) j=((ps.map (·.1)).take j).sum
 | 0,_=>rfl
 | j+1,h=>by
  have e:rZ (nh ps.toArray) (j+1)=rZ (nh ps.toArray) j+nh ps.toArray j:=rfl;have hj:j<(ps.map (·.1)).length:=by rw[Oh];lia
  rw[e,Xe2 ps j (by lia),O1 hj,Sq];congr 1;unfold nh;rw[Rg,Oj (by lia),Qd];simp
section
variable {X:Cx}
end
end L2
namespace SH
open L2
abbrev dN:ao×Za:=(ao.empty,[])
def Nbs (H:Hp) (qs:List ae) (xs:List (ao×Za)):Prop:=qs.length=xs.length/\∀i,i<qs.length->∃p,H (qs.getD i 0)=some (.tup [.str (xs.getD i dN).1,.ref p])/\H p=some (.tup ((xs.getD i dN).2.map V.str))
def Nbs.keep   (h:Nbs H qs xs) (k:∀b w,H b=some (.tup w)->H' b=some (.tup w)):Nbs H' qs xs:=⟨h.1,λi hi=>let ⟨p,a,b⟩:=h.2 i hi; ⟨p,k _ _ a,k _ _ b⟩⟩
def Nbs.same  {xs} (h:Nbs H qs xs) (s:Same H H'):Nbs H' qs xs:=h.keep λ_ _ e=>s _ _ e
def Nbs.nil(H):Nbs H [] []:=⟨rfl,λi hi=>absurd hi (Qo _)⟩
def Nbs.snoc     (h:Nbs H qs xs) (h1:H q=some (.tup [.str x.1,.ref p])) (h2:H p=some (.tup (x.2.map V.str))):Nbs H (qs++[q]) (xs++[x]):=by
 refine⟨by rw[Oo,Oo,h.1];rfl,λi hi=>?_⟩;rw[Oo] at hi;have hi:i<qs.length+1:=hi;by_cases z:i<qs.length
 ·have z2:i<xs.length:=by rw[<-h.1];exact z
  rw[List.getD,List.getD,Qe z,Qe z2];exact h.2 i z
 ·have e:i=qs.length:=by lia
  subst e;refine⟨p,?_,?_⟩
  ·rw[List.getD,Qb (Oi _),Nat.sub_self,List.getD,h.1,Qb (Oi _),Nat.sub_self];exact h1
  ·rw[List.getD,h.1,Qb (Oi _),Nat.sub_self];exact h2
def Wys (row:Za) (xs:List (ao×Za)):Prop:=∀z∈xs,z.1∈row/\Ae row z.2=true
def Xr5 (H:Hp) (t:ae):Nat ⊕ Za->Prop
 | .inl i=>H t=some (.tup [.str "beside",.int i])
 | .inr S=>∃q,H t=some (.tup [.str "told",.ref q])/\H q=some (.tup (S.map V.str))
abbrev NWy:Za:=["_law_bars_here", "_law_names_here", "_law_plot", "_law_told", "_law_name", "_law_other"]
inductive O16 where
 | plot
 | ditch
 | beside (i:Nat)
 | told (S:Za)
open Classical in
structure LedK (K:LY) (C:LedC) (S:ae):Prop where
 fb:ExcF K C.beside
 kb:ExK K C.beside "at"
 eb:M' K (.ref C.beside) (.ref C.beside)=some true
 db:M' K (.ref C.ditch) (.ref C.beside)=some false
 pb:M' K (.ref C.plot) (.ref C.beside)=some false
 dd:M' K (.ref C.ditch) (.ref C.ditch)=some true
 pd:M' K (.ref C.plot) (.ref C.ditch)=some false
 pp:M' K (.ref C.plot) (.ref C.plot)=some true
 ks:MA K (.ref C.beside) (.ref S)=some true
 kv:MA K (.ref C.beside) (.type "ValueError")=some true
 kn:PySem.W.kitAny K (.ref C.beside) ([C.ditch,C.plot].map aa.ref)=some false
end SH
namespace L2
def Dl (c:ae) (q:ao):am->Prop:=λh=>h.CodeRec (.ref c) q
def Dm (f:ae) (fd:aw):am->Prop:=λh=>∃o,h.get? f=some o/\o.data = .func fd
def Xnk  : ∀h1 h2:am,Dl c q h1->(∀o,h1.get? c=some o->h2.get? c=some o)->Dl c q h2:=by
 rintro h1 h2 ⟨c1,o,vs,t,e,ho,r⟩ k;cases e;exact⟨c,o,vs,t,rfl,k _ ho,r⟩
def Xe3  : ∀h1 h2:am,Dm f fd h1->(∀o,h1.get? f=some o->h2.get? f=some o)->Dm f fd h2:=by
 rintro h1 h2 ⟨o,ho,r⟩ k;exact⟨o,k _ ho,r⟩
def Xnl    {K}                 {Q}  (hf:H f=some (.ext (Dm f (MD name qual params body scope [] pm (.ref c) dH)))) (hc:H c=some (.ext (Dl c qual))) (S:FnScope N ps scope) (hr:Room (k+1) A) (e0:Env0 P w K mg base A outer s H)
  (hl:vs.length=ps.length) (r:Vals vs us) (hb:cQ (MD name qual params body scope [] pm (.ref c) dH) ⟨us,[]⟩=pure (ps.zip us))
  (ht:PE (Ck CX P w K mg base N qual scope f (.ref c) A outer s H E) body t) (hq:t (start N vs) H Q):
  bB (ah P w) A (.call (.ref f) ⟨us,[]⟩) (CR CX outer P w H s Q E) s:=by
 obtain⟨⟨of,wk,wn⟩,_⟩:=e0.hok f _ hf;obtain⟨oB,_⟩:=e0.hok c _ hc;have qR:s.heap.NoLimit:=e0.mod.nolimit.keeps λb o e=>(e0.bs b o e).1;have fD:∀y∈ps.zip us,scope.names.lookup y.1=some .local\/(scope.names.lookup y.1=some .cell/\((bL (s.heap.objs.size+1) scope.names []).lookup y.1).isSome=true):=λ⟨n,v⟩ hy=>by
  rcases S.par n (Sm hy).1 with q | q
  ·exact .inl q
  ·exact .inr ⟨q,MG _ _ _ (.inl q)⟩
 refine MW hr.depth wk wn S.co S.gen rfl oB ?_;rw[hb];refine Tk ?_;refine gm S.kind fD λenv he s1 x=>?_;subst he;refine⟨qR.keeps x.toInCall.keep,MX ?_⟩;have I:Inv (Ck CX P w K mg base N qual scope f (.ref c) A outer s H E) [] (start N vs) H s1:=Xa3 S hr.hd e0 hl r x;refine aJ (ht [] s1 (start N vs) H _ I hq) (λu s' hs=>?_) λe s' hs=>hs;obtain⟨v,H',J,rv,q⟩:=hs;exact⟨v,H',J.os,J.bare,J.base,J.hok,rv,q⟩
def BmOk (mg:ao->Option aa) (base:am):Prop:=∃bm ob,mg "__builtins__" = some (.ref bm)/\bm≠cU/\base.get? bm=some ob/\ob.cls = .type "module" /\ ob.dict=some cU/\ob.data = .plain
def Au (T:ae) (pos:bN) (q:ao) (H:Hp):Prop:=H T=some (.tbl #[]) \/ ∃c,H T=some (.tbl #[aU pos.line,aU pos.col,.ref c])/\H c=some (.ext (Dl c q))
def tLam (T:ae) (q:ao) (params:cR) (body:aF) (scope:bI) (pos:bN):TE:=λ_ H Q=>Au T pos q H /\
 ∀(f c:ae) (pm dH:aa) (H':Hp),H f=none->H' f=some (.ext (Dm f (MD "<lambda>" q params body scope [] pm (.ref c) dH)))->H' c=some (.ext (Dl c q))->Au T pos q H'->(∀b o,H b=some o->b≠T->H' b=some o)->Q (.ref f) H'
section
variable {X:Cx}{T c0:ae}{params:cR}{body:aF}{scope:bI}{pos:bN}{q:ao}
def Xe4    {h':am} {tk} {fd} {o} (I:Inv X pins Z H s) (k:∀b o,s.heap.get? b=some o->h'.get? b=some o) (hsz:s.heap.objs.size<=h'.objs.size) (ho:o.data = .func fd) (jA:o.isFreed=false):
  Inv X pins Z (upd H h'.objs.size (.ext (Dm h'.objs.size fd))) {s with heap:=h'.push o,toks:=tk}:=by
 refine I.laid (t':=tk) (h':=h'.push o) (λb ob e=>Tz _ (k b ob e)) hsz ?_;exact⟨⟨o,am.get?_push_size _ jA,ho⟩,⟨o,am.get?_push_size _ jA⟩,Xe3⟩
def Xe5      {tk}  {o}  (I:Inv X pins Z H s) (hT:H T=some (.tbl #[])) (hx:am.ExtBut T s.heap h') (lr:s.heap.objs.size<=c) (bf:c<h'.objs.size)
  (kJ:h'.CodeRec (.ref c) q) (se:h'.get? T=some (MK (#[]++ps))) (ho:o.data = .func fd) (jA:o.isFreed=false):
  Inv X pins Z (upd (upd (upd H T (.tbl ps)) c (.ext (Dl c q))) h'.objs.size (.ext (Dm h'.objs.size fd))) {s with heap:=h'.push o,toks:=tk}:=by
 have sf:h'.get? T=some {cls:=.none,data:=.fields ps}:=by simpa using se
 have nf:∀b u,s.heap.get? b=some u->b≠c/\b≠h'.objs.size:=λb u e=>by
  have z:=O7 (Tx e) lr;exact⟨Os z,Os (Qv z bf)⟩
 have nH:∀b u,H b=some u->b≠c/\b≠h'.objs.size:=λb u e=>by
  have z:=O7 (I.hok.lt e) lr;exact⟨Os z,Os (Qv z bf)⟩
 have nT:∀b,H b=none->b≠T:=λb n z=>by rw[z,hT] at n;cases n
 have kp:∀b u,b≠T->s.heap.get? b=some u->(h'.push o).get? b=some u:=λb u n e=>Tz _ (hx b u n e);have up:∀b u,H b=some u->b≠T->(upd (upd (upd H T (.tbl ps)) c (.ext (Dl c q))) h'.objs.size (.ext (Dm h'.objs.size fd))) b=some u:=λb u e n=>by
  rw[Ad (nH b u e).2,Ad (nH b u e).1,Ad n];exact e
 refine I.step (g':=s.gens) (d':=s.drawn) (t':=tk) (h':=h'.push o) (ch:=[]) (λ_ z=>nomatch z) (λb u _ _ _ e n=>kp b u (nT b n) e) (λb u _ _ _ e n=>⟨u.slots,kp b u (nT b n) e⟩) (λb u _ e n=>?_) (λb u _ e=>?_)
  (λb xs e=>up b _ e λz=>by rw[z,hT] at e;cases e) (λb u v e=>up b _ e λz=>by rw[z,hT] at e;cases e) (λb pz e=>?_) (λm hn=>(hn.extBut hx (nT _ I.free)).push _) ?_ I.bare
 ·rw[Ad (nf b u e).2,Ad (nf b u e).1,Ad (nT b n)];exact n
 ·by_cases z:b=T
  ·exact⟨_,z ▸ Tz _ sf⟩
  ·exact⟨u,kp b u z e⟩
 ·by_cases z:b=T
  ·subst z;rw[hT] at e;cases e;refine⟨ps,?_⟩;rw[Ad (nH b _ hT).2,Ad (nH b _ hT).1,Ab];simp
  ·exact⟨#[],by rw[up b _ e z];simp⟩
 ·intro b u e;by_cases z1:b=h'.objs.size
  ·subst z1;rw[Ab] at e;cases e;exact⟨⟨o,am.get?_push_size _ jA,ho⟩,⟨o,am.get?_push_size _ jA⟩,Xe3⟩
  ·rw[Ad z1] at e;by_cases z2:b=c
   ·subst z2;rw[Ab] at e;cases e;obtain⟨c1,oc,vs,t,e1,l8,r⟩:=kJ;cases e1;exact⟨⟨b,oc,vs,t,rfl,Tz _ l8,r⟩,⟨oc,Tz _ l8⟩,Xnk⟩
   ·rw[Ad z2] at e;by_cases z3:b=T
    ·subst z3;rw[Ab] at e;cases e;exact Tz _ sf
    ·rw[Ad z3] at e;refine(I.hok b u e).stay (λd v hd g=>kp d v ?_ g) (λd g=>up d _ g λz=>by rw[z,hT] at g;cases g) λd xs g=>up d _ g λz=>by rw[z,hT] at g;cases g
     rcases hd with rfl | hd
     ·exact z3
     ·intro z;rw[z,hT] at hd;cases hd
def Xnm(jF:BmOk X.mg X.base)(oC:DF params X.env=([],[]))(fM:gt scope X.env=pure [])(gE:X.env.code = .ref c0)(hhd:MH X.K c0 T=true)(hq:X.env.qual ++ "<lambda>" = q):
  PE X (.Lambda params body scope pos) (tLam T q params body scope pos):=by
 intro pins s Z H Q I h;obtain⟨tab,k⟩:=h;obtain⟨bm,ob,b1,b2,b3,b4,b5,b6⟩:=jF;have hg:s.heap.Ns aq X.mg:=I.mod.glob.keeps I.bk;have C:NO s.heap c0 T:=MP I.kIn hhd;have nb:bm≠T:=λz=>by
  have n:=(I.bs bm ob b3).2;rw[z] at n;rcases tab with e | ⟨c,e,_⟩<;>(rw[e] at n;cases n)
 have wo:bm≠aq:=λz=>by
  obtain⟨o,es,ep,e,hd,_⟩:=I.mod.glob;rw[z,e] at b3;cases b3;rw[hd] at b6;cases b6
 have hB:s.heap.BuiltinsAt X.mg T:=⟨bm,ob,b1,b2,wo,nb,I.bk _ _ b3,b4,b5,b6⟩;refine NJ oC ?_;rw[hq];rcases tab with e | ⟨c,e,ec⟩
 ·have hP:s.heap.get? T=some (MK #[]):=I.hok T _ e;have wq:aq≠T:=λz=>by
   obtain⟨o,es,ep,e2,hd,_⟩:=hg;rw[z,hP] at e2;cases e2;cases hd
  refine MQ (mg:=X.mg) (clos:=[]) fM I.ok.glob hg gE C hP trivial rfl wq hB λc' dH h' tk hx lr bf kJ se=>?_;have J:=Xe5 (tk:=tk) (o:=NL "<lambda>" q params body scope [] ((X.mg "__name__").getD .none) c' dH) I e hx lr bf kJ se rfl rfl;have mw:∀b o,H b=some o->b<c':=λb o eb=>O7 (I.hok.lt eb) lr;have wt:c'≠T:=(Os (mw _ _ e)).symm;have sh:c'≠h'.objs.size:=Os bf;have wu:T≠h'.objs.size:=Os (Qv (mw _ _ e) bf);refine⟨.ref h'.objs.size,_,J,rfl,k _ c' _ dH _ (I.hok.fresh (Ru (R4 lr bf))) Ab (by rw[Ad sh,Ab]) (.inr ⟨c',by rw[Ad wu,Ad wt.symm,Ab],by rw[Ad sh,Ab]⟩) λb o eb nb=>?_⟩;rw[Ad (Os (Qv (mw _ _ eb) bf)),Ad (Os (mw _ _ eb)),Ad nb];exact eb
 ·have hP:s.heap.get? T=some (MK #[aU pos.line,aU pos.col,.ref c]):=I.hok T _ e;refine MN (mg:=X.mg) (clos:=[]) (cv:=.ref c) fM I.ok.glob hg gE C hP trivial (by simp[KH,aU]) hB λdH h' tk hk hsz=>?_;have J:=Xe4 (tk:=tk) (fd:=MD "<lambda>" q params body scope [] ((X.mg "__name__").getD .none) (.ref c) dH) (o:={cls:=.type "function",data:=.func (MD "<lambda>" q params body scope [] ((X.mg "__name__").getD .none) (.ref c) dH)}) I hk hsz rfl rfl;have nf:∀b o,H b=some o->b≠h'.objs.size:=λb o eb=>Os (O7 (I.hok.lt eb) hsz);refine⟨.ref h'.objs.size,_,J,rfl,k _ c _ dH _ (I.hok.fresh hsz) Ab (by rw[Ad (nf _ _ ec)];exact ec) (.inr ⟨c,by rw[Ad (nf _ _ e)];exact e,by rw[Ad (nf _ _ ec)];exact ec⟩) λb o eb _=>?_⟩;rw[Ad (nf b o eb)];exact eb
end
open PySem.W (KasT kas_asc kas_desc kas_rev kas_tail3 kas_descPart kas_count kas_place kas_bin kas_sort kas_ask kas_item kat_run kat_snds kat_kind kat_lt KatLex kat_cons kat_go kat_yes kat_no kat_one kat_nil KatTups)
def Ba {α : Type} (lt:Nat->Nat->Bool):KasT α -> α
 | .ret a=>a
 | .ask i j k=>Ba lt (k (lt i j))
theorem Gk{α β : Type}{lt}{f : α->KasT β}:∀t:KasT α,Ba lt (t.bind f)=Ba lt (f (Ba lt t))
 | .ret _=>rfl
 | .ask i j k=>Gk (k (lt i j))
theorem Xe6{α : Type}{n}{lt}{P}{G}  (hc:∀i j C,i<n->j<n->C (lt i j) s->vR i j C s):
  ∀{t:KasT α},KAll n P t->G (Ba lt t) s->t.kasWp vR G s
 | .ret a,_,h=>h
 | .ask i j k,h,g=>hc i j _ h.1 h.2.1 (Xe6 hc (h.2.2 _) g)
theorem KAll.run{α : Type}  {P}:∀{t:KasT α},KAll n P t->P (Ba lt t)
 | .ret a,h=>h
 | .ask i j k,h=>KAll.run (t:=k (lt i j)) (h.2.2 (lt i j))
structure Lin (n:Nat) (lt:Nat->Nat->Bool):Prop where
 irr:∀i,lt i i=false
 tr:∀i j k,lt i j=true->lt j k=true->lt i k=true
 tot:∀i j,i<n->j<n->i≠j->lt i j=true\/lt j i=true
section
variable {n:Nat}{lt:Nat->Nat->Bool}{p:Array Nat}
def Ci (lt:Nat->Nat->Bool) (p:Array Nat) (m:Nat):Prop:=∀i j,i<j->j<m->lt (p.getD i 0) (p.getD j 0)=true
def Xe7 (lt:Nat->Nat->Bool) (p:Array Nat) (m:Nat):Prop:=∀i j,i<j->j<m->lt (p.getD j 0) (p.getD i 0)=true
def Gd.size(h:Gd n p):p.size=n:=by
 have:=h.size_eq;simpa using this
def Gd.inj  (h:Gd n p) (hi:i<n) (hj:j<n) (ne:i≠j):p.getD i 0≠p.getD j 0:=λe=>by
 have sz:=h.size;have nd:p.toList.Nodup:=by
  have q:p.toList.Perm (List.range n):=by simpa using h.toList
  exact q.nodup_iff.mpr List.nodup_range
 have dQ:i<p.toList.length:=by rw[Oq,sz];exact hi
 have fj:j<p.toList.length:=by rw[Oq,sz];exact hj
 have e1:p.getD i 0=p.toList[i]:=by simp[Array.getD,sz,hi]
 have e2:p.getD j 0=p.toList[j]:=by simp[Array.getD,sz,hj]
 rw[e1,e2] at e;exact ne ((List.getElem_inj nd).mp e)
def Lin.flip(L:Lin n lt)(h:Gd n p)(hi:i<n)(hj:j<n)(ne:i≠j)(e:lt (p.getD i 0) (p.getD j 0)=false):lt (p.getD j 0) (p.getD i 0)=true:=by
 have hn:0<n:=by lia
 rcases L.tot _ _ (h.lt hn i) (h.lt hn j) (h.inj hi hj ne) with z | z
 ·rw[z] at e;cases e
 ·exact z
def Lin.no(L:Lin n lt)(h:lt i j=true):lt j i=false:=by
 cases e:lt j i with
 | false=>rfl
 | true=>
  have:=L.tr _ _ _ h e;rw[L.irr] at this;cases this
theorem Nr(L:Lin n lt)(h:Gd n p):∀f m,1<=m->m+f<=n->Ci lt p m->m<=Ba lt (kas_asc p f m)/\Ba lt (kas_asc p f m)<=m+f/\Ci lt p (Ba lt (kas_asc p f m)) /\
  (Ba lt (kas_asc p f m)<m+f->lt (p.getD (Ba lt (kas_asc p f m)) 0) (p.getD (Ba lt (kas_asc p f m) - 1) 0)=true)
 | 0,m,_,_,so=>⟨Oi _,Oi _,so,λz=>absurd z (by show ¬m<m+0;lia)⟩
 | f+1,m,h1,hn,so=>by
  have e:Ba lt (kas_asc p (f+1) m)=Ba lt (if lt (p.getD m 0) (p.getD (m - 1) 0)=true then KasT.ret m else kas_asc p f (m+1)):=rfl;cases c:lt (p.getD m 0) (p.getD (m - 1) 0) with
  | true=>
   rw[e,c,Tr rfl];exact⟨Oi _,by show m<=_;lia,so,λ_=>c⟩
  | false=>
   rw[e,c,Tq (by decide)];have c':=L.flip h (by lia) (by lia) (by lia) c;obtain⟨a1,a2,a3,a4⟩:=Nr L h f (m+1) (by lia) (by lia) (λi j gF hj=>by
    by_cases wv:j<m
    ·exact so i j gF wv
    ·have:j=m:=by lia
     subst this;by_cases hi:i=j - 1
     ·subst hi;exact c'
     ·exact L.tr _ _ _ (so i (j - 1) (by lia) (by lia)) c')
   exact⟨by lia,by lia,a3,λz=>a4 (by lia)⟩
theorem Xe8(L:Lin n lt)(h:Gd n p):∀f m,1<=m->m+f<=n->Xe7 lt p m->∃r,Ba lt (kas_desc f p m 0)=(p,r,0)/\m<=r/\r<=m+f/\Xe7 lt p r
 | 0,m,_,_,so=>⟨m,rfl,Oi _,Oi _,so⟩
 | f+1,m,h1,hn,so=>by
  have e:Ba lt (kas_desc (f+1) p m 0)=Ba lt (if lt (p.getD m 0) (p.getD (m - 1) 0)=true then (if 0 > 0 then kas_desc f (kas_rev p (m - (0+1)) m) (m+1) 0 else kas_desc f p (m+1) 0)
   else .ask (p.getD (m - 1) 0) (p.getD m 0) λd=>if d=true then .ret (p,m,0) else kas_desc f p (m+1) (0+1)):=rfl
  cases c:lt (p.getD m 0) (p.getD (m - 1) 0) with
  | true=>
   rw[e,c,Tr rfl,Tq (by lia)];obtain⟨r,a1,a2,a3,a4⟩:=Xe8 L h f (m+1) (by lia) (by lia) (λi j gF hj=>by
    by_cases wv:j<m
    ·exact so i j gF wv
    ·have:j=m:=by lia
     subst this;by_cases hi:i=j - 1
     ·subst hi;exact c
     ·exact L.tr _ _ _ c (so i (j - 1) (by lia) (by lia)))
   exact⟨r,a1,by lia,by lia,a4⟩
  | false=>
   rw[e,c,Tq (by decide)];have c':=L.flip h (by lia) (by lia) (by lia) c;refine⟨m,?_,Oi _,by lia,so⟩;show Ba lt (if lt (p.getD (m - 1) 0) (p.getD m 0)=true then _ else _)=_;rw[Tr c'];rfl
def Ii(p:Array Nat)(i):p.getD i 0=(p[i]?).getD 0:=by simp
def Xe9  (hm:m<=p.size) (hi:i<m):(kas_rev p 0 m).getD i 0=p.getD (m - 1 - i) 0:=by
 rw[Ii,Ii];show ((mirror p 0 m ((m - 0) / 2))[i]?).getD 0=_;rw[lu hm,Tr (by lia)];congr 2
 lia
def Xnn(L:Lin n lt)(h:Gd n p)(hn:1<=n):∃m p',Ba lt (kas_count n p)=(m,p')/\1<=m/\m<=n/\Gd n p'/\Ci lt p' m:=by
 have sz:=h.size;unfold kas_count;rw[Gk];obtain⟨a1,a2,a3,a4⟩:=Nr (lt:=lt) L h (n - 1) 1 (Oi _) (by lia) (λi j gF hj=>by lia);generalize Ba lt (kas_asc p (n - 1) 1)=r at *;by_cases e1:(r==n)=true
 ·rw[Tr e1];exact⟨r,p,rfl,a1,by lia,h,a3⟩
 ·rw[Tq e1];have rn:r≠n:=λz=>e1 (by rw[z];exact beq_self_eq_true _);by_cases e2:r > 1
  ·rw[Tr e2];refine⟨r,p,?_,a1,by lia,h,a3⟩;show Ba lt (if lt (p.getD 0 0) (p.getD (r - 1) 0)=true then _ else _)=_;rw[Tr (a3 0 (r - 1) (by lia) (by lia))];rfl
  ·rw[Tq e2];obtain rfl:r=1:=by lia
   have a4:=a4 (by lia);unfold kas_descPart;rw[Gk];obtain⟨r2,b1,b2,b3,b4⟩:=Xe8 (lt:=lt) L h (n - (1+1)) (1+1) (by lia) (by lia) (λi j gF hj=>by
    have:j=1:=by lia
    subst this;have:i=0:=by lia
    subst this;exact a4)
   rw[b1];dsimp only;rw[Tq (by lia)];unfold kas_tail3;rw[Gk];have zp:=h.rev 0 r2;obtain⟨c1,c2,c3,_⟩:=Nr (lt:=lt) L zp (n - r2) r2 (by lia) (by lia) (λi j gF hj=>by
    rw[Xe9 (by lia) (by lia),Xe9 (by lia) (by lia)];exact b4 _ _ (by lia) (by lia))
   exact⟨_,_,rfl,by lia,by lia,zp,c3⟩
theorem Nt(L:Lin n lt)(h:Gd n p){k}(hk:k<n)(so:Ci lt p k):∀f l r,r - l<=f->l<=r->r<=k->(∀i,i<l->lt (p.getD i 0) (p.getD k 0)=true)->(∀i,r<=i->i<k->lt (p.getD k 0) (p.getD i 0)=true) ->
  Ba lt (kas_place p k f l r)<=k/\(∀i,i<Ba lt (kas_place p k f l r)->lt (p.getD i 0) (p.getD k 0)=true)/\(∀i,Ba lt (kas_place p k f l r)<=i->i<k->lt (p.getD k 0) (p.getD i 0)=true)
 | 0,l,r,hf,DG,hr,hl,hg=>by
  have:l=r:=by lia
  subst this;exact⟨hr,hl,hg⟩
 | f+1,l,r,hf,DG,hr,hl,hg=>by
  unfold kas_place;by_cases e:l ≥ r
  ·rw[Tr e];have:l=r:=by lia
   subst this;exact⟨hr,hl,hg⟩
  ·rw[Tq e];have e2:Ba lt (KasT.ask (p.getD k 0) (p.getD ((l+r) / 2) 0) λc=>if c=true then kas_place p k f l ((l+r) / 2) else kas_place p k f ((l+r) / 2+1) r)=Ba lt (if lt (p.getD k 0) (p.getD ((l+r) / 2) 0)=true then kas_place p k f l ((l+r) / 2) else kas_place p k f ((l+r) / 2+1) r):=rfl;rw[e2];have mY:l<=(l+r) / 2:=by lia
   have qp:(l+r) / 2<r:=by lia
   generalize (l+r) / 2=md at *;cases c:lt (p.getD k 0) (p.getD md 0) with
   | true=>
    rw[Tr rfl];refine Nt L h hk so f l md (by lia) (by lia) (by lia) hl λi h1 h2=>?_;by_cases e3:i=md
    ·rw[e3];exact c
    ·exact L.tr _ _ _ c (so md i (by lia) h2)
   | false=>
    rw[Tq (by decide)];have c':=L.flip h hk (by lia) (by lia) c;refine Nt L h hk so f (md+1) r (by lia) (by lia) hr (λi hi=>?_) hg;by_cases e3:i=md
    ·rw[e3];exact c'
    ·exact L.tr _ _ _ (so i md (by lia) (by lia)) c'
def Xfa(hk:k<p.size)(hl:l<=k)(i):(bubble p k (k - l)).getD i 0=if i=l then p.getD k 0 else if l<i/\i<=k then p.getD (i - 1) 0 else p.getD i 0:=by
 simp only[Ii];rw[qq hk _ (by lia),show k - (k - l)=l by lia];by_cases h1:i=l
 ·rw[Tr h1,Tr h1]
 ·rw[Tq h1,Tq h1];by_cases h2:l<i/\i<=k
  ·rw[Tr h2,Tr h2]
  ·rw[Tq h2,Tq h2]
theorem Xfb(L:Lin n lt):∀f (p:Array Nat) k,Gd n p->k+f<=n->Ci lt p k->Ci lt (Ba lt (kas_bin f p k)) (k+f)
 | 0,p,k,_,_,so=>so
 | f+1,p,k,h,hk,so=>by
  have sz:=h.size;have e:Ba lt (kas_bin (f+1) p k)=Ba lt ((kas_place p k k 0 k).bind λl=>kas_bin f (bubble p k (k - l)) (k+1)):=rfl;rw[e,Gk];obtain⟨a1,a2,a3⟩:=Nt (lt:=lt) L h (k:=k) (by lia) so k 0 k (by lia) (by lia) (Oi _) (λi z=>absurd z (Qo _)) (λi h1 h2=>by lia);generalize Ba lt (kas_place p k k 0 k)=l at *;have:=Xfb L f (bubble p k (k - l)) (k+1) ((kE p k _).trans h) (by lia) (λi j gF hj=>by
   rw[Xfa (by lia) a1,Xfa (by lia) a1];by_cases i1:i=l
   ·rw[Tr i1,Tq (by lia),Tr (by lia)];exact a3 _ (by lia) (by lia)
   ·rw[Tq i1];by_cases i2:l<i/\i<=k
    ·rw[Tr i2,Tq (by lia),Tr (by lia)];exact so _ _ (by lia) (by lia)
    ·rw[Tq i2];by_cases j1:j=l
     ·rw[Tr j1];exact a2 i (by lia)
     ·rw[Tq j1];by_cases j2:l<j/\j<=k
      ·rw[Tr j2];by_cases z:i=j - 1
       ·lia
       ·exact so _ _ (by lia) (by lia)
      ·rw[Tq j2];exact so _ _ gF (by lia))
  rw[show k+(f+1)=k+1+f by lia];exact this
def Xno(L:Lin n lt)(hn:0<n):Ci lt (Ba lt (kas_sort n)) n:=by
 unfold kas_sort;rw[Gk];obtain⟨m,p',e,h1,h2,h3,h4⟩:=Xnn (lt:=lt) L (p:=List.toArray (List.range n)) (So _) hn;rw[e];dsimp only;by_cases hm:m<n
 ·rw[Tr hm];have:=Xfb L (n - max m 1) p' (max m 1) h3 (by lia) (by rw[show max m 1=m by lia];exact h4)
  rwa [show max m 1+(n - max m 1)=n by lia] at this
 ·rw[Tq hm];have:m=n:=by lia
  subst this;exact h4
end
open PySem.W (KasT kas_asc kas_desc kas_rev kas_tail3 kas_descPart kas_count kas_place kas_bin kas_sort kas_ask kas_item kat_run kat_snds kat_kind kat_lt KatLex kat_cons kat_go kat_yes kat_no kat_one kat_nil KatTups)
def ltL:Za->Za->Bool
 | [],[]=>false
 | [],_::_=>true
 | _::_,[]=>false
 | x::a,y::b=>if x=y then ltL a b else decide (ltS x y)
theorem Nv:∀a,ltL a a=false
 | []=>rfl
 | x::a=>by
  show (if x=x then ltL a a else _)=false;rw[Tr rfl];exact Nv a
theorem Xfc:∀a b c,ltL a b=true->ltL b c=true->ltL a c=true
 | [],[],c,h,_=>by cases h
 | [],_::_,[],_,g=>by cases g
 | [],_::_,_::_,_,_=>rfl
 | _::_,[],_,h,_=>by cases h
 | _::_,_::_,[],_,g=>by cases g
 | x::a,y::b,z::c,h,g=>by
  have h:(if x=y then ltL a b else decide (ltS x y))=true:=h;have g:(if y=z then ltL b c else decide (ltS y z))=true:=g;show (if x=z then ltL a c else decide (ltS x z))=true;by_cases e1:x=y
  ·subst e1;rw[Tr rfl] at h;by_cases e2:x=z
   ·rw[Tr e2] at g ⊢;exact Xfc a b c h g
   ·rw[Tq e2] at g ⊢;exact g
  ·rw[Tq e1] at h;by_cases e2:y=z
   ·subst e2;rw[Tq e1];exact h
   ·rw[Tq e2] at g;have q:=Js (Tv h) (Tv g);rw[Tq (Hn q)];exact Tt q
theorem Xfd:∀a b,a≠b->ltL a b=true\/ltL b a=true
 | [],[],n=>absurd rfl n
 | [],_::_,_=>.inl rfl
 | _::_,[],_=>.inr rfl
 | x::a,y::b,n=>by
  show (if x=y then ltL a b else decide (ltS x y))=true\/(if y=x then ltL b a else decide (ltS y x))=true;by_cases e:x=y
  ·subst e;rw[Tr rfl,Tr rfl];exact Xfd a b λz=>n (by rw[z])
  ·rw[Tq e,Tq (λz=>e z.symm)];rcases Mg x y with z | z
   ·exact .inl (Tt (ltS_of z e))
   ·exact .inr (Tt (ltS_of z λq=>e q.symm))
section
variable {prog:ap}{w:ax}{A:av}{E:Zb}{s:af}
def Xfe (h:am) (v:aa) (ss:Za):Prop:=∃a o xs n,v = .ref a/\h.get? a=some o/\o.cls = .type "tuple" /\ o.data = .seq xs n/\aE xs.toList ss
def TupsO (h:am) (vs:List aa) (Ts:List (Za)):Prop:=vs.length=Ts.length/\∀i,i<vs.length->Xfe h (vs.getD i .none) (Ts.getD i [])
end
section
variable {X:Cx}
end
def Xnp(x y)(xs ys):ltL (x::xs) (y::ys)=if x=y then ltL xs ys else decide (ltS x y):=rfl
def Xnq:ltL [] []=false:=rfl
def Xnr(y)(ys):ltL [] (y::ys)=true:=rfl
def Xns(x)(xs):ltL (x::xs) []=false:=rfl
def Xnt(A)(s)(a)(t)(c)(u):∃e,SeqAt.EqAt A s (.str a t) (.str c u) e/\(e=true↔a=c):=
 ⟨(a==c),SeqAt.EqAt.str_str a t c u,by simp⟩
def Xnu(A)(s)(a)(t)(c)(u)(prog)(w)(E)(Q)(h:Q (.bool (decide (ltS a c))) s):
  ai (ah prog w) A (richCompare .Lt (.str a t) (.str c u)) Q E s:=
 (PyProof.Rows.lt_str h:ai (ah prog w) A (aL .Lt (.str a t) (.str c u)) Q E s)
section
open PySem.SeqAt
open PySem.AutoSeq1 (wpAny_loadPart')
open PySem.MeetsSeq PySem.MeetsSeq2 PySem.MeetsSeq3
def Xnv(l b)(az cH)(n n2)(dd mQ)(sl mR)(ns ms)(hi:aE az.toList ns)(hj:aE cH.toList ms):
  Meets (ak.«tuple.__lt__» ⟨[.ref l,.ref b],[]⟩)
   (λ_ R s=>s.heap.get? l=some {cls:=.type "tuple",dict:=dd,data:=.seq az n,slots:=sl}/\s.heap.get? b=some {cls:=.type "tuple",dict:=mQ,data:=.seq cH n2,slots:=mR} /\
    R (.ok (.ret (.bool (ltL ns ms)))) s):=
 .of_wp λprog w A R s h=>by
  obtain⟨hp,g,d,tk,os⟩:=s;obtain⟨hl,hb,h⟩:=h;have f2:=AutoSeq1.sub_tuple_tuple;have z1:az.size=ns.length:=by rw[<-hi.length];simp
  have z2:cH.size=ms.length:=by rw[<-hj.length];simp
  wp_walk using wpAny_loadPart' hl,wpAny_loadPart' hb,wpAny_forIn_list _ (λrest b s'=>b.1=none/\s'=⟨hp,g,d,tk,os⟩/\∃(vs ws:List aa) (qr qt:Za),rest=vs.zip ws /\
   aE vs qr/\aE ws qt/\qr.length+cH.size=qt.length+az.size/\R (.ok (.ret (.bool (ltL qr qt)))) ⟨hp,g,d,tk,os⟩) _
  case turn=>
   rintro ⟨y,x⟩ rest b s' ⟨dL,rfl,vs,ws,qr,qt,hz,ww,ux,aN,hR⟩;cases ww with
   | nil=>rw[List.zip_nil_left] at hz;cases hz
   | cons a t wx=>
    cases ux with
    | nil=>rw[List.zip_nil_right] at hz;cases hz
    | cons c u wz=>
     rw[List.zip_cons_cons] at hz;injection hz with DH si
     injection DH with hy hx
     subst hy hx;rw[Xnp] at hR;simp only[O5] at aN;obtain⟨e,he,sj⟩:=Xnt A.in1 ⟨hp,g,d,tk,os⟩ a t c u;refine Tj (he prog w _ _ ?_);cases e with
     | true=>
      rw[Tr (sj.mp rfl)] at hR
      wp_walk
      exact⟨rfl,rfl,_,_,_,_,si,wx,wz,by lia,hR⟩
     | false=>
      rw[Tq (λq=>absurd (sj.mpr q) Oy)] at hR;have DI:=Xnu A.in1 ⟨hp,g,d,tk,os⟩ a t c u prog w
      wp_walk using DI
      exact⟨_,rfl,by simpa using hR⟩
  case fin=>
   rintro ⟨b1,b2⟩ s' ⟨dL,rfl,vs,ws,qr,qt,hz,ww,ux,aN,hR⟩;simp only at dL;subst dL;have hv:ltL qr qt=decide (az.size<cH.size):=by
    cases ww with
    | nil=>
     cases ux with
     | nil=>
      simp only[Qu] at aN;rw[Xnq];exact(Tu (by lia)).symm
     | cons c u hw=>
      simp only[Qu,O5] at aN;rw[Xnr];exact(Tt (by lia)).symm
    | cons a t hv=>
     cases ux with
     | nil=>
      simp only[Qu,O5] at aN;rw[Xns];exact(Tu (by lia)).symm
     | cons c u hw=>
      rw[List.zip_cons_cons] at hz;cases hz
   rw[hv] at hR
   wp_walk
   exact⟨_,rfl,by simpa [ak.Tuple.tupleCompareSizes] using hR⟩
  case h=>
   exact⟨rfl,rfl,az.toList,cH.toList,ns,ms,rfl,hi,hj,by lia,h⟩
end
open PySem.W (KasT kas_sort kas_ask kas_item kat_run kat_snds kat_kind kat_lt KatLex kat_cons kat_go kat_yes kat_no kat_one kat_nil KatTups)
section
variable {prog:ap}{w:ax}{A:av}{E:Zb}{s:af}
def Xnw    (hl:dh s.heap l az) (hb:dh s.heap b cH) (hi:aE az.toList ns) (hj:aE cH.toList ms)
  (hu:A.units<bD) (h:Q (.bool (ltL ns ms)) s):ai (ah prog w) A (aL .Lt (.ref l) (.ref b)) Q E s:=by
 obtain⟨⟨cls,dd,data,sl⟩,ho,hc,n,hd⟩:=id hl;obtain⟨⟨qS,mQ,data2,mR⟩,j8,gp,n2,cK⟩:=id hb;simp only at hc hd gp cK;subst hc hd gp cK;exact richCompare_meets_room (op:=.Lt) ⟨_,ho,rfl⟩ ⟨_,j8,rfl⟩ PySem.F.slot_tuple_lt PySem.F.entry_tuple_lt (PySem.F.args_tuple_lt_2 _ _) (Xnv l b az cH n n2 dd mQ sl mR ns ms hi hj)
  ⟨ho,j8,show aa.bool (ltL ns ms)≠aa.notImplemented/\Q (.bool (ltL ns ms)) s from ⟨(λx=>nomatch x),h⟩⟩ hu
def C2 (n:Nat) (a:Za) (m:Nat) (b:Za):Bool:=if n=m then ltL a b else decide (n<m)
def Xff  (h:aE vs ss):ItemsAre (Bb prog w) (ss.map Sum.inr) vs:=by
 induction h with
 | nil=>exact .nil
 | cons x t r ih=>exact .cons (show D6 (.inr x) (.str x t)=true by simp[D6,aa.isStrOf]) ih
def Ij (h:am) (v:aa) (n:Nat) (ss:Za):Prop:=∃a o xs k t u,v = .ref a/\h.get? a=some o/\o.cls = .type "tuple" /\ o.data = .seq xs k/\xs.toList=[.int n t,u]/\Xfe h u ss
def Xnx    (hu:A.units<bD) (hx:Ij s.heap x n as) (hy:Ij s.heap y m bs) (h:C (C2 n as m bs) s):ai (ah prog w) A (mi (tuples' true) x y) C E s:=by
 obtain⟨a,o,xs,k,t,u,rfl,h1,h2,h3,h4,h5⟩:=hx;obtain⟨b,o',ys,k',t',u',rfl,g1,g2,g3,g4,g5⟩:=hy;refine kat_lt h1 h3 g1 g3 ?_;rw[h4,g4];have ef:decide (xs.size<ys.size)=false:=by
  have e1:xs.size=2:=by rw[<-Oq,h4];rfl
  have e2:ys.size=2:=by rw[<-Oq,g4];rfl
  rw[e1,e2];decide
 rw[ef];show KatLex prog w A true false C [(.int n t,.int m t'),(u,u')] 0 s;unfold C2 at h;refine kat_cons (nU ?_);refine kat_go (λe=>kat_yes ?_) (λe=>kat_no ?_)
 ·have e:n=m:=by have:=Tv e;lia
  rw[Tr e] at h;obtain⟨c,oc,cs,kc,rfl,c1,c2,c3,c4⟩:=h5;obtain⟨d,od,ds,kd,rfl,d1,d2,d3,d4⟩:=g5;refine kat_cons (wpAny_eqBool_tuple (knd:=Bb prog w) hu ⟨oc,cs,kc,c1,c2,c3,Xff c4⟩ ⟨od,ds,kd,d1,d2,d3,Xff d4⟩ ?_);refine kat_go (λe2=>kat_yes (kat_nil ?_)) (λe2=>kat_no ?_)
  ·have e2:as=bs:=by
    have:=Tv e2;exact Sz (λ_ _ q=>Q0 q) |>.mp this
   rw[e2,Nv] at h;exact h
  ·exact kat_one _ _ (Xnw ⟨oc,c1,c2,kc,c3⟩ ⟨od,d1,d2,kd,d3⟩ c4 d4 hu h)
 ·have e:¬n=m:=λz=>by
   have:=Tw e
   lia
  rw[Tq e] at h;refine oneLt_int ?_;have:decide ((n:Int)<(m:Int))=decide (n<m):=by simp
  rw[this];exact h
end
open PySem.W (KasT kas_sort kas_ask kas_item kat_run kat_snds kat_kind KatTups)
section
variable {X:Cx}{pins:List (ae×aM)}{Z:List (Option V)}{H:Hp}{s:af}
def Inv.unpin(I:Inv X (p::pins) Z H s):Inv X pins Z H s:=
 I.pins_of λq hq=>I.pin q (Pc _ (Op _ hq))
def Xny    (I:Inv X ((D,ar "list" #[] e1)::pins) Z H s) (hD:X.s₀.heap.objs.size<=D) (gG:∀p∈X.pn++pins,p.1≠D) (hv:Vals ys out) (hz:ys.length<=sizeLine):
  Inv X pins Z (upd H D (.lst ys)) {s with heap:=s.heap.update D (aM.mapSeq λ_=>out.toArray)}:=by
 obtain⟨hg,hn,hl,hf,_⟩:=I.pin (D,ar "list" #[] e1) (Pc _ Ov);have J:=I.unpin;have sb:=T0 s.heap D (aM.mapSeq λ_=>out.toArray);obtain⟨c2,gp⟩:∃c2,(s.heap.update D (aM.mapSeq λ_=>out.toArray)).get? D=some (ar "list" out.toArray c2):=⟨_,dw hg λ_=>out.toArray⟩;have kp:∀b o,b≠D->s.heap.get? b=some o->(s.heap.update D (aM.mapSeq λ_=>out.toArray)).get? b=some o:=λb o n e=>(sb.2 b n).trans e;have nD:∀b u,H b=some u->b≠D:=λb u e z=>by rw[z,hn] at e;cases e
 have up:∀b u,H b=some u->(upd H D (.lst ys)) b=some u:=λb u e=>by rw[Ad (nD b u e)];exact e
 refine J.step (g':=s.gens) (d':=s.drawn) (t':=s.toks) (ch:=[D]) (λb hb=>?_) (λb o _ _ hc e _=>kp b o (λz=>hc (by rw[z];exact Qp _)) e) (λb o _ _ hc e _=>⟨o.slots,kp b o (λz=>hc (by rw[z];exact Qp _)) e⟩)
  (λb o hc e n=>?_) (λb o hc e=>⟨o,kp b o (λz=>hc (by rw[z];exact Qp _)) e⟩) (λb xs e=>up b _ e) (λb o u e=>up b _ e) (λb pz e=>⟨#[],by rw[up b _ e];simp⟩) (λm hm=>hm.sameBut sb (Ne.symm hl)) ?_ J.bare
 ·rw[Om.mp hb];refine⟨.inr hD,hl,λx c e z=>?_,λp hp=>gG p hp⟩;obtain⟨v,o,ho,hd⟩:=J.cell x c e;rw[z,hg] at ho;cases ho;cases hd
 ·rw[Ad (λz=>hc (by rw[z];exact Qp _))];exact n
 ·intro b u e;by_cases z:b=D
  ·subst z;rw[Ab] at e;cases e;exact⟨hz,out,c2,hv,gp⟩
  ·rw[Ad z] at e;refine(J.hok b u e).stay (λd v hd g=>kp d v ?_ g) (λd g=>up d _ g) λd xs g=>up d _ g;rcases hd with rfl | hd
   ·exact z
   ·exact nD d _ hd
end
abbrev SM:=StateT aV fK
def Da:Bool->ay->Array ay->Nat->Nat->Nat->SM (Option Nat):=sortPriv% PySem.Builtin.gallop
def bey (l:Bool) (k:ay) (c:Array ay) (i:Nat):SM (Option Bool):=do
 let x <-elem' c i
 if l then lt' x k else
  let r <-lt' k x
  return r.map (!·)
def Kj (l:Bool) (k:ay) (c:Array ay) (b n u0 v0:Nat):SM (Option Nat):=do
 let mut u:=u0
 let mut v:=v0
 for _ in [0:n] do
  if u ≥ v then break
  let q:=u+(v - u) / 2
  let some m <-bey l k c (b+q) | return none
  if m then u:=q+1 else v:=q
 return some v
def Xnz(l:Bool)(k:ay)(c:Array ay)(b n h:Nat):Da l k c b n h=(do
  let some r <-bey l k c (b+h) | return none
  if r then
   let mut la:=0
   let mut o:=1
   for _ in [0:n] do
    if o ≥ n - h then break
    let some m <-bey l k c (b+(h+o)) | return none
    if !m then break
    la:=o
    o:=2 * o+1
   Kj l k c b n (h+la+1) (h+min o (n - h))
  else
   let mut la:=0
   let mut o:=1
   for _ in [0:n] do
    if o ≥ h+1 then break
    let some m <-bey l k c (b+(h - o)) | return none
    if m then break
    la:=o
    o:=2 * o+1
   Kj l k c b n (h+1 - min o (h+1)) (h - la)):=rfl
open PySem.W (kas_item kas_cmp)
structure Wk (lt:Nat->Nat->Bool):Prop where
 up:∀{x y},lt x y=true->lt y x=false
 lt:∀{x y z},lt y x=false->lt z y=false->lt z x=false
def le (lt:Nat->Nat->Bool) (x y:Nat):Bool := !lt y x
section
variable {lt:Nat->Nat->Bool}{x y z:Nat}
def Bo(h:lt y x=false):le lt x y=true:=by unfold le;rw[h];rfl
def Fu(h:le lt x y=true):lt y x=false:=by unfold le at h;simpa using h
def Wk.u(L:Wk lt)(h:lt x y=true):le lt x y=true:=Bo (L.up h)
def Wk.tr(L:Wk lt)(h:le lt x y=true)(g:le lt y z=true):le lt x z=true:=Bo (L.lt (Fu h) (Fu g))
def Wk.ml(L:Wk lt)(h:le lt x y=true)(g:lt y z=true):lt x z=true:=by
 cases e:lt x z with
 | true=>rfl
 | false=>rw[L.lt e (Fu h)] at g;cases g
def Wk.mr(L:Wk lt)(h:lt x y=true)(g:le lt y z=true):lt x z=true:=by
 cases e:lt x z with
 | true=>rfl
 | false=>rw[L.lt (Fu g) e] at h;cases h
def Wk.rf(L:Wk lt):le lt x x=true:=by
 cases e:lt x x with
 | false=>exact Bo e
 | true=>exact L.u e
end
structure CmS (prog:ap) (w:ax) (A:av) (s:af) (κ : cc) (it:Array ay) (n:Nat) (lt:Nat->Nat->Bool):Prop where
 L:Wk lt
 c:∀i j (C:Bool->af->Prop),i<n->j<n->C (lt i j) s->kas_cmp prog w A κ it i j C s
def Fk (it:Array ay) (l:List Nat):Array ay:=(l.map (kas_item it)).toArray
section
variable {prog:ap}{w:ax}{A:av}{E:Zb}{s:af}{κ : cc}{it:Array ay}{n:Nat}{lt:Nat->Nat->Bool}
def Ik(hc:CmS prog w A s κ it n lt)  (hx:x<n)(hy:y<n){st}(hk:kindOf st = κ)(h:Q (some (lt x y)) st):dR (ah prog w) A E s (lt' (kas_item it x) (kas_item it y)) Q st:=by
 rw[lt'_eq];refine Tl (bM ?_);rw[hk];refine Tl (cS (bP (aJ (hc.c x y (λb s'=>s'=s/\b=lt x y) hx hy ⟨rfl,rfl⟩) (λb s' e=>?_) λ_ _ hF=>hF.elim)));obtain⟨rfl,rfl⟩:=e;exact⟨rfl,Tn h⟩
def Bm   (hi:l[i]? = some x) {st} (h:Q (kas_item it x) st):dR (ah prog w) A E s (elem' (Fk it l) i) Q st:=by
 rw[elem'_eq];have e:(Fk it l)[i]? = some (kas_item it x):=by
  unfold Fk;rw[Rg,O2,hi];rfl
 rw[e];exact Tn h
def beyB (lt:Nat->Nat->Bool) (l:Bool) (k x:Nat):Bool:=if l then lt x k else !lt k x
def Gm(hc:CmS prog w A s κ it n lt)  {left}  (hi:l[i]? = some x)(hx:x<n)(hk:k<n){st}(jG:kindOf st = κ)(h:Q (some (beyB lt left k x)) st):dR (ah prog w) A E s (bey left (kas_item it k) (Fk it l) i) Q st:=by
 unfold bey;refine Tl (Bm hi ?_);cases left with
 | true=>
  rw[Tr rfl];exact Ik hc hx hk jG h
 | false=>
  rw[Tq (by decide)];exact Tl (Ik hc hk hx jG (Tn h))
structure Mono (m:Nat) (P:Nat->Bool):Prop where
 dn:∀i j,i<j->j<m->P j=true->P i=true
def Mono.up   (M:Mono m P) (h:i<=j) (hj:j<m) (e:P i=false):P j=false:=by
 by_cases z:i=j
 ·rw[<-z];exact e
 ·cases q:P j with
  | false=>rfl
  | true=>rw[M.dn i j (by lia) hj q] at e;cases e
def Gn     {P} {st} (M:Mono m P) (hh:h<m)
  (ask:∀i,i<m->∀Q:Option Bool->aV->Prop,Q (some (P i)) st->dR (ah prog w) A E s (bey left key zq (b+i)) Q st) (hq:∀r,r<=m->(∀i,i<r->P i=true)->(∀i,r<=i->i<m->P i=false)->Q (some r) st):dR (ah prog w) A E s (Da left key zq b m h) Q st:=by
 rw[Xnz];have en:∀(u v:Nat),u<=v->v<=m->(∀i,i<u->P i=true)->(∀i,v<=i->i<m->P i=false) ->
   dR (ah prog w) A E s (Kj left key zq b m u v) Q st:=by
  intro u v mf hv hu DJ;unfold Kj;refine Tl (bg (aK (I:=λx c a8=>a8=st/\∃u v,c=(none,u,v)/\u<=v/\v<=m/\v - u<=m - x/\(∀i,i<u->P i=true)/\(∀i,v<=i->i<m->P i=false)) (Q:=λc a8=>a8=st/\∃u,c=(none,u,u)/\u<=m/\(∀i,i<u->P i=true)/\(∀i,u<=i->i<m->P i=false)) ?step ?fin ⟨rfl,u,v,rfl,mf,hv,by lia,hu,DJ⟩) ?post)
  case fin=>
   rintro c a8 ⟨rfl,u,v,rfl,h1,h2,h3,h4,h5⟩;have:u=v:=by lia
   subst this;exact⟨rfl,u,rfl,h2,h4,h5⟩
  case step=>
   rintro x c a8 _ hx ⟨rfl,u,v,rfl,h1,h2,h3,h4,h5⟩;dsimp only;by_cases e:u ≥ v
   ·rw[Tr e];have:u=v:=by lia
    subst this;exact Tn ⟨rfl,u,rfl,h2,h4,h5⟩
   ·rw[Tq e];refine Tl (ask _ (by lia) _ ?_);dsimp only;cases q:P (u+(v - u) / 2) with
    | true=>
     rw[Tr rfl];refine Tn ⟨rfl,_,v,rfl,by lia,h2,by lia,λi hi=>?_,h5⟩;by_cases z:i=u+(v - u) / 2
     ·rw[z];exact q
     ·exact M.dn i _ (by lia) (by lia) q
    | false=>
     rw[Tq (by decide)];refine Tn ⟨rfl,u,_,rfl,by lia,by lia,by lia,h4,λi hi hm=>M.up hi hm q⟩
  case post=>
   rintro c a8 ⟨rfl,u,rfl,h2,h4,h5⟩;exact Tn (hq u h2 h4 h5)
 refine Tl (ask h hh _ ?_);dsimp only;cases q:P h with
 | true=>
  rw[Tr rfl];refine Tl (bg (aK (I:=λx c a8=>a8=st/\∃la o,c=(none,la,o)/\P (h+la)=true/\h+la<m/\la<o/\x+1<=o) (Q:=λc a8=>a8=st/\∃la o,c=(none,la,o)/\P (h+la)=true/\h+la<m/\la<o/\(h+min o (m - h)<m->P (h+min o (m - h))=false)) ?step ?fin ⟨rfl,0,1,rfl,q,hh,by lia,by lia⟩) ?post)
  case fin=>
   rintro c a8 ⟨rfl,la,o,rfl,h1,h2,h3,h4⟩;exact⟨rfl,la,o,rfl,h1,h2,h3,λz=>by lia⟩
  case step=>
   rintro x c a8 _ hx ⟨rfl,la,o,rfl,h1,h2,h3,h4⟩;dsimp only;by_cases e:o ≥ m - h
   ·rw[Tr e];exact Tn ⟨rfl,la,o,rfl,h1,h2,h3,λz=>by lia⟩
   ·rw[Tq e];refine Tl (ask _ (by lia) _ ?_);dsimp only;cases q2:P (h+o) with
    | true=>exact Tn ⟨rfl,o,2 * o+1,rfl,q2,by lia,by lia,by lia⟩
    | false=>exact Tn ⟨rfl,la,o,rfl,h1,h2,h3,λz=>by rw[show min o (m - h)=o by lia];exact q2⟩
  case post=>
   rintro c a8 ⟨rfl,la,o,rfl,h1,h2,h3,h4⟩;dsimp only;refine en (h+la+1) (h+min o (m - h)) (by lia) (by lia) (λi hi=>?_) (λi hi hm=>M.up hi hm (h4 (by lia)));by_cases z:i=h+la
   ·rw[z];exact h1
   ·exact M.dn i _ (by lia) h2 h1
 | false=>
  rw[Tq (by decide)];refine Tl (bg (aK (I:=λx c a8=>a8=st/\∃la o,c=(none,la,o)/\P (h - la)=false/\la<=h/\la<o/\x+1<=o) (Q:=λc a8=>a8=st/\∃la o,c=(none,la,o)/\P (h - la)=false/\la<=h/\la<o/\(o<h+1->P (h - o)=true)) ?step ?fin ⟨rfl,0,1,rfl,q,by lia,by lia,by lia⟩) ?post)
  case fin=>
   rintro c a8 ⟨rfl,la,o,rfl,h1,h2,h3,h4⟩;exact⟨rfl,la,o,rfl,h1,h2,h3,λz=>by lia⟩
  case step=>
   rintro x c a8 _ hx ⟨rfl,la,o,rfl,h1,h2,h3,h4⟩;dsimp only;by_cases e:o ≥ h+1
   ·rw[Tr e];exact Tn ⟨rfl,la,o,rfl,h1,h2,h3,λz=>by lia⟩
   ·rw[Tq e];refine Tl (ask _ (by lia) _ ?_);dsimp only;cases q2:P (h - o) with
    | true=>exact Tn ⟨rfl,la,o,rfl,h1,h2,h3,λz=>q2⟩
    | false=>exact Tn ⟨rfl,o,2 * o+1,rfl,q2,by lia,by lia,by lia⟩
  case post=>
   rintro c a8 ⟨rfl,la,o,rfl,h1,h2,h3,h4⟩;dsimp only;refine en (h+1 - min o (h+1)) (h - la) (by lia) (by lia) (λi hi=>?_) (λi hi hm=>M.up hi hm h1);have ho:o<h+1:=by lia
   have:=h4 ho;rw[show min o (h+1)=o by lia] at hi;by_cases z:i=h - o
   ·rw[z];exact this
   ·exact M.dn i _ (by lia) (by lia) this
end
open PySem.W (kas_item kas_cmp)
def mLo:Array ay->Array ay->SM (Array ay):=sortPriv% PySem.Builtin.mergeLo
def Dy:Nat->SM Unit:=sortPriv% PySem.Builtin.setMinGallop
def Xn0(g):Dy g=modify λst=>aV.mk' (kindOf st) (bi st) (aZ st) g (bp st):=rfl
def dnL (a b o:Array ay) (i j:Nat):Array ay:=o++a.extract i a.size++b.extract j b.size
def lsL (a b o:Array ay) (i j:Nat):Array ay:=o++b.extract j b.size++a.extract i a.size
abbrev MTO:=Option (Array ay)×Array ay×Nat×Nat×Nat
abbrev MTI:=Option (Array ay)×Array ay×Nat×Nat×Nat×Nat
abbrev MTG:=Option (Array ay)×Array ay×Nat×Nat×Nat×Nat×Nat
def Nw (a b:Array ay) (g:Nat) (d:MTI):SM (ForInStep MTI):=do
 let y <-elem' b d.2.2.2.1
 let x <-elem' a d.2.2.1
 let r <-lt' y x
 match r with
 | some c=>
  if c=true then do
   let y <-elem' b d.2.2.2.1
   if (d.2.2.2.1+1==b.size)=true then pure (.done (some (dnL a b (d.2.1.push y) d.2.2.1 (d.2.2.2.1+1)),d.2.1.push y,d.2.2.1,d.2.2.2.1+1,0,d.2.2.2.2.2+1))
   else if d.2.2.2.2.2+1 ≥ g then pure (.done (none,d.2.1.push y,d.2.2.1,d.2.2.2.1+1,0,d.2.2.2.2.2+1))
   else pure (.yield (none,d.2.1.push y,d.2.2.1,d.2.2.2.1+1,0,d.2.2.2.2.2+1))
  else do
   let x <-elem' a d.2.2.1
   if (d.2.2.1+1+1==a.size)=true then pure (.done (some (lsL a b (d.2.1.push x) (d.2.2.1+1) d.2.2.2.1),d.2.1.push x,d.2.2.1+1,d.2.2.2.1,d.2.2.2.2.1+1,0))
   else if d.2.2.2.2.1+1 ≥ g then pure (.done (none,d.2.1.push x,d.2.2.1+1,d.2.2.2.1,d.2.2.2.2.1+1,0))
   else pure (.yield (none,d.2.1.push x,d.2.2.1+1,d.2.2.2.1,d.2.2.2.2.1+1,0))
 | _=>pure (.done (some (dnL a b d.2.1 d.2.2.1 d.2.2.2.1),d.2.1,d.2.2.1,d.2.2.2.1,d.2.2.2.2.1,d.2.2.2.2.2))
def gV3 (a b o:Array ay) (i j g p q:Nat):SM (ForInStep MTG):=do
 let x <-elem' a i
 if (i+1+1==a.size)=true then pure (.done (some (lsL a b (o.push x) (i+1) j),o.push x,i+1,j,g,p,q))
 else if (decide (p<7)&&decide (q<7))=true then pure (.done (none,o.push x,i+1,j,g,p,q))
 else pure (.yield (none,o.push x,i+1,j,g,p,q))
def gV2 (a b o:Array ay) (i j g p q:Nat):SM (ForInStep MTG):=do
 let y <-elem' b j
 if (j+1==b.size)=true then pure (.done (some (dnL a b (o.push y) i (j+1)),o.push y,i,j+1,g,p,q))
 else do
  let x <-elem' a i
  let r <-Da true x b (j+1) (b.size - (j+1)) 0
  match r with
  | some k=>
   if k > 0 then
    if (j+1+k==b.size)=true then pure (.done (some (dnL a b (o.push y++b.extract (j+1) (j+1+k)) i (j+1+k)),o.push y++b.extract (j+1) (j+1+k),i,j+1+k,g,p,k))
    else gV3 a b (o.push y++b.extract (j+1) (j+1+k)) i (j+1+k) g p k
   else gV3 a b (o.push y) i (j+1) g p k
  | _=>pure (.done (some (dnL a b (o.push y) i (j+1)),o.push y,i,j+1,g,p,q))
def gV1 (a b o:Array ay) (i j g p q:Nat):SM (ForInStep MTG):=do
 Dy g
 let y <-elem' b j
 let r <-Da false y a i (a.size - i) 0
 match r with
 | some k=>
  if k > 0 then
   if (i+k+1==a.size)=true then pure (.done (some (lsL a b (o++a.extract i (i+k)) (i+k) j),o++a.extract i (i+k),i+k,j,g,k,q))
   else if (i+k==a.size)=true then pure (.done (some (dnL a b (o++a.extract i (i+k)) (i+k) j),o++a.extract i (i+k),i+k,j,g,k,q))
   else gV2 a b (o++a.extract i (i+k)) (i+k) j g k q
  else gV2 a b o i j g k q
 | _=>pure (.done (some (dnL a b o i j),o,i,j,g,p,q))
def Kk (a b:Array ay) (c:MTO):SM (ForInStep MTO):=do
 let d <-forIn [0:a.size+b.size] ((none,c.2.1,c.2.2.1,c.2.2.2.1,0,0):MTI) λ_ d=>Nw a b c.2.2.2.2 d
 match d.1 with
 | some r=>pure (.done (some r,d.2.1,d.2.2.1,d.2.2.2.1,c.2.2.2.2))
 | none=>do
  liftM (rule "list.sort.gallop")
  let e <-forIn [0:a.size+b.size] ((none,d.2.1,d.2.2.1,d.2.2.2.1,c.2.2.2.2+1,d.2.2.2.2.1,d.2.2.2.2.2):MTG) λ_ e=>
   if e.2.2.2.2.1 > 1 then gV1 a b e.2.1 e.2.2.1 e.2.2.2.1 (e.2.2.2.2.1 - 1) e.2.2.2.2.2.1 e.2.2.2.2.2.2 else gV1 a b e.2.1 e.2.2.1 e.2.2.2.1 e.2.2.2.2.1 e.2.2.2.2.2.1 e.2.2.2.2.2.2
  match e.1 with
  | some r=>pure (.done (some r,e.2.1,e.2.2.1,e.2.2.2.1,e.2.2.2.2.1))
  | none=>do
   Dy (e.2.2.2.2.1+1)
   pure (.yield (none,e.2.1,e.2.2.1,e.2.2.2.1,e.2.2.2.2.1+1))
def Xn1(a b:Array ay):mLo a b=(do
  liftM (rule "list.sort.merge-lo")
  let x0 <-elem' b 0
  let mut o:Array ay := #[x0]
  let mut i:=0
  let mut j:=1
  if j==b.size then return dnL a b o i j
  if i+1==a.size then return lsL a b o i j
  let mut g:=dI (<-get)
  for _ in [0:a.size+b.size] do
   let mut p:=0
   let mut q:=0
   for _ in [0:a.size+b.size] do
    let some c <-lt' (<-elem' b j) (<-elem' a i) | return dnL a b o i j
    if c then
     o:=o.push (<-elem' b j)
     j:=j+1
     q:=q+1
     p:=0
     if j==b.size then return dnL a b o i j
     if q ≥ g then break
    else
     o:=o.push (<-elem' a i)
     i:=i+1
     p:=p+1
     q:=0
     if i+1==a.size then return lsL a b o i j
     if p ≥ g then break
   liftM (rule "list.sort.gallop")
   g:=g+1
   for _ in [0:a.size+b.size] do
    if g > 1 then g:=g - 1
    Dy g
    let some k <-Da false (<-elem' b j) a i (a.size - i) 0 | return dnL a b o i j
    p:=k
    if k > 0 then
     o:=o++a.extract i (i+k)
     i:=i+k
     if i+1==a.size then return lsL a b o i j
     if i==a.size then return dnL a b o i j
    o:=o.push (<-elem' b j)
    j:=j+1
    if j==b.size then return dnL a b o i j
    let some k <-Da true (<-elem' a i) b j (b.size - j) 0 | return dnL a b o i j
    q:=k
    if k > 0 then
     o:=o++b.extract j (j+k)
     j:=j+k
     if j==b.size then return dnL a b o i j
    o:=o.push (<-elem' a i)
    i:=i+1
    if i+1==a.size then return lsL a b o i j
    if p<7&&q<7 then break
   g:=g+1
   Dy g
  unsupported "internal:list.sort.merge-bound"):=rfl
def Xn2(a b:Array ay):mLo a b=(do
  liftM (rule "list.sort.merge-lo")
  let x0 <-elem' b 0
  if (1==b.size)=true then pure (dnL a b #[x0] 0 1)
  else if (0+1==a.size)=true then pure (lsL a b #[x0] 0 1)
  else do
   let st <-get
   let c <-forIn [0:a.size+b.size] ((none, #[x0],0,1,dI st):MTO) λ_ c=>Kk a b c
   match c.1 with
   | some r=>pure r
   | none=>unsupported "internal:list.sort.merge-bound"):=by
 rw[Xn1];congr 1;funext _u;congr 1;funext x0;dsimp only;congr 1;congr 1;congr 1;funext st;congr 1
 ·congr 1;funext _x c;unfold Kk;congr 1;funext d;obtain⟨r,d⟩:=d;cases r with
  | some r=>rfl
  | none=>
   dsimp only;congr 1;funext _v;congr 1;funext e;obtain⟨r,e⟩:=e;cases r<;>rfl
 ·funext c;obtain⟨r,c⟩:=c;cases r<;>rfl
open PySem.W (kas_item kas_cmp)
section
variable {it:Array ay}
def Il(l)(x):(Fk it l).push (kas_item it x)=Fk it (l++[x]):=by
 unfold Fk;rw[List.push_toArray,Ow];rfl
def Dn(l m):Fk it l++Fk it m=Fk it (l++m):=by
 unfold Fk;rw[List.append_toArray,Ow]
def Dz(l)(i j):(Fk it l).extract i j=Fk it ((l.drop i).take (j - i)):=by
 unfold Fk;rw[List.extract_toArray,List.map_take,List.map_drop]
def Bt(l):(Fk it l).size=l.length:=by
 unfold Fk;rw[Ol,Oh]
def Im(la lb lo)(i j):dnL (Fk it la) (Fk it lb) (Fk it lo) i j=Fk it (lo++la.drop i++lb.drop j):=by
 unfold dnL;rw[Dz,Dz,Bt,Bt,Dn,Dn,Ph (by rw[Pz];exact Oi _),Ph (by rw[Pz];exact Oi _)]
def Kl(la lb lo)(i j):lsL (Fk it la) (Fk it lb) (Fk it lo) i j=Fk it (lo++lb.drop j++la.drop i):=by
 unfold lsL;rw[Dz,Dz,Bt,Bt,Dn,Dn,Ph (by rw[Pz];exact Oi _),Ph (by rw[Pz];exact Oi _)]
end
structure Two (lt:Nat->Nat->Bool) (n:Nat) (la lb:List Nat):Prop where
 L:Wk lt
 an:∀x∈la,x<n
 bn:∀x∈lb,x<n
 sa:la.Pairwise λx y=>le lt x y=true
 sb:lb.Pairwise λx y=>le lt x y=true
structure MI (lt:Nat->Nat->Bool) (la lb lo:List Nat) (i j:Nat):Prop where
 so:lo.Pairwise λx y=>le lt x y=true
 pm:lo.Perm (la.take i++lb.take j)
 ba:∀x∈lo,∀y∈la.drop i,le lt x y=true
 bb:∀x∈lo,∀y∈lb.drop j,le lt x y=true
section
variable {lt:Nat->Nat->Bool}{n:Nat}{la lb lo:List Nat}{i j k:Nat}
def drop_split(l:List Nat)(i k):l.drop i=(l.drop i).take k++l.drop (i+k):=by
 rw[<-List.drop_drop,Pa]
def take_split(l:List Nat)(i k):l.take (i+k)=l.take i++(l.drop i).take k:=by
 rw[List.take_add]
def MI.chA(T:Two lt n la lb)(m:MI lt la lb lo i j)(h:∀x∈(la.drop i).take k,∀y∈lb.drop j,le lt x y=true):MI lt la lb (lo++(la.drop i).take k) (i+k) j:=by
 have sp:=drop_split la i k;have sd:=T.sa.sublist (Qt i la);rw[sp] at sd;obtain⟨s1,s2,s3⟩:=Pe.mp sd;refine⟨Pe.mpr ⟨m.so,s1,λx hx y hy=>m.ba x hx y (Pr hy)⟩,?_,λx hx y hy=>?_,λx hx y hy=>?_⟩
 ·rw[take_split];refine(m.pm.append_right _).trans ?_;rw[Pb,Pb];exact P6 _ Qw
 ·rcases Ou.mp hx with z | z
  ·exact m.ba x z y (by rw[sp];exact Pc _ hy)
  ·exact s3 x z y hy
 ·rcases Ou.mp hx with z | z
  ·exact m.bb x z y hy
  ·exact h x z y hy
def MI.chB(T:Two lt n la lb)(m:MI lt la lb lo i j)(h:∀x∈(lb.drop j).take k,∀y∈la.drop i,le lt x y=true):MI lt la lb (lo++(lb.drop j).take k) i (j+k):=by
 have sp:=drop_split lb j k;have sd:=T.sb.sublist (Qt j lb);rw[sp] at sd;obtain⟨s1,s2,s3⟩:=Pe.mp sd;refine⟨Pe.mpr ⟨m.so,s1,λx hx y hy=>m.bb x hx y (Pr hy)⟩,?_,λx hx y hy=>?_,λx hx y hy=>?_⟩
 ·rw[take_split,<-Pb];exact m.pm.append_right _
 ·rcases Ou.mp hx with z | z
  ·exact m.ba x z y hy
  ·exact h x z y hy
 ·rcases Ou.mp hx with z | z
  ·exact m.bb x z y (by rw[sp];exact Pc _ hy)
  ·exact s3 x z y hy
def Xfg(la lb)(h:lo.Perm (la.take i++lb.take j)):(lo++la.drop i++lb.drop j).Perm (la++lb):=by
 refine((h.append_right _).append_right _).trans ?_;rw[Pb,Pb];have e:la++lb=la.take i++(la.drop i++(lb.take j++lb.drop j)):=by rw[Pa,<-Pb,Pa]
 rw[e];refine P6 _ ?_;rw[<-Pb,<-Pb];exact Qw.append_right _
def Mrg (lt:Nat->Nat->Bool) (la lb r:List Nat):Prop:=r.Perm (la++lb)/\r.Pairwise λx y=>le lt x y=true
def MI.endB(T:Two lt n la lb)(m:MI lt la lb lo i j)(h:∀x∈la.drop i,∀y∈lb.drop j,le lt x y=true):Mrg lt la lb (lo++la.drop i++lb.drop j):=by
 refine⟨Xfg la lb m.pm,Pe.mpr ⟨Pe.mpr ⟨m.so,T.sa.sublist (Qt ..),m.ba⟩,T.sb.sublist (Qt ..),λx hx y hy=>?_⟩⟩;rcases Ou.mp hx with z | z
 ·exact m.bb x z y hy
 ·exact h x z y hy
def MI.endA(T:Two lt n la lb)(m:MI lt la lb lo i j)(h:∀x∈lb.drop j,∀y∈la.drop i,le lt x y=true):Mrg lt la lb (lo++lb.drop j++la.drop i):=by
 refine⟨?_,Pe.mpr ⟨Pe.mpr ⟨m.so,T.sb.sublist (Qt ..),m.bb⟩,T.sa.sublist (Qt ..),λx hx y hy=>?_⟩⟩
 ·refine List.Perm.trans ?_ (Xfg la lb m.pm);rw[Pb,Pb];exact P6 _ Qw
 ·rcases Ou.mp hx with z | z
  ·exact m.ba x z y hy
  ·exact h x z y hy
def Gp{l:List Nat}(L:Wk lt)(so:l.Pairwise λx y=>le lt x y=true)(hz:l[i]? = some z)(h:le lt x z=true):∀y∈l.drop i,le lt x y=true:=by
 intro y hy;obtain⟨hi,e⟩:=O6.mp hz;rw[Rh hi,e] at hy;have sd:=so.sublist (Qt i l);rw[Rh hi,e] at sd;rcases Ox.mp hy with q | q
 ·rw[q];exact h
 ·exact L.tr h (List.rel_of_pairwise_cons sd q)
end
section
variable {lt:Nat->Nat->Bool}{n:Nat}{la lb lo:List Nat}{i j k:Nat}
def Bh{l:List Nat}(h:i<l.length):l[i]? = some (l.getD i 0):=by
 rw[O9,Oj h];rfl
def Cr{l:List Nat}(h:i<l.length):l.getD i 0∈l:=Qq (Bh h)
def Dp{l:List Nat}(h:i<l.length):(l.drop i).take 1=[l.getD i 0]:=by
 rw[Rh h];show [l[i]]=_;rw[O9,Oj h];rfl
def Km{l:List Nat}(h:i+1=l.length):l.drop i=[l.getD (l.length - 1) 0]:=by
 have hi:i<l.length:=by lia
 rw[Rh hi,Qm (by lia),show l.length - 1=i by lia,O9,Oj hi];rfl
def D0{l:List Nat}(h:x∈(l.drop i).take k):∃t,t<k/\i+t<l.length/\x=l.getD (i+t) 0:=by
 obtain⟨t,ht,e⟩:=P3.mp h;rw[O3,Pz] at ht;rw[Se,Ta] at e;have hl:i+t<l.length:=by lia
 exact⟨t,by lia,hl,by rw[<-e,O9,Oj hl];rfl⟩
def Gq{l:List Nat}  (h:l.Pairwise R)(fg:a<b)(hb:b<l.length):R (l.getD a 0) (l.getD b 0):=by
 have:=Qh.mp h a b (by lia) hb fg
 rwa [show l.getD a 0=l[a] by rw[O9,Oj (show a<l.length by lia)];rfl,show l.getD b 0=l[b] by rw[O9,Oj hb];rfl]
def MI.nil:MI lt la lb [] 0 0:=⟨.nil,.nil,λ_ h=>(nomatch h),λ_ h=>(nomatch h)⟩
end
structure SG (cq st:aV):Prop where
 k:kindOf st=kindOf cq
 a:bi st=bi cq
 p:aZ st=aZ cq
 f:bp st=bp cq
def RsI {τ : Type} (it:Array ay) (lt:Nat->Nat->Bool) (la lb:List Nat) (c:Option (Array ay)×Array ay×Nat×Nat × τ):Prop:=∃res,c.1=some (Fk it res)/\Mrg lt la lb res
def NxI {τ : Type} (it:Array ay) (lt:Nat->Nat->Bool) (la lb:List Nat) (m:Nat) (c:Option (Array ay)×Array ay×Nat×Nat × τ):Prop:=∃lo i j t,c=(none,Fk it lo,i,j,t)/\MI lt la lb lo i j/\i+1<la.length/\j<lb.length/\m<i+j
def StI {τ : Type} (it:Array ay) (lt:Nat->Nat->Bool) (la lb:List Nat) (m:Nat) (r:ForInStep (Option (Array ay)×Array ay×Nat×Nat × τ)):Prop:=match r with
 | .done c=>RsI it lt la lb c\/NxI it lt la lb m c
 | .yield c=>NxI it lt la lb m c
def StO {τ : Type} (it:Array ay) (lt:Nat->Nat->Bool) (la lb:List Nat) (m:Nat) (r:ForInStep (Option (Array ay)×Array ay×Nat×Nat × τ)):Prop:=match r with
 | .done c=>RsI it lt la lb c
 | .yield c=>NxI it lt la lb m c
def NxI.mono{τ : Type}    {c:Option (Array ay)×Array ay×Nat×Nat × τ}(h:NxI it lt la lb m c)(hm:m'<=m):NxI it lt la lb m' c:=by
 obtain⟨lo,i,j,t,e,a1,a2,a3,a4⟩:=h;exact⟨lo,i,j,t,e,a1,a2,a3,by lia⟩
section
variable {prog:ap}{w:ax}{A:av}{E:Zb}{s:af}{κ : cc}{it:Array ay}{n:Nat}{lt:Nat->Nat->Bool}{la lb lo:List Nat}{i j k g p q:Nat}{cq st:aV}
def wS_setG(sg:SG cq st)(h:∀a8,SG cq a8->Q () a8):dR (ah prog w) A E s (Dy g) Q st:=by
 rw[Xn0];exact bT (h _ ⟨sg.k,sg.a,sg.p,sg.f⟩)
def Xn3(hc:CmS prog w A s κ it n lt)(T:Two lt n la lb)(top:∀x∈lb,lt x (la.getD (la.length - 1) 0)=true)(hk:kindOf cq = κ)(sg:SG cq st)(m:MI lt la lb lo i j)(hi:i+1<la.length)(hj:j<lb.length)(h:∀r,StI it lt la lb (i+j) r->Q r st):dR (ah prog w) A E s (Nw (Fk it la) (Fk it lb) g (none,Fk it lo,i,j,p,q)) Q st:=by
 unfold Nw;dsimp only;have dQ:i<la.length:=by lia
 have ea:=Bh dQ;have eb:=Bh hj;have ma:=Cr dQ;have mb:=Cr hj;refine Tl (Bm eb (Tl (Bm ea (Tl (Ik hc (T.bn _ mb) (T.an _ ma) (sg.k.trans hk) ?_)))));dsimp only;cases c:lt (lb.getD j 0) (la.getD i 0) with
 | true=>
  rw[Tr rfl];refine Tl (Bm eb ?_);rw[Il,Im,Bt];have m':=MI.chB (k:=1) T m (by rw[Dp hj];intro x hx y hy;rw[Om.mp hx];exact Gp T.L T.sa ea (T.L.u c) y hy);rw[Dp hj] at m';by_cases e:(j+1==lb.length)=true
  ·rw[Tr e];have e':j+1=lb.length:=by simpa using e
   exact Tn (h _ (.inl ⟨_,rfl,m'.endB T (by rw[Qm (by lia:lb.length<=j+1)];intro _ _ y hy;cases hy)⟩))
  ·rw[Tq e];have e':j+1≠lb.length:=by simpa using e
   by_cases e2:q+1 ≥ g
   ·rw[Tr e2];exact Tn (h _ (.inr ⟨_,_,_,_,rfl,m',hi,by lia,by lia⟩))
   ·rw[Tq e2];exact Tn (h _ ⟨_,_,_,_,rfl,m',hi,by lia,by lia⟩)
 | false=>
  rw[Tq (by decide)];have c':=Bo c;refine Tl (Bm ea ?_);rw[Il,Kl,Bt];have m':=MI.chA (k:=1) T m (by rw[Dp dQ];intro x hx y hy;rw[Om.mp hx];exact Gp T.L T.sb eb c' y hy);rw[Dp dQ] at m';by_cases e:(i+1+1==la.length)=true
  ·rw[Tr e];have e':i+1+1=la.length:=by simpa using e
   exact Tn (h _ (.inl ⟨_,rfl,m'.endA T (by rw[Km e'];intro x hx y hy;rw[Om.mp hy];exact T.L.u (top x (P4 hx)))⟩))
  ·rw[Tq e];have e':i+1+1≠la.length:=by simpa using e
   by_cases e2:p+1 ≥ g
   ·rw[Tr e2];exact Tn (h _ (.inr ⟨_,_,_,_,rfl,m',by lia,hj,by lia⟩))
   ·rw[Tq e2];exact Tn (h _ ⟨_,_,_,_,rfl,m',by lia,hj,by lia⟩)
def Xfh(T:Two lt n la lb)(top:∀x∈lb,lt x (la.getD (la.length - 1) 0)=true)(m:MI lt la lb lo i j)(hi:i+1<la.length)(hj:j<lb.length)(c:le lt (la.getD i 0) (lb.getD j 0)=true)  (hm:m0<=i+j)(h:∀r,StI it lt la lb m0 r->Q r st):dR (ah prog w) A E s (gV3 (Fk it la) (Fk it lb) (Fk it lo) i j g p q) Q st:=by
 unfold gV3;have dQ:i<la.length:=by lia
 refine Tl (Bm (Bh dQ) ?_);rw[Il,Kl,Bt];have m':=MI.chA (k:=1) T m (by rw[Dp dQ];intro x hx y hy;rw[Om.mp hx];exact Gp T.L T.sb (Bh hj) c y hy);rw[Dp dQ] at m';by_cases e:(i+1+1==la.length)=true
 ·rw[Tr e];have e':i+1+1=la.length:=by simpa using e
  exact Tn (h _ (.inl ⟨_,rfl,m'.endA T (by rw[Km e'];intro x hx y hy;rw[Om.mp hy];exact T.L.u (top x (P4 hx)))⟩))
 ·rw[Tq e];have e':i+1+1≠la.length:=by simpa using e
  by_cases e2:(decide (p<7)&&decide (q<7))=true
  ·rw[Tr e2];exact Tn (h _ (.inr ⟨_,_,_,_,rfl,m',by lia,hj,by lia⟩))
  ·rw[Tq e2];exact Tn (h _ ⟨_,_,_,_,rfl,m',by lia,hj,by lia⟩)
def Xfi(hc:CmS prog w A s κ it n lt)(T:Two lt n la lb)(top:∀x∈lb,lt x (la.getD (la.length - 1) 0)=true)(hk:kindOf cq = κ)(sg:SG cq st)(m:MI lt la lb lo i j)(hi:i+1<la.length)(hj:j<lb.length)(c:lt (lb.getD j 0) (la.getD i 0)=true)  (hm:m0<=i+j)(h:∀r,StI it lt la lb m0 r->Q r st):dR (ah prog w) A E s (gV2 (Fk it la) (Fk it lb) (Fk it lo) i j g p q) Q st:=by
 unfold gV2;have dQ:i<la.length:=by lia
 have ea:=Bh dQ;have ma:=Cr dQ;refine Tl (Bm (Bh hj) ?_);rw[Il,Im,Bt];have m':=MI.chB (k:=1) T m (by rw[Dp hj];intro x hx y hy;rw[Om.mp hx];exact Gp T.L T.sa ea (T.L.u c) y hy);rw[Dp hj] at m';by_cases e:(j+1==lb.length)=true
 ·rw[Tr e];have e':j+1=lb.length:=by simpa using e
  exact Tn (h _ (.inl ⟨_,rfl,m'.endB T (by rw[Qm (by lia:lb.length<=j+1)];intro _ _ y hy;cases hy)⟩))
 rw[Tq e];have e':j+1≠lb.length:=by simpa using e
 refine Tl (Bm ea ?_);refine Tl (Gn (P:=λt=>lt (lb.getD (j+1+t) 0) (la.getD i 0)) ⟨λa b fg hb e=>?_⟩ (by lia) (λt ht Q' hq=>?_) λr hr iU lv=>?_)
 ·exact T.L.ml (Gq T.sb (by lia) (by lia)) e
 ·exact Gm hc (Bh (by lia)) (T.bn _ (Cr (by lia))) (T.an _ ma) (sg.k.trans hk) (left:=true) hq
 dsimp only;by_cases kK:r > 0
 ·rw[Tr kK,Dz,Dn,Im,show j+1+r - (j+1)=r by lia];have m2:=MI.chB (k:=r) T m' (λx hx y hy=>by
   obtain⟨t,h1,h2,rfl⟩:=D0 hx;exact Gp T.L T.sa ea (T.L.u (iU t h1)) y hy)
  by_cases e3:(j+1+r==lb.length)=true
  ·rw[Tr e3];have m4:j+1+r=lb.length:=by simpa using e3
   exact Tn (h _ (.inl ⟨_,rfl,m2.endB T (by rw[Qm (by lia:lb.length<=j+1+r)];intro _ _ y hy;cases hy)⟩))
  ·rw[Tq e3];have m4:j+1+r≠lb.length:=by simpa using e3
   have DK:j+1+r<lb.length:=by lia
   exact Xfh T top m2 hi DK (Bo (lv r (Oi _) (by lia))) (by lia) h
 ·rw[Tq kK];have hz:=lv 0 (by lia) (by lia);exact Xfh T top m' hi (by lia) (Bo hz) (by lia) h
def Xfj(hc:CmS prog w A s κ it n lt)(T:Two lt n la lb)(top:∀x∈lb,lt x (la.getD (la.length - 1) 0)=true)(hk:kindOf cq = κ)(sg:SG cq st)(m:MI lt la lb lo i j)(hi:i+1<la.length)(hj:j<lb.length)(h:∀r a8,SG cq a8->StI it lt la lb (i+j) r->Q r a8):dR (ah prog w) A E s (gV1 (Fk it la) (Fk it lb) (Fk it lo) i j g p q) Q st:=by
 unfold gV1;refine Tl (wS_setG sg λa8 cI=>?_);have eb:=Bh hj;have mb:=Cr hj;refine Tl (Bm eb ?_);rw[Bt];refine Tl (Gn (P:=λt => !lt (lb.getD j 0) (la.getD (i+t) 0)) ⟨λa b fg hb e=>?_⟩ (by lia) (λt ht Q' hq=>?_) λr hr iU lv=>?_)
 ·have e:lt (lb.getD j 0) (la.getD (i+b) 0)=false:=by simpa using e
  cases q:lt (lb.getD j 0) (la.getD (i+a) 0) with
  | false=>rfl
  | true=>
   have:=T.L.mr q (Gq T.sa (show i+a<i+b by lia) (by lia));rw[this] at e;cases e
 ·exact Gm hc (Bh (by lia)) (T.an _ (Cr (by lia))) (T.bn _ mb) (cI.k.trans hk) (left:=false) hq
 dsimp only;have tp:=top _ mb;have cy:r<la.length - i:=by
  rcases Nat.lt_or_ge r (la.length - i) with z | z
  ·exact z
  ·have:=iU (la.length - 1 - i) (by lia);rw[show i+(la.length - 1 - i)=la.length - 1 by lia,tp] at this;cases this
 have js:lt (lb.getD j 0) (la.getD (i+r) 0)=true:=by
  have:=lv r (Oi _) cy;simpa using this
 by_cases kK:r > 0
 ·rw[Tr kK,Dz,Dn,Im,Kl,show i+r - i=r by lia];have m2:=MI.chA (k:=r) T m (λx hx y hy=>by
   obtain⟨t,h1,h2,rfl⟩:=D0 hx;have:=iU t h1;exact Gp T.L T.sb eb (Bo (by simpa using this)) y hy)
  by_cases e3:(i+r+1==la.length)=true
  ·rw[Tr e3];have m4:i+r+1=la.length:=by simpa using e3
   exact Tn (h _ _ cI (.inl ⟨_,rfl,m2.endA T (by rw[Km m4];intro x hx y hy;rw[Om.mp hy];exact T.L.u (top x (P4 hx)))⟩))
  ·rw[Tq e3];have m4:i+r+1≠la.length:=by simpa using e3
   have e4:¬(i+r==la.length)=true:=by
    simp
    lia
   rw[Tq e4];exact Xfi hc T top hk cI m2 (by lia) hj js (by lia) λr' oD=>h r' _ cI oD
 ·rw[Tq kK];have:r=0:=by lia
  subst this;exact Xfi hc T top hk cI m hi hj js (Oi _) λr' oD=>h r' _ cI oD
def Xn4(hc:CmS prog w A s κ it n lt)(T:Two lt n la lb)(top:∀x∈lb,lt x (la.getD (la.length - 1) 0)=true)(hk:kindOf cq = κ)(sg:SG cq st)(m:MI lt la lb lo i j)(hi:i+1<la.length)(hj:j<lb.length)(h:∀r a8,SG cq a8->StO it lt la lb (i+j) r->Q r a8):dR (ah prog w) A E s (Kk (Fk it la) (Fk it lb) (none,Fk it lo,i,j,g)) Q st:=by
 unfold Kk;dsimp only;rw[Bt,Bt];refine Tl (bg (aK (I:=λx c a8=>SG cq a8/\∃jH i' j' t,c=(none,Fk it jH,i',j',t)/\MI lt la lb jH i' j'/\i'+1<la.length/\j'<lb.length/\i+j+x<=i'+j') (Q:=λc a8=>SG cq a8/\(RsI it lt la lb c\/NxI it lt la lb (i+j) c)) ?step ?fin ⟨sg,lo,i,j,_,rfl,m,hi,hj,Oi _⟩) ?post)
 case fin=>
  rintro c a8 ⟨cI,jH,i',j',t,rfl,m',h1,h2,h3⟩;exact⟨cI,.inr ⟨jH,i',j',t,rfl,m',h1,h2,by lia⟩⟩
 case step=>
  rintro x c a8 _ hx ⟨cI,jH,i',j',t,rfl,m',h1,h2,h3⟩;refine Xn3 hc T top hk cI m' h1 h2 λr hr=>?_;cases r with
  | done c=>
   rcases hr with z | z
   ·exact⟨cI,.inl z⟩
   ·exact⟨cI,.inr (z.mono (by lia))⟩
  | yield c=>
   obtain⟨sk,i2,j2,t2,e,a1,a2,a3,a4⟩:=hr;exact⟨cI,sk,i2,j2,t2,e,a1,a2,a3,by lia⟩
 case post=>
  rintro ⟨r,o1,i1,j1,p1,q1⟩ kj ⟨sq,z⟩;rcases z with ⟨res,e,mr⟩ | ⟨lo1,i2,j2,t,e,m1,a1,a2,a3⟩
  ·obtain rfl:r=some (Fk it res):=e;exact Tn (h _ _ sq ⟨res,rfl,mr⟩)
  ·cases e;dsimp only;refine Tl (cS (aR ⟨rfl,?_⟩));refine Tl (bg (aK (I:=λx c a8=>SG cq a8/\NxI it lt la lb (i+j) c) (Q:=λc a8=>SG cq a8/\(RsI it lt la lb c\/NxI it lt la lb (i+j) c)) ?step ?fin ⟨sq,lo1,i1,j1,_,rfl,m1,a1,a2,a3⟩) ?post)
   case fin=>exact λc a8 z=>⟨z.1,.inr z.2⟩
   case step=>
    rintro x c a8 _ hx ⟨cI,jH,i',j',⟨g',p',q'⟩,rfl,m',h1,h2,h3⟩;dsimp only;have go:∀(r:ForInStep MTG) ce,SG cq ce->StI it lt la lb (i'+j') r->(match r with
     | .done c'=>SG cq ce/\(RsI it lt la lb c'\/NxI it lt la lb (i+j) c')
     | .yield c'=>SG cq ce/\NxI it lt la lb (i+j) c'):=λr ce dS hr=>by
     cases r with
     | done c=>
      rcases hr with z | z
      ·exact⟨dS,.inl z⟩
      ·exact⟨dS,.inr (z.mono (by lia))⟩
     | yield c=>exact⟨dS,NxI.mono hr (by lia)⟩
    by_cases e:g' > 1
    ·rw[Tr e];exact Xfj hc T top hk cI m' h1 h2 λr ce s1 s2=>by have:=go r ce s1 s2;cases r<;>exact this
    ·rw[Tq e];exact Xfj hc T top hk cI m' h1 h2 λr ce s1 s2=>by have:=go r ce s1 s2;cases r<;>exact this
   case post=>
    rintro ⟨r,o2,i2,j2,g2,p2,q2⟩ d0 ⟨m5,z⟩;rcases z with ⟨res,e,mr⟩ | ⟨sk,i3,j3,t,e,m2,b1,b2,b3⟩
    ·obtain rfl:r=some (Fk it res):=e;exact Tn (h _ _ m5 ⟨res,rfl,mr⟩)
    ·cases e;dsimp only;exact Tl (wS_setG m5 λqc w4=>Tn (h _ _ w4 ⟨sk,i2,j2,_,rfl,m2,b1,b2,b3⟩))
def Xn5(hc:CmS prog w A s κ it n lt)(T:Two lt n la lb)(ha:1<=la.length)(hb:1<=lb.length)(h0:∀y∈la,lt (lb.getD 0 0) y=true)(top:∀x∈lb,lt x (la.getD (la.length - 1) 0)=true)
  (hk:kindOf st = κ) (h:∀res a8,Mrg lt la lb res->SG st a8->Q (Fk it res) a8):dR (ah prog w) A E s (mLo (Fk it la) (Fk it lb)) Q st:=by
 rw[Xn2];have oE:SG st st:=⟨rfl,rfl,rfl,rfl⟩;refine Tl (cS (aR ⟨rfl,?_⟩));have dL:0<lb.length:=hb;refine Tl (Bm (Bh dL) ?_);have e0:(#[kas_item it (lb.getD 0 0)]:Array ay)=Fk it [lb.getD 0 0]:=rfl;rw[e0,Im,Kl,Bt,Bt];have m1:=MI.chB (k:=1) T (MI.nil (lt:=lt) (la:=la) (lb:=lb)) (by rw[Dp dL];intro x hx y hy;rw[Om.mp hx];exact T.L.u (h0 y (P4 hy)));rw[Dp dL,Rj,Qi] at m1;by_cases e1:(1==lb.length)=true
 ·rw[Tr e1];have oF:1=lb.length:=by simpa using e1
  exact Tn (h _ _ (m1.endB T (by rw[Qm (by lia:lb.length<=1)];intro _ _ y hy;cases hy)) oE)
 rw[Tq e1];have oF:1≠lb.length:=by simpa using e1
 by_cases e2:(0+1==la.length)=true
 ·rw[Tr e2];have uy:0+1=la.length:=by simpa using e2
  exact Tn (h _ _ (m1.endA T (by rw[Km uy];intro x hx y hy;rw[Om.mp hy];exact T.L.u (top x (P4 hx)))) oE)
 rw[Tq e2];have uy:0+1≠la.length:=by simpa using e2
 refine Tl (bM ?_);refine Tl (bg (aK (I:=λx c a8=>SG st a8/\NxI it lt la lb x c) (Q:=λc a8=>SG st a8/\RsI it lt la lb c) ?step ?fin ⟨oE,_,_,_,_,rfl,m1,by lia,by lia,by lia⟩) ?post)
 case fin=>
  rintro c a8 ⟨cI,jH,i',j',t,rfl,m',h1,h2,h3⟩
  lia
 case step=>
  rintro x c a8 _ hx ⟨cI,jH,i',j',t,rfl,m',h1,h2,h3⟩;refine Xn4 hc T top hk cI m' h1 h2 λr ce dS hr=>?_;cases r with
  | done c=>exact⟨dS,hr⟩
  | yield c=>exact⟨dS,NxI.mono hr (by lia)⟩
 case post=>
  rintro ⟨r,o2,i2,j2,g2⟩ d0 ⟨m5,res,e,mr⟩;obtain rfl:r=some (Fk it res):=e;exact Tn (h res _ mr m5)
end
open PySem.W (kas_item kas_cmp)
def mHi:Array ay->Array ay->SM (Array ay):=sortPriv% PySem.Builtin.mergeHi
def dnH (a b o:Array ay) (i j:Nat):Array ay:=a.extract 0 i++b.extract 0 j++o.reverse
def fsH (a b o:Array ay) (i j:Nat):Array ay:=b.extract 0 j++a.extract 0 i++o.reverse
abbrev HTO:=Option (Array ay)×Nat×Nat×Array ay×Nat
abbrev HTI:=Option (Array ay)×Nat×Nat×Array ay×Nat×Nat
abbrev HTG:=Option (Array ay)×Nat×Nat×Array ay×Nat×Nat×Nat
def Nx (a b:Array ay) (g:Nat) (d:HTI):SM (ForInStep HTI):=do
 let y <-elem' b (d.2.2.1 - 1)
 let x <-elem' a (d.2.1 - 1)
 let r <-lt' y x
 match r with
 | some c=>
  if c=true then do
   let x <-elem' a (d.2.1 - 1)
   if (d.2.1 - 1==0)=true then pure (.done (some (dnH a b (d.2.2.2.1.push x) (d.2.1 - 1) d.2.2.1),d.2.1 - 1,d.2.2.1,d.2.2.2.1.push x,d.2.2.2.2.1+1,0))
   else if d.2.2.2.2.1+1 ≥ g then pure (.done (none,d.2.1 - 1,d.2.2.1,d.2.2.2.1.push x,d.2.2.2.2.1+1,0))
   else pure (.yield (none,d.2.1 - 1,d.2.2.1,d.2.2.2.1.push x,d.2.2.2.2.1+1,0))
  else do
   let y <-elem' b (d.2.2.1 - 1)
   if (d.2.2.1 - 1==1)=true then pure (.done (some (fsH a b (d.2.2.2.1.push y) d.2.1 (d.2.2.1 - 1)),d.2.1,d.2.2.1 - 1,d.2.2.2.1.push y,0,d.2.2.2.2.2+1))
   else if d.2.2.2.2.2+1 ≥ g then pure (.done (none,d.2.1,d.2.2.1 - 1,d.2.2.2.1.push y,0,d.2.2.2.2.2+1))
   else pure (.yield (none,d.2.1,d.2.2.1 - 1,d.2.2.2.1.push y,0,d.2.2.2.2.2+1))
 | _=>pure (.done (some (dnH a b d.2.2.2.1 d.2.1 d.2.2.1),d.2.1,d.2.2.1,d.2.2.2.1,d.2.2.2.2.1,d.2.2.2.2.2))
def gH3 (a b o:Array ay) (i j g p q:Nat):SM (ForInStep HTG):=do
 let x <-elem' a (i - 1)
 if (i - 1==0)=true then pure (.done (some (dnH a b (o.push x) (i - 1) j),i - 1,j,o.push x,g,p,q))
 else if (decide (p<7)&&decide (q<7))=true then pure (.done (none,i - 1,j,o.push x,g,p,q))
 else pure (.yield (none,i - 1,j,o.push x,g,p,q))
def gH2 (a b o:Array ay) (i j g p q:Nat):SM (ForInStep HTG):=do
 let y <-elem' b (j - 1)
 if (j - 1==1)=true then pure (.done (some (fsH a b (o.push y) i (j - 1)),i,j - 1,o.push y,g,p,q))
 else do
  let x <-elem' a (i - 1)
  let r <-Da true x b 0 (j - 1) (j - 1 - 1)
  match r with
  | some r=>
   if j - 1 - r > 0 then
    if (r==1)=true then pure (.done (some (fsH a b (o.push y++(b.extract r (j - 1)).reverse) i r),i,r,o.push y++(b.extract r (j - 1)).reverse,g,p,j - 1 - r))
    else if (r==0)=true then pure (.done (some (dnH a b (o.push y++(b.extract r (j - 1)).reverse) i r),i,r,o.push y++(b.extract r (j - 1)).reverse,g,p,j - 1 - r))
    else gH3 a b (o.push y++(b.extract r (j - 1)).reverse) i r g p (j - 1 - r)
   else gH3 a b (o.push y) i (j - 1) g p (j - 1 - r)
  | _=>pure (.done (some (dnH a b (o.push y) i (j - 1)),i,j - 1,o.push y,g,p,q))
def gH1 (a b o:Array ay) (i j g p q:Nat):SM (ForInStep HTG):=do
 Dy g
 let y <-elem' b (j - 1)
 let r <-Da false y a 0 i (i - 1)
 match r with
 | some r=>
  if i - r > 0 then
   if (r==0)=true then pure (.done (some (dnH a b (o++(a.extract r i).reverse) r j),r,j,o++(a.extract r i).reverse,g,i - r,q))
   else gH2 a b (o++(a.extract r i).reverse) r j g (i - r) q
  else gH2 a b o i j g (i - r) q
 | _=>pure (.done (some (dnH a b o i j),i,j,o,g,p,q))
def Kn (a b:Array ay) (c:HTO):SM (ForInStep HTO):=do
 let d <-forIn [0:a.size+b.size] ((none,c.2.1,c.2.2.1,c.2.2.2.1,0,0):HTI) λ_ d=>Nx a b c.2.2.2.2 d
 match d.1 with
 | some r=>pure (.done (some r,d.2.1,d.2.2.1,d.2.2.2.1,c.2.2.2.2))
 | none=>do
  liftM (rule "list.sort.gallop")
  let e <-forIn [0:a.size+b.size] ((none,d.2.1,d.2.2.1,d.2.2.2.1,c.2.2.2.2+1,d.2.2.2.2.1,d.2.2.2.2.2):HTG) λ_ e=>
   if e.2.2.2.2.1 > 1 then gH1 a b e.2.2.2.1 e.2.1 e.2.2.1 (e.2.2.2.2.1 - 1) e.2.2.2.2.2.1 e.2.2.2.2.2.2 else gH1 a b e.2.2.2.1 e.2.1 e.2.2.1 e.2.2.2.2.1 e.2.2.2.2.2.1 e.2.2.2.2.2.2
  match e.1 with
  | some r=>pure (.done (some r,e.2.1,e.2.2.1,e.2.2.2.1,e.2.2.2.2.1))
  | none=>do
   Dy (e.2.2.2.2.1+1)
   pure (.yield (none,e.2.1,e.2.2.1,e.2.2.2.1,e.2.2.2.2.1+1))
def Xn6(a b:Array ay):mHi a b=(do
  liftM (rule "list.sort.merge-hi")
  let mut i:=a.size - 1
  let mut j:=b.size
  let x0 <-elem' a i
  let mut o:Array ay := #[x0]
  if i==0 then return dnH a b o i j
  if j==1 then return fsH a b o i j
  let mut g:=dI (<-get)
  for _ in [0:a.size+b.size] do
   let mut p:=0
   let mut q:=0
   for _ in [0:a.size+b.size] do
    let some c <-lt' (<-elem' b (j - 1)) (<-elem' a (i - 1)) | return dnH a b o i j
    if c then
     i:=i - 1
     o:=o.push (<-elem' a i)
     p:=p+1
     q:=0
     if i==0 then return dnH a b o i j
     if p ≥ g then break
    else
     j:=j - 1
     o:=o.push (<-elem' b j)
     q:=q+1
     p:=0
     if j==1 then return fsH a b o i j
     if q ≥ g then break
   liftM (rule "list.sort.gallop")
   g:=g+1
   for _ in [0:a.size+b.size] do
    if g > 1 then g:=g - 1
    Dy g
    let some r <-Da false (<-elem' b (j - 1)) a 0 i (i - 1) | return dnH a b o i j
    let k:=i - r
    p:=k
    if k > 0 then
     o:=o++(a.extract r i).reverse
     i:=r
     if i==0 then return dnH a b o i j
    j:=j - 1
    o:=o.push (<-elem' b j)
    if j==1 then return fsH a b o i j
    let some r <-Da true (<-elem' a (i - 1)) b 0 j (j - 1) | return dnH a b o i j
    let k:=j - r
    q:=k
    if k > 0 then
     o:=o++(b.extract r j).reverse
     j:=r
     if j==1 then return fsH a b o i j
     if j==0 then return dnH a b o i j
    i:=i - 1
    o:=o.push (<-elem' a i)
    if i==0 then return dnH a b o i j
    if p<7&&q<7 then break
   g:=g+1
   Dy g
  unsupported "internal:list.sort.merge-bound"):=rfl
def Xn7(a b:Array ay):mHi a b=(do
  liftM (rule "list.sort.merge-hi")
  let x0 <-elem' a (a.size - 1)
  if (a.size - 1==0)=true then pure (dnH a b #[x0] (a.size - 1) b.size)
  else if (b.size==1)=true then pure (fsH a b #[x0] (a.size - 1) b.size)
  else do
   let st <-get
   let c <-forIn [0:a.size+b.size] ((none,a.size - 1,b.size, #[x0],dI st):HTO) λ_ c=>Kn a b c
   match c.1 with
   | some r=>pure r
   | none=>unsupported "internal:list.sort.merge-bound"):=by
 rw[Xn6];congr 1;funext _u;dsimp only;congr 1;funext x0;congr 1;congr 1;congr 1;funext st;congr 1
 ·congr 1;funext _x c;unfold Kn;congr 1;funext d;obtain⟨r,d⟩:=d;cases r with
  | some r=>rfl
  | none=>
   dsimp only;congr 1;funext _v;congr 1;funext e;obtain⟨r,e⟩:=e;cases r<;>rfl
 ·funext c;obtain⟨r,c⟩:=c;cases r<;>rfl
open PySem.W (kas_item kas_cmp)
section
variable {it:Array ay}
def Ny(l):(Fk it l).reverse=Fk it l.reverse:=by
 unfold Fk;rw[List.reverse_toArray,List.map_reverse]
def Ko(l)(j):(Fk it l).extract 0 j=Fk it (l.take j):=by
 rw[Dz,Rr,Sx]
def Xfk(l lo)(r i):Fk it lo.reverse++((Fk it l).extract r i).reverse=Fk it (((l.take i).drop r)++lo).reverse:=by
 rw[Dz,Ny,Dn,List.reverse_append,Sh]
def Kp(lo)(x):(Fk it lo.reverse).push (kas_item it x)=Fk it (x::lo).reverse:=by
 rw[Il,S7]
def Io(la lb lo)(i j):dnH (Fk it la) (Fk it lb) (Fk it lo.reverse) i j=Fk it (la.take i++lb.take j++lo):=by
 unfold dnH;rw[Ko,Ko,Ny,List.reverse_reverse,Dn,Dn]
def Kq(la lb lo)(i j):fsH (Fk it la) (Fk it lb) (Fk it lo.reverse) i j=Fk it (lb.take j++la.take i++lo):=by
 unfold fsH;rw[Ko,Ko,Ny,List.reverse_reverse,Dn,Dn]
end
structure MJ (lt:Nat->Nat->Bool) (la lb lo:List Nat) (i j:Nat):Prop where
 so:lo.Pairwise λx y=>le lt x y=true
 pm:lo.Perm (la.drop i++lb.drop j)
 ba:∀x∈la.take i,∀y∈lo,le lt x y=true
 bb:∀x∈lb.take j,∀y∈lo,le lt x y=true
section
variable {lt:Nat->Nat->Bool}{n:Nat}{la lb lo:List Nat}{i j k r:Nat}
def Kr{l:List Nat}(h:r<=i):l.take i=l.take r++(l.take i).drop r:=by
 have:=Pa r (l.take i);rw[List.take_take,Q4 h] at this;exact this.symm
def Xfl{l:List Nat}(h:r<=i)(hi:i<=l.length):l.drop r=(l.take i).drop r++l.drop i:=by
 have e:=Pa i l;have:=congrArg (List.drop r) e;rw[List.drop_append_of_le_length (by rw[O3];lia)] at this;exact this.symm
def MJ.chA(T:Two lt n la lb)(m:MJ lt la lb lo i j)(hr:r<=i)(hi:i<=la.length)(h:∀x∈lb.take j,∀y∈(la.take i).drop r,le lt x y=true):MJ lt la lb ((la.take i).drop r++lo) r j:=by
 have sd:=T.sa.sublist (P5 i la);rw[Kr hr] at sd;obtain⟨s1,s2,s3⟩:=Pe.mp sd;refine⟨Pe.mpr ⟨s2,m.so,λx hx y hy=>m.ba x (P4 hx) y hy⟩,?_,λx hx y hy=>?_,λx hx y hy=>?_⟩
 ·rw[Xfl hr hi,Pb];exact P6 _ m.pm
 ·rcases Ou.mp hy with z | z
  ·exact s3 x hx y z
  ·exact m.ba x (by rw[Kr hr];exact P7 _ hx) y z
 ·rcases Ou.mp hy with z | z
  ·exact h x hx y z
  ·exact m.bb x hx y z
def MJ.chB(T:Two lt n la lb)(m:MJ lt la lb lo i j)(hr:r<=j)(hj:j<=lb.length)(h:∀x∈la.take i,∀y∈(lb.take j).drop r,le lt x y=true):MJ lt la lb ((lb.take j).drop r++lo) i r:=by
 have sd:=T.sb.sublist (P5 j lb);rw[Kr hr] at sd;obtain⟨s1,s2,s3⟩:=Pe.mp sd;refine⟨Pe.mpr ⟨s2,m.so,λx hx y hy=>m.bb x (P4 hx) y hy⟩,?_,λx hx y hy=>?_,λx hx y hy=>?_⟩
 ·rw[Xfl hr hj];refine(P6 _ m.pm).trans ?_;rw[<-Pb,<-Pb];exact Qw.append_right _
 ·rcases Ou.mp hy with z | z
  ·exact h x hx y z
  ·exact m.ba x hx y z
 ·rcases Ou.mp hy with z | z
  ·exact s3 x hx y z
  ·exact m.bb x (by rw[Kr hr];exact P7 _ hx) y z
def Xfm(h:lo.Perm (la.drop i++lb.drop j)):(la.take i++lb.take j++lo).Perm (la++lb):=by
 refine(P6 _ h).trans ?_;have e:la++lb=la.take i++(la.drop i++(lb.take j++lb.drop j)):=by rw[Pa,<-Pb,Pa]
 rw[e,Pb];refine P6 _ ?_;rw[<-Pb,<-Pb];exact Qw.append_right _
def MJ.endD(T:Two lt n la lb)(m:MJ lt la lb lo i j)(h:∀x∈la.take i,∀y∈lb.take j,le lt x y=true):Mrg lt la lb (la.take i++lb.take j++lo):=by
 refine⟨Xfm m.pm,Pe.mpr ⟨Pe.mpr ⟨T.sa.sublist (P5 ..),T.sb.sublist (P5 ..),h⟩,m.so,λx hx y hy=>?_⟩⟩;rcases Ou.mp hx with z | z
 ·exact m.ba x z y hy
 ·exact m.bb x z y hy
def MJ.endF(T:Two lt n la lb)(m:MJ lt la lb lo i j)(h:∀x∈lb.take j,∀y∈la.take i,le lt x y=true):Mrg lt la lb (lb.take j++la.take i++lo):=by
 refine⟨?_,Pe.mpr ⟨Pe.mpr ⟨T.sb.sublist (P5 ..),T.sa.sublist (P5 ..),h⟩,m.so,λx hx y hy=>?_⟩⟩
 ·refine List.Perm.trans ?_ (Xfm m.pm);exact Qw.append_right _
 ·rcases Ou.mp hx with z | z
  ·exact m.bb x z y hy
  ·exact m.ba x z y hy
def Ip{l:List Nat}(L:Wk lt)(so:l.Pairwise λx y=>le lt x y=true)(hi:1<=i)(hl:i<=l.length)(h:le lt (l.getD (i - 1) 0) x=true):∀y∈l.take i,le lt y x=true:=by
 intro y hy;obtain⟨t,ht,e⟩:=P3.mp hy;rw[O3] at ht;rw[Se] at e;have DL:t<l.length:=by lia
 have ey:y=l.getD t 0:=by rw[<-e,O9,Oj DL];rfl
 by_cases z:t=i - 1
 ·rw[ey,z];exact h
 ·rw[ey];exact L.tr (Gq so (by lia) (by lia)) h
def D1{l:List Nat}(h1:1<=i)(h:i<=l.length):(l.take i).drop (i - 1)=[l.getD (i - 1) 0]:=by
 rw[Sh,show i - (i - 1)=1 by lia];exact Dp (by lia)
def Nz{l:List Nat}(h:x∈(l.take i).drop r)(hi:i<=l.length):∃t,r<=t/\t<i/\x=l.getD t 0:=by
 rw[Sh] at h;obtain⟨t,h1,h2,e⟩:=D0 h;exact⟨r+t,by lia,by lia,e⟩
def Fv{l:List Nat}(h:x∈l.take i)(hi:i<=l.length):∃t,t<i/\x=l.getD t 0:=by
 obtain⟨t,_,h2,e⟩:=Nz (r:=0) (by rw[Rr];exact h) hi;exact⟨t,h2,e⟩
end
def RsH {τ : Type} (it:Array ay) (lt:Nat->Nat->Bool) (la lb:List Nat) (c:Option (Array ay) × τ):Prop:=∃res,c.1=some (Fk it res)/\Mrg lt la lb res
def NxH {τ : Type} (it:Array ay) (lt:Nat->Nat->Bool) (la lb:List Nat) (m:Nat) (c:Option (Array ay)×Nat×Nat×Array ay × τ):Prop:=∃lo i j t,c=(none,i,j,Fk it lo.reverse,t)/\MJ lt la lb lo i j/\1<=i/\2<=j/\i<=la.length/\j<=lb.length/\i+j<m
def StH {τ : Type} (it:Array ay) (lt:Nat->Nat->Bool) (la lb:List Nat) (m:Nat) (r:ForInStep (Option (Array ay)×Nat×Nat×Array ay × τ)):Prop:=match r with
 | .done c=>RsH it lt la lb c\/NxH it lt la lb m c
 | .yield c=>NxH it lt la lb m c
def SuH {τ : Type} (it:Array ay) (lt:Nat->Nat->Bool) (la lb:List Nat) (m:Nat) (r:ForInStep (Option (Array ay)×Nat×Nat×Array ay × τ)):Prop:=match r with
 | .done c=>RsH it lt la lb c
 | .yield c=>NxH it lt la lb m c
def NxH.mono{τ : Type}    {c:Option (Array ay)×Nat×Nat×Array ay × τ}(h:NxH it lt la lb m c)(hm:m<=m'):NxH it lt la lb m' c:=by
 obtain⟨lo,i,j,t,e,a1,a2,a3,a4,a5,a6⟩:=h;exact⟨lo,i,j,t,e,a1,a2,a3,a4,a5,by lia⟩
section
variable {prog:ap}{w:ax}{A:av}{E:Zb}{s:af}{κ : cc}{it:Array ay}{n:Nat}{lt:Nat->Nat->Bool}{la lb lo:List Nat}{i j k g p q:Nat}{cq st:aV}
def Xn8(hc:CmS prog w A s κ it n lt)(T:Two lt n la lb)(gH:∀y∈la,lt (lb.getD 0 0) y=true)(hk:kindOf cq = κ)(sg:SG cq st)(m:MJ lt la lb lo i j)(hi:1<=i)(hj:2<=j)(ha:i<=la.length)(hb:j<=lb.length)(h:∀r,StH it lt la lb (i+j) r->Q r st):dR (ah prog w) A E s (Nx (Fk it la) (Fk it lb) g (none,i,j,Fk it lo.reverse,p,q)) Q st:=by
 unfold Nx;dsimp only;have ea:=Bh (show i - 1<la.length by lia);have eb:=Bh (show j - 1<lb.length by lia);have ma:=Cr (show i - 1<la.length by lia);have mb:=Cr (show j - 1<lb.length by lia);refine Tl (Bm eb (Tl (Bm ea (Tl (Ik hc (T.bn _ mb) (T.an _ ma) (sg.k.trans hk) ?_)))));dsimp only;cases c:lt (lb.getD (j - 1) 0) (la.getD (i - 1) 0) with
 | true=>
  rw[Tr rfl];refine Tl (Bm ea ?_);rw[Kp,Io];have m':=MJ.chA (r:=i - 1) T m (by lia) ha (by rw[D1 hi ha];intro x hx y hy;rw[Om.mp hy];exact Ip T.L T.sb (by lia) hb (T.L.u c) x hx);rw[D1 hi ha] at m';by_cases e:(i - 1==0)=true
  ·rw[Tr e];have e':i - 1=0:=by simpa using e
   exact Tn (h _ (.inl ⟨_,rfl,m'.endD T (by rw[e'];intro _ hx;simp at hx)⟩))
  ·rw[Tq e];have e':i - 1≠0:=by simpa using e
   by_cases e2:p+1 ≥ g
   ·rw[Tr e2];exact Tn (h _ (.inr ⟨_,_,_,_,rfl,m',by lia,hj,by lia,hb,by lia⟩))
   ·rw[Tq e2];exact Tn (h _ ⟨_,_,_,_,rfl,m',by lia,hj,by lia,hb,by lia⟩)
 | false=>
  rw[Tq (by decide)];have c':=Bo c;refine Tl (Bm eb ?_);rw[Kp,Kq];have m':=MJ.chB (r:=j - 1) T m (by lia) hb (by rw[D1 (by lia) hb];intro x hx y hy;rw[Om.mp hy];exact Ip T.L T.sa hi ha c' x hx);rw[D1 (by lia) hb] at m';by_cases e:(j - 1==1)=true
  ·rw[Tr e];have e':j - 1=1:=by simpa using e
   refine Tn (h _ (.inl ⟨_,rfl,m'.endF T λx hx y hy=>?_⟩));obtain⟨t,ht,rfl⟩:=Fv hx (by lia);rw[show t=0 by lia];exact T.L.u (gH y (Pr hy))
  ·rw[Tq e];have e':j - 1≠1:=by simpa using e
   by_cases e2:q+1 ≥ g
   ·rw[Tr e2];exact Tn (h _ (.inr ⟨_,_,_,_,rfl,m',hi,by lia,ha,by lia,by lia⟩))
   ·rw[Tq e2];exact Tn (h _ ⟨_,_,_,_,rfl,m',hi,by lia,ha,by lia,by lia⟩)
def Xfn(T:Two lt n la lb)(m:MJ lt la lb lo i j)(hi:1<=i)(hj:2<=j)(ha:i<=la.length)(hb:j<=lb.length)(c:∀x∈lb.take j,le lt x (la.getD (i - 1) 0)=true)  (hm:i+j<=m0)(h:∀r,StH it lt la lb m0 r->Q r st):dR (ah prog w) A E s (gH3 (Fk it la) (Fk it lb) (Fk it lo.reverse) i j g p q) Q st:=by
 unfold gH3;refine Tl (Bm (Bh (show i - 1<la.length by lia)) ?_);rw[Kp,Io];have m':=MJ.chA (r:=i - 1) T m (by lia) ha (by rw[D1 hi ha];intro x hx y hy;rw[Om.mp hy];exact c x hx);rw[D1 hi ha] at m';by_cases e:(i - 1==0)=true
 ·rw[Tr e];have e':i - 1=0:=by simpa using e
  exact Tn (h _ (.inl ⟨_,rfl,m'.endD T (by rw[e'];intro _ hx;simp at hx)⟩))
 ·rw[Tq e];have e':i - 1≠0:=by simpa using e
  by_cases e2:(decide (p<7)&&decide (q<7))=true
  ·rw[Tr e2];exact Tn (h _ (.inr ⟨_,_,_,_,rfl,m',by lia,hj,by lia,hb,by lia⟩))
  ·rw[Tq e2];exact Tn (h _ ⟨_,_,_,_,rfl,m',by lia,hj,by lia,hb,by lia⟩)
def Xfo(hc:CmS prog w A s κ it n lt)(T:Two lt n la lb)(gH:∀y∈la,lt (lb.getD 0 0) y=true)(hk:kindOf cq = κ)(sg:SG cq st)(m:MJ lt la lb lo i j)(hi:1<=i)(hj:2<=j)(ha:i<=la.length)(hb:j<=lb.length)(c:le lt (la.getD (i - 1) 0) (lb.getD (j - 1) 0)=true)  (hm:i+j<=m0)(h:∀r,StH it lt la lb m0 r->Q r st):dR (ah prog w) A E s (gH2 (Fk it la) (Fk it lb) (Fk it lo.reverse) i j g p q) Q st:=by
 unfold gH2;have ea:=Bh (show i - 1<la.length by lia);have ma:=Cr (show i - 1<la.length by lia);refine Tl (Bm (Bh (show j - 1<lb.length by lia)) ?_);rw[Kp,Kq];have m':=MJ.chB (r:=j - 1) T m (by lia) hb (by rw[D1 (by lia) hb];intro x hx y hy;rw[Om.mp hy];exact Ip T.L T.sa hi ha c x hx);rw[D1 (by lia) hb] at m';by_cases e:(j - 1==1)=true
 ·rw[Tr e];have e':j - 1=1:=by simpa using e
  refine Tn (h _ (.inl ⟨_,rfl,m'.endF T λx hx y hy=>?_⟩));obtain⟨t,ht,rfl⟩:=Fv hx (by lia);rw[show t=0 by lia];exact T.L.u (gH y (Pr hy))
 rw[Tq e];have e':j - 1≠1:=by simpa using e
 refine Tl (Bm ea ?_);refine Tl (Gn (P:=λt=>lt (lb.getD t 0) (la.getD (i - 1) 0)) ⟨λa b fg dL e=>?_⟩ (by lia) (λt ht Q' hq=>?_) λr hr iU lv=>?_)
 ·exact T.L.ml (Gq T.sb fg (by lia)) e
 ·rw[Qi];exact Gm hc (Bh (by lia)) (T.bn _ (Cr (by lia))) (T.an _ ma) (sg.k.trans hk) (left:=true) hq
 dsimp only;have below:∀z≤r,∀x∈lb.take z,le lt x (la.getD (i - 1) 0)=true:=λz hz x hx=>by
  obtain⟨t,ht,rfl⟩:=Fv hx (by lia);exact T.L.u (iU t (by lia))
 by_cases kK:j - 1 - r > 0
 ·rw[Tr kK,Xfk,Io,Kq];have m2:=MJ.chB (r:=r) T m' hr (by lia) (λx hx y hy=>by
   obtain⟨t,h1,h2,rfl⟩:=Nz hy (by lia);exact Ip T.L T.sa hi ha (Bo (lv t h1 h2)) x hx)
  by_cases e3:(r==1)=true
  ·rw[Tr e3];have m4:r=1:=by simpa using e3
   refine Tn (h _ (.inl ⟨_,rfl,m2.endF T λx hx y hy=>?_⟩));obtain⟨t,ht,rfl⟩:=Fv hx (by lia);rw[show t=0 by lia];exact T.L.u (gH y (Pr hy))
  ·rw[Tq e3];have m4:r≠1:=by simpa using e3
   by_cases e4:(r==0)=true
   ·rw[Tr e4];have zr:r=0:=by simpa using e4
    exact Tn (h _ (.inl ⟨_,rfl,m2.endD T (by rw[zr];intro _ _ y hy;simp at hy)⟩))
   ·rw[Tq e4];have zr:r≠0:=by simpa using e4
    exact Xfn T m2 hi (by lia) ha (by lia) (below r (Oi _)) (by lia) h
 ·rw[Tq kK];exact Xfn T m' hi (by lia) ha (by lia) (below (j - 1) (by lia)) (by lia) h
def Xfp(hc:CmS prog w A s κ it n lt)(T:Two lt n la lb)(gH:∀y∈la,lt (lb.getD 0 0) y=true)(hk:kindOf cq = κ)(sg:SG cq st)(m:MJ lt la lb lo i j)(hi:1<=i)(hj:2<=j)(ha:i<=la.length)(hb:j<=lb.length)(h:∀r a8,SG cq a8->StH it lt la lb (i+j) r->Q r a8):dR (ah prog w) A E s (gH1 (Fk it la) (Fk it lb) (Fk it lo.reverse) i j g p q) Q st:=by
 unfold gH1;refine Tl (wS_setG sg λa8 cI=>?_);have eb:=Bh (show j - 1<lb.length by lia);have mb:=Cr (show j - 1<lb.length by lia);refine Tl (Bm eb ?_);refine Tl (Gn (P:=λt => !lt (lb.getD (j - 1) 0) (la.getD t 0)) ⟨λa b fg dL e=>?_⟩ (by lia) (λt ht Q' hq=>?_) λr hr iU lv=>?_)
 ·have e:lt (lb.getD (j - 1) 0) (la.getD b 0)=false:=by simpa using e
  cases q:lt (lb.getD (j - 1) 0) (la.getD a 0) with
  | false=>rfl
  | true=>
   have:=T.L.mr q (Gq T.sa fg (by lia));rw[this] at e;cases e
 ·rw[Qi];exact Gm hc (Bh (by lia)) (T.an _ (Cr (by lia))) (T.bn _ mb) (cI.k.trans hk) (left:=false) hq
 dsimp only;have en:1<=r->le lt (la.getD (r - 1) 0) (lb.getD (j - 1) 0)=true:=λh1=>by
  have:=iU (r - 1) (by lia);exact Bo (by simpa using this)
 by_cases kK:i - r > 0
 ·rw[Tr kK,Xfk,Io];have m2:=MJ.chA (r:=r) T m hr ha (λx hx y hy=>by
   obtain⟨t,h1,h2,rfl⟩:=Nz hy (by lia);have:=lv t h1 h2;exact Ip T.L T.sb (by lia) hb (T.L.u (by simpa using this)) x hx)
  by_cases e3:(r==0)=true
  ·rw[Tr e3];have m4:r=0:=by simpa using e3
   exact Tn (h _ _ cI (.inl ⟨_,rfl,m2.endD T (by rw[m4];intro _ hx;simp at hx)⟩))
  ·rw[Tq e3];have m4:r≠0:=by simpa using e3
   exact Xfo hc T gH hk cI m2 (by lia) hj (by lia) hb (en (by lia)) (by lia) λr' oD=>h r' _ cI oD
 ·rw[Tq kK];have:r=i:=by lia
  subst this;exact Xfo hc T gH hk cI m hi hj ha hb (en hi) (Oi _) λr' oD=>h r' _ cI oD
def Xn9(hc:CmS prog w A s κ it n lt)(T:Two lt n la lb)(gH:∀y∈la,lt (lb.getD 0 0) y=true)(hk:kindOf cq = κ)(sg:SG cq st)(m:MJ lt la lb lo i j)(hi:1<=i)(hj:2<=j)(ha:i<=la.length)(hb:j<=lb.length)(h:∀r a8,SG cq a8->SuH it lt la lb (i+j) r->Q r a8):dR (ah prog w) A E s (Kn (Fk it la) (Fk it lb) (none,i,j,Fk it lo.reverse,g)) Q st:=by
 unfold Kn;dsimp only;rw[Bt,Bt];refine Tl (bg (aK (I:=λx c a8=>SG cq a8/\NxH it lt la lb (i+j+1 - x) c) (Q:=λc a8=>SG cq a8/\(RsH it lt la lb c\/NxH it lt la lb (i+j) c)) ?step ?fin ⟨sg,lo,i,j,_,rfl,m,hi,hj,ha,hb,by lia⟩) ?post)
 case fin=>
  rintro c a8 ⟨cI,z⟩;exact⟨cI,.inr (z.mono (by lia))⟩
 case step=>
  rintro x c a8 _ hx ⟨cI,jH,i',j',t,rfl,m',h1,h2,h3,h4,h5⟩;refine Xn8 hc T gH hk cI m' h1 h2 h3 h4 λr hr=>?_;cases r with
  | done c=>
   rcases hr with z | z
   ·exact⟨cI,.inl z⟩
   ·exact⟨cI,.inr (z.mono (by lia))⟩
  | yield c=>exact⟨cI,NxH.mono hr (by lia)⟩
 case post=>
  rintro ⟨r,i1,j1,o1,p1,q1⟩ kj ⟨sq,z⟩;rcases z with ⟨res,e,mr⟩ | ⟨lo1,i2,j2,t,e,m1,a1,a2,a3,a4,a5⟩
  ·obtain rfl:r=some (Fk it res):=e;exact Tn (h _ _ sq ⟨res,rfl,mr⟩)
  ·cases e;dsimp only;refine Tl (cS (aR ⟨rfl,?_⟩));refine Tl (bg (aK (I:=λx c a8=>SG cq a8/\NxH it lt la lb (i+j) c) (Q:=λc a8=>SG cq a8/\(RsH it lt la lb c\/NxH it lt la lb (i+j) c)) ?step ?fin ⟨sq,lo1,i1,j1,_,rfl,m1,a1,a2,a3,a4,a5⟩) ?post)
   case fin=>exact λc a8 z=>⟨z.1,.inr z.2⟩
   case step=>
    rintro x c a8 _ hx ⟨cI,jH,i',j',⟨g',p',q'⟩,rfl,m',h1,h2,h3,h4,h5⟩;dsimp only;have go:∀(r:ForInStep HTG) ce,SG cq ce->StH it lt la lb (i'+j') r->(match r with
     | .done c'=>SG cq ce/\(RsH it lt la lb c'\/NxH it lt la lb (i+j) c')
     | .yield c'=>SG cq ce/\NxH it lt la lb (i+j) c'):=λr ce dS hr=>by
     cases r with
     | done c=>
      rcases hr with z | z
      ·exact⟨dS,.inl z⟩
      ·exact⟨dS,.inr (z.mono (by lia))⟩
     | yield c=>exact⟨dS,NxH.mono hr (by lia)⟩
    by_cases e:g' > 1
    ·rw[Tr e];exact Xfp hc T gH hk cI m' h1 h2 h3 h4 λr ce s1 s2=>by have:=go r ce s1 s2;cases r<;>exact this
    ·rw[Tq e];exact Xfp hc T gH hk cI m' h1 h2 h3 h4 λr ce s1 s2=>by have:=go r ce s1 s2;cases r<;>exact this
   case post=>
    rintro ⟨r,i2,j2,o2,g2,p2,q2⟩ d0 ⟨m5,z⟩;rcases z with ⟨res,e,mr⟩ | ⟨sk,i3,j3,t,e,m2,b1,b2,b3,b4,b5⟩
    ·obtain rfl:r=some (Fk it res):=e;exact Tn (h _ _ m5 ⟨res,rfl,mr⟩)
    ·cases e;dsimp only;exact Tl (wS_setG m5 λqc w4=>Tn (h _ _ w4 ⟨sk,i2,j2,_,rfl,m2,b1,b2,b3,b4,b5⟩))
def Xoa(hc:CmS prog w A s κ it n lt)(T:Two lt n la lb)(ha:1<=la.length)(hb:1<=lb.length)(gH:∀y∈la,lt (lb.getD 0 0) y=true)(top:∀x∈lb,lt x (la.getD (la.length - 1) 0)=true)
  (hk:kindOf st = κ) (h:∀res a8,Mrg lt la lb res->SG st a8->Q (Fk it res) a8):dR (ah prog w) A E s (mHi (Fk it la) (Fk it lb)) Q st:=by
 rw[Xn7];have oE:SG st st:=⟨rfl,rfl,rfl,rfl⟩;refine Tl (cS (aR ⟨rfl,?_⟩));rw[Bt,Bt];refine Tl (Bm (Bh (show la.length - 1<la.length by lia)) ?_);have e0:(#[kas_item it (la.getD (la.length - 1) 0)]:Array ay)=Fk it [la.getD (la.length - 1) 0].reverse:=rfl;rw[e0,Io,Kq];have mn:MJ lt la lb [] la.length lb.length:=⟨.nil,by rw[Qm (Oi _),Qm (Oi _)];exact .nil,λ_ _ _ h=>(nomatch h),λ_ _ _ h=>(nomatch h)⟩;have m1:=MJ.chA (r:=la.length - 1) T mn (by lia) (Oi _) (by rw[D1 ha (Oi _)];intro x hx y hy;rw[Om.mp hy];exact T.L.u (top x (Pr hx)));rw[D1 ha (Oi _),Pw] at m1;by_cases e1:(la.length - 1==0)=true
 ·rw[Tr e1];have oF:la.length - 1=0:=by simpa using e1
  exact Tn (h _ _ (m1.endD T (by rw[oF];intro _ hx;simp at hx)) oE)
 rw[Tq e1];have oF:la.length - 1≠0:=by simpa using e1
 by_cases e2:(lb.length==1)=true
 ·rw[Tr e2];have uy:lb.length=1:=by simpa using e2
  refine Tn (h _ _ (m1.endF T λx hx y hy=>?_) oE);obtain⟨t,ht,rfl⟩:=Fv hx (Oi _);rw[show t=0 by lia];exact T.L.u (gH y (Pr hy))
 rw[Tq e2];have uy:lb.length≠1:=by simpa using e2
 refine Tl (bM ?_);refine Tl (bg (aK (I:=λx c a8=>SG st a8/\NxH it lt la lb (la.length+lb.length - x) c) (Q:=λc a8=>SG st a8/\RsH it lt la lb c) ?step ?fin ⟨oE,_,_,_,_,rfl,m1,by lia,by lia,by lia,by lia,by lia⟩) ?post)
 case fin=>
  rintro c a8 ⟨cI,jH,i',j',t,rfl,m',h1,h2,h3,h4,h5⟩
  lia
 case step=>
  rintro x c a8 _ hx ⟨cI,jH,i',j',t,rfl,m',h1,h2,h3,h4,h5⟩;refine Xn9 hc T gH hk cI m' h1 h2 h3 h4 λr ce dS hr=>?_;cases r with
  | done c=>exact⟨dS,hr⟩
  | yield c=>exact⟨dS,NxH.mono hr (by lia)⟩
 case post=>
  rintro ⟨r,o2,i2,j2,g2⟩ d0 ⟨m5,res,e,mr⟩;obtain rfl:r=some (Fk it res):=e;exact Tn (h res _ mr m5)
end
open PySem.W (kas_item kas_cmp kas_swaps_map)
def SoL (lt:Nat->Nat->Bool) (l:List Nat) (u v:Nat):Prop:=∀i j,u<=i->i<j->j<v->le lt (l.getD i 0) (l.getD j 0)=true
def DeL (lt:Nat->Nat->Bool) (l:List Nat) (u v:Nat):Prop:=∀i j,u<=i->i<j->j<v->le lt (l.getD j 0) (l.getD i 0)=true
structure SA (κ : cc) (it:Array ay) (pd:Array (Nat×Nat×Nat)) (l:List Nat) (st:aV):Prop where
 k:kindOf st = κ
 a:bi st=Fk it l
 f:bp st=none
 p:aZ st=pd
section
variable {κ : cc}{it:Array ay}{pd:Array (Nat×Nat×Nat)}{l:List Nat}{st:aV}
def Gr:Fk it l=l.toArray.map (kas_item it):=by
 unfold Fk;rw[List.map_toArray]
def Iq(l:List Nat)(k):l.getD k 0=(l.toArray[k]?).getD 0:=by
 rw[Rg,O9]
def Xfq(p:Array Nat)(k):p.toList.getD k 0=(p[k]?).getD 0:=by
 rw[O9,Rb]
def Ks(bK:SA κ it pd l st){i j}(hj:j<=l.length):∃l',SA κ it pd l' (jt st (mirror (bi st) i j ((j - i) / 2)))/\l'.Perm l/\∀k,l'.getD k 0=if i<=k/\k<j then l.getD (i+j - 1 - k) 0 else l.getD k 0:=by
 refine⟨(mirror l.toArray i j ((j - i) / 2)).toList,⟨bK.k,?_,bK.f,bK.p⟩,?_,λk=>?_⟩
 ·show mirror (bi st) i j ((j - i) / 2)=_;rw[bK.a,Gr,Gr];exact kas_swaps_map (kas_item it) (λk=>i+k) (λk=>j - 1 - k) _ l.toArray
 ·have:=(zg l.toArray i j ((j - i) / 2)).toList;simpa using this
 ·rw[Xfq,lu (by simpa using hj)];split<;>rw[Iq]
def Xob(bK:SA κ it pd l st){k d}(hk:k<l.length)(hd:d<=k):∃l',SA κ it pd l' (jt st (bubble (bi st) k (k - d)))/\l'.Perm l/\∀i,l'.getD i 0=if i=d then l.getD k 0 else if d<i/\i<=k then l.getD (i - 1) 0 else l.getD i 0:=by
 refine⟨(bubble l.toArray k (k - d)).toList,⟨bK.k,?_,bK.f,bK.p⟩,?_,λi=>?_⟩
 ·show bubble (bi st) k (k - d)=_;rw[bK.a,Gr,Gr];exact kas_swaps_map (kas_item it) (λi=>k - i) (λi=>k - i - 1) _ l.toArray
 ·have:=(kE l.toArray k (k - d)).toList;simpa using this
 ·rw[Xfq,qq (by simpa using hk) _ (by lia),show k - (k - d)=d by lia];split
  ·rw[Iq]
  ·split<;>rw[Iq]
end
section
variable {prog:ap}{w:ax}{A:av}{E:Zb}{s:af}{κ : cc}{it:Array ay}{n:Nat}{lt:Nat->Nat->Bool}{pd:Array (Nat×Nat×Nat)}{l:List Nat}{st:aV}
structure Al (n:Nat) (l:List Nat):Prop where
 pm:l.Perm (List.range n)
def Al.len(h:Al n l):l.length=n:=by rw[h.pm.length_eq,Qg]
def Al.ltn(h:Al n l)(hi:i<n):l.getD i 0<n:=P2.mp (h.pm.mem_iff.mp (Cr (by rw[h.len];exact hi)))
def Gs(hc:CmS prog w A s κ it n lt)(bK:SA κ it pd l st)(al:Al n l)  (hi:i<n)(hj:j<n)(h:Q (some (lt (l.getD i 0) (l.getD j 0))) st):dR (ah prog w) A E s (ni i j) Q st:=by
 rw[ltAt'_eq];refine Tl (bM ?_)
 show dR _ _ _ _ (do  let x <-elem' (bi st) i;let y <-elem' (bi st) j;lt' x y) Q st;rw[bK.a];have hl:=al.len;exact Tl (Bm (Bh (by lia)) (Tl (Bm (Bh (by lia)) (Ik hc (al.ltn hi) (al.ltn hj) bK.k h))))
def Xfr(L:Wk lt){u v}(so:SoL lt l u v)(mf:u<v)(h:le lt (l.getD (v - 1) 0) (l.getD v 0)=true):SoL lt l u (v+1):=λi j h1 h2 h3=>by
 by_cases e:j<v
 ·exact so i j h1 h2 e
 ·have:j=v:=by lia
  subst this;by_cases z:i=j - 1
  ·rw[z];exact h
  ·exact L.tr (so i (j - 1) h1 (by lia) (by lia)) h
def Kt(L:Wk lt){u v}(so:DeL lt l u v)(mf:u<v)(h:le lt (l.getD v 0) (l.getD (v - 1) 0)=true):DeL lt l u (v+1):=λi j h1 h2 h3=>by
 by_cases e:j<v
 ·exact so i j h1 h2 e
 ·have:j=v:=by lia
  subst this;by_cases z:i=j - 1
  ·rw[z];exact h
  ·exact L.tr h (so i (j - 1) h1 (by lia) (by lia))
def dsR (lo r k:Nat):SM (Option Nat):=do
 rule "list.sort.descending-run"
 let mut y:=k+1
 let mut z:=0
 for _ in [y:r] do
  let some a <-ni (lo+y) (lo+y - 1) | return none
  if a then
   if z > 0 then cw (lo+y - (z+1)) (lo+y)
   z:=0
  else
   let some b <-ni (lo+y - 1) (lo+y) | return none
   if b then break
   z:=z+1
  y:=y+1
 if z > 0 then cw (lo+y - (z+1)) (lo+y)
 cw lo (lo+y)
 for _ in [y:r] do
  let some a <-ni (lo+y) (lo+y - 1) | return none
  if a then break
  y:=y+1
 return some y
def N0{u v a b:Nat}{l':List Nat}(de:DeL lt l u v)(hv:b<=v)(eq:∀i j,a<=i->i<b->a<=j->j<b->le lt (l.getD i 0) (l.getD j 0)=true)(hu:u<=a)(g:∀k,l'.getD k 0=if a<=k/\k<b then l.getD (a+b - 1 - k) 0 else l.getD k 0):DeL lt l' u v:=λi j h1 h2 h3=>by
 rw[g,g];by_cases c1:a<=i/\i<b
 ·rw[Tr c1];by_cases c2:a<=j/\j<b
  ·rw[Tr c2];exact eq _ _ (by omega) (by omega) (by omega) (by omega)
  ·rw[Tq c2];exact de _ _ (by omega) (by omega) h3
 ·rw[Tq c1];by_cases c2:a<=j/\j<b
  ·rw[Tr c2];exact de _ _ h1 (by omega) (by omega)
  ·rw[Tq c2];exact de _ _ h1 h2 h3
def Xfs(hc:CmS prog w A s κ it n lt)(bK:SA κ it pd l st)(al:Al n l){lo r k:Nat}(hk:1<=k)(KI:k<r)(hn:lo+r=n)(de:DeL lt l lo (lo+k))(nx:lt (l.getD (lo+k) 0) (l.getD (lo+k - 1) 0)=true)
  {Q:Option Nat->aV->Prop} (h:∀m l' a8,SA κ it pd l' a8->l'.Perm l->1<=m->m<=r->SoL lt l' lo (lo+m)->(∀i,i<lo->l'.getD i 0=l.getD i 0)->Q (some m) a8):dR (ah prog w) A E s (dsR lo r k) Q st:=by
 have L:=hc.L;have hl:=al.len;unfold dsR;refine Tl (cS (aR ⟨rfl,?_⟩))
 let Iv:Nat->Nat->aV->Prop:=λx z a8=>∃l',SA κ it pd l' a8/\l'.Perm l/\(∀i,i<lo->l'.getD i 0=l.getD i 0)/\DeL lt l' lo (lo+x)/\z<x/\∀i j,lo+x - (z+1)<=i->i<lo+x->lo+x - (z+1)<=j->j<lo+x->le lt (l'.getD i 0) (l'.getD j 0)=true
 have tail:∀x z a8,x<=r->2<=x->Iv x z a8->dR (ah prog w) A E s (do
   if z > 0 then cw (lo+x - (z+1)) (lo+x)
   cw lo (lo+x)
   let mut y:=x
   for _ in [y:r] do
    let some a <-ni (lo+y) (lo+y - 1) | return none
    if a then break
    y:=y+1
   return some y) Q a8:=by
  rintro x z a8 hX oG ⟨l1,s1,fm,iE,oH,hz,oI⟩;have ie:Al n l1:=⟨fm.trans al.pm⟩;have oq:=ie.len
  have en:∀l2 d0,SA κ it pd l2 d0->l2.Perm l->(∀i,i<lo->l2.getD i 0=l.getD i 0)->DeL lt l2 lo (lo+x)->dR (ah prog w) A E s (do
    cw lo (lo+x)
    let mut y:=x
    for _ in [y:r] do
     let some a <-ni (lo+y) (lo+y - 1) | return none
     if a then break
     y:=y+1
    return some y) Q d0:=by
   intro l2 d0 s2 dU oJ w5;have nj:Al n l2:=⟨dU.trans al.pm⟩;have og:=nj.len;obtain⟨l3,s3,nr,g3⟩:=Ks s2 (i:=lo) (j:=lo+x) (by omega);refine Tl (fH ?_);have DM:Al n l3:=⟨nr.trans nj.pm⟩;have qu:SoL lt l3 lo (lo+x):=λi j h1 h2 h3=>by
    rw[g3,g3,Tr (by omega),Tr (by omega)];exact w5 _ _ (by omega) (by omega) (by omega)
   have pre:∀i,i<lo->l3.getD i 0=l.getD i 0:=λi hi=>by rw[g3,Tq (by omega),oJ i hi]
   refine Tl (bg (aK (I:=λy c a8=>SA κ it pd l3 a8/\c=(none,y)/\SoL lt l3 lo (lo+y)) (Q:=λc a8=>SA κ it pd l3 a8/\∃m,c=(none,m)/\1<=m/\m<=r/\SoL lt l3 lo (lo+m)) ?step ?fin ⟨s3,rfl,qu⟩) ?post)
   case fin=>
    rintro c a8 ⟨q1,rfl,so⟩;exact⟨q1,_,rfl,by omega,by omega,so⟩
   case step=>
    rintro y c a8 kr hy ⟨q1,rfl,so⟩;dsimp only;refine Tl (Gs hc q1 DM (by omega) (by omega) ?_);dsimp only;cases e:lt (l3.getD (lo+y) 0) (l3.getD (lo+y - 1) 0) with
    | true=>
     rw[Tr rfl];exact Tn ⟨q1,y,rfl,by omega,by omega,so⟩
    | false=>
     rw[Tq (by decide)];exact Tn ⟨q1,rfl,Xfr (v:=lo+y) L so (by omega) (Bo e)⟩
   case post=>
    rintro c a8 ⟨q1,m',rfl,a1,a2,a3⟩;exact Tn (h m' l3 _ q1 (nr.trans dU) a1 a2 a3 pre)
  by_cases ez:z > 0
  ·rw[Tr ez];obtain⟨l2,s2,dU,g2⟩:=Ks s1 (i:=lo+x - (z+1)) (j:=lo+x) (by omega);refine Tl (fH ?_);exact en l2 _ s2 (dU.trans fm) (λi hi=>by rw[g2,Tq (by omega),iE i hi]) (N0 oH (Oi _) oI (by omega) g2)
  ·rw[Tq ez];exact en l1 _ s1 fm iE oH
 refine Tl (bg (aK (I:=λx c a8=>∃z,c=(none,x,z)/\Iv x z a8) (Q:=λc a8=>∃x z,c=(none,x,z)/\x<=r/\2<=x/\Iv x z a8) ?step ?fin ⟨0,rfl,l,bK,.refl _,λ_ _=>rfl,Kt (v:=lo+k) L de (by omega) (L.u nx),by omega,λi j h1 h2 h3 h4=>by rw[show i=j by omega];exact L.rf⟩) ?post)
 case fin=>
  rintro c a8 ⟨z,rfl,iv⟩;exact⟨_,z,rfl,by omega,by omega,iv⟩
 case step=>
  rintro x c a8 w6 hx ⟨z,rfl,l1,s1,fm,iE,oH,hz,oI⟩;have ie:Al n l1:=⟨fm.trans al.pm⟩;have oq:=ie.len;dsimp only;refine Tl (Gs hc s1 ie (by omega) (by omega) ?_);dsimp only;cases e:lt (l1.getD (lo+x) 0) (l1.getD (lo+x - 1) 0) with
  | true=>
   rw[Tr rfl];by_cases ez:z > 0
   ·rw[Tr ez];obtain⟨l2,s2,dU,g2⟩:=Ks s1 (i:=lo+x - (z+1)) (j:=lo+x) (by omega);refine Tl (fH ?_);have w5:=N0 oH (Oi _) oI (by omega) g2;refine Tn ⟨0,rfl,l2,s2,dU.trans fm,λi hi=>by rw[g2,Tq (by omega),iE i hi],Kt (v:=lo+x) L w5 (by omega) ?_,by omega,λi j h1 h2 h3 h4=>by rw[show i=j by omega];exact L.rf⟩;rw[g2,g2,Tq (by omega),Tr (by omega)];exact L.tr (L.u e) (oI _ _ (by omega) (by omega) (by omega) (by omega))
   ·rw[Tq ez];exact Tn ⟨0,rfl,l1,s1,fm,iE,Kt (v:=lo+x) L oH (by omega) (L.u e),by omega,λi j h1 h2 h3 h4=>by rw[show i=j by omega];exact L.rf⟩
  | false=>
   rw[Tq (by decide)];refine Tl (Gs hc s1 ie (by omega) (by omega) ?_);dsimp only;cases e2:lt (l1.getD (lo+x - 1) 0) (l1.getD (lo+x) 0) with
   | true=>
    rw[Tr rfl];exact Tn ⟨x,z,rfl,by omega,by omega,l1,s1,fm,iE,oH,hz,oI⟩
   | false=>
    rw[Tq (by decide)];refine Tn ⟨z+1,rfl,l1,s1,fm,iE,Kt (v:=lo+x) L oH (by omega) (Bo e2),by omega,λi j h1 h2 h3 h4=>?_⟩;have eL:∀i,lo+x - (z+1)<=i->i<lo+x+1->le lt (l1.getD i 0) (l1.getD (lo+x - 1) 0)=true/\le lt (l1.getD (lo+x - 1) 0) (l1.getD i 0)=true:=λi a b=>by
     by_cases c:i<lo+x
     ·exact⟨oI _ _ a c (by omega) (by omega),oI _ _ (by omega) (by omega) a c⟩
     ·rw[show i=lo+x by omega];exact⟨Bo e2,Bo e⟩
    exact L.tr (eL i (by omega) (by omega)).1 (eL j (by omega) (by omega)).2
 case post=>
  rintro c a8 ⟨x,z,rfl,hX,oG,iv⟩;exact tail x z a8 hX oG iv
def Xft(hc:CmS prog w A s κ it n lt)(bK:SA κ it pd l st)(al:Al n l){lo r}(hr:1<=r)(hn:lo+r=n)(h:∀m l' a8,SA κ it pd l' a8->l'.Perm l->1<=m->m<=r->SoL lt l' lo (lo+m)->(∀i,i<lo->l'.getD i 0=l.getD i 0)->Q (some m) a8):dR (ah prog w) A E s (countRun' lo r) Q st:=by
 have L:=hc.L;have hl:=al.len;rw[countRun'_eq];refine Tl (bg (aK (I:=λx c a8=>st=a8/\c=(none,x)/\SoL lt l lo (lo+x)) (Q:=λc a8=>st=a8/\∃m,c=(none,m)/\1<=m/\m<=r/\SoL lt l lo (lo+m)/\(m<r->lt (l.getD (lo+m) 0) (l.getD (lo+m - 1) 0)=true)) ?step ?fin ⟨rfl,rfl,λi j h1 h2 h3=>by lia⟩) ?post)
 case fin=>
  rintro c a8 ⟨rfl,rfl,so⟩;exact⟨rfl,_,rfl,by lia,by lia,so,λz=>by lia⟩
 case step=>
  rintro x c a8 w6 hx ⟨rfl,rfl,so⟩;dsimp only;refine Tl (Gs hc bK al (by lia) (by lia) ?_);dsimp only;cases e:lt (l.getD (lo+x) 0) (l.getD (lo+x - 1) 0) with
  | true=>
   rw[Tr rfl];exact Tn ⟨rfl,x,rfl,w6,by lia,so,λ_=>e⟩
  | false=>
   rw[Tq (by decide)];exact Tn ⟨rfl,rfl,Xfr (v:=lo+x) L so (by lia) (Bo e)⟩
 case post=>
  rintro c a8 ⟨rfl,m,rfl,m1,m2,so,nx⟩;dsimp only;by_cases e1:(m==r)=true
  ·rw[Tr e1];exact Tn (h m l _ bK (.refl _) m1 m2 so λ_ _=>rfl)
  rw[Tq e1];have oF:m≠r:=by simpa using e1
  have nx:=nx (by lia);by_cases e2:m > 1
  ·rw[Tr e2];refine Tl (Gs hc bK al (by lia) (by lia) ?_);dsimp only;cases e3:lt (l.getD lo 0) (l.getD (lo+m - 1) 0) with
   | true=>
    rw[Tr rfl];exact Tn (h m l _ bK (.refl _) m1 m2 so λ_ _=>rfl)
   | false=>
    rw[Tq (by decide)];have ie:∀i,lo<=i->i<lo+m->le lt (l.getD lo 0) (l.getD i 0)=true/\le lt (l.getD i 0) (l.getD lo 0)=true:=λi a b=>by
     have u1:le lt (l.getD lo 0) (l.getD i 0)=true:=by
      by_cases c:i=lo
      ·rw[c];exact L.rf
      ·exact so lo i (Oi _) (by lia) b
     refine⟨u1,?_⟩;by_cases c:i=lo+m - 1
     ·rw[c];exact Bo e3
     ·exact L.tr (so i (lo+m - 1) a (by lia) (by lia)) (Bo e3)
    have w9:∀i j,lo<=i->i<lo+m->lo<=j->j<lo+m->le lt (l.getD i 0) (l.getD j 0)=true:=λi j a b c d=>L.tr (ie i a b).2 (ie j c d).1;obtain⟨l2,s2,dU,g2⟩:=Ks bK (i:=lo) (j:=lo+m) (by lia);refine Tl (fH ?_);show dR _ _ _ _ (dsR lo r m) Q _;have oJ:∀i,i<lo->l2.getD i 0=l.getD i 0:=λi hi=>by rw[g2,Tq (by lia)]
    refine Xfs hc s2 ⟨dU.trans al.pm⟩ m1 (by lia) hn (N0 (λi j a b c=>w9 j i (by lia) c a (by lia)) (Oi _) w9 (Oi _) g2) ?_ λm' l' a8 q1 q2 q3 q4 q5 q6=>h m' l' a8 q1 (q2.trans dU) q3 q4 q5 λi hi=>(q6 i hi).trans (oJ i hi);rw[g2,g2,Tq (by lia),Tr (by lia)];exact L.mr nx (w9 _ _ (by lia) (by lia) (by lia) (by lia))
  ·rw[Tq e2];show dR _ _ _ _ (dsR lo r m) Q _;exact Xfs hc bK al m1 (by lia) hn (λi j a b c=>by lia) nx h
def Xfu(hc:CmS prog w A s κ it n lt)(bK:SA κ it pd l st)(al:Al n l){lo m ok}(h1:1<=ok)(h2:ok<=m)(hn:lo+m<=n)(so:SoL lt l lo (lo+ok))(h:∀l' a8,SA κ it pd l' a8->l'.Perm l->SoL lt l' lo (lo+m)->(∀i,i<lo->l'.getD i 0=l.getD i 0)->Q true a8):dR (ah prog w) A E s (binarySort' lo m ok) Q st:=by
 have L:=hc.L;have hl:=al.len;rw[binarySort'_eq];refine Tl (bg (aK (I:=λx c a8=>c=(none,())/\∃l',SA κ it pd l' a8/\l'.Perm l/\SoL lt l' lo (lo+x)/\(∀i,i<lo->l'.getD i 0=l.getD i 0)) (Q:=λc a8=>c=(none,())/\∃l',SA κ it pd l' a8/\l'.Perm l/\SoL lt l' lo (lo+m)/\(∀i,i<lo->l'.getD i 0=l.getD i 0)) ?step ?fin ⟨rfl,l,bK,.refl _,by rw[show max ok 1=ok by lia];exact so,λ_ _=>rfl⟩) ?post)
 case fin=>
  rintro c a8 ⟨rfl,l',s1,pm,iF,pre⟩;exact⟨rfl,l',s1,pm,by rw[show max (max ok 1) m=m by lia] at iF;exact iF,pre⟩
 case post=>
  rintro c a8 ⟨rfl,l',s1,pm,iF,pre⟩;exact Tn (h l' _ s1 pm iF pre)
 case step=>
  rintro k c a8 KJ hk ⟨rfl,l',s1,pm,iF,pre⟩;have zt:Al n l':=⟨pm.trans al.pm⟩;have oy:=zt.len;refine Tl (bg (aK (I:=λx c ce=>a8=ce/\∃u v,c=(none,u,v)/\u<=v/\v<=k/\v - u<=k - x/\(∀i,i<u->le lt (l'.getD (lo+i) 0) (l'.getD (lo+k) 0)=true)/\(∀i,v<=i->i<k->le lt (l'.getD (lo+k) 0) (l'.getD (lo+i) 0)=true))
   (Q:=λc ce=>a8=ce/\∃u,c=(none,u,u)/\u<=k/\(∀i,i<u->le lt (l'.getD (lo+i) 0) (l'.getD (lo+k) 0)=true)/\(∀i,u<=i->i<k->le lt (l'.getD (lo+k) 0) (l'.getD (lo+i) 0)=true)) ?step ?fin ⟨rfl,0,k,rfl,by lia,by lia,by lia,λi hi=>by lia,λi h1 h2=>by lia⟩) ?post)
  case fin=>
   rintro c ce ⟨rfl,u,v,rfl,b1,b2,b3,b4,b5⟩;have:u=v:=by lia
   subst this;exact⟨rfl,u,rfl,b2,b4,b5⟩
  case step=>
   rintro x c ce _ hx ⟨rfl,u,v,rfl,b1,b2,b3,b4,b5⟩;dsimp only;by_cases e:u ≥ v
   ·rw[Tr e];have:u=v:=by lia
    subst this;exact Tn ⟨rfl,u,rfl,b2,b4,b5⟩
   ·rw[Tq e];refine Tl (Gs hc s1 zt (by lia) (by lia) ?_);dsimp only;have q1:u<=(u+v) / 2:=by lia
    have q2:(u+v) / 2<v:=by lia
    generalize (u+v) / 2=md at q1 q2;cases c:lt (l'.getD (lo+k) 0) (l'.getD (lo+md) 0) with
    | true=>
     rw[Tr rfl];refine Tn ⟨rfl,u,md,rfl,q1,by lia,by lia,b4,λi z1 z2=>?_⟩;by_cases z:i=md
     ·rw[z];exact L.u c
     ·exact L.tr (L.u c) (iF _ _ (by lia) (by lia) (by lia))
    | false=>
     rw[Tq (by decide)];have c':=Bo c;refine Tn ⟨rfl,md+1,v,rfl,by lia,b2,by lia,λi z1=>?_,b5⟩;by_cases z:i=md
     ·rw[z];exact c'
     ·exact L.tr (iF _ _ (by lia) (by lia) (by lia)) c'
  case post=>
   rintro c ce ⟨rfl,u,rfl,b2,b4,b5⟩;dsimp only;obtain⟨l2,s2,dU,g2⟩:=Xob s1 (k:=lo+k) (d:=lo+u) (by lia) (by lia);have wm:∀{Q:Unit->aV->Prop},Q () (jt a8 (bubble (bi a8) (lo+k) (lo+k - (lo+u))))->dR (ah prog w) A E s (moveDown' (lo+k) (lo+u)) Q a8:=λhq=>by
    rw[moveDown'_eq];exact bT hq
   refine Tl (wm (Tn ⟨rfl,l2,s2,dU.trans pm,λi j h1 h2 h3=>?_,λi hi=>?_⟩))
   ·rw[g2,g2];by_cases i1:i=lo+u
    ·rw[Tr i1,Tq (by lia),Tr (by lia)];have:=b5 (j - 1 - lo) (by lia) (by lia)
     rwa [show lo+(j - 1 - lo)=j - 1 by lia] at this
    ·rw[Tq i1];by_cases i2:lo+u<i/\i<=lo+k
     ·rw[Tr i2,Tq (by lia),Tr (by lia)];exact iF _ _ (by lia) (by lia) (by lia)
     ·rw[Tq i2];by_cases j1:j=lo+u
      ·rw[Tr j1];have:=b4 (i - lo) (by lia)
       rwa [show lo+(i - lo)=i by lia] at this
      ·rw[Tq j1];by_cases j2:lo+u<j/\j<=lo+k
       ·rw[Tr j2];exact iF _ _ (by lia) (by lia) (by lia)
       ·rw[Tq j2];exact iF _ _ (by lia) h2 (by lia)
   ·rw[g2,Tq (by lia),Tq (by lia)];exact pre i hi
end
open PySem.W (kas_item kas_cmp kas_swaps_map)
def Gu (m:Array ay) (u:Nat) (c:Array ay):Array ay:=m.toList.zipIdx.foldl (λa z=>a.setIfInBounds (u+z.2) z.1) c
def Xfv (c:Array ay) (u v m r:Nat):SM Bool:=do
 let z <-if m<=r then mLo (c.extract u v) (c.extract v (v+r)) else mHi (c.extract u v) (c.extract v (v+r))
 modify λs=>jt s (Gu z u (bi s))
 return (bp (<-get)).isNone
def Xoc(i:Nat):sr i=(do
  let s <-get
  let (some (u,m,pw),some (v,r,_)):=((aZ s)[i]?,(aZ s)[i+1]?) | unsupported "internal:list.sort.pending"
  set (aV.mk' (kindOf s) (bi s) (((aZ s).setIfInBounds i (u,m+r,pw)).eraseIdxIfInBounds (i+1)) (dI s) (bp s))
  let some k <-Da false (<-elem' (bi s) v) (bi s) u m 0 | return false
  if m - k==0 then return true
  let some q <-Da true (<-elem' (bi s) (u+k+(m - k) - 1)) (bi s) v r (r - 1) | return false
  if q==0 then return true
  Xfv (bi s) (u+k) v (m - k) q):=rfl
theorem Xfw(k):∀(xs:List ay) (o:Nat) (c:Array ay) (m:Nat),k+o+xs.length<=c.size->((xs.zipIdx o).foldl (λa z=>a.setIfInBounds (k+z.2) z.1) c)[m]? = if k+o<=m/\m<k+o+xs.length then xs[m - (k+o)]? else c[m]?
 | [],o,c,m,_=>by rw[Tq (by simp)];rfl
 | x::xs,o,c,m,h=>by
  have hl:(x::xs).length=xs.length+1:=rfl;rw[List.zipIdx_cons,Rv,Xfw k xs (o+1) _ m (by rw[Array.size_setIfInBounds];lia),Array.getElem?_setIfInBounds];by_cases h1:k+(o+1)<=m/\m<k+(o+1)+xs.length
  ·rw[Tr h1,Tr (by lia),show m - (k+o)=m - (k+(o+1))+1 by lia,List.getElem?_cons_succ]
  ·rw[Tq h1];by_cases h2:k+o=m
   ·rw[Tr h2,Tr (by lia),Tr (by lia),show m - (k+o)=0 by lia];rfl
   ·rw[Tq h2,Tq (by lia)]
def Xod   (h:k+res.length<=l.length):Gu (Fk it res) k (Fk it l)=Fk it (l.take k++res++l.drop (k+res.length)):=by
 have e1:(Fk it res).toList=res.map (kas_item it):=by unfold Fk;rfl
 unfold Gu;rw[e1];apply Array.ext_getElem?;intro m;rw[Xfw k _ 0 _ m (by rw[Oh,Bt];lia),Oh,Nat.add_zero];unfold Fk;rw[Rg,Rg,O2,O2,O2];by_cases h1:k<=m/\m<k+res.length
 ·rw[Tr h1,Qe (by rw[Oo,O3];lia),Qb (by rw[O3];lia),O3,Q4 (by lia)]
 ·rw[Tq h1];by_cases h2:m<k
  ·rw[Qe (by rw[Oo,O3];lia),Qe (by rw[O3];lia),S0,Tr h2]
  ·rw[Qb (by rw[Oo,O3];lia),Oo,O3,Sa];congr 2
   lia
def Ku{lt}{l}{u v}(h:SoL lt l u v)(hv:v<=l.length):((l.take v).drop u).Pairwise λx y=>le lt x y=true:=by
 rw[Qh];intro i j hi hj gF;rw[Pz,O3] at hi hj;rw[Ta,Ta,Se,Se];have:=h (u+i) (u+j) (by lia) (by lia) (by lia)
 rwa [O9,O9,Oj (by lia),Oj (by lia)] at this
section
variable {prog:ap}{w:ax}{A:av}{E:Zb}{s:af}{κ : cc}{it:Array ay}{n:Nat}{lt:Nat->Nat->Bool}{l:List Nat}{st:aV}
def wS_mAt(hc:CmS prog w A s κ it n lt)  (bK:SA κ it #[(0,n1,pw),(n1,n2,0)] l st)(al:Al n l)(h1:1<=n1)(h2:1<=n2)(hn:n1+n2=n)(ju:SoL lt l 0 n1)(jv:SoL lt l n1 n)(h:∀l' a8,SA κ it #[(0,n,pw)] l' a8->l'.Perm l->SoL lt l' 0 n->Q true a8):dR (ah prog w) A E s (sr 0) Q st:=by
 have L:=hc.L;have hl:=al.len;rw[Xoc];refine Tl (bM ?_);rw[bK.p,bK.a];have e0:(#[(0,n1,pw),(n1,n2,0)]:Array (Nat×Nat×Nat))[0]? = some (0,n1,pw):=rfl;have e1:(#[(0,n1,pw),(n1,n2,0)]:Array (Nat×Nat×Nat))[0+1]? = some (n1,n2,0):=rfl;have ep:((#[(0,n1,pw),(n1,n2,0)]:Array (Nat×Nat×Nat)).setIfInBounds 0 (0,n1+n2,pw)).eraseIdxIfInBounds (0+1) = #[(0,n1+n2,pw)]:=by simp
 rw[e0,e1];dsimp only;rw[ep];clear e0 e1 ep;have s1:SA κ it #[(0,n,pw)] l (aV.mk' (kindOf st) (Fk it l) #[(0,n1+n2,pw)] (dI st) (bp st)):=⟨bK.k,rfl,bK.f,by rw[<-hn]⟩;have wA:∀{Q:PUnit->aV->Prop} {x y:aV},Q ⟨⟩ x->dR (ah prog w) A E s (set x:StateT aV fK PUnit) Q y:=λhq=>by
  unfold dR;rw[StateT.run_set];exact Tk ⟨rfl,hq⟩
 refine Tl (wA ?_);generalize aV.mk' (kindOf st) (Fk it l) #[(0,n1+n2,pw)] (dI st) (bp st)=kj at s1;have m1:l.getD n1 0∈l:=Cr (by lia);refine Tl (Bm (Bh (show n1<l.length by lia)) ?_);refine Tl (Gn (P:=λt => !lt (l.getD n1 0) (l.getD t 0)) ⟨λa b fg hb e=>?_⟩ (by lia) (λt ht Q' hq=>?_) λk hk iU lv=>?_)
 ·have e:lt (l.getD n1 0) (l.getD b 0)=false:=by simpa using e
  cases q:lt (l.getD n1 0) (l.getD a 0) with
  | false=>rfl
  | true=>
   have:=L.mr q (ju a b (Pi _) fg hb);rw[this] at e;cases e
 ·rw[Qi];exact Gm hc (Bh (by lia)) (al.ltn (by lia)) (al.ltn (by lia)) s1.k (left:=false) hq
 dsimp only;have lo1:∀t,t<k->le lt (l.getD t 0) (l.getD n1 0)=true:=λt ht=>by
  have:=iU t ht;exact Bo (by simpa using this)
 have qv:∀t,k<=t->t<n1->lt (l.getD n1 0) (l.getD t 0)=true:=λt ht o4=>by
  have:=lv t ht o4;simpa using this
 have ge:∀{x t:Nat},n1<=t->t<n->le lt x (l.getD n1 0)=true->le lt x (l.getD t 0)=true:=λ{x t} h1 h2 hx=>by
  by_cases z:t=n1
  ·rw[z];exact hx
  ·exact L.tr hx (jv n1 t (Oi _) (by lia) h2)
 by_cases e1:(n1 - k==0)=true
 ·rw[Tr e1];have oF:n1 - k=0:=by simpa using e1
  refine Tn (h l _ s1 (.refl _) λi j a1 a2 a3=>?_);by_cases c1:j<n1
  ·exact ju i j a1 a2 c1
  ·by_cases c2:n1<=i
   ·exact jv i j c2 a2 a3
   ·exact ge (by lia) a3 (lo1 i (by lia))
 rw[Tq e1];have oF:n1 - k≠0:=by simpa using e1
 rw[show 0+k+(n1 - k) - 1=n1 - 1 by lia,Qi];refine Tl (Bm (Bh (show n1 - 1<l.length by lia)) ?_);refine Tl (Gn (P:=λt=>lt (l.getD (n1+t) 0) (l.getD (n1 - 1) 0)) ⟨λa b fg hb e=>?_⟩ (by lia) (λt ht Q' hq=>?_) λr hr wB wC=>?_)
 ·exact L.ml (jv _ _ (by lia) (by lia) (by lia)) e
 ·exact Gm hc (Bh (by lia)) (al.ltn (by lia)) (al.ltn (by lia)) s1.k (left:=true) hq
 dsimp only;have eW:∀t,r<=t->t<n2->le lt (l.getD (n1 - 1) 0) (l.getD (n1+t) 0)=true:=λt a b=>Bo (wC t a b);have DN:∀{x t:Nat},t<n1->le lt (l.getD (n1 - 1) 0) x=true->le lt (l.getD t 0) x=true:=λ{x t} h1 hx=>by
  by_cases z:t=n1 - 1
  ·rw[z];exact hx
  ·exact L.tr (ju t (n1 - 1) (Pi _) (by lia) (by lia)) hx
 have r1:1<=r:=by
  rcases Nat.eq_zero_or_pos r with z | z
  ·have a:=eW 0 (by lia) (by lia);have b:=qv (n1 - 1) (by lia) (by lia);rw[Nat.add_zero] at a;rw[Fu a] at b;cases b
  ·exact z
 rw[Tq (by simp;lia)];unfold Xfv;rw[Dz,Dz,show n1+r - n1=r by lia];have DO:(l.drop k).take (n1 - k)=(l.take n1).drop k:=(Sh ..).symm;have DP:(l.drop n1).take r=(l.take (n1+r)).drop n1:=by rw[Sh,show n1+r - n1=r by lia]
 have T:Two lt n ((l.drop k).take (n1 - k)) ((l.drop n1).take r):=by
  refine⟨L,λx hx=>?_,λx hx=>?_,?_,?_⟩
  ·obtain⟨t,b1,b2,rfl⟩:=D0 hx;exact al.ltn (by lia)
  ·obtain⟨t,b1,b2,rfl⟩:=D0 hx;exact al.ltn (by lia)
  ·rw[DO];exact Ku (λi j a1 a2 a3=>ju i j (Pi _) a2 a3) (by lia)
  ·rw[DP];exact Ku (λi j a1 a2 a3=>jv i j a1 a2 (by lia)) (by lia)
 have su:((l.drop k).take (n1 - k)).length=n1 - k:=by rw[O3,Pz];lia
 have wD:((l.drop n1).take r).length=r:=by rw[O3,Pz];lia
 have b0:((l.drop n1).take r).getD 0 0=l.getD n1 0:=by
  rw[O9,S0,Tr (by lia),Sa,<-O9];rfl
 have a9:((l.drop k).take (n1 - k)).getD (((l.drop k).take (n1 - k)).length - 1) 0=l.getD (n1 - 1) 0:=by
  rw[su,O9,S0,Tr (by lia),Sa,show k+(n1 - k - 1)=n1 - 1 by lia,<-O9]
 have gH:∀y∈(l.drop k).take (n1 - k),lt (((l.drop n1).take r).getD 0 0) y=true:=λy hy=>by
  obtain⟨t,b1,b2,rfl⟩:=D0 hy;rw[b0];exact qv _ (by lia) (by lia)
 have top:∀x∈(l.drop n1).take r,lt x (((l.drop k).take (n1 - k)).getD (((l.drop k).take (n1 - k)).length - 1) 0)=true:=λx hx=>by
  obtain⟨t,b1,b2,rfl⟩:=D0 hx;rw[a9];exact wB t b1
 have fin:∀res a8,Mrg lt ((l.drop k).take (n1 - k)) ((l.drop n1).take r) res->SG kj a8->dR (ah prog w) A E s (do
   modify λs=>jt s (Gu (Fk it res) k (bi s))
   let z <-get
   pure (bp z).isNone) Q a8:=by
  intro res a8 mr sg;have oK:res.length=n1 - k+r:=by rw[mr.1.length_eq,Oo,su,wD]
  refine Tl (bT (Tl (bM (Tn ?_))));have ef:bp (jt a8 (Gu (Fk it res) k (bi a8)))=none:=sg.f.trans s1.f;rw[ef];have iG:∀x∈res,(∃t,k<=t/\t<n1/\x=l.getD t 0)\/(∃t,t<r/\x=l.getD (n1+t) 0):=λx hx=>by
   rcases Ou.mp (mr.1.mem_iff.mp hx) with z | z
   ·obtain⟨t,b1,b2,e⟩:=D0 z;exact .inl ⟨k+t,by lia,by lia,e⟩
   ·obtain⟨t,b1,b2,e⟩:=D0 z;exact .inr ⟨t,b1,e⟩
  refine h (l.take k++res++l.drop (k+res.length)) _ ⟨sg.k.trans s1.k,?_,ef,sg.p.trans s1.p⟩ ?_ ?_
  ·show Gu (Fk it res) k (bi a8)=_;rw[sg.a,s1.a,Xod (by lia)]
  ·rw[show k+res.length=n1+r by lia];have e:l=l.take k++((l.drop k).take (n1 - k)++(l.drop n1).take r)++l.drop (n1+r):=by
    rw[<-Pb,<-take_split,show k+(n1 - k)=n1 by lia,<-take_split,Pa]
   refine List.Perm.trans ?_ (Sr e.symm);exact(P6 _ mr.1).append_right _
  ·have pw:(l.take k++res++l.drop (k+res.length)).Pairwise λx y=>le lt x y=true:=by
    refine Pe.mpr ⟨Pe.mpr ⟨?_,mr.2,λx hx y hy=>?_⟩,?_,λx hx y hy=>?_⟩
    ·have:=Ku (u:=0) (v:=k) (l:=l) (lt:=lt) (λi j a1 a2 a3=>ju i j a1 a2 (by lia)) (by lia)
     rwa [Rr] at this
    ·obtain⟨t,ht,rfl⟩:=Fv hx (by lia);rcases iG y hy with ⟨u,c1,c2,rfl⟩ | ⟨u,c1,rfl⟩
     ·exact ju _ _ (Pi _) (by lia) c2
     ·exact ge (by lia) (by lia) (lo1 t ht)
    ·have:=Ku (u:=k+res.length) (v:=n) (l:=l) (lt:=lt) (λi j a1 a2 a3=>jv i j (by lia) a2 a3) (by lia)
     rwa [Ph (by lia)] at this
    ·have iY:y∈(l.drop (k+res.length)).take n:=by rw[Ph (by rw[Pz];lia)];exact hy
     obtain⟨u,c1,c2,rfl⟩:=D0 iY;have DQ:k+res.length+u=n1+(r+u):=by lia
     rw[DQ];have wE:=eW (r+u) (by lia) (by lia);rcases Ou.mp hx with z | z
     ·obtain⟨t,ht,rfl⟩:=Fv z (by lia);exact ge (by lia) (by lia) (lo1 t ht)
     ·rcases iG x z with ⟨t,c1,c2,rfl⟩ | ⟨t,c1,rfl⟩
      ·exact DN c2 wE
      ·exact jv _ _ (by lia) (by lia) (by lia)
   have len:(l.take k++res++l.drop (k+res.length)).length=n:=by
    rw[Oo,Oo,O3,Pz]
    lia
   exact λi j a1 a2 a3=>Gq pw a2 (by lia)
 by_cases e5:n1 - k<=r
 ·rw[Tr e5];exact Tl (Xn5 hc T (by lia) (by lia) gH top s1.k λres a8 mr sg=>fin res a8 mr sg)
 ·rw[Tq e5];exact Tl (Xoa hc T (by lia) (by lia) gH top s1.k λres a8 mr sg=>fin res a8 mr sg)
end
open PySem.W (KasT kas_item kas_cmp kas_ask kas_sort kat_run kat_snds kat_ask_eq kas_range)
section
variable {prog:ap}{w:ax}{A:av}{E:Zb}{s:af}{κ : cc}{it:Array ay}{lt:Nat->Nat->Bool}{l:List Nat}{st:aV}
def Rn (κ : cc) (it:Array ay) (lt:Nat->Nat->Bool) (l:List Nat) (st:aV):Prop:=∃l',l'.Perm l/\((SA κ it #[(0,64,0)] l' st/\SoL lt l' 0 64) \/ ∃n1 n2 pw,1<=n1/\1<=n2/\n1+n2=64/\SA κ it #[(0,n1,pw),(n1,n2,0)] l' st/\SoL lt l' 0 n1/\SoL lt l' n1 64)
def Xoe(hc:CmS prog w A s κ it 64 lt)(bK:SA κ it #[] l st)(al:Al 64 l){Q}(h:∀l' a8 pd,SA κ it pd l' a8->l'.Perm l->SoL lt l' 0 64->Q () a8):dR (ah prog w) A E s ja Q st:=by
 have hl:=al.len;rw[sortRuns'_eq];refine Tl (bM ?_);have hsz:(bi st).size=64:=by rw[bK.a,Bt,hl]
 have DR:minRun' 64 64 0=32:=by
  rw[minRun'_succ,Tq (by decide)];rfl
 dsimp only;rw[hsz,DR];refine Tl (bg (aK (I:=λx c a8=>(x=0/\c=(none,0)/\SA κ it #[] l a8)\/(x=1/\∃l' n1,c=(none,n1)/\SA κ it #[(0,n1,0)] l' a8/\l'.Perm l/\32<=n1/\n1<=64/\SoL lt l' 0 n1)\/(2<=x/\c=(none,64)/\Rn κ it lt l a8)) (Q:=λc a8=>c=(none,64)/\Rn κ it lt l a8) ?step ?fin (.inl ⟨rfl,rfl,bK⟩)) ?post)
 case fin=>
  rintro c a8 (⟨z,_⟩ | ⟨z,_⟩ | ⟨_,z⟩)
  ·exact absurd z (by decide)
  ·exact absurd z (by decide)
  ·exact z
 case step=>
  rintro x c a8 _ hx (⟨rfl,rfl,s0⟩ | ⟨rfl,l1,n1,rfl,s1,fm,b1,b2,ju⟩ | ⟨x2,rfl,z⟩)
  ·dsimp only;rw[Tq (by lia),Sx];refine Tl (Xft hc s0 al (by lia) (by lia) λm l1 kj s1 fm m1 m2 so _=>?_);have ie:Al 64 l1:=⟨fm.trans al.pm⟩;dsimp only;rw[Qi] at so;by_cases hm:m<32
   ·rw[Tr hm];refine Tl (cS (aR ⟨rfl,?_⟩));refine Tl (Xfu hc s1 ie m1 (by lia) (by lia) (by rw[Qi];exact so) λl2 d0 s2 dU jv _=>?_);rw[Tq (by decide)];refine Tl (bM ?_);rw[s2.p];refine Tl (bT (Tn (.inr (.inl ⟨rfl,l2,32,rfl,⟨s2.k,s2.a,s2.f,?_⟩,dU.trans fm,by lia,by lia,jv⟩))));show (aZ d0).push _=_;rw[s2.p];rfl
   ·rw[Tq hm];refine Tl (bM ?_);rw[s1.p];refine Tl (bT (Tn (.inr (.inl ⟨rfl,l1,m,by rw[Qi],⟨s1.k,s1.a,s1.f,?_⟩,fm,by lia,by lia,so⟩))));show (aZ kj).push _=_;rw[s1.p];rfl
  ·dsimp only;by_cases e:n1 ≥ 64
   ·rw[Tr e];obtain rfl:n1=64:=by lia
    exact Tn ⟨rfl,l1,fm,.inl ⟨s1,ju⟩⟩
   rw[Tq e];have ie:Al 64 l1:=⟨fm.trans al.pm⟩;have fin:∀l2 d0,SA κ it #[(0,n1,0)] l2 d0->l2.Perm l1->SoL lt l2 n1 64->(∀i,i<n1->l2.getD i 0=l1.getD i 0)->∀pw,SA κ it #[(0,n1,pw),(n1,64 - n1,0)] l2 (m6 (m6 d0 ((aZ d0).modify ((aZ d0).size - 1) λx=>(x.fst,x.2.fst,pw))) ((aZ (m6 d0 ((aZ d0).modify ((aZ d0).size - 1) λx=>(x.fst,x.2.fst,pw)))).push (n1,64 - n1,0)))/\SoL lt l2 0 n1:=by
    intro l2 d0 s2 dU jv pre pw;refine⟨⟨s2.k,s2.a,s2.f,?_⟩,λi j a1 a2 a3=>?_⟩
    ·show ((aZ d0).modify ((aZ d0).size - 1) λx=>(x.fst,x.2.fst,pw)).push (n1,64 - n1,0)=_;rw[s2.p];simp[Array.modify,Array.modifyM]
    ·rw[pre i (by lia),pre j (by lia)];exact ju i j a1 a2 a3
   refine Tl (Xft hc s1 ie (by lia) (by lia) λm l2 d0 s2 dU m1 m2 so pre=>?_);have nj:Al 64 l2:=⟨dU.trans ie.pm⟩;dsimp only;by_cases hm:m<32
   ·rw[Tr hm];refine Tl (cS (aR ⟨rfl,?_⟩));rw[show min (64 - n1) 32=64 - n1 by lia];refine Tl (Xfu hc s2 nj m1 (by lia) (by lia) so λl3 qc s3 nr qu wF=>?_);rw[Tq (by decide)];have sw:SoL lt l3 n1 64:=by rw[show n1+(64 - n1)=64 by lia] at qu;exact qu
    refine Tl (bM ?_);rw[s3.p];have eb:(#[(0,n1,0)]:Array (Nat×Nat×Nat)).back? = some (0,n1,0):=rfl;rw[eb];dsimp only;refine Tl (bg (aK (I:=λx c a8=>c=(none,())/\SA κ it #[(0,n1,0)] l3 a8) (Q:=λc a8=>c=(none,())/\SA κ it #[(0,n1,0)] l3 a8) ?_ (λc a8 z=>z) ⟨rfl,s3⟩) ?_)
    ·rintro x c a8 _ _ ⟨rfl,q⟩;refine Tl (bM ?_);rw[q.p,Tq (by show ¬ 1 > 1;decide)];exact Tn ⟨rfl,q⟩
    ·rintro c a8 ⟨rfl,q⟩;dsimp only;obtain⟨q1,q2⟩:=fin l3 a8 q (nr.trans dU) sw (λi hi=>(wF i hi).trans (pre i hi)) (power' 64 (2 * 0+n1) (2 * 0+n1+n1+(64 - n1)) 64);refine Tl (bT (Tl (bT (Tn (.inr (.inr ⟨by lia,by rw[show n1+(64 - n1)=64 by lia],l3,((nr.trans dU)).trans fm,.inr ⟨n1,64 - n1,_,by lia,by lia,by lia,q1,q2,sw⟩⟩))))))
   ·rw[Tq hm];obtain rfl:m=64 - n1:=by lia
    have iF:SoL lt l2 n1 64:=by rw[show n1+(64 - n1)=64 by lia] at so;exact so
    refine Tl (bM ?_);rw[s2.p];have eb:(#[(0,n1,0)]:Array (Nat×Nat×Nat)).back? = some (0,n1,0):=rfl;rw[eb];dsimp only;refine Tl (bg (aK (I:=λx c a8=>c=(none,())/\SA κ it #[(0,n1,0)] l2 a8) (Q:=λc a8=>c=(none,())/\SA κ it #[(0,n1,0)] l2 a8) ?_ (λc a8 z=>z) ⟨rfl,s2⟩) ?_)
    ·rintro x c a8 _ _ ⟨rfl,q⟩;refine Tl (bM ?_);rw[q.p,Tq (by show ¬ 1 > 1;decide)];exact Tn ⟨rfl,q⟩
    ·rintro c a8 ⟨rfl,q⟩;dsimp only;obtain⟨q1,q2⟩:=fin l2 a8 q dU iF pre (power' 64 (2 * 0+n1) (2 * 0+n1+n1+(64 - n1)) 64);refine Tl (bT (Tl (bT (Tn (.inr (.inr ⟨by lia,by rw[show n1+(64 - n1)=64 by lia],l2,(dU).trans fm,.inr ⟨n1,64 - n1,_,by lia,by lia,by lia,q1,q2,iF⟩⟩))))))
  ·dsimp only;rw[Tr (Oi _)];exact Tn ⟨rfl,z⟩
 case post=>
  rintro c a8 ⟨rfl,l1,fm,z⟩;dsimp only;have ie:Al 64 l1:=⟨fm.trans al.pm⟩;refine Tl (bg (aK (I:=λx c a8=>c=(none,())/\∃l2 pd,l2.Perm l/\Al 64 l2/\SA κ it pd l2 a8/\((pd.size<=1/\SoL lt l2 0 64)\/(x=0/\∃n1 n2 pw,1<=n1/\1<=n2/\n1+n2=64/\pd = #[(0,n1,pw),(n1,n2,0)]/\SoL lt l2 0 n1/\SoL lt l2 n1 64))) (Q:=λc a8=>c=(none,())/\∃l2 pd,l2.Perm l/\SA κ it pd l2 a8/\SoL lt l2 0 64) ?step ?fin ?init) ?post)
  case init=>
   rcases z with ⟨s1,so⟩ | ⟨n1,n2,pw,a1,a2,a3,s1,ju,jv⟩
   ·exact⟨rfl,l1,_,fm,ie,s1,.inl ⟨by show 1<=1;decide,so⟩⟩
   ·exact⟨rfl,l1,_,fm,ie,s1,.inr ⟨rfl,n1,n2,pw,a1,a2,a3,rfl,ju,jv⟩⟩
  case fin=>
   rintro c a8 ⟨rfl,l2,pd,dU,nj,s2,⟨_,so⟩ | ⟨e,_⟩⟩
   ·exact⟨rfl,l2,pd,dU,s2,so⟩
   ·exact absurd e (by decide)
  case step=>
   rintro x c a8 _ _ ⟨rfl,l2,pd,dU,nj,s2,⟨e,so⟩ | ⟨rfl,n1,n2,pw,a1,a2,a3,rfl,ju,jv⟩⟩
   ·refine Tl (bM ?_);rw[s2.p,Tr e];exact Tn ⟨rfl,l2,pd,dU,s2,so⟩
   ·refine Tl (bM ?_);rw[s2.p,Tq (by show ¬ 2<=1;decide)]
    show dR _ _ _ _ (do
     let b <-sr 0
     if (!b)=true then pure (ForInStep.done (some (),())) else pure (ForInStep.yield (none,()))) _ _
    refine Tl (wS_mAt hc s2 nj a1 a2 a3 ju jv λl3 qc s3 nr qu=>?_);rw[Tq (by decide)];exact Tn ⟨rfl,l3,_,nr.trans dU,⟨nr.trans nj.pm⟩,s3,.inl ⟨by show 1<=1;decide,qu⟩⟩
  case post=>
   rintro c a8 ⟨rfl,l2,pd,dU,s2,so⟩;exact Tn (h l2 _ pd s2 dU so)
end
section
variable {prog:ap}{w:ax}{A:av}{E:Zb}{s:af}{κ : cc}{ks vs:List aa}{lt:Nat->Nat->Bool}
def Xfx{Q:aV->af->Prop}(hl:ks.length=vs.length)(oM:vs.length=64)(L:Wk lt)
  (hc:∀i j (C:Bool->af->Prop),i<vs.length->j<vs.length->C (lt i j) s->kas_ask prog w A κ ks i j C s)
  (h:∀p a8,Gd vs.length p->(∀i j,i<j->j<vs.length->le lt (p.getD i 0) (p.getD j 0)=true)->bi a8=p.map (kas_item (ks.toArray.zip vs.toArray))->bp a8=none->Q a8 s):
  ai (ah prog w) A ((ja).run (aV.mk' κ (ks.toArray.zip vs.toArray) #[] 7 none)) (λr s'=>Q r.2 s') E s:=by
 have hz:(ks.toArray.zip vs.toArray).size=64:=by simp[hl,oM]
 have cm:CmS prog w A s κ (ks.toArray.zip vs.toArray) 64 lt:=⟨L,λi j C hi hj hC=>by
  have:=hc i j C (by omega) (by omega) hC;rw[kat_ask_eq hl] at this;exact this⟩
 have ea:(ks.toArray.zip vs.toArray)=Fk (ks.toArray.zip vs.toArray) (List.range 64):=by
  have:=kas_range (ks.toArray.zip vs.toArray);rw[hz] at this;rw[Gr];exact this.symm
 have s0:SA κ (ks.toArray.zip vs.toArray) #[] (List.range 64) (aV.mk' κ (ks.toArray.zip vs.toArray) #[] 7 none):=⟨rfl,ea,rfl,rfl⟩;have run:=Xoe (E:=E) (Q:=λ_ a8=>Q a8 s) cm s0 ⟨.refl _⟩ λl' a8 pd s1 pm so=>by
  refine h l'.toArray a8 ?_ ?_ ?_ s1.f
  ·rw[oM];exact(List.perm_iff_toArray_perm).mp pm
  ·rw[oM];intro i j h1 h2;have:=so i j (Pi _) h1 h2;show le lt (l'.toArray.getD i 0) (l'.toArray.getD j 0)=true;rw[Ii,Ii,<-Iq,<-Iq];exact this
  ·rw[s1.a,Gr]
 exact aJ run (λr s' q=>by obtain⟨rfl,q⟩:=q;exact q) λ_ _ z=>z
def Xof{Q:aV->af->Prop}(hl:ks.length=vs.length)(h2:2<=vs.length)(cz:vs.length<=64)(L:Lin vs.length lt)
  (hc:∀i j (C:Bool->af->Prop),i<vs.length->j<vs.length->C (lt i j) s->kas_ask prog w A κ ks i j C s)
  (h:∀p a8,Gd vs.length p->Ci lt p vs.length->bi a8=p.map (kas_item (ks.toArray.zip vs.toArray))->bp a8=none->Q a8 s):
  ai (ah prog w) A ((ja).run (aV.mk' κ (ks.toArray.zip vs.toArray) #[] 7 none)) (λr s'=>Q r.2 s') E s:=by
 by_cases e:vs.length<64
 ·exact kat_run (G:=λp s'=>s'=s/\Gd vs.length p/\Ci lt p vs.length) hl h2 e (λp a8 s' _ b1 b2 ⟨e1,b3,b4⟩=>by subst e1;exact h p a8 b3 b4 b1 b2)
   (Xe6 (n:=vs.length) (lt:=lt) (λi j C hi hj hC=>hc i j C hi hj hC) (Nk (n:=vs.length) (by lia)) ⟨rfl,(Nk (n:=vs.length) (by lia)).run,Xno L (by lia)⟩)
 ·have oM:vs.length=64:=by lia
  have m:∀i,min i 63<vs.length:=λi=>by lia
  have lw:∀{x y:Nat},lt (min x 63) (min y 63)=false->min x 63=min y 63\/lt (min y 63) (min x 63)=true:=λ{x y} h=>by
   by_cases e:min x 63=min y 63
   ·exact .inl e
   ·rcases L.tot _ _ (m x) (m y) e with z | z
    ·rw[z] at h;cases h
    ·exact .inr z
  have e1:∀i,i<vs.length->min i 63=i:=λi hi=>by lia
  refine Xfx (lt:=λi j=>lt (min i 63) (min j 63)) hl oM ⟨λ{x y} h=>L.no h,λ{x y z} h g=>?_⟩ (λi j C hi hj hC=>hc i j C hi hj (by rw[e1 i hi,e1 j hj] at hC;exact hC)) λp a8 g so=>h p a8 g λi j h1 h2=>?_
  ·rcases lw h with a | a
   ·rw[<-a];exact g
   ·rcases lw g with b | b
    ·rw[b];exact h
    ·exact L.no (L.tr _ _ _ a b)
  ·have q:=Fu (so i j h1 h2);have hn:0<vs.length:=by omega
   rw[e1 _ (g.lt hn i),e1 _ (g.lt hn j)] at q;exact L.flip g h2 (Qv h1 h2) (Si h1) q
end
open PySem.W (KasT kas_sort kas_ask kas_item kat_run kat_snds kat_kind KatTups)
def Eu (Ts:List (Za)) (i j:Nat):Bool:=C2 (Ts.getD i []).length (Ts.getD i []) (Ts.getD j []).length (Ts.getD j [])
def Xfy(n)(a):C2 n a n a=false:=by unfold C2;rw[Tr rfl];exact Nv a
def Xog  (h:C2 n a m b=true) (g:C2 m b k c=true):C2 n a k c=true:=by
 unfold C2 at *;by_cases e1:n=m
 ·rw[Tr e1] at h;by_cases e2:m=k
  ·rw[Tr e2] at g;rw[Tr (e1.trans e2)];exact Xfc _ _ _ h g
  ·rw[Tq e2] at g;rw[Tq (by lia)];have:=Tv g;exact Tt (by lia)
 ·rw[Tq e1] at h;have h:=Tv h;by_cases e2:m=k
  ·rw[Tq (by lia)];exact Tt (by lia)
  ·rw[Tq e2] at g;have g:=Tv g;rw[Tq (by lia)];exact Tt (by lia)
def Xoh  (h:a≠b):C2 n a m b=true\/C2 m b n a=true:=by
 unfold C2;by_cases e:n=m
 ·rw[Tr e,Tr e.symm];exact Xfd _ _ h
 ·rw[Tq e,Tq (Ne.symm e)];rcases Nat.lt_or_ge n m with z | z
  ·exact .inl (Tt z)
  ·exact .inr (Tt (by lia))
def linP{Ts:List (Za)}(nd:Ts.Nodup):Lin Ts.length (Eu Ts) where
 irr i:=Xfy _ _
 tr i j k:=Xog
 tot i j hi hj ne:=Xoh λe=>ne (by
  have e1:Ts.getD i []=Ts[i]:=by simp[List.getD,hi]
  have e2:Ts.getD j []=Ts[j]:=by simp[List.getD,hj]
  rw[e1,e2] at e;exact(List.getElem_inj nd).mp e)
def Turns (X:Cx) (f:ae) (H:Hp) (ps:List ae) (Ts:List (Za)):Prop:=
 ∀(pins:List (ae×aM)) (Z:L2.St) (s1:af) (H1:Hp) (i:Nat),i<ps.length->Same H H1->Inv X pins Z H1 s1 ->
  ai (ah X.prog X.w) X.A.in1.in1 (call (.ref f) [.ref (ps.getD i 0)]) (λu s'=>∃t H2,u = .ref t/\Inv X pins Z H2 s'/\H2 t=some (.tup [.int (Ts.getD i []).length,.ref (ps.getD i 0)])/\Same H1 H2) (λ_ _=>False) s1
section
variable {X:Cx}{pins:List (ae×aM)}{Z:L2.St}{H:Hp}{s:af}
def Xoi  {n:Nat} (I:Inv X pins Z H s) (ht:H t=some (.tup [.int n,.ref p])) (hp:H p=some (.tup (ss.map V.str))):Ij s.heap (.ref t) n ss:=by
 obtain⟨aA,r,⟨o,ho,hc,k,hd⟩,_⟩:=I.tuple (SqT.of (K:=X.K) ht);obtain⟨iq,r2,⟨o2,j8,gp,k2,cK⟩,_⟩:=I.tuple (SqT.of (K:=X.K) hp);cases r with
 | cons r1 r'=>
  cases r' with
  | cons DS vT=>
   cases vT;obtain⟨tk,rfl⟩:∃tk,_=aa.int n tk:=r1;cases DS;exact⟨t,o,_,k,tk,.ref p,rfl,ho,hc,hd,rfl,p,o2,_,k2,rfl,j8,gp,cK,by simpa using F7 r2⟩
def Kv    {st} {out:List ae}   (I:Inv X ((D,ar "list" #[] e1)::pins) Z H s) (hD:X.s₀.heap.objs.size<=D) (gG:∀p∈X.pn++pins,p.1≠D)
  (hk:H kS=some (.lst ks)) (ho:(bi st).map (·.2)=(out.map aa.ref).toArray) (hf:bp st=none) (hz:out.length<=64) (h:∀s',Inv X pins Z (upd (upd H kS (.lst [])) D (.lst (out.map V.ref))) s'->P (.done (.ret .none)) s'):
  ai (ah X.prog X.w) A (ksk_tail D false e1 (.ref kS) st) P E s:=by
 obtain⟨z,aA,n,r,hl,e⟩:=I.lstM hk;have J:=I.lset (its':=[]) (f:=λ_ => #[]) (ys:=[]) (t':=s.toks) hk e rfl .nil (by decide);unfold ksk_tail
 try dsimp only
 rw[ho];simp only[Pf,if_false];refine Tj (b9 e rfl ?_ (by rw[Ol,<-hl];exact z) (Pi _));refine Tj (wpAny_letGo ?_);obtain⟨hg,_⟩:=J.pin (D,ar "list" #[] e1) (Pc _ Ov);refine Tj (cN hg rfl ?_);refine Tj (b9 hg rfl ?_ (Pi _) (by rw[Ol,Oh,Tp];lia));rw[hf];simp only[bne_self_eq_false,Pf,if_false];refine Tk (h _ ?_);have vr:Vals (out.map V.ref) (out.map aa.ref):=by
  clear ho hz h
  induction out with
  | nil=>exact .nil
  | cons p t ih=>exact .cons rfl ih
 exact Xny J hD gG vr (by rw[Oh,Tp];lia)
def Xoj   {ks} {ps:List ae}  {aA:List aa}   (I:Inv X ((D,ar "list" #[] e1)::pins) Z H s) (hu:A.units<bD) (hD:X.s₀.heap.objs.size<=D) (gG:∀p∈X.pn++pins,p.1≠D)
  (hk:H kS=some (.lst ks)) (aN:aA.length=ps.length) (hT:ps.length=Ts.length) (nd:Ts.Nodup) (hp:∀i,i<ps.length->Ij s.heap (aA.getD i .none) (Ts.getD i []).length (Ts.getD i [])) (cz:ps.length<=64)
  (h:∀(p:Array Nat) s',Gd ps.length p->Ci (Eu Ts) p ps.length->Inv X pins Z (upd (upd H kS (.lst [])) D (.lst ((p.toList.map λi=>ps.getD i 0).map V.ref))) s'->P (.done (.ret .none)) s'):
  ai (ah X.prog X.w) A (ny D false (ps.map aa.ref).toArray e1 (.ref kS) aA.toArray) P E s:=by
 have hsz:(ps.map aa.ref).toArray.size=ps.length:=by simp
 have L:=linP nd;rw[<-hT] at L;have sA:∀p:Array Nat,Gd ps.length p->(p.toList.map λi=>(ps.map aa.ref).getD i aa.none)=((p.toList.map λi=>ps.getD i 0).map aa.ref):=λp g=>by
  rw[Pn];refine Pj λi hi=>?_;have dQ:i<ps.length:=by
   have:=(Array.perm_iff_toList_perm.mp g).mem_iff.mp hi;simpa using this
  simp[List.getD,dQ]
 unfold ny
 try dsimp only
 simp only[Pf,if_false];by_cases h2:(ps.map aa.ref).toArray.size<2
 ·rw[Tr h2,Tr h2];refine Tj (Tk ?_);rw[StateT.run_pure];refine Tj (Tk ?_)
  try dsimp only
  have g0:Gd ps.length (List.toArray (List.range ps.length)):=So _;refine Kv (st:=aV.mk' general' (aA.toArray.zip (ps.map aa.ref).toArray) #[] 7 none) (out:=(List.toArray (List.range ps.length)).toList.map λi=>ps.getD i 0) I hD gG hk ?_ rfl (by simpa using cz) λs' J=>h _ s' g0 (λi j gF hj=>by lia) J;rw[<-sA _ g0];show ((aA.toArray.zip (ps.map aa.ref).toArray).map (·.2))=_;apply Array.toList_inj.mp;simp only[Array.toList_map,List.zip_toArray];rw[Sj (by simp[aN])];refine Ra (by simp) λi h1 h2=>?_;simp[List.getD] at h1 ⊢;simp[h1]
 ·rw[Tq h2,Tq h2];have fst:∀(l:List aa) (q:∀v∈l,∃n ss,Ij s.heap v n ss),∃fs,KatTups s.heap l fs/\fs.length=l.length/\∀f∈fs,∃(x:Int) (t:Tok),f = .int x t:=by
   intro l
   induction l with
   | nil=>exact λ_=>⟨[],KatTups.nil,rfl,λ_ h=>by cases h⟩
   | cons v l ih=>
    intro q;obtain⟨fs,t1,t2,t3⟩:=ih λu hm=>q u (Op _ hm);obtain⟨n,ss,a,o,xs,k,t,u,rfl,g1,g2,g3,g4,_⟩:=q v Ov;refine⟨.int n t::fs,KatTups.cons g1 g2 g3 ?_ t1,by simp[t2],λf hf=>?_⟩
    ·have:xs[0]? = xs.toList[0]?:=by simp
     rw[this,g4];rfl
    ·rcases Ox.mp hf with e | e
     ·exact⟨_,_,e⟩
     ·exact t3 f e
  obtain⟨fs,t1,t2,t3⟩:=fst aA λv hv=>by
   obtain⟨i,hi,rfl⟩:=P3.mp hv;have:=hp i (by lia);have e:aA.getD i .none=aA[i]:=by simp[List.getD,hi]
   rw[e] at this;exact⟨_,_,this⟩
  refine Tj (kat_kind (T:=.type "int") t1 (by lia) (λv hm=>?_) (by decide) ?_)
  ·obtain⟨x,t,rfl⟩:=t3 v hm;exact .now
  have eb:((aa.type "int") != aa.type "tuple")=true:=by decide
  rw[eb];refine Tj (aJ (Xof (lt:=Eu Ts) (κ:=tuples' true) (ks:=aA) (vs:=ps.map aa.ref) (Q:=λa8 s'=>s'=s/\bp a8=none/\∃p,Gd ps.length p/\Ci (Eu Ts) p ps.length/\(bi a8).map (·.2)=(p.toList.map λi=>(ps.map aa.ref).getD i aa.none).toArray)
   (by simp[aN]) (by rw[Oh];lia) (by rw[Oh];exact cz) (by rw[Oh];exact L) (λi j C hi hj hC=>?_) (λp a8 g so a2 a3=>by rw[Oh] at g so;exact⟨rfl,a3,p,g,so,kat_snds (by simp[aN]) a2⟩)) ?_ λ_ _ e=>e)
  ·rw[Oh] at hi hj;show ai _ _ (mi (tuples' true) (aA.getD i aa.none) (aA.getD j aa.none)) C _ _;exact Xnx hu (hp i hi) (hp j hj) hC
  rintro ⟨⟨⟩,a8⟩ s' ⟨rfl,hf,p,g,so,ea⟩
  try dsimp only
  refine Kv (out:=p.toList.map λi=>ps.getD i 0) I hD gG hk (by rw[ea,sA p g]) hf (by rw[Oh,Oq,g.size];exact cz) λs' J=>h p s' g so J
end
section
variable {X:Cx}{pins:List (ae×aM)}{Z:L2.St}{H:Hp}{s:af}
def Xok{D kS f}      (hA:A=X.A.in1.in1)(I:Inv X ((D,ar "list" #[] e1)::pins) Z (upd H kS (.lst [])) s)(jw:H kS=none)(hu:A.units<bD)(hD:X.s₀.heap.objs.size<=D)(gG:∀p∈X.pn++pins,p.1≠D)(jo:H D=none)
  (hT:Tups H ps Ts) (nd:Ts.Nodup) (cz:ps.length<=64) (turn:Turns X f H ps Ts)
  (h:∀(p:Array Nat) (H':Hp) s',Gd ps.length p->Ci (Eu Ts) p ps.length->Same H H'->H' D=some (.lst ((p.toList.map λi=>ps.getD i 0).map V.ref))->Inv X pins Z H' s'->P (.done (.ret .none)) s'):
  ai (ah X.prog X.w) A (kL D (.ref f) false (ps.map aa.ref).toArray e1 (.ref kS)) P E s:=by
 subst hA;unfold kL;refine Tj (aR ?_)
 first
  | rw[List.forIn_toArray]
  | (rw[<-Rf];simp only[List.toList_toArray])
  | rw[<-Rf]
 refine Tj (ksk_fold (λi s'=>∃(H':Hp) (ks:List V),Inv X ((D,ar "list" #[] e1)::pins) Z H' s'/\Same H H'/\H' kS=some (.lst ks)/\ks.length=i/\∀j,j<i->∃t,ks[j]? = some (.ref t)/\H' t=some (.tup [.int (Ts.getD j []).length,.ref (ps.getD j 0)])) (ps.map aa.ref) 0 s
  ⟨_,[],I,Same.upd0 jw,Ab,rfl,λj hj=>absurd hj (Qo _)⟩ ?step ?done)
 case step=>
  rintro j x s' hx ⟨H',ks,J,sm,hk,jm,jG⟩;simp only[Qi] at jm jG ⊢;obtain⟨hj,ex⟩:=O6.mp hx;rw[Oh] at hj;have tZ:x = .ref (ps.getD j 0):=by rw[<-ex];simp[List.getD,hj]
  subst tZ;refine Tj (bP (aJ (turn _ Z s' H' j hj sm J) (λv lC he=>?_) λ_ _ hF=>hF.elim));obtain⟨t,H2,rfl,J2,ht,qw⟩:=he
  try dsimp only
  have qx:=qw _ _ hk;obtain⟨z,aA,n,r,hl,e⟩:=J2.lstM qx;have DT:t≠kS:=λq=>by rw[q,qx] at ht;cases ht
  refine Tj (b9 e rfl ?_ (by rw[Ol,<-hl];exact z) (by rw[Array.size_push,Ol,<-hl,jm,Tp];lia));refine Tk ⟨rfl,_,ks++[.ref t],J2.lset (ys:=ks++[.ref t]) (its':=aA++[.ref t]) (t':=lC.toks) qx e (by simp) (r.append (.cons (show Aj (.ref t) (.ref t) from rfl) .nil)) (by rw[Oo,Pp,jm,Tp];lia),(sm.trans qw).upd jw,Ab,by simp[jm],λi hi=>?_⟩;by_cases q:i=j
  ·subst q;exact⟨t,by rw[Qb (by lia),jm];simp,by rw[Ad DT];exact ht⟩
  ·obtain⟨t',a1,a2⟩:=jG i (by lia);refine⟨t',by rw[Qe (by lia)];exact a1,?_⟩;rw[Ad λq=>by rw[q,hk] at a2;cases a2];exact qw _ _ a2
 case done=>
  rintro s' ⟨H',ks,J,sm,hk,jm,jG⟩;simp only[Qi,Oh] at jm jG
  try dsimp only
  obtain⟨z,aA,n,r,hl,e⟩:=J.lstM hk;refine Tj (dg e rfl ?_);have li:=hT.same sm;have KL:kS≠D:=λq=>by
   obtain⟨_,hn,_⟩:=J.pin (D,ar "list" #[] e1) (Pc _ Ov);have hn:H' D=none:=hn;rw[<-q,hk] at hn;cases hn
  refine Xoj (ks:=ks) J hu hD gG hk (by lia) hT.1 nd (λi hi=>?_) cz λp s2 g so J2=>h p _ s2 g so ((sm.upd jw).upd jo) Ab J2;obtain⟨t,a1,a2⟩:=jG i hi;obtain⟨u,wG,nA⟩:=r.get a1;have nA:u=aa.ref t:=nA;have e2:aA.getD i .none = .ref t:=by simp[List.getD,wG,nA]
  rw[e2];exact Xoi J a2 (li.2 i hi)
def Xol    (I:Inv X pins Z H s) (hu:X.A.in1.in1.units<bD) (hl:H l=some (.lst (ps.map V.ref))) (hT:Tups H ps Ts) (nd:Ts.Nodup) (cz:ps.length<=64) (turn:Turns X f H ps Ts)
  (h:∀(D:ae) (p:Array Nat) (H':Hp),H D=none->Gd ps.length p->Ci (Eu Ts) p ps.length->Same H H'->H' D=some (.lst ((p.toList.map λi=>ps.getD i 0).map V.ref))->Q (.ref D) H'):
  ai (ah X.prog X.w) X.A (call (.builtin "sorted") [.ref l] [(ao.ofString "key",.ref f)]) (EP X pins Z Q) X.xe s:=by
 obtain⟨aA,rv,pl,hz⟩:=I.list (SqL.of hl);have kF:aA=ps.map aa.ref:=by
  clear hT cz turn h pl hl hz
  induction ps generalizing aA with
  | nil=>cases rv;rfl
  | cons p t ih=>
   cases rv with
   | cons r t'=>cases r;rw[ih _ t'];rfl
 subst kF;refine jx fG eZ fc (ksk_s1 _ _) ?_;unfold ak.«sorted»;refine Tj (m:=gC "sorted" 1 1 _) (Tk ?_);refine Tj (jp pl.isList ?_ (by rw[Oh,Tp];lia));refine Tj (bQ ?_ (by rw[Oh,Tp];lia));generalize sC:ps.map aa.ref=vs at *;have jD:vs.length=ps.length:=by rw[<-sC,Oh]
 have hsz:((s.heap.push (ar "list" #[] 0)).update s.heap.objs.size (aM.mapSeq (· ++ vs.toArray))).objs.size=s.heap.objs.size+1:=by
  rw[am.size_update,bz]
 have iP:(((s.heap.push (ar "list" #[] 0)).update s.heap.objs.size (aM.mapSeq (· ++ vs.toArray))).push (ar "list" vs.toArray 0)).get? (s.heap.objs.size+1)=some (ar "list" vs.toArray 0):=by
  rw[<-hsz];exact am.get?_push_size _ rfl
 have keep:∀b o,s.heap.get? b=some o->(((s.heap.push (ar "list" #[] 0)).update s.heap.objs.size (aM.mapSeq (· ++ vs.toArray))).push (ar "list" vs.toArray 0)).get? b=some o:=λb o q=>by
  have bf:b<s.heap.objs.size:=Tx q;rw[am.get?_push_ne _ _ _ (by rw[hsz];exact Os (Py bf)),am.get?_update_ne _ _ _ _ (Os bf),am.get?_push_ne _ _ _ (Os bf)];exact q
 have oO:(((s.heap.push (ar "list" #[] 0)).update s.heap.objs.size (aM.mapSeq (· ++ vs.toArray))).push (ar "list" vs.toArray 0)).objs.size=s.heap.objs.size+2:=by
  rw[bz,hsz]
 show ai _ _ _ _ _ {s with heap:=((s.heap.push (ar "list" #[] 0)).update s.heap.objs.size (aM.mapSeq (· ++ vs.toArray))).push (ar "list" vs.toArray 0)};rw[hsz];generalize DU:((s.heap.push (ar "list" #[] 0)).update s.heap.objs.size (aM.mapSeq (· ++ vs.toArray))).push (ar "list" vs.toArray 0)=hA at *;refine Tj (a7 (l5 dG ⟨_,iP,rfl⟩ du ?body (ksk_l1 _ _)))
 case body=>
  show ai (ah X.prog X.w) X.A.in1.in1 (ak.«list.sort» ⟨[.ref (s.heap.objs.size+1)],[(ao.ofString "key",.ref f)]⟩) _ _ _;rw[ksk_t1];unfold ksk_tree;refine Tj (dg iP rfl ?_);refine Tj (b9 iP rfl ?_ (by rw[Ol,jD,Tp];lia) (Pi _));obtain⟨e1,gc⟩:∃e1,(hA.update (s.heap.objs.size+1) (aM.mapSeq λ_=>(#[]:Array aa))).get? (s.heap.objs.size+1)=some (ar "list" #[] e1):=⟨_,dw iP λ_ => #[]⟩;refine Tj (cN gc rfl ?_);refine Tj (dE ?_ (by show vs.length<=_;rw[jD,Tp];lia));refine Tj (bQ ?_ (Pi _));refine a7 ?_;have jw:((hA.update (s.heap.objs.size+1) (aM.mapSeq λ_=>(#[]:Array aa))).push (ar "tuple" vs.toArray 0)).objs.size=s.heap.objs.size+3:=by rw[bz,am.size_update,oO]
  have k6:∀b o,s.heap.get? b=some o->(((hA.update (s.heap.objs.size+1) (aM.mapSeq λ_=>(#[]:Array aa))).push (ar "tuple" vs.toArray 0)).push (ar "list" #[] 0)).get? b=some o:=λb o e=>by
   refine Tz _ (Tz _ ?_);rw[am.get?_update_ne _ _ _ _ (Os (Py (Tx e)))];exact keep b o e
  have mZ:(((hA.update (s.heap.objs.size+1) (aM.mapSeq λ_=>(#[]:Array aa))).push (ar "tuple" vs.toArray 0)).push (ar "list" #[] 0)).get? (s.heap.objs.size+1)=some (ar "list" #[] e1):=Tz _ (Tz _ gc);have wH:(((hA.update (s.heap.objs.size+1) (aM.mapSeq λ_=>(#[]:Array aa))).push (ar "tuple" vs.toArray 0)).push (ar "list" #[] 0)).get? (s.heap.objs.size+3)=some (ar "list" #[] 0):=by rw[<-jw];exact am.get?_push_size _ rfl
  have J0:Inv X pins Z (upd H (s.heap.objs.size+3) (.lst [])) {s with heap:=((hA.update (s.heap.objs.size+1) (aM.mapSeq λ_=>(#[]:Array aa))).push (ar "tuple" vs.toArray 0)).push (ar "list" #[] 0)}:=
   I.laid (t':=s.toks) (o:=.lst []) k6 (by lia) ⟨by decide,[],0,.nil,wH⟩
  have jo:H (s.heap.objs.size+1)=none:=I.hok.fresh (Ql _);have gG:∀p∈X.pn++pins,p.1≠s.heap.objs.size+1:=λp hp=>Os (Py (Tx (I.pin p hp).1));have J1:Inv X ((s.heap.objs.size+1,ar "list" #[] e1)::pins) Z (upd H (s.heap.objs.size+3) (.lst [])) {s with heap:=((hA.update (s.heap.objs.size+1) (aM.mapSeq λ_=>(#[]:Array aa))).push (ar "tuple" vs.toArray 0)).push (ar "list" #[] 0)}:=by
   refine J0.pins_of λp hp=>?_;rcases Ox.mp hp with rfl | hp
   ·exact⟨mZ,by rw[Ad (by show s.heap.objs.size+1≠s.heap.objs.size+3;lia)];exact jo,Si (Py I.lt),I.nofs (Ql _),λv q=>by cases q⟩
   ·exact J0.pin p (Pc _ hp)
  rw[jw];subst sC;refine Xok (f:=f) rfl J1 (I.hok.fresh (by lia)) hu (Pm I.sz (Ql _)) gG jo hT nd cz turn λp H' s' g so sm eF J=>⟨_,rfl,?_⟩;exact Tk ⟨_,rfl,⟨.ref (s.heap.objs.size+1),H',J,rfl,h _ p H' jo g so sm eF⟩⟩
end
structure FunT (K:LY) (x:ao) (st:aP) (f:ae) (fd:aw) (T:ae):Prop where
 ex:∃(oc:aa) (od:Option ae) (kV dq pm:aa) (an:Option ae) (c0:ae) (ct:aa) (iT:Array (Option aa)),
  fd=MM x x (D8 st) (Co st) (defScope st) .none kV dq pm an (.ref c0) ct/\K.lookup f=some ⟨oc,od,.func fd,iT⟩/\MO K (.ref c0) x=true/\MH K c0 T=true
 kp:ME K (.ref f)=true
structure DefT (K:LY) (x:ao) (st:aP) (T:ae):Prop where
 ex:∃f fd,MC K aq x=some (some (.ref f))/\ME K (.ref f)=true/\FunT K x st f fd T/\Fun K x x st f fd
def DefT.of{K}{x}{st}    {kV dq pm ct}(a:MC K aq x=some (some (.ref f)))
  (l:K.lookup f=some ⟨oc,od,.func (MM x x (D8 st) (Co st) (defScope st) .none kV dq pm an (.ref c0) ct),iT⟩) (c:MO K (.ref c0) x=true) (k:ME K (.ref f)=true) (t:MH K c0 T=true):DefT K x st T:=
 ⟨⟨f,_,a,k,⟨⟨oc,od,kV,dq,pm,an,c0,ct,iT,rfl,l,c,t⟩,k⟩,Xbs l c k⟩⟩
section
variable {P:ap}{w:ax}{K:LY}{mg:ao->Option aa}{base:am}
def FunT.ok{x}{st}  {fd}   (F:FunT K x st f fd T)(S:FnScope N ps (defScope st))(len:∀vs H Q E,sp vs H Q E->vs.length=ps.length)
  (eK:∀(c0:ae),MH K c0 T=true->∀(A:av) (outer:List dz) (s:af) (H:Hp) (vs:List V) (Q:VK) (E:XK),Room k (A.deeper (aO x (defScope st) s.heap.objs.size f (.ref c0)))->sp vs H Q E ->
   ∃t,PSs (Ck CX0 P w K mg base N x (defScope st) f (.ref c0) A outer s H E).nox (Co st) t/\t {nx:=λ_ H'=>Q .non H',rt:=Q} (start N vs) H):FnOk P w K mg base CX0 (k+1) f fd ps sp:=by
 obtain⟨oc,od,kV,dq,pm,an,c0,ct,iT,rfl,lk,gX,hhd⟩:=F.ex;refine Lm lk gX S len λA outer s H vs Q E hr gZ=>?_;obtain⟨t,h,q⟩:=eK c0 hhd A outer s H vs Q E hr gZ;exact⟨t,h.nox,q⟩
end
section
variable {X:Cx}
def Xom (X:Cx) (ta tk:TA):TE:=fun Z H Q=>ta Z H λvs H1=>tk Z H1 λzs H2=>∃(l f:ae) (ps:List ae) (Ts:List (Za)),vs=[.ref l]/\zs=[.ref f]/\H2 l=some (.lst (ps.map V.ref))/\Tups H2 ps Ts/\Ts.Nodup/\ps.length<=64/\Turns X f H2 ps Ts /\
 ∀(D:ae) (p:Array Nat) (H':Hp),H2 D=none->Gd ps.length p->Ci (Eu Ts) p ps.length->Same H2 H'->H' D=some (.lst ((p.toList.map λi=>ps.getD i 0).map V.ref))->Q (.ref D) H'
def Xon      (hu:X.A.in1.in1.units<bD) (hg:Gl X x) (hm:X.mg x=none) (hv:bF x=some (.builtin "sorted")) (ha:PA X (e::es) ta) (wI:PK X gY tk)
  (jG:(ca pos (bu gY X.env)).filterMap (·.1)=[ao.ofString "key"]:=by rfl)
  (hn:x ≠ "__name__" := by decide) (gl:(x==("__debug__" : ao))=false:=by decide)
  (he:bC pos (aB (e::es) X.env)=(false,eval e X.env)::bC pos (aB es X.env):=by rfl)
  (eO:(bC pos (aB (e::es) X.env)).any (·.1)=false:=by rfl)
  (bY:(ca pos (bu gY X.env)).all (·.1.isSome)=true:=by rfl)
  (eC:(ca pos (bu gY X.env)).any (·.1.isNone)=false:=by rfl):PE X (.Call (.Name x p) (e::es) gY pos) (Xom X ta tk):=by
 intro pins s Z H Q I h;refine bH (Ey I hg hm hv ?_ hn gl);refine zu (thn (ha pos pins s Z H _ I h) λus s1 ⟨vs,H1,I1,r1,q1⟩=>thn (wI pos pins s1 Z H1 _ I1 q1) λws s2 ⟨zs,H2,I2,r2,q2⟩=>?_) he eO bY eC;rw[jG];obtain⟨l,f,ps,Ts,rfl,rfl,hl,hT,nd,cz,turn,k⟩:=q2;obtain⟨u,rfl,rx⟩:=Bq r1;obtain⟨v,rfl,rf⟩:=Bq r2;cases rx;cases rf;exact Xol I2 hu hl hT nd cz turn k
def Xoo{k}  {x qual}       (hf:H f=some (.ext (Dm f (MD "<lambda>" qual params body scope [] pm (.ref c) dH))))(hc:H c=some (.ext (Dl c qual)))
  (S:FnScope [x] [x] scope) (hr:Room (k+3) X.A) (hb:∀u,cQ (MD "<lambda>" qual params body scope [] pm (.ref c) dH) ⟨[u],[]⟩=pure ([x].zip [u]))
  (fr:∀(A:av) (outer:List dz) (s1:af) (H1:Hp) (i:Nat),i<ps.length->Same H H1->Room k (A.deeper (aO qual scope s1.heap.objs.size f (.ref c)))->∃t,PE (Ck CX0 X.prog X.w X.K X.mg X.base [x] qual scope f (.ref c) A outer s1 H1 E0) body t /\
   ∀Q:VK,(∀t H2,H2 t=some (.tup [.int (Ts.getD i []).length,.ref (ps.getD i 0)])->Same H1 H2->Q (.ref t) H2)->t (start [x] [.ref (ps.getD i 0)]) H1 Q):Turns X f H ps Ts:=by
 intro pins Z s1 H1 i hi sm I;have cy:Room (k+1) X.A.in1.in1:=(Room.in1 (k:=k+2) hr).in1;obtain⟨t,ht,hq⟩:=fr X.A.in1.in1 X.stack s1 H1 i hi sm (cy.deeper _);refine dZ (br (Xnl (Q:=λv H2=>∃t,v = .ref t/\H2 t=some (.tup [.int (Ts.getD i []).length,.ref (ps.getD i 0)])/\Same H1 H2) (sm _ _ hf) (sm _ _ hc) S cy I.env0.in1.in1 rfl (.cons (show Aj (.ref (ps.getD i 0)) (.ref (ps.getD i 0)) from rfl) .nil) (hb _) ht (hq _ λt H2 a b=>⟨t,rfl,a,b⟩)) λr s' jq=>?_);cases r with
 | error e=>exact jq.elim
 | ok fl=>
  cases fl with
  | next=>exact False.elim jq
  | brk=>exact False.elim jq
  | cont=>exact False.elim jq
  | ret u=>
   obtain⟨v,H2,J,rv,t,rfl,a,b⟩:=I.after jq;exact⟨t,H2,rv,J,a,b⟩
end
end L2
namespace SH
open L2
def Fw (a b:Za):Bool:=C2 a.length a b.length b
def Xop{Ts}(g:Gd Ts.length p)(so:Ci (Eu Ts) p Ts.length):
  (p.toList.map λi=>Ts.getD i []).Perm Ts/\(p.toList.map λi=>Ts.getD i []).Pairwise λa b=>Fw a b=true:=by
 constructor
 ·have e:((List.range Ts.length).map λi=>Ts.getD i [])=Ts:=by
   refine Ra (by simp) λi h1 h2=>?_;simp[Qd,List.getElem_range,List.getD,h2]
  have q:p.toList.Perm (List.range Ts.length):=by
   have:=g.toList;simpa using this
  have:=q.map λi=>Ts.getD i [];rw[e] at this;exact this
 ·rw[Qh];intro i j hi hj gF;have sz:=g.size;rw[Oh,Oq,sz] at hi hj;have:=so i j gF hj;rw[Qd,Qd];have e1:p.getD i 0=p.toList[i]'(by rw[Oq,sz];exact hi):=by simp[Array.getD,sz,hi]
  have e2:p.getD j 0=p.toList[j]'(by rw[Oq,sz];exact hj):=by simp[Array.getD,sz,hj]
  rw[e1,e2] at this;exact this
def Xfz{α : Type}(f:Nat -> α)(d : α)(l:List Nat)(hi:i<l.length):(l.map f).getD i d=f l[i]:=by simp[List.getD,hi]
def Xoq    (h:Tups H ps Ts) (g:Gd ps.length p):Tups H (p.toList.map λi=>ps.getD i 0) (p.toList.map λi=>Ts.getD i []):=by
 refine⟨by simp,λi hi=>?_⟩;rw[Oh] at hi;have e1:(p.toList.map λi=>ps.getD i 0).getD i 0=ps.getD p.toList[i] 0:=Xfz _ _ _ hi;have e2:(p.toList.map λi=>Ts.getD i []).getD i []=Ts.getD p.toList[i] []:=Xfz _ _ _ hi;rw[e1,e2];refine h.2 _ ?_;have q:p.toList.Perm (List.range ps.length):=by
  have:=g.toList;simpa using this
 simpa using q.mem_iff.mp (Pk hi)
abbrev qIn:ao:=(ao.ofString "in_order" ++ ao.ofString ".<locals>.")++ao.ofString "<lambda>"
def spInOrder (T:ae) (pos:bN):Sp:=λvs H Q _=>∃(l:ae) (ps:List ae) (Ts:List (Za)),vs=[.ref l]/\H l=some (.lst (ps.map V.ref))/\Tups H ps Ts/\Ts.Nodup/\ps.length<=64/\Au T pos qIn H /\
 ∀(D:ae) (iZ:List ae) (sD:List (Za)) (H':Hp),H D=none->H' D=some (.lst (iZ.map V.ref))->Tups H' iZ sD->sD.Perm Ts->(sD.Pairwise λa b=>Fw a b=true)->Au T pos qIn H'->But T H H'->Q (.ref D) H'
def Au.same    (h:Au T pos q H) (s:Same H H'):Au T pos q H':=by
 rcases h with e | ⟨c,e,ec⟩
 ·exact .inl (s _ _ e)
 ·exact .inr ⟨c,s _ _ e,s _ _ ec⟩
def Au.but     (h:Au T pos q H) (hd:H dr=some (.lst o')) (b:But dr H H'):Au T pos q H':=by
 rcases h with e | ⟨c,e,ec⟩
 ·exact .inl (b _ _ e λz=>by rw[z,hd] at e;cases e)
 ·exact .inr ⟨c,b _ _ e (λz=>by rw[z,hd] at e;cases e),b _ _ ec λz=>by rw[z,hd] at ec;cases ec⟩
def lamPos (s:aP):bN:=match Co s with
 | [.Return (some (.Call _ _ [⟨_,.Lambda _ _ _ p,_⟩] _)) _]=>p
 | _=>⟨0,0,0,0⟩
def Xor(h1:a<b)(h2:c<e)(n1:a≠c)(n2:a≠e)(n3:b≠c)(n4:b≠e)(h:lieT a b c e = "apart"):e<a\/b<c:=by
 unfold lieT at h;rw[Tq (by lia)] at h;split at h
 ·exact absurd h (by decide)
 ·split at h
  ·exact absurd h (by decide)
  ·split at h
   ·exact absurd h (by decide)
   ·rename_i q1 q2 q3;rw[Ce] at q1 q2 q3;by_cases p1:c<a/\a<e
    ·by_cases p2:c<b/\b<e
     ·rw[Tr p1,Tr p2] at q2;lia
     ·rw[Tr p1,Tq p2] at q1;lia
    ·by_cases p2:c<b/\b<e
     ·rw[Tq p1,Tr p2] at q1;lia
     ·by_cases p3:a<c/\c<b
      ·by_cases p4:a<e/\e<b
       ·rw[Tr p3,Tr p4] at q3;lia
       ·lia
      ·lia
def Xf0(h1:a<b)(h:lieT a b c e = "cross"):a<e/\c<b:=by
 unfold lieT at h;split at h
 ·exact absurd h (by decide)
 ·split at h
  ·rename_i q;rw[Ce] at q;by_cases p1:c<a/\a<e
   ·lia
   ·by_cases p2:c<b/\b<e
    ·lia
    ·rw[Tq p1,Tq p2] at q;lia
  ·split at h
   ·exact absurd h (by decide)
   ·split at h
    ·exact absurd h (by decide)
    ·exact absurd h (by decide)
def Xos(h1:a<b)(h2:c<a)(h3:b<e):lieT a b c e = "within" := by
 unfold lieT;have q:nIn c e [a,b]=2:=by rw[Ce,Tr ⟨h2,by lia⟩,Tr ⟨by lia,h3⟩]
 rw[Tq (by lia),q,Tq (by decide),Tr rfl]
section
variable {row:Za}
def Xf1(h:upB row a y=true):(pl row y).1<=(pl row a).1/\(pl row a).2<=(pl row y).2:=by
 unfold upB at h;rw[Q5] at h;rcases h with h | h
 ·rw[Tv h];exact⟨Int.le_refl _,Int.le_refl _⟩
 ·obtain⟨h1,h2,h3,h4⟩:=Ke (Tv h);exact⟨by lia,by lia⟩
def Xf2(hx:row.count x=2)(h:lieR row x y = "within")(g:lieR row y z = "within"):lieR row x z = "within" := by
 have l:=Cd hx;obtain⟨h1,h2,h3,h4⟩:=Ke h;obtain⟨g1,g2,g3,g4⟩:=Ke g;exact Xos l (by lia) (by lia)
def N1:lieR row x x ≠ "within" := by rw[J4];decide
structure Core (row:Za) (cs:Za) (p:ao->Bool):Prop where
 inr:∀c∈cs,c∈row
 is:∀y,p y=true ↔ ∃c∈cs,upB row c y=true
 ov:∀c∈cs,∀d∈cs,(pl row c).1<(pl row d).2
 an:∀c∈cs,∀d∈cs,lieR row c d ≠ "within"
variable {cs zv:Za}{p p':ao->Bool}
def Core.plot(h2:∀y∈row,row.count y=2)(C:Core row cs p):Ae row ((dit row).filter p)=true:=by
 refine Ig.mpr ⟨(Du row).filter p,λx hx=>Ao.mp (Ot.mp hx).1,λx hx y hy e=>?_,λx hx y hy e=>?_⟩
 ·obtain⟨c,hc,hu⟩:=(C.is x).mp (Ot.mp hx).2;refine Ot.mpr ⟨Ao.mpr hy,(C.is y).mpr ⟨c,hc,?_⟩⟩;unfold upB at hu ⊢;rw[Q5] at hu ⊢;rcases hu with hu | hu
  ·rw[Tv hu] at e;exact .inr (Tt e)
  ·exact .inr (Tt (Xf2 (h2 c (C.inr c hc)) (Tv hu) e))
 ·have mx:=Ot.mp hx;have my:=Ot.mp hy;obtain⟨c,hc,hu⟩:=(C.is x).mp mx.2;obtain⟨d,hd,hv⟩:=(C.is y).mp my.2;have oG:=h2 x (Ao.mp mx.1);have kD:=h2 y (Ao.mp my.1);have ne:x≠y:=λz=>by rw[z,J4] at e;exact absurd e (by decide)
  obtain⟨n1,n2,n3,n4⟩:=Fo oG kD ne;have u1:=Xf1 hu;have u2:=Xf1 hv;have o1:=C.ov c hc d hd;have o2:=C.ov d hd c hc;rcases Xor (Cd oG) (Cd kD) n1 n2 n3 n4 e with z | z
  ·lia
  ·lia
def Core.min(h2:∀y∈row,row.count y=2)(C:Core row cs p)(x):x∈cs↔x∈(dit row).filter p/\∀y∈(dit row).filter p,lieR row y x ≠ "within" := by
 have self:∀c∈cs,c∈(dit row).filter p:=λc hc=>Ot.mpr ⟨Ao.mpr (C.inr c hc),(C.is c).mpr ⟨c,hc,by unfold upB;simp⟩⟩;constructor
 ·intro hx;refine⟨self x hx,λy hy e=>?_⟩;obtain⟨c,hc,hu⟩:=(C.is y).mp (Ot.mp hy).2;unfold upB at hu;rw[Q5] at hu;rcases hu with hu | hu
  ·rw[Tv hu] at e;exact C.an c hc x hx e
  ·exact C.an c hc x hx (Xf2 (h2 c (C.inr c hc)) (Tv hu) e)
 ·rintro ⟨hx,hm⟩;obtain⟨c,hc,hu⟩:=(C.is x).mp (Ot.mp hx).2;unfold upB at hu;rw[Q5] at hu;rcases hu with hu | hu
  ·rw[Tv hu];exact hc
  ·exact absurd (Tv hu) (hm c (self c hc))
def Core.eq(h2:∀y∈row,row.count y=2)(C:Core row cs p)(C':Core row zv p')(e:(dit row).filter p=(dit row).filter p'):∀x,x∈cs↔x∈zv:=λx=>by
 rw[C.min h2,C'.min h2,e]
def core1(h2:∀y∈row,row.count y=2){a:ao}(ha:a∈row):Core row [a] (upB row a) where
 inr c hc:=by rw[Om.mp hc];exact ha
 is y:=by simp
 ov c hc d hd:=by rw[Om.mp hc,Om.mp hd];exact Cd (h2 a ha)
 an c hc d hd:=by rw[Om.mp hc,Om.mp hd];exact N1
def Ir(h:q∈crs row):q.1∈row/\q.2∈row/\ltS q.1 q.2/\lieR row q.1 q.2 = "cross" := by
 unfold crs at h;obtain⟨x,hx,h⟩:=List.mem_flatMap.mp h;obtain⟨y,hy,rfl⟩:=Pd.mp h;obtain⟨h1,h3⟩:=Ot.mp hy;rw[Oz] at h3;exact⟨Ao.mp hx,Ao.mp h1,Tv h3.1,Tv h3.2⟩
def core2(h2:∀y∈row,row.count y=2)(h:q∈crs row):Core row [q.1,q.2] λy=>upB row q.1 y||upB row q.2 y:=by
 obtain⟨ha,hb,hl,hx⟩:=Ir h;have hy:lieR row q.2 q.1 = "cross" := C8 (h2 _ ha) (h2 _ hb) hx;have la:=Cd (h2 _ ha);have lb:=Cd (h2 _ hb);have c1:=Xf0 la hx;have c2:=Xf0 lb hy;refine⟨λc hc=>?_,λy=>by simp,λc hc d hd=>?_,λc hc d hd=>?_⟩
 ·simp at hc;rcases hc with rfl | rfl
  ·exact ha
  ·exact hb
 ·simp at hc hd;rcases hc with rfl | rfl<;>rcases hd with rfl | rfl
  ·exact la
  ·exact c1.1
  ·exact c2.1
  ·exact lb
 ·simp at hc hd;rcases hc with rfl | rfl<;>rcases hd with rfl | rfl
  ·exact N1
  ·rw[hx];decide
  ·rw[hy];decide
  ·exact N1
def Xot(h2:∀y∈row,row.count y=2):∀S∈cands row,Ae row S=true:=λS hS=>by
 unfold cands at hS;rcases Ou.mp hS with h | h
 ·obtain⟨a,ha,rfl⟩:=Pd.mp h;exact(core1 h2 (Ao.mp ha)).plot h2
 ·obtain⟨q,hq,rfl⟩:=Pd.mp h;exact(core2 h2 hq).plot h2
def Xou(row):(crs row).Nodup:=by
 unfold crs;have nd:=Bj (Du row);rw[List.Nodup,List.pairwise_flatMap];refine⟨λx hx=>?_,nd.imp λ{x y} ne a ha b hb e=>?_⟩
 ·rw[Qz];exact(nd.filter _).imp λne e=>ne (Prod.mk.inj e).2
 ·obtain⟨u,_,rfl⟩:=Pd.mp ha;obtain⟨v,_,rfl⟩:=Pd.mp hb;exact ne (Prod.mk.inj e).1
def Xov(h2:∀y∈row,row.count y=2):(cands row).Nodup:=by
 have nd:=Bj (Du row);unfold cands;rw[List.Nodup,Pe];refine⟨?_,?_,?_⟩
 ·rw[Qz];refine nd.imp_of_mem λ{a b} ha hb ne e=>ne ?_;have:=(Core.eq h2 (core1 h2 (Ao.mp ha)) (core1 h2 (Ao.mp hb)) e a).mp (Qp _);exact Om.mp this
 ·rw[Qz];refine(Xou row).imp_of_mem λ{q r} hq hr ne e=>ne ?_;have E:=Core.eq h2 (core2 h2 hq) (core2 h2 hr) e;obtain⟨_,_,l1,_⟩:=Ir hq;obtain⟨_,_,l2,_⟩:=Ir hr;have e1:=(E q.1).mp (by simp);have e2:=(E q.2).mp (by simp);have e3:=(E r.1).mpr (by simp);simp at e1 e2 e3;obtain⟨a,b⟩:=q;obtain⟨c,d⟩:=r;simp only at *;rcases e1 with e1 | e1
  ·rcases e2 with e2 | e2
   ·exact absurd (e1.trans e2.symm) (Hn l1)
   ·rw[e1,e2]
  ·rcases e2 with e2 | e2
   ·rw[e1,e2] at l1;exact absurd (Js l1 l2) (Jr _)
   ·exact absurd (e1.trans e2.symm) (Hn l1)
 ·intro A hA B hB e;obtain⟨a,ha,rfl⟩:=Pd.mp hA;obtain⟨q,hq,rfl⟩:=Pd.mp hB;have E:=Core.eq h2 (core1 h2 (Ao.mp ha)) (core2 h2 hq) e;obtain⟨_,_,l1,_⟩:=Ir hq;have e1:=Om.mp ((E q.1).mpr (by simp));have e2:=Om.mp ((E q.2).mpr (by simp));exact Hn l1 (e1.trans e2.symm)
def N2(h2:∀y∈row,row.count y=2)(h3:Bk row)(S):S∈[]::cands row↔Ae row S=true:=by
 constructor
 ·intro h;rcases Ox.mp h with e | e
  ·rw[e];exact Kd row
  ·exact Xot h2 S e
 ·intro h;by_cases e:S=[]
  ·rw[e];exact Ov
  ·exact Op _ (Xd4 h2 h3 e h)
def Xow(h2:∀y∈row,row.count y=2):[]∉cands row:=λh=>by
 unfold cands at h;rcases Ou.mp h with h | h
 ·obtain⟨a,ha,e⟩:=Pd.mp h;have:=((core1 h2 (Ao.mp ha)).min h2 a).mp (Qp _);rw[e] at this;cases this.1
 ·obtain⟨q,hq,e⟩:=Pd.mp h;have:=((core2 h2 hq).min h2 q.1).mp (by simp);rw[e] at this;cases this.1
def Xf3(h2:∀y∈row,row.count y=2):([]::cands row).Nodup:=Pu.mpr ⟨Xow h2,Xov h2⟩
end
end SH
namespace L2
def Xf4  {N:Za} {cap:List (Option Nat)}         {i:Nat}  (C:CompScope X N cap scope) (bA:X.calm=true) (hN:X.N.Nodup) (rN:X.N[i]? = some y) (hy:X.env.scope.names.lookup y=some .local) (hi:PI X tg iter wi)
  (hg:∀s0 H0 ex,PG (X.comp N scope s0 H0 ex) tg g) (ht:∀s0 H0 ex,PIfs (X.comp N scope s0 H0 ex) c7 tt) (he:∀s0 H0 ex,PE (X.comp N scope s0 H0 ex) eE te)
  (rO:dJ (.ListComp eE [⟨tg,iter,c7,0⟩] scope pos) (some (.Name y py)) kw.line X.env=pure true:=by rfl)
  (hs:∀x,aH iter X.env x=pure x:=by intro _;rfl):PS X (.Assign [.Name y py] (.ListComp eE [⟨tg,iter,c7,0⟩] scope pos) kw) (Xc2 i cap (.lst []) wi g tt (Hs te)):=
 Xc3 (act := fun D env => do let _ <- call (.builtin "list.append") [.ref D, <- eval eE env]) Ju (fun use => rfl) rfl C bA Hr hN rN hy hi (fun it D env => rfl) hg ht (fun D s0 H0 ex => Jt (he s0 H0 ex)) rO hs
end L2
namespace SH
open L2
def spPlotsA (T:ae) (pos:bN):Sp:=λvs H Q _=>∃(r:ae) (row:Za),vs=[.ref r]/\H r=some (.lst (row.map V.str))/\Row2 row/\Bk row/\(dit row).length<=14/\Au T pos qIn H /\
 ∀(D:ae) (ps:List ae) (Ts:List (Za)) (H':Hp),H D=none->H' D=some (.lst (ps.map V.ref))->Tups H' ps Ts->(∀S,S∈Ts↔Ae row S=true)->(Ts.Pairwise λa b=>Fw a b=true)->ps.length<=64->Au T pos qIn H'->But T H H'->Q (.ref D) H'
abbrev NPp:Za:=["row", "span", "off", "single", "double"]
abbrev NPo:Za:=["name", "span"]
abbrev NPi:Za:=["other", "name", "span"]
abbrev NPs:Za:=["name", "off"]
abbrev NPd:Za:=["one", "other", "off"]
structure Offs (H:Hp) (kvs:List (Key×V)) (row:Za) (ns:Za):Prop where
 keys:kvs.map (·.1)=ns.map (λx=>(Sum.inr x:Key))
 val:∀x∈ns,∃l,Av kvs (Sum.inr x:Key)=some (.ref l)/\H l=some (.lst (((dit row).filter (upB row x)).map V.str))
def Offs.mono   (s:Offs H kvs row ns) (h:Same H H'):Offs H' kvs row ns:=⟨s.keys,λx hx=>let ⟨l,h1,h2⟩:=s.val x hx; ⟨l,h1,h _ _ h2⟩⟩
def Offs.snoc     (s:Offs H kvs row ns) (nx:x∉ns) (h:H' l=some (.lst (((dit row).filter (upB row x)).map V.str))) (k:∀b xs,H b=some (.lst xs)->H' b=some (.lst xs)):
  Offs H' (Bf kvs (Sum.inr x) (.ref l)) row (ns++[x]):=by
 have hn:Av kvs (Sum.inr x:Key)=none:=by
  cases e:Av kvs (Sum.inr x:Key) with
  | none=>rfl
  | some v=>
   exfalso;have:=G7 e;rw[s.keys] at this;obtain⟨y,hy,e2⟩:=Pd.mp this;rw[Q0 e2] at hy;exact nx hy
 refine⟨by rw[F2 _ hn,Ow,Ow,s.keys];rfl,λy hy=>?_⟩;rw[Ji];by_cases e:y=x
 ·subst e;exact⟨l,Tr rfl,h⟩
 ·have iY:y∈ns:=by
   rcases Ou.mp hy with z | z
   ·exact z
   ·exact absurd (Om.mp z) e
  obtain⟨l0,h1,h2⟩:=s.val y iY;exact⟨l0,by rw[Tq (λz=>e (Q0 z))];exact h1,k _ _ h2⟩
def Offs.get    {x} (s:Offs H kvs row ns) (hd:Rd H d (.dK kvs)) (hx:x∈ns):∃l,DGet H d (.str x) (some (.ref l))/\H l=some (.lst (((dit row).filter (upB row x)).map V.str)):=by
 obtain⟨l,h1,h2⟩:=s.val x hx;exact⟨l,DGet.rd hd h1,h2⟩
def Offs.at{H}{kvs}{row ns}(s:Offs H kvs row ns)(i)(hi:i<ns.length):(kvs.map λp=>kV p.1).getD i .non = .str (ns.getD i ao.empty):=by
 have e:(kvs.map λp=>kV p.1)=ns.map V.str:=by
  have:(kvs.map λp=>kV p.1)=(kvs.map (·.1)).map kV:=by rw[Pn];rfl
  rw[this,s.keys,Pn];rfl
 rw[e];exact Cb V.str ao.empty ns hi
def Offs.len   (s:Offs H kvs row ns):kvs.length=ns.length:=by
 have:=congrArg List.length s.keys;simpa using this
def Xox{row}{x y}(hx:row.count x=2)(hy:row.count y=2):decide (lieR row x y∈[ao.ofString "same",ao.ofString "within"])=upB row x y:=by
 unfold upB;by_cases e:y=x
 ·subst e;rw[J4];simp
 ·have n:lieR row x y ≠ "same" := λz=>e (Xd3 hx hy z).symm;simp[e,n]
def ltP (a b:Za):Prop:=a.length<b.length\/(a.length=b.length/\ltL a b=true)
structure IsPL (row:List ao) (Ts:List (List ao)):Prop where
 pw:Ts.Pairwise ltP
 mem:∀T,T∈Ts↔Ae row T=true
structure Lay (row:Za) (n:Nat) (Us:List (Za)):Prop where
 pw:Us.Pairwise λa b=>ltL a b=true
 mem:∀T,T∈Us↔Ae row T=true/\T.length=n
structure Upto (row:Za) (n:Nat) (Ts:List (Za)):Prop where
 pw:Ts.Pairwise ltP
 mem:∀T,T∈Ts↔Ae row T=true/\T.length<=n
end SH
set_option maxHeartbeats 8000000
namespace SH
open L2
end SH
set_option maxHeartbeats 4000000
namespace SH
open L2
def crsAt (row:Za) (x:ao) (ys:Za):List (ao×ao):=(ys.filter λy=>decide (lieR row x y = "cross")).map λy=>(x,y)
def Xr6:Sp:=λvs H Q _=>∃(l:ae) (ps:List ae) (Ts:List (Za)),vs=[.ref l]/\H l=some (.lst (ps.map V.ref))/\Tups H ps Ts/\(∀S∈Ts,S.length<=1000)/\ps.length<=1000/\∀H',Same H H'->Q (.bl true) H'
def nbL (row S:Za):List (ao×Za):=((dit row).filter λx=>Ae row (Am S x)).map λx=>(x,Am S x)
def spNbs (T:ae) (pos:bN):Sp:=λvs H Q _=>∃(r p:ae) (row S:Za),vs=[.ref r,.ref p]/\H r=some (.lst (row.map V.str))/\Row2 row/\Bk row/\(dit row).length<=14/\Au T pos qIn H/\H p=some (.tup (S.map V.str))/\Ae row S=true /\
 ∀(D:ae) (qs:List ae) (H':Hp),H D=none->H' D=some (.lst (qs.map V.ref))->Nbs H' qs (nbL row S)->qs.length<=14->Au T pos qIn H'->But T H H'->Q (.ref D) H'
def Xr7 (C T:ae) (pos:bN):Sp:=λvs H Q E=>∃(r p:ae) (row S:Za),vs=[.ref r,.ref p]/\H r=some (.lst (row.map V.str))/\Row2 row/\Bk row/\(dit row).length<=14/\Au T pos qIn H/\H p=some (.tup (S.map V.str))/\(∀y∈S,okN y)/\S.length<=24 /\
 (Ae row S=true->∀(D:ae) (qs:List ae) (H':Hp),H D=none->H' D=some (.lst (qs.map V.ref))->Nbs H' qs (nbL row S)->qs.length<=14->Au T pos qIn H'->But T H H'->Q (.ref D) H')/\(Ae row S=false->∀H',Same H H'->E (.ref C) none H')
def Xr8 (C:LedC):Sp:=λvs H Q E=>∃(r p:ae) (row S:Za) (x:ao),vs=[.ref r,.ref p,.str x]/\H r=some (.lst (row.map V.str))/\Row2 row/\(dit row).length<=14/\H p=some (.tup (S.map V.str))/\(∀y∈S,okN y)/\S.length<=24/\okN x /\
 (Ae row S=false->∀H',Same H H'->E (.ref C.plot) none H')/\(Ae row S=true->x∉row->∀H',Same H H'->E (.ref C.ditch) none H') /\
 (Ae row S=true->x∈row->Ae row (Am S x)=true->∀q H',H' q=some (.tup ((Am S x).map V.str))->Same H H'->Q (.ref q) H')/\(Ae row S=true->x∈row->Ae row (Am S x)=false->∀dx H',AtAt H' dx 0->Same H H'->E (.ref C.beside) (some dx) H')
end SH
namespace L2
open PySem.Calls
section
variable {P:ap}{w:ax}{A:av}{E:Zb}{s:af}
def dictP (DV:List (Key×V)):List (Key×V):=DV.foldl (λm q=>Bf m q.1 q.2) []
end
section
variable {X:Cx}
end
end L2
namespace SH
open L2
open Classical in
structure K12 (K:LY) (C:LedC) (S:ae):Prop where
 fb:ExcF K C.beside
 fd:ExcF K C.ditch
 fp:ExcF K C.plot
 kb:ExK K C.beside "at"
 eb:M' K (.ref C.beside) (.ref C.beside)=some true
 db:M' K (.ref C.ditch) (.ref C.beside)=some false
 pb:M' K (.ref C.plot) (.ref C.beside)=some false
 ds:M' K (.ref C.ditch) (.ref S)=some true
 ps:M' K (.ref C.plot) (.ref S)=some true
 dd:MA K (.ref C.ditch) (.ref C.ditch)=some true
 dp:MA K (.ref C.ditch) (.ref C.plot)=some false
 pd:MA K (.ref C.plot) (.ref C.ditch)=some false
 pp:MA K (.ref C.plot) (.ref C.plot)=some true
 dv:MA K (.ref C.ditch) (.type "ValueError")=some true
 pv:MA K (.ref C.plot) (.type "ValueError")=some true
def CrOk (Ts:List (Za)):Prop:=∀S∈Ts,(∀y∈S,okN y)/\S.length<=24
def Xf5 (Ts:List (Za)) (b:Za):Int:=(Ts.map λa=>((Ah a b).length:Int)).sum
def Tups.at{H}  {i}(h:Tups H ps Ts)(hi:i<ps.length):Ts.getD i []∈Ts:=by
 have dQ:i<Ts.length:=by rw[<-h.1];exact hi
 have:Ts.getD i []=Ts[i]:=by simp[List.getD,dQ]
 rw[this];exact Pk dQ
def N3{ps:List ae}  (h:(ps.map V.ref)[i]? = some v):i<ps.length/\v = .ref (ps.getD i 0):=by
 obtain⟨hi,e⟩:=O6.mp h;rw[Oh] at hi;exact⟨hi,by rw[<-e];simp[List.getD,hi]⟩
def Au.ne    {o} (tb:Au T pos q H) (e:H b=some o) (n:∀z,o ≠ .tbl z):b≠T:=λz=>by
 rcases tb with q | ⟨_,q,_⟩<;>(rw[z,q] at e;cases e;exact n _ rfl)
end SH
namespace L2
def Recs (H:Hp) (ps:List ae) (rs:List (List V)):Prop:=ps.length=rs.length/\∀i,i<ps.length->H (ps.getD i 0)=some (.tup (rs.getD i []))
end L2
namespace SH
open L2
def offN (Ts:List (Za)) (x:ao):Nat:=(Ts.filter λS=>decide (x∈S)).length
def v3 (t:ao×Int×Int):List V:=[.str t.1,.int t.2.1,.int t.2.2]
def v2 (q:ao×Int):List V:=[.str q.1,.int q.2]
def d3 (t:ao×Int×Int):au:=.tuple [.str t.1,.int t.2.1,.int t.2.2]
def d2 (q:ao×Int):au:=.tuple [.str q.1,.int q.2]
structure CrAt (H:Hp) (T:ae) (pos:bN) (r c:ae) (row:Za) (ps:List ae) (Ts:List (Za)):Prop where
 hr:H r=some (.lst (row.map V.str))
 r2:Row2 row
 n3:Bk row
 d:(dit row).length<=14
 tab:Au T pos qIn H
 hc:H c=some (.lst (ps.map V.ref))
 ht:Tups H ps Ts
 pl:ps.length<=200
 co:CrOk Ts
def kvN (ns:Za) (f:ao->Nat):List (Key×V):=ns.map λx=>((Sum.inr x:Key),V.int (f x:Int))
def cntOn (ns:Za) (Ts:List (Za)):List (ao×Int×Int):=ns.map λx=>(x,(Ts.length:Int) - offN Ts x,(offN Ts x:Int))
def ne2 (a b:Za) (x:ao):Bool:=xor (decide (x∈a)) (decide (x∈b))
def Kw  : ne2 a b x=true↔(x∈a/\x∉b)\/(x∈b/\x∉a):=by
 unfold ne2;by_cases h1:x∈a<;>by_cases h2:x∈b<;>simp[h1,h2]
def btw (a b c:Za):Bool:=decide ((Ah a c).length+(Ah c b).length=(Ah a b).length)
def Xr9:Sp:=λvs H Q _=>∃(r p q u:ae) (row a b c:Za),vs=[.ref r,.ref p,.ref q,.ref u]/\H r=some (.lst (row.map V.str))/\Row2 row/\(dit row).length<=14/\H p=some (.tup (a.map V.str))/\H q=some (.tup (b.map V.str))/\H u=some (.tup (c.map V.str)) /\
 Ae row a=true/\Ae row b=true/\Ae row c=true/\∀H',Same H H'->Q (.bl (btw a b c)) H'
def Xsa (T:ae) (pos:bN):Sp:=λvs H Q _=>∃(r p q:ae) (row a b:Za),vs=[.ref r,.ref p,.ref q]/\H r=some (.lst (row.map V.str))/\Row2 row/\Bk row/\(dit row).length<=14/\H p=some (.tup (a.map V.str))/\H q=some (.tup (b.map V.str)) /\
 Ae row a=true/\Ae row b=true/\Au T pos qIn H /\
 ∀(D:ae) (ps:List ae) (Ts:List (Za)) (H':Hp),H D=none->H' D=some (.lst (ps.map V.ref))->Tups H' ps Ts->(∀S,S∈Ts↔Ae row S=true/\btw a b S=true)->(Ts.Pairwise λx y=>Fw x y=true)->ps.length<=64->Au T pos qIn H'->But T H H'->Q (.ref D) H'
def costX (Ts:List (Za)) (S:Za) (x:ao):Int:=if x∈S then (Ts.length:Int) - offN Ts x else (offN Ts x:Int)
def majB (Ts:List (Za)) (S:Za) (x:ao):Prop:=(x∈S->Ts.length<=2 * offN Ts x)/\(x∉S->2 * offN Ts x<=Ts.length)
def majP (row:Za) (Ts:List (Za)):Za:=(dit row).filter λx=>decide (Ts.length<2 * offN Ts x)
def Xsb (row:Za) (Ts:List (Za)) (S:Za):Prop:=Ae row S=true/\∀S',Ae row S'=true->Xf5 Ts S<=Xf5 Ts S'
end SH
namespace L2
def D3 (h:am) (d:ae) (es:Array cn) (ep:Nat):Prop:=∃o,h.get? d=some o/\o.ExactDict/\o.data = .dict es ep
def D3.at{h h':am}{d:ae}{es:Array cn}{ep:Nat}(x:D3 h d es ep)(k:∀o,h.get? d=some o->h'.get? d=some o):D3 h' d es ep:=let ⟨o,a,b⟩:=x; ⟨o,k o a,b⟩
def D3.ty{s:af}{d:ae}{es:Array cn}{ep:Nat}(x:D3 s.heap d es ep):s.TypeIs (.ref d) "dict" := let ⟨o,a,b,_⟩:=x; ⟨o,a,b.1⟩
section
variable {P:ap}{w:ax}{A:av}{E:Zb}{s:af}{it d v:ae}{i ep:Nat}{es:Array cn}
def Xoy{Q:Option aa->af->Prop}(st:s.heap.IsKeyIter it d i es.size ep)(hm:D3 s.heap d es ep)(lt:i<es.size)
  (q:∀h',h'.IsKeyIter it d (i+1) es.size ep->am.SameBut it s.heap h'->Q (some es[i].key) {s with heap:=h'}):ai (ah P w) A (cB (.ref it)) Q E s:=by
 have ty:=st.typeIs;obtain⟨o,h1,h2,h3⟩:=id st;obtain⟨u,g1,g2,g3⟩:=id hm;unfold cB;refine Tj (bP ?_);refine aT (name:=ao.ofString "__next__") ty PySem.F.slot_dict_keyiterator_next ?_;refine aG PySem.F.slot_dict_keyiterator_next ty PySem.F.entry_dict_keyiterator_next ?_ (PySem.F.args_dict_keyiterator_next_1 _);refine Tj (Tk (Tj (Tj ?_)));refine Tj (bE ty (Tk (Tj (gA h1 h3 ?_))));have no:ak.Dict_items.ownsTuple "dict_keyiterator" = false:=by decide
 simp only[no,Pf,if_false];show ai _ _ (if (aa.ref d==aa.none)=true then _ else _) _ _ s;refine bJ (λz=>absurd z Oy) (λ_=>?_);refine Tj (Tk (Tj (fh g1 g3 ?_)));rw[Tq (by simp)];refine Tj (Tk (Tj (fP g1 g3 ?_)));rw[Tq (by simp)];refine Tk ?_;simp only[show ¬((i:Int)<0) from by omega,if_false,Qr,Ri lt];refine Tj (Tj (bE ty (Tk ?_)));refine Tj (jI ty ?_);show ai _ _ (bO (.ref it) 1 (aU ((i:Int)+1)) >>= _) _ _ s;refine Tj (bo h1 h3 (by simp) ?_);have a8:(s.heap.update it (aM.mapFields (·.setIfInBounds 1 (aU ((i:Int)+1))))).IsKeyIter it d (i+1) es.size ep:=by
  refine⟨_,am.get?_update_self _ h1 (aM.isFreed_of_fields (aM.data_mapFields h3 _)),?_,?_⟩
  ·rw[aM.cls_mapFields];exact h2
  ·rw[aM.data_mapFields h3];simp[aU]
 refine Tj (a7 (Tj ?_));refine jI (s:={s with heap:=_}) a8.typeIs ?_;exact Tk (Tk ⟨_,rfl,Tk (q _ a8 (T0 ..))⟩)
def Xoz{Q:Option aa->af->Prop}(hh:A.handled=none)(st:s.heap.IsKeyIter it d i es.size ep)(hm:D3 s.heap d es ep)(ge:es.size<=i)
  (q:∀h',am.ExtBut it s.heap h'->Q none {s with heap:=h'}):ai (ah P w) A (cB (.ref it)) Q E s:=by
 have ty:=st.typeIs;obtain⟨o,h1,h2,h3⟩:=id st;obtain⟨u,g1,g2,g3⟩:=id hm;unfold cB;refine Tj (bP ?_);refine aT (name:=ao.ofString "__next__") ty PySem.F.slot_dict_keyiterator_next ?_;refine aG PySem.F.slot_dict_keyiterator_next ty PySem.F.entry_dict_keyiterator_next ?_ (PySem.F.args_dict_keyiterator_next_1 _);refine Tj (Tk (Tj (Tj ?_)));refine Tj (bE ty (Tk (Tj (gA h1 h3 ?_))));have no:ak.Dict_items.ownsTuple "dict_keyiterator" = false:=by decide
 simp only[no,Pf,if_false];show ai _ _ (if (aa.ref d==aa.none)=true then _ else _) _ _ s;refine bJ (λz=>absurd z Oy) (λ_=>?_);refine Tj (Tk (Tj (fh g1 g3 ?_)));rw[Tq (by simp)];refine Tj (Tk (Tj (fP g1 g3 ?_)));rw[Tq (by simp)];refine Tk ?_;simp only[show ¬((i:Int)<0) from by omega,if_false,Qr,Array.getElem?_eq_none ge];refine Tj (Tj (bE ty (Tk ?_)));show ai _ _ (bO (.ref it) 0 .none >>= _) _ _ s;refine Tj (bo h1 h3 (by simp) ?_);refine Tj ?_;simp only[jk,newTuple];refine Tj (aC ?_ (by size_fits));refine Tj (m:=dF _ _) (dD (a:=aa.none) (by first | rfl | (simp only[dF];rfl)) ?_);refine aC ?_ (by size_fits);simp only[eT];refine Tj (uk ?_);rw[show A.in1.handled=none from hh];refine Tj (Tk (yN ?_));refine Tj (cu (b:=true) (T := "StopIteration") ⟨_,am.get?_push_size _ rfl,rfl⟩ rG ?_);exact Tk (q _ (((T0 ..).extBut.push _).push _))
def Xo0{Q:Zb}(nd:(d==bj)=false)(hm:D3 s.heap d es ep)
  (q:Q (.ref s.heap.objs.size) {s with heap:=s.heap.push {cls:=.type "dict_keyiterator",data:=.fields #[.ref d,.int 0 0,.int es.size 0,.int ep 0]} }):ai (ah P w) A (fq (.ref d)) Q E s:=by
 have ty:=hm.ty;obtain⟨u,g1,g2,g3⟩:=id hm;refine cM ty PySem.F.slot_dict_iter (aG PySem.F.slot_dict_iter ty PySem.F.entry_dict_iter ?_ (PySem.F.args_dict_iter_1 _));unfold ak.«dict.__iter__» ak.Dict.dictSlotNone;refine Tj (Tj (wpAny_notOrdered_dict ty ?_));refine Tk ?_;show ai _ _ (ak.Dict.showsAll d >>= _) _ _ s;unfold ak.Dict.showsAll;rw[Tq (by rw[nd];decide)];refine Tj (Tk (Tj (fh g1 g3 (Tj (fP g1 g3 ?_)))));refine Tj (aC (Tk ⟨_,rfl, "dict_keyiterator",_,⟨_,am.get?_push_size _ rfl,rfl⟩,PySem.F.slot_dict_keyiterator_next.lookup,?_⟩));simpa [aU] using q
end
def Xf6 (o:aM) (i:Nat):ae:=match o.data with
 | .dict es _=>match es[i]? with
  | some e=>match e.key with
   | .ref a=>a
   | _=>0
  | none=>0
 | _=>0
def Xo1{P:ap}{w:ax}{o:aM}{es:Array cn}{ep:Nat}{xs:List (List Key×ae×aa)}(hd:o.data = .dict es ep)(he:es.toList=xs.map (gh (bU (Bb P w)))){i:Nat}(hi:i<xs.length)(hs:i<es.size):
  es[i].key = .ref (xs[i]).2.1/\es[i].val=(xs[i]).2.2/\Xf6 o i=(xs[i]).2.1:=by
 have e:es[i]? = some (gh (bU (Bb P w)) xs[i]):=by
  rw[<-Rb,he,O2,Oj hi];rfl
 have e2:es[i]=gh (bU (Bb P w)) xs[i]:=by
  rw[Ri hs] at e;exact O4 e
 refine⟨by rw[e2];rfl,by rw[e2];rfl,?_⟩;unfold Xf6;rw[hd];dsimp only;rw[e];rfl
theorem Xf7{α β : Type}{F : α -> β->Prop}:∀{l:List α} {m:List β},Paired F l m->∀{i:Nat} (h1:i<l.length) (h2:i<m.length),F l[i] m[i]
 | _,_,.cons r t,0,_,_=>r
 | _,_,.cons r t,i+1,h1,h2=>Xf7 t (i:=i) (by simpa using h1) (by simpa using h2)
section
variable {X:Cx}{tg:aF}
end
section
variable {X:Cx}
end
end L2
namespace SH
open L2
def kOf (S:Za):List Key:=S.map λx=>(Sum.inr x:Key)
def D4(S:Za):(kOf S).map kV=S.map V.str:=by unfold kOf;rw[Pn];rfl
def Xf8{S S':Za}(h:kOf S=kOf S'):S=S':=by
 unfold kOf at h;exact Sz (λa b e=>Q0 e) |>.mp h
def kvT (Us:List (Za)) (f:Za->Int):List (List Key×V):=Us.map λS=>(kOf S,V.int (f S))
theorem Eg(f:Za->Int)(S:Za):∀(Us:List (Za)),Av (kvT Us f) (kOf S)=if S∈Us then some (.int (f S)) else none
 | []=>rfl
 | U::Us=>by
  have ih:=Eg f S Us;unfold kvT Av at ih ⊢;rw[O0,Rk];by_cases e:U=S
  ·subst e;simp
  ·have e1:decide (kOf U=kOf S)=false:=Tu λz=>e (Xf8 z);rw[e1];dsimp only;rw[ih];by_cases m:S∈Us
   ·rw[Tr m,Tr (Op _ m)]
   ·rw[Tq m,Tq (λz=>(Ox.mp z).elim (λq=>e q.symm) m)]
def Iu(Us:List (Za))(f:Za->Int):(kvT Us f).length=Us.length:=by unfold kvT;rw[Oh]
def Xo2(a:Za):¬Fw a a=true:=λh=>by unfold Fw at h;rw[Xfy] at h;cases h
def Xo3{Us:List (Za)}(h:Us.Pairwise λa b=>Fw a b=true):Us.Nodup:=h.imp (S:=λa b=>a≠b) λ{a b} q (e:a=b)=>Xo2 a (by rw[<-e] at q;exact q)
end SH
namespace L2
def cxL (P:ap) (w:ax) (K:LY) (mg:ao->Option aa) (base:am) (N:Za) (qual:ao) (scope:bI) (cl:List (ao×ae)) (f:ae) (cd:aa) (A:av) (outer:List dz) (s:af) (H:Hp):Cx where
 prog:=P
 w:=w
 K:=K
 mg:=mg
 base:=base
 A:=A.deeper (ND qual scope s.heap.objs.size f cd cl)
 N:=N
 s₀:=s
 H₀:=H
 env:=ND qual scope s.heap.objs.size f cd cl
 outer:=outer
 stack:=ND qual scope s.heap.objs.size f cd cl::outer
 ex:=[]
 calm:=true
 fn:=λ_=>false
 pn:=[]
 xe:=λ_ _=>False
structure LamScope (x:ao) (scope:bI):Prop where
 kind:scope.kind = .function
 co:scope.isCoroutine=false
 gen:scope.isGenerator=false
 nocell:∀y∈scope.names,y.2 ≠ .cell
 loc:scope.names.lookup x=some .local
structure Caps (N':Za) (τ : L2.St) (scope:bI) (cl:List (ao×ae)) (H:Hp) (h:am):Prop where
 has:∀y,scope.names.lookup y=some .free->∃c,cl.lookup y=some c
 inj:∀y z c,cl.lookup y=some c->cl.lookup z=some c->y=z
 cell:∀y c,cl.lookup y=some c->H c=none/\∃v,h.IsCell c v
 val:∀(i:Nat) (y:ao) (v:V),N'[i]? = some y -> τ[i]? = some (some v)->scope.names.lookup y=some .free/\∃u c,Aj v u/\cl.lookup y=some c/\h.IsCell c (some u)
 len : τ.length=N'.length
def Xo4{CX:CXT}{P:ap}{w:ax}{K:LY}{mg:ao->Option aa}{base:am}{A:av}{outer:List dz}{s:af}{H:Hp}{k:Nat}{f c:ae}{name qual x:ao}{params:cR}{body:aF}{scope:bI}{cl:List (ao×ae)}{pm dH:aa}
  {N':Za} {τ : L2.St} {u:aa} {v:V} {Q:VK} {E:XK} {t:TE}
  (hf:H f=some (.ext (Dm f (MD name qual params body scope cl pm (.ref c) dH)))) (hc:H c=some (.ext (Dl c qual))) (S:LamScope x scope) (hr:Room (k+1) A) (e0:Env0 P w K mg base A outer s H) (C:Caps N' τ scope cl H s.heap)
  (r:Aj v u) (hb:cQ (MD name qual params body scope cl pm (.ref c) dH) ⟨[u],[]⟩=pure [(x,u)])
  (ht:PE (cxL P w K mg base (x::N') qual scope cl f (.ref c) A outer s H) body t) (hq:t (some v :: τ) H Q):
  bB (ah P w) A (.call (.ref f) ⟨[u],[]⟩) (CR CX outer P w H s Q E) s:=by
 obtain⟨⟨of,wk,wn⟩,_⟩:=e0.hok f _ hf;obtain⟨oB,_⟩:=e0.hok c _ hc;have qR:s.heap.NoLimit:=e0.mod.nolimit.keeps λb o e=>(e0.bs b o e).1;refine MW hr.depth wk wn S.co S.gen rfl oB ?_;rw[hb];refine Tk (wpAny_newFunctionEnv S.nocell (λy hy=>by rw[Om.mp hy];exact S.loc) (λh₁ lN zw=>⟨qR.fresh _ zw,?_⟩) S.kind);have wJ : ∀b o,s.heap.get? b=some o->h₁.get? b=some o:=λb o e=>zw.extBut b o (Os (Tx e)) (Tz _ e);have lD:∀b:ae,b∉(cxL P w K mg base (x::N') qual scope cl f (.ref c) A outer s H).ex:=λb z=>absurd (show b∈([]:List ae) from z) (by simp);have ck:∀(c:ae) (v:Option aa),s.heap.IsCell c v->h₁.IsCell c v:=λc v h=>by
  obtain⟨o,ho,hd⟩:=h;exact⟨o,wJ _ _ ho,hd⟩
 have I:Inv (cxL P w K mg base (x::N') qual scope cl f (.ref c) A outer s H) [] (some v :: τ) H {s with heap:=h₁,toks:=s.toks+[(x,u)].length}:=by
  refine⟨⟨e0.mod,S.kind,rfl,rfl,Oi _,C.inj,λy hy=>?_,λy c z _=>absurd z (by simp[cxL]),λ_=>hr.hd,av.frames_deeper e0.frames,.inr ⟨rfl,rfl⟩,λb z=>absurd z (lD b),e0.bs,e0.bsz,λb _ _=>lD b,λb z=>absurd z (lD b),e0.funs,e0.frf⟩,
   rfl,e0.bare,Un.kept wJ,⟨_,lN,λi y w' h1 h2 h3=>?_⟩,λy c h=>let ⟨v,z⟩:=(C.cell y c h).2; ⟨v,ck c v z⟩,e0.hok.fresh (Oi _),λy c h=>(C.cell y c h).1,λp hp=>absurd (show p∈([]:List (ae×aM)) from hp) (by simp),e0.hok.kept wJ,?_⟩
  ·have hy:scope.names.lookup y=some .cell\/scope.names.lookup y=some .free:=hy;rcases hy with hy | hy
   ·exact absurd rfl (S.nocell _ (PySem.mem_of_lookup hy))
   ·exact C.has y hy
  ·cases i with
   | zero=>
    cases h1;cases h2;refine⟨u,r,.inl ⟨S.loc,?_⟩⟩;simp
   | succ i=>
    obtain⟨hy,u',c',r',qb,dQ⟩:=C.val i y w' h1 h2;exact⟨u',r',.inr ⟨.inr hy,c',qb,ck _ _ dQ⟩⟩
  ·show τ.length+1=N'.length+1;rw[C.len]
 show bB _ _ (.expr body (ND qual scope s.heap.objs.size f (.ref c) cl)) _ _;refine MX (aJ (ht [] _ _ H _ I hq) (λu s' hs=>?_) λe s' hs=>hs.elim);obtain⟨v,H',J,rv,q⟩:=hs;exact⟨v,H',J.os,J.bare,J.base,J.hok,rv,q⟩
def Xo5 (T:ae) (q:ao) (params:cR) (body:aF) (scope:bI) (cl:List (ao×ae)) (pos:bN):TE:=λ_ H Q=>Au T pos q H /\
 ∀(f c:ae) (pm dH:aa) (H':Hp),H f=none->H' f=some (.ext (Dm f (MD "<lambda>" q params body scope cl pm (.ref c) dH)))->H' c=some (.ext (Dl c q))->Au T pos q H'->(∀b o,H b=some o->b≠T->H' b=some o)->Q (.ref f) H'
section
variable {X:Cx}{T c0:ae}{params:cR}{body:aF}{scope:bI}{pos:bN}{q:ao}{cl:List (ao×ae)}
def Xo6(jF:BmOk X.mg X.base)(oC:DF params X.env=([],[]))(fM:X.Ok->gt scope X.env=pure cl)(gE:X.env.code = .ref c0)(hhd:MH X.K c0 T=true)(hq:X.env.qual ++ "<lambda>" = q):
  PE X (.Lambda params body scope pos) (Xo5 T q params body scope cl pos):=by
 intro pins s Z H Q I h;have fM:=fM I.ok;obtain⟨tab,k⟩:=h;obtain⟨bm,ob,b1,b2,b3,b4,b5,b6⟩:=jF;have hg:s.heap.Ns aq X.mg:=I.mod.glob.keeps I.bk;have C:NO s.heap c0 T:=MP I.kIn hhd;have nb:bm≠T:=λz=>by
  have n:=(I.bs bm ob b3).2;rw[z] at n;rcases tab with e | ⟨c,e,_⟩<;>(rw[e] at n;cases n)
 have wo:bm≠aq:=λz=>by
  obtain⟨o,es,ep,e,hd,_⟩:=I.mod.glob;rw[z,e] at b3;cases b3;rw[hd] at b6;cases b6
 have hB:s.heap.BuiltinsAt X.mg T:=⟨bm,ob,b1,b2,wo,nb,I.bk _ _ b3,b4,b5,b6⟩;refine NJ oC ?_;rw[hq];rcases tab with e | ⟨c,e,ec⟩
 ·have hP:s.heap.get? T=some (MK #[]):=I.hok T _ e;have wq:aq≠T:=λz=>by
   obtain⟨o,es,ep,e2,hd,_⟩:=hg;rw[z,hP] at e2;cases e2;cases hd
  refine MQ (mg:=X.mg) (clos:=cl) fM I.ok.glob hg gE C hP trivial rfl wq hB λc' dH h' tk hx lr bf kJ se=>?_;have J:=Xe5 (tk:=tk) (o:=NL "<lambda>" q params body scope cl ((X.mg "__name__").getD .none) c' dH) I e hx lr bf kJ se rfl rfl;have mw:∀b o,H b=some o->b<c':=λb o eb=>O7 (I.hok.lt eb) lr;have wt:c'≠T:=(Os (mw _ _ e)).symm;have sh:c'≠h'.objs.size:=Os bf;have wu:T≠h'.objs.size:=Os (Qv (mw _ _ e) bf);refine⟨.ref h'.objs.size,_,J,rfl,k _ c' _ dH _ (I.hok.fresh (Ru (R4 lr bf))) Ab (by rw[Ad sh,Ab]) (.inr ⟨c',by rw[Ad wu,Ad wt.symm,Ab],by rw[Ad sh,Ab]⟩) λb o eb nb=>?_⟩;rw[Ad (Os (Qv (mw _ _ eb) bf)),Ad (Os (mw _ _ eb)),Ad nb];exact eb
 ·have hP:s.heap.get? T=some (MK #[aU pos.line,aU pos.col,.ref c]):=I.hok T _ e;refine MN (mg:=X.mg) (clos:=cl) (cv:=.ref c) fM I.ok.glob hg gE C hP trivial (by simp[KH,aU]) hB λdH h' tk hk hsz=>?_;have J:=Xe4 (tk:=tk) (fd:=MD "<lambda>" q params body scope cl ((X.mg "__name__").getD .none) (.ref c) dH) (o:={cls:=.type "function",data:=.func (MD "<lambda>" q params body scope cl ((X.mg "__name__").getD .none) (.ref c) dH)}) I hk hsz rfl rfl;have nf:∀b o,H b=some o->b≠h'.objs.size:=λb o eb=>Os (O7 (I.hok.lt eb) hsz);refine⟨.ref h'.objs.size,_,J,rfl,k _ c _ dH _ (I.hok.fresh hsz) Ab (by rw[Ad (nf _ _ ec)];exact ec) (.inr ⟨c,by rw[Ad (nf _ _ e)];exact e,by rw[Ad (nf _ _ ec)];exact ec⟩) λb o eb _=>?_⟩;rw[Ad (nf b o eb)];exact eb
end
def Kx (X:Cx) (Z:L2.St) (f:ae) (H:Hp) (ps:List ae) (ks:List Nat):Prop:=
 ∀(pins:List (ae×aM)) (s1:af) (H1:Hp) (i:Nat),i<ps.length->Same H H1->Inv X pins Z H1 s1 ->
  ai (ah X.prog X.w) X.A.in1.in1 (call (.ref f) [.ref (ps.getD i 0)]) (λu s'=>∃t H2,u = .int (ks.getD i 0:Nat) t/\Inv X pins Z H2 s'/\Same H1 H2) (λ_ _=>False) s1
def Ev (ks:List Nat) (ps out:List ae):Prop:=∃qs:List (Nat×ae),qs.Perm (ks.zip ps)/\out=qs.map (·.2)/\qs.Pairwise λa b=>a.1<=b.1
def Ev.len{ks:List Nat}{ps out:List ae}(h:Ev ks ps out)(e:ks.length=ps.length):out.length=ps.length:=by
 obtain⟨qs,p,rfl,_⟩:=h;rw[Oh,p.length_eq,Ss,e,Tg]
def Ky:aa->ae
 | .ref a=>a
 | _=>0
def Xo7{ks:List Nat}{ps:List ae}{out:List aa}(h:KskOut false (ks.map λ(n:Nat)=>(n:Int)) (ps.map aa.ref) out):∃o,out=o.map aa.ref/\Ev ks ps o:=by
 obtain⟨qs,p,rfl,pw⟩:=h;have e0:(ks.map λ(n:Nat)=>(n:Int)).zip (ps.map aa.ref)=(ks.zip ps).map λq=>((q.1:Int),aa.ref q.2):=by
  rw[List.zip_map];rfl
 rw[e0] at p;refine⟨(qs.map λq=>(q.1.toNat,Ky q.2)).map (·.2),?_,qs.map λq=>(q.1.toNat,Ky q.2),?_,rfl,?_⟩
 ·rw[Pn,Pn];refine Pj λq hq=>?_;obtain⟨z,_,rfl⟩:=Pd.mp (p.mem_iff.mp hq);rfl
 ·have:=p.map λq=>(q.1.toNat,Ky q.2);rw[Pn] at this;refine this.trans (Sr ?_)
  conv=>rhs;rw[<-List.map_id (ks.zip ps)]
  refine Pj λq hq=>?_;simp[Ky]
 ·rw[Qz];refine pw.imp λ{a b} h=>?_;have h:a.1<=b.1:=by simpa using h
  show a.1.toNat<=b.1.toNat;omega
def Xo8{ks:List Nat}{aA:List aa}(h:cX aA (ks.map λ(n:Nat)=>(n:Int))){i:Nat}(hi:i<ks.length):∃t,aA.getD i aa.none = .int (ks.getD i 0:Nat) t:=by
 induction ks generalizing aA i with
 | nil=>cases hi
 | cons k ks ih=>
  cases h with
  | cons _ t r=>
   cases i with
   | zero=>exact⟨t,rfl⟩
   | succ i=>exact ih r (by simpa using hi)
section
variable {X:Cx}{pins:List (ae×aM)}{Z:L2.St}{H:Hp}{s:af}
def Xo9{ks:List Nat}{vs aA:List aa}{A:av}{E:Zb}{Q:Unit×aV->af->Prop}(hk:cX aA (ks.map λ(n:Nat)=>(n:Int)))(hl:ks.length=vs.length)(h2:2<=vs.length)(cz:vs.length<=64)
  (h:∀a8,bp a8=none->KskOut false (ks.map λ(n:Nat)=>(n:Int)) vs ((bi a8).map (·.2)).toList->Q ((),a8) s):
  ai (ah X.prog X.w) A (ja.run (aV.mk' kM (aA.toArray.zip vs.toArray) #[] 7 none)) Q E s:=by
 have hsz:aA.length=vs.length:=by rw[<-hl,hk.length,Oh]
 have kN:(aA.toArray.zip vs.toArray).size=vs.length:=by rw[Array.size_zip,Ol,Ol,hsz,Tg]
 by_cases e:vs.length<64
 ·refine aJ (wpS_sortRuns (a₀:=aA.toArray.zip vs.toArray) (st:=aV.mk' kM (aA.toArray.zip vs.toArray) #[] 7 none)
   (Q:=λ_ a8=>(bi a8).Perm (aA.toArray.zip vs.toArray)/\bp a8=none/\SortedTo (bi a8) (aA.toArray.zip vs.toArray).size)
   (ksk_intKeys (by simpa using hk)) ⟨So _,rfl,rfl,rfl⟩ (by rw[kN];omega) (by rw[kN];exact e) λa8 a1 a2 a3=>⟨a1,a2,a3⟩) ?_ λ_ _ e=>e
  rintro ⟨⟨⟩,a8⟩ s' ⟨rfl,hp,hf,hs⟩;refine h a8 hf ?_;have:=ksk_out (b:=false) (keys:=aA.toArray) (by simpa using hk) hp (by rw[hp.size_eq];exact hs);simpa using this
 ·have oM:vs.length=64:=by omega
  have ki:∀i,i<vs.length->∃t,aA.getD i aa.none = .int (ks.getD i 0:Nat) t:=λi hi=>Xo8 hk (by omega);refine aJ (Xfx (lt:=λi j=>decide (ks.getD i 0<ks.getD j 0)) (κ:=kM) (ks:=aA) (vs:=vs) (Q:=λa8 s'=>s'=s/\Q ((),a8) s) hsz oM ⟨λ{x y} h=>?_,λ{x y z} h g=>?_⟩ (λi j C hi hj hC=>?_) λp a8 g so ea hf=>⟨rfl,h a8 hf ?_⟩) (λr s' q=>by obtain⟨rfl,q⟩:=q;exact q) λ_ _ e=>e
  ·have:=Tv h;exact Tu (by omega)
  ·have h1:=Tw h;have h2:=Tw g;exact Tu (by omega)
  ·obtain⟨t1,e1⟩:=ki i hi;obtain⟨t2,e2⟩:=ki j hj;show ai _ _ (mi kM (aA.getD i aa.none) (aA.getD j aa.none)) C _ _;rw[e1,e2];refine PySem.W.kat_lt_int ?_;have:decide (((ks.getD i 0:Nat):Int)<((ks.getD j 0:Nat):Int))=decide (ks.getD i 0<ks.getD j 0):=by simp
   rw[this];exact hC
  ·have sz:=g.size;refine⟨p.toList.map λi=>(((ks.getD i 0:Nat):Int),vs.getD i aa.none),?_,?_,?_⟩
   ·have pm:p.toList.Perm (List.range vs.length):=by simpa using g.toList
    refine(pm.map λi=>(((ks.getD i 0:Nat):Int),vs.getD i aa.none)).trans (Sr ?_);refine Ra (by simp[hl]) λi h1 h2=>?_;have hi:i<vs.length:=by simpa using h1
    have eW:i<ks.length:=by omega
    simp[List.getD,hi,eW]
   ·rw[PySem.W.kat_snds hsz ea,Pn];simp
   ·rw[Qz,Qh];intro i j hi hj gF;rw[Oq,sz] at hi hj;have:=Tw (Fu (so i j gF hj));rw[show p.getD i 0=p.toList[i]'(by rw[Oq,sz];exact hi) by simp[Array.getD,sz,hi],show p.getD j 0=p.toList[j]'(by rw[Oq,sz];exact hj) by simp[Array.getD,sz,hj]] at this;show (if false=true then _ else _);rw[Tq Oy];show ((ks.getD _ 0:Nat):Int)<=((ks.getD _ 0:Nat):Int);omega
def Xpa{D kS:ae}{e1:Nat}{kz:List V}{ps:List ae}{ks:List Nat}{aA:List aa}{A:av}{E:Zb}{P:PySem.Fin->af->Prop}(I:Inv X ((D,ar "list" #[] e1)::pins) Z H s)(hD:X.s₀.heap.objs.size<=D)(gG:∀p∈X.pn++pins,p.1≠D)
  (hk:H kS=some (.lst kz)) (aN:ks.length=ps.length) (hi:cX aA (ks.map λ(n:Nat)=>(n:Int))) (cz:ps.length<=64)
  (h:∀(out:List ae) s',Ev ks ps out->Inv X pins Z (upd (upd H kS (.lst [])) D (.lst (out.map V.ref))) s'->P (.done (.ret .none)) s'):
  ai (ah X.prog X.w) A (ny D false (ps.map aa.ref).toArray e1 (.ref kS) aA.toArray) P E s:=by
 have hsz:(ps.map aa.ref).toArray.size=ps.length:=by simp
 have fX:aA.length=ps.length:=by rw[<-aN,hi.length,Oh]
 unfold ny
 try dsimp only
 simp only[Pf,if_false];by_cases h2:(ps.map aa.ref).toArray.size<2
 ·rw[Tr h2,Tr h2];refine Tj (Tk ?_);rw[StateT.run_pure];refine Tj (Tk ?_)
  try dsimp only
  have hz:(ks.zip ps).length<2:=by rw[Ss];omega
  refine Kv (st:=aV.mk' general' (aA.toArray.zip (ps.map aa.ref).toArray) #[] 7 none) (out:=ps) I hD gG hk ?_ rfl (by omega) λs' J=>h ps s' ⟨ks.zip ps,Qk _,?_,?_⟩ J
  ·show ((aA.toArray.zip (ps.map aa.ref).toArray).map (·.2))=_;apply Array.toList_inj.mp;simp only[Array.toList_map,List.zip_toArray];rw[Sj (by simp[fX])]
  ·rw[Sj (by omega)]
  ·rw[Qh];intro i j dQ fj gF;omega
 ·rw[Tq h2,Tq h2,ksk_kind (kz:=ks.map λ(n:Nat)=>(n:Int)) (by simpa using hi) (by rw[Ol];omega)];refine Tj (Tk ?_);refine Tj (Xo9 hi (by simpa using aN) (by simpa using h2) (by simpa using cz) λa8 hf ko=>?_)
  try dsimp only
  obtain⟨o,e,oN⟩:=Xo7 ko;refine Kv (out:=o) I hD gG hk (Array.toList_inj.mp (by rw[e])) hf (by rw[oN.len aN];exact cz) λs' J=>h o s' oN J
def Xpb{ks:List Nat}{aA:List aa}(hl:aA.length=ks.length)(h:∀i,i<ks.length->∃t,aA[i]? = some (.int (ks.getD i 0:Nat) t)):cX aA (ks.map λ(n:Nat)=>(n:Int)):=by
 induction ks generalizing aA with
 | nil=>cases aA with
  | nil=>exact .nil
  | cons _ _=>cases hl
 | cons k ks ih=>
  cases aA with
  | nil=>cases hl
  | cons v aA=>
   obtain⟨t,e⟩:=h 0 (by simp);cases e;exact .cons k t (ih (by simpa using hl) λi hi=>by simpa using h (i+1) (by simpa using hi))
def Xpc{D kS f:ae}{e1:Nat}{ps:List ae}{ks:List Nat}{A:av}{E:Zb}{P:PySem.Fin->af->Prop}(hA:A=X.A.in1.in1)(I:Inv X ((D,ar "list" #[] e1)::pins) Z (upd H kS (.lst [])) s)(jw:H kS=none)(hD:X.s₀.heap.objs.size<=D)(gG:∀p∈X.pn++pins,p.1≠D)(jo:H D=none)
  (aN:ks.length=ps.length) (cz:ps.length<=64) (turn:Kx X Z f H ps ks)
  (h:∀(out:List ae) (H':Hp) s',Ev ks ps out->Same H H'->H' D=some (.lst (out.map V.ref))->Inv X pins Z H' s'->P (.done (.ret .none)) s'):
  ai (ah X.prog X.w) A (kL D (.ref f) false (ps.map aa.ref).toArray e1 (.ref kS)) P E s:=by
 subst hA;unfold kL;refine Tj (aR ?_)
 first
  | rw[List.forIn_toArray]
  | (rw[<-Rf];simp only[List.toList_toArray])
  | rw[<-Rf]
 refine Tj (ksk_fold (λi s'=>∃(H':Hp) (zs:List V),Inv X ((D,ar "list" #[] e1)::pins) Z H' s'/\Same H H'/\H' kS=some (.lst zs)/\zs=(ks.take i).map λ(n:Nat)=>V.int n) (ps.map aa.ref) 0 s
  ⟨_,[],I,Same.upd0 jw,Ab,rfl⟩ ?step ?done)
 case step=>
  rintro j x s' hx ⟨H',zs,J,sm,hk,kN⟩;simp only[Qi] at kN ⊢;obtain⟨hj,ex⟩:=O6.mp hx;rw[Oh] at hj;have tZ:x = .ref (ps.getD j 0):=by rw[<-ex];simp[List.getD,hj]
  subst tZ;have jm:zs.length=j:=by rw[kN,Oh,O3];omega
  have ek:ks.take (j+1)=ks.take j++[ks.getD j 0]:=by
   rw[List.take_add_one,List.getD,Oj (by omega)];rfl
  refine Tj (bP (aJ (turn _ s' H' j hj sm J) (λv lC he=>?_) λ_ _ hF=>hF.elim));obtain⟨t,H2,rfl,J2,qw⟩:=he
  try dsimp only
  have qx:=qw _ _ hk;obtain⟨z,aA,n,r,hl,e⟩:=J2.lstM qx;refine Tj (b9 e rfl ?_ (by rw[Ol,<-hl];exact z) (by rw[Array.size_push,Ol,<-hl,jm,Tp];omega));refine Tk ⟨rfl,_,zs++[.int (ks.getD j 0:Nat)],J2.lset (ys:=zs++[.int (ks.getD j 0:Nat)]) (its':=aA++[.int (ks.getD j 0:Nat) t]) (t':=lC.toks) qx e (by simp) (r.append (.cons (show Aj (.int (ks.getD j 0:Nat)) (.int (ks.getD j 0:Nat) t) from ⟨t,rfl⟩) .nil)) (by rw[Oo,Pp,jm,Tp];omega),(sm.trans qw).upd jw,Ab,by rw[ek,Ow,<-kN];rfl⟩
 case done=>
  rintro s' ⟨H',zs,J,sm,hk,kN⟩;simp only[Qi,Oh] at kN;rw[Ph (by omega)] at kN
  try dsimp only
  obtain⟨z,aA,n,r,hl,e⟩:=J.lstM hk;refine Tj (dg e rfl ?_);refine Xpa (kz:=zs) J hD gG hk aN (Xpb (by rw[<-hl,kN,Oh]) λi hi=>?_) cz λp s2 oN J2=>h p _ s2 oN ((sm.upd jw).upd jo) Ab J2;obtain⟨u,wG,nA⟩:=r.get (i:=i) (x:=V.int (ks.getD i 0:Nat)) (by rw[kN,O2,Oj hi];simp[List.getD,hi]);obtain⟨t,rfl⟩:=nA;exact⟨t,wG⟩
def Xpd{l f:ae}{ps:List ae}{ks:List Nat}{Q:VK}(I:Inv X pins Z H s)(hl:H l=some (.lst (ps.map V.ref)))(aN:ks.length=ps.length)(cz:ps.length<=64)(turn:Kx X Z f H ps ks)
  (h:∀(D:ae) (out:List ae) (H':Hp),H D=none->Ev ks ps out->Same H H'->H' D=some (.lst (out.map V.ref))->Q (.ref D) H'):
  ai (ah X.prog X.w) X.A (call (.builtin "sorted") [.ref l] [(ao.ofString "key",.ref f)]) (EP X pins Z Q) X.xe s:=by
 obtain⟨aA,rv,pl,hz⟩:=I.list (SqL.of hl);have kF:aA=ps.map aa.ref:=by
  clear cz turn h pl hl hz aN
  induction ps generalizing aA with
  | nil=>cases rv;rfl
  | cons p t ih=>
   cases rv with
   | cons r t'=>cases r;rw[ih _ t'];rfl
 subst kF;refine jx fG eZ fc (ksk_s1 _ _) ?_;unfold ak.«sorted»;refine Tj (m:=gC "sorted" 1 1 _) (Tk ?_);refine Tj (jp pl.isList ?_ (by rw[Oh,Tp];omega));refine Tj (bQ ?_ (by rw[Oh,Tp];omega));generalize sC:ps.map aa.ref=vs at *;have jD:vs.length=ps.length:=by rw[<-sC,Oh]
 have hsz:((s.heap.push (ar "list" #[] 0)).update s.heap.objs.size (aM.mapSeq (· ++ vs.toArray))).objs.size=s.heap.objs.size+1:=by
  rw[am.size_update,bz]
 have iP:(((s.heap.push (ar "list" #[] 0)).update s.heap.objs.size (aM.mapSeq (· ++ vs.toArray))).push (ar "list" vs.toArray 0)).get? (s.heap.objs.size+1)=some (ar "list" vs.toArray 0):=by
  rw[<-hsz];exact am.get?_push_size _ rfl
 have keep:∀b o,s.heap.get? b=some o->(((s.heap.push (ar "list" #[] 0)).update s.heap.objs.size (aM.mapSeq (· ++ vs.toArray))).push (ar "list" vs.toArray 0)).get? b=some o:=λb o q=>by
  have bf:b<s.heap.objs.size:=Tx q;rw[am.get?_push_ne _ _ _ (by rw[hsz];exact Os (Py bf)),am.get?_update_ne _ _ _ _ (Os bf),am.get?_push_ne _ _ _ (Os bf)];exact q
 have oO:(((s.heap.push (ar "list" #[] 0)).update s.heap.objs.size (aM.mapSeq (· ++ vs.toArray))).push (ar "list" vs.toArray 0)).objs.size=s.heap.objs.size+2:=by
  rw[bz,hsz]
 show ai _ _ _ _ _ {s with heap:=((s.heap.push (ar "list" #[] 0)).update s.heap.objs.size (aM.mapSeq (· ++ vs.toArray))).push (ar "list" vs.toArray 0)};rw[hsz];generalize DU:((s.heap.push (ar "list" #[] 0)).update s.heap.objs.size (aM.mapSeq (· ++ vs.toArray))).push (ar "list" vs.toArray 0)=hA at *;refine Tj (a7 (l5 dG ⟨_,iP,rfl⟩ du ?body (ksk_l1 _ _)))
 case body=>
  show ai (ah X.prog X.w) X.A.in1.in1 (ak.«list.sort» ⟨[.ref (s.heap.objs.size+1)],[(ao.ofString "key",.ref f)]⟩) _ _ _;rw[ksk_t1];unfold ksk_tree;refine Tj (dg iP rfl ?_);refine Tj (b9 iP rfl ?_ (by rw[Ol,jD,Tp];omega) (Pi _));obtain⟨e1,gc⟩:∃e1,(hA.update (s.heap.objs.size+1) (aM.mapSeq λ_=>(#[]:Array aa))).get? (s.heap.objs.size+1)=some (ar "list" #[] e1):=⟨_,dw iP λ_ => #[]⟩;refine Tj (cN gc rfl ?_);refine Tj (dE ?_ (by show vs.length<=_;rw[jD,Tp];omega));refine Tj (bQ ?_ (Pi _));refine a7 ?_;have jw:((hA.update (s.heap.objs.size+1) (aM.mapSeq λ_=>(#[]:Array aa))).push (ar "tuple" vs.toArray 0)).objs.size=s.heap.objs.size+3:=by rw[bz,am.size_update,oO]
  have k6:∀b o,s.heap.get? b=some o->(((hA.update (s.heap.objs.size+1) (aM.mapSeq λ_=>(#[]:Array aa))).push (ar "tuple" vs.toArray 0)).push (ar "list" #[] 0)).get? b=some o:=λb o e=>by
   refine Tz _ (Tz _ ?_);rw[am.get?_update_ne _ _ _ _ (Os (Py (Tx e)))];exact keep b o e
  have mZ:(((hA.update (s.heap.objs.size+1) (aM.mapSeq λ_=>(#[]:Array aa))).push (ar "tuple" vs.toArray 0)).push (ar "list" #[] 0)).get? (s.heap.objs.size+1)=some (ar "list" #[] e1):=Tz _ (Tz _ gc);have wH:(((hA.update (s.heap.objs.size+1) (aM.mapSeq λ_=>(#[]:Array aa))).push (ar "tuple" vs.toArray 0)).push (ar "list" #[] 0)).get? (s.heap.objs.size+3)=some (ar "list" #[] 0):=by rw[<-jw];exact am.get?_push_size _ rfl
  have J0:Inv X pins Z (upd H (s.heap.objs.size+3) (.lst [])) {s with heap:=((hA.update (s.heap.objs.size+1) (aM.mapSeq λ_=>(#[]:Array aa))).push (ar "tuple" vs.toArray 0)).push (ar "list" #[] 0)}:=
   I.laid (t':=s.toks) (o:=.lst []) k6 (by omega) ⟨by decide,[],0,.nil,wH⟩
  have jo:H (s.heap.objs.size+1)=none:=I.hok.fresh (Ql _);have gG:∀p∈X.pn++pins,p.1≠s.heap.objs.size+1:=λp hp=>Os (Py (Tx (I.pin p hp).1));have J1:Inv X ((s.heap.objs.size+1,ar "list" #[] e1)::pins) Z (upd H (s.heap.objs.size+3) (.lst [])) {s with heap:=((hA.update (s.heap.objs.size+1) (aM.mapSeq λ_=>(#[]:Array aa))).push (ar "tuple" vs.toArray 0)).push (ar "list" #[] 0)}:=by
   refine J0.pins_of λp hp=>?_;rcases Ox.mp hp with rfl | hp
   ·exact⟨mZ,by rw[Ad (by show s.heap.objs.size+1≠s.heap.objs.size+3;omega)];exact jo,Si (Py I.lt),I.nofs (Ql _),λv q=>by cases q⟩
   ·exact J0.pin p (Pc _ hp)
  rw[jw];subst sC;refine Xpc (f:=f) rfl J1 (I.hok.fresh (by omega)) (Pm I.sz (Ql _)) gG jo aN cz turn λp H' s' oN sm eF J=>⟨_,rfl,?_⟩;exact Tk ⟨_,rfl,⟨.ref (s.heap.objs.size+1),H',J,rfl,h _ p H' jo oN sm eF⟩⟩
end
section
variable {X:Cx}
def Xpe (X:Cx) (ta tk:TA):TE:=fun Z H Q=>ta Z H λvs H1=>tk Z H1 λzs H2=>∃(l f:ae) (ps:List ae) (ks:List Nat),vs=[.ref l]/\zs=[.ref f]/\H2 l=some (.lst (ps.map V.ref))/\ks.length=ps.length/\ps.length<=64/\Kx X Z f H2 ps ks /\
 ∀(D:ae) (out:List ae) (H':Hp),H2 D=none->Ev ks ps out->Same H2 H'->H' D=some (.lst (out.map V.ref))->Q (.ref D) H'
def Xpf{x:ao}{p pos:bN}{e:aF}{es:List aF}{gY:List cW}{ta tk:TA}(hg:Gl X x)(hm:X.mg x=none)(hv:bF x=some (.builtin "sorted"))(ha:PA X (e::es) ta)(wI:PK X gY tk)
  (jG:(ca pos (bu gY X.env)).filterMap (·.1)=[ao.ofString "key"]:=by rfl)
  (hn:x ≠ "__name__" := by decide) (gl:(x==("__debug__" : ao))=false:=by decide)
  (he:bC pos (aB (e::es) X.env)=(false,eval e X.env)::bC pos (aB es X.env):=by rfl)
  (eO:(bC pos (aB (e::es) X.env)).any (·.1)=false:=by rfl)
  (bY:(ca pos (bu gY X.env)).all (·.1.isSome)=true:=by rfl)
  (eC:(ca pos (bu gY X.env)).any (·.1.isNone)=false:=by rfl):PE X (.Call (.Name x p) (e::es) gY pos) (Xpe X ta tk):=by
 intro pins s Z H Q I h;refine bH (Ey I hg hm hv ?_ hn gl);refine zu (thn (ha pos pins s Z H _ I h) λus s1 ⟨vs,H1,I1,r1,q1⟩=>thn (wI pos pins s1 Z H1 _ I1 q1) λws s2 ⟨zs,H2,I2,r2,q2⟩=>?_) he eO bY eC;rw[jG];obtain⟨l,f,ps,ks,rfl,rfl,hl,aN,cz,turn,k⟩:=q2;obtain⟨u,rfl,rx⟩:=Bq r1;obtain⟨v,rfl,rf⟩:=Bq r2;cases rx;cases rf;exact Xpd I2 hl aN cz turn k
def Xpg{k j:Nat}{Z:L2.St}{f c cg:ae}{x y qual:ao}{vg:V}{params:cR}{body:aF}{scope:bI}{pm dH:aa}{H:Hp}{ps:List ae}{ks:List Nat}(hf:H f=some (.ext (Dm f (MD "<lambda>" qual params body scope [(y,cg)] pm (.ref c) dH))))(hc:H c=some (.ext (Dl c qual)))
  (S:LamScope x scope) (iO:∀q∈scope.names,q.2 = .free->q.1=y) (DW:scope.names.lookup y=some .free) (hN:X.N[j]? = some y) (hZ : Z[j]? = some (some vg)) (DX:X.env.kindOf y=some .cell) (wK:Vis X.env.scope y) (zx:X.env.cells.lookup y=some cg) (hr:Room (k+3) X.A) (hb:∀u,cQ (MD "<lambda>" qual params body scope [(y,cg)] pm (.ref c) dH) ⟨[u],[]⟩=pure [(x,u)])
  (fr:∀(A:av) (outer:List dz) (s1:af) (H1:Hp) (i:Nat),i<ps.length->Same H H1->Room k (A.deeper (ND qual scope s1.heap.objs.size f (.ref c) [(y,cg)]))->∃t,PE (cxL X.prog X.w X.K X.mg X.base [x,y] qual scope [(y,cg)] f (.ref c) A outer s1 H1) body t /\
   ∀Q:VK,(∀H2,Same H1 H2->Q (.int (ks.getD i 0:Nat)) H2)->t [some (.ref (ps.getD i 0)),some vg] H1 Q):Kx X Z f H ps ks:=by
 intro pins s1 H1 i hi sm I;have cy:Room (k+1) X.A.in1.in1:=(Room.in1 (k:=k+2) hr).in1;obtain⟨t,ht,hq⟩:=fr X.A.in1.in1 X.stack s1 H1 i hi sm (cy.deeper _);obtain⟨m,lN,wL⟩:=I.loc;obtain⟨u,ru,lk⟩:=wL j y vg hN hZ wK;have lk:∃c,X.env.cells.lookup y=some c/\s1.heap.IsCell c (some u):=by
  rcases lk with ⟨z,_⟩ | ⟨_,z⟩
  ·rw[DX] at z;cases z
  ·exact z
 obtain⟨c',e',gk⟩:=lk;rw[zx] at e';cases e';have wM:∀z c',List.lookup z [(y,cg)]=some c'->z=y/\c'=cg:=λz c' e=>by
  rw[P0] at e;cases q:z==y with
  | true=>rw[q] at e;cases e;exact⟨by simpa using q,rfl⟩
  | false=>rw[q] at e;cases e
 have C:Caps [y] [some vg] scope [(y,cg)] H1 s1.heap:=by
  refine⟨λz hz=>⟨cg,by rw[show z=y from iO _ (PySem.mem_of_lookup hz) rfl];simp⟩,λz z' c' a b=>(wM _ _ a).1.trans (wM _ _ b).1.symm,λz c' a=>?_,λi z v a b=>?_,rfl⟩
  ·obtain⟨rfl,rfl⟩:=wM _ _ a;exact⟨I.freeC _ _ zx,_,gk⟩
  ·cases i with
   | zero=>cases a;cases b;exact⟨DW,u,cg,ru,by simp,gk⟩
   | succ i=>simp at a
 refine dZ (br (Xo4 (CX:=CX0) (E:=E0) (Q:=λv H2=>v = .int (ks.getD i 0:Nat)/\Same H1 H2) (sm _ _ hf) (sm _ _ hc) S cy I.env0.in1.in1 C (show Aj (.ref (ps.getD i 0)) (.ref (ps.getD i 0)) from rfl) (hb _) ht (hq _ λH2 b=>⟨rfl,b⟩)) λr s' jq=>?_);cases r with
 | error e=>exact jq.elim
 | ok fl=>
  cases fl with
  | next=>exact False.elim jq
  | brk=>exact False.elim jq
  | cont=>exact False.elim jq
  | ret u=>
   obtain⟨v,H2,J,rv,rfl,b⟩:=I.after jq;obtain⟨t,rfl⟩:=rv;exact⟨t,H2,rfl,J,b⟩
end
def Xph (tk tv:TE):TE:=fun Z H Q=>∀p,H p=none->tk Z (upd H p (.dT [])) λx H1=>tv Z H1 λy H2=>H2 p=some (.dT [])/\∃(b:ae) (k:List Key),x = .ref b/\H2 b=some (.tup (k.map kV))/\Q (.ref p) (upd H2 p (.dT [(k,y)]))
def one2 (F:V->V->Hp->Prop):List (V×V)->Hp->Prop
 | [(x,y)],H=>F x y H
 | _,_=>False
def Xpi{F:V->V->Hp->Prop}{ps:List (V×V)}{H:Hp}(h:one2 F ps H):∃x y,ps=[(x,y)]/\F x y H:=by
 cases ps with
 | nil=>exact h.elim
 | cons q r=>
  cases r with
  | nil=>exact⟨q.1,q.2,rfl,h⟩
  | cons _ _=>exact h.elim
def Xf9{X:Cx}{pos:bN}{k v:aF}{tk tv:TE}(hu:X.A.units+1<bD)(hk:PE X k tk)(hv:PE X v tv):PE X (.Dict [some k] [v] pos) (Xph tk tv):=by
 intro pins s Z H Q I q;have hn:=I.hok.fresh (Oi s.heap.objs.size);have I1:=I.laid (a:=s.heap.objs.size) (o:=.dT []) (h':=s.heap.push {cls:=.type "dict",data:=.dict #[]}) (t':=s.toks) (λ_ _ q=>Tz _ q) (Oi _) (Xbq s.heap I.big);refine wpAny_Dict_any rfl rfl (by simp) (by show 1<=15;decide) (thn ((Xik hk hv Xij) pins _ Z _ (one2 λx y H2=>H2 s.heap.objs.size=some (.dT [])/\∃(b:ae) (k:List Key),x = .ref b/\H2 b=some (.tup (k.map kV))/\Q (.ref s.heap.objs.size) (upd H2 s.heap.objs.size (.dT [(k,y)]))) I1 (q _ hn)) λws s2 h2=>?_);obtain⟨ps,H2,I2,cT,h2⟩:=h2;obtain⟨x,y,rfl,e,b,kk,rfl,eb,q2⟩:=Xpi h2;cases cT with
 | @cons p0 w0 KM KN hr ht=>
  cases ht;obtain⟨w1,w2⟩:=w0;obtain⟨r1,r2⟩:=hr;cases (show w1=aa.ref b from r1);obtain⟨z,hd,xs,cT,dd⟩:=Xbm I2.hok e;unfold storeAll;rw[R5];have hz:xs.length<=sizeLine:=by rw[<-Paired.length cT];exact z
  refine Tj (Tj (wpAny_dictSet_heap (hsz:=hz) (knd:=bU (Bb X.prog X.w)) (show X.A.units<bD by omega) (F4 I2.hok eb) dd λh' lK hs=>Tk ?_));dsimp only;rw[Sg];refine Tk ⟨.ref s.heap.objs.size,_,?_,rfl,q2⟩;obtain⟨q,es,ep,hq,h2,h3,h4,_,h5⟩:=lK;refine Jk I2 (by rw[e];exact True.intro) hs ⟨q,hq⟩ ⟨by show 1<=sizeLine;decide,hd,_,(cT.put kk eb r2).keeps λc ys ec=>?_,q,es,ep,hq,h2,h3,h4,h5⟩;rw[Ad (K7 ec e (λz=>nomatch z))];exact ec
section
variable {X:Cx}
def Xpj(hc:X.calm=true):Bu X (.builtin "sum") (λxs H Q=>∃(a:ae) (ns:List Int),xs=[.ref a]/\H a=some (.lst (ns.map V.int))/\Q (.int ns.sum) H):=by
 intro pins s Z H xs us Q I r h;obtain⟨a,ns,rfl,ha,q⟩:=h;obtain⟨u,rfl,ru⟩:=Bq r;cases ru;obtain⟨aA,rv,p,hz⟩:=I.list (SqL.of ha);obtain⟨ps,rfl,e⟩:=Xnj rv;have DY:s.heap.IsList a (sE ps.toArray):=by
  have:sE ps.toArray=(ps.map λp=>aa.int p.1 p.2).toArray:=by unfold sE;rw[List.map_toArray]
  rw[this];exact p.isList
 refine sum_intListG (I.ok.hd hc) DY λh' tk t' k=>⟨.int ns.sum,H,I.kept k,⟨t',?_⟩,q⟩;have bS:ps.length=ns.length:=by rw[<-e,Oh]
 have:rZ (nh ps.toArray) ps.toArray.size=ns.sum:=by
  rw[Ol,Xe2 ps _ (Oi _),e,Ph (by omega)]
 rw[this]
end
end L2
namespace SH
open L2
def Xpk{A B:List (Za)}(ha:A.Nodup)(hb:B.Nodup)(h:∀S,S∈A↔S∈B):A.length=B.length:=by
 have key:∀{A B:List (Za)},A.Nodup->(∀S∈A,S∈B)->A.length<=B.length:=by
  intro A
  induction A with
  | nil=>intro B _ _;exact Pi _
  | cons a A ih=>
   intro B nd hs;obtain⟨l1,l2,rfl⟩:=List.append_of_mem (hs a Ov);rw[Pu] at nd;have:=ih (B:=l1++l2) nd.2 λS hS=>by
    have:=hs S (Op _ hS);rcases Ou.mp this with z | z
    ·exact Ou.mpr (.inl z)
    ·rcases Ox.mp z with z | z
     ·rw[z] at hS;exact absurd hS nd.1
     ·exact Ou.mpr (.inr z)
   rw[Oo] at this ⊢;rw[O5,O5];omega
 exact Nat.le_antisymm (key ha λS hS=>(h S).mp hS) (key hb λS hS=>(h S).mpr hS)
def N4(a:Za):Ah a a=[]:=by
 rw[List.eq_nil_iff_forall_not_mem];intro x hx;rcases Dx.mp hx with h | h<;>exact h.2 h.1
def Kz{a b:Za}(ha:a.Pairwise ltS)(hb:b.Pairwise ltS)(h:Ah a b=[]):a=b:=by
 refine lt_uniq ha hb λy=>?_;have n:y∉Ah a b:=by rw[h];exact List.not_mem_nil
 rw[Dx] at n;by_cases h1:y∈a<;>by_cases h2:y∈b<;>simp[h1,h2] at n ⊢
def K0{S G:Za}{x:ao}(hS:S.Nodup)(hG:G.Nodup)(hx:x∈Ah S G):Ah (Am S x) G=(Ah S G).erase x:=by
 have nd:=Bj (Fs hS hG);refine lt_uniq (Fs (Bj (Ih x hS)) hG) ((Fs hS hG).sublist List.erase_sublist) λy=>?_;rw[nd.mem_erase_iff,Dx,Dx,Nq];rw[Dx] at hx;by_cases e:y=x
 ·subst e;by_cases h1:y∈S<;>by_cases h2:y∈G<;>simp[h1,h2] at hx ⊢
 ·simp[e]
def Gv{S G:Za}{x:ao}(hS:S.Nodup)(hG:G.Nodup)(hx:x∈Ah S G):(Ah (Am S x) G).length+1=(Ah S G).length:=by
 rw[K0 hS hG hx,R1 hx];have:=Sc hx;omega
def wyN (pl:Za->Bool) (G:Za):Nat->Za->Nat
 | 0,_=>1
 | n+1,S=>((Ah S G).map λx=>if pl (Am S x)=true then wyN pl G n (Am S x) else 0).sum
def wy (pl:Za->Bool) (G S:Za):Nat:=wyN pl G (Ah S G).length S
def K1(pl:Za->Bool)(G:Za):wy pl G G=1:=by
 unfold wy;rw[N4];rfl
def N5{pl:Za->Bool}{G S:Za}(hS:S.Pairwise ltS)(hG:G.Pairwise ltS)(n:S≠G):wy pl G S=((Ah S G).map λx=>if pl (Am S x)=true then wy pl G (Am S x) else 0).sum:=by
 have hp:0<(Ah S G).length:=by
  rcases Nat.eq_zero_or_pos (Ah S G).length with z | z
  ·exact absurd (Kz hS hG (Px.mp z)) n
  ·exact z
 conv=>lhs;unfold wy
 obtain⟨m,hm⟩:∃m,(Ah S G).length=m+1:=⟨(Ah S G).length - 1,by omega⟩;rw[hm];unfold wyN;congr 1;refine Pj λx hx=>?_;have:=Gv (Bj hS) (Bj hG) hx;unfold wy;rw[show (Ah (Am S x) G).length=m by omega]
theorem N6{α : Type}(f : α->Nat):∀l:List α,(l.map λx=>((f x:Nat):Int)).sum=((l.map f).sum:Nat)
 | []=>rfl
 | x::l=>by rw[O0,Ps,O0,Ps,N6 f l];simp
def wyI (row G S:Za):Int:=(wy (Ae row) G S:Nat)
def Xpl{row:Za}{Ts:List (Za)}(h2:∀y∈row,row.count y=2)(h3:Bk row)(hl:(dit row).length<=14)(nd:Ts.Nodup)(h:∀S,S∈Ts↔Ae row S=true):Ts.length<=64:=by
 have e:Ts.length=([]::cands row).length:=Xpk nd (Xf3 h2) λS=>(h S).trans (N2 h2 h3 S).symm;have m:=mantel (R:=λx y=>decide (A2 row x y)) (dit row).length (dit row) rfl (F9 row) (λx hx=>Tu (Ee (h2 x (Ao.mp hx))))
  (λx hx y hy=>by
   by_cases c:A2 row x y
   ·rw[Tt c,Tt (C8 (h2 x (Ao.mp hx)) (h2 y (Ao.mp hy)) c)]
   ·rw[Tu c,Tu λq=>c (C8 (h2 y (Ao.mp hy)) (h2 x (Ao.mp hx)) q)])
  (λx hx y hy z hz a b=>Tu (h3 x (Ao.mp hx) y (Ao.mp hy) z (Ao.mp hz) (Tv a) (Tv b)))
 rw[<-Xd2 h2] at m;have:(dit row).length * (dit row).length<=14 * 14:=S5 hl hl;unfold cands at e;rw[O5,Oo,Oh,Oh] at e;omega
def Xga:V->ao
 | .str x=>x
 | _=>ao.empty
def Ew (H:Hp) (a:ae):Za:=match H a with
 | some (.tup xs)=>xs.map Xga
 | _=>[]
def Xgb{H:Hp}{a:ae}{S:Za}(h:H a=some (.tup (S.map V.str))):Ew H a=S:=by
 unfold Ew;rw[h];show (S.map V.str).map Xga=S;rw[Pn]
 conv=>rhs;rw[<-List.map_id S]
 rfl
def Xpm{H:Hp}{ps out:List ae}{Ts:List (Za)}(t:Tups H ps Ts)(f:Za->Nat)(h:Ev (Ts.map f) ps out):∃Us,Tups H out Us/\Us.Perm Ts/\Us.Pairwise λa b=>f a<=f b:=by
 obtain⟨qs,pm,rfl,pw⟩:=h;have iG:∀q∈qs,∃i,i<ps.length/\q=(f (Ts.getD i []),ps.getD i 0):=λq hq=>by
  obtain⟨i,hi,e⟩:=P3.mp (pm.mem_iff.mp hq);rw[Ss,Oh] at hi;refine⟨i,by omega,?_⟩;rw[<-e,List.getElem_zip,Qd];have h1:i<Ts.length:=by omega
  have h2:i<ps.length:=by omega
  simp[List.getD,h1,h2]
 have ig:∀q∈qs,H q.2=some (.tup ((Ew H q.2).map V.str))/\q.1=f (Ew H q.2):=λq hq=>by
  obtain⟨i,hi,rfl⟩:=iG q hq;have:=t.2 i hi;rw[Xgb this];exact⟨this,rfl⟩
 refine⟨qs.map λq=>Ew H q.2,⟨by rw[Oh,Oh],λi hi=>?_⟩,?_,?_⟩
 ·rw[Oh] at hi;have e1:(qs.map (·.2)).getD i 0=(qs[i]).2:=by simp[List.getD,hi]
  have e2:(qs.map λq=>Ew H q.2).getD i []=Ew H (qs[i]).2:=by simp[List.getD,hi]
  rw[e1,e2];exact(ig _ (Pk hi)).1
 ·have p1:=pm.map λq=>Ew H q.2;refine p1.trans (Sr ?_);refine Ra (by rw[Oh,Ss,Oh,t.1,Tg]) λi h1 h2=>?_;rw[Qd,List.getElem_zip];have h3:i<ps.length:=by rw[t.1];exact h2
  have:=t.2 i h3;have e1:ps.getD i 0=ps[i]:=by simp[List.getD,h3]
  have e2:Ts.getD i []=Ts[i]:=by simp[List.getD,h2]
  rw[e1,e2] at this;exact Xgb this
 ·rw[Qz];have DZ:qs.Pairwise λa b=>a∈qs/\b∈qs/\a.1<=b.1:=by
   rw[Qh] at pw ⊢;exact λi j hi hj gF=>⟨Pk hi,Pk hj,pw i j hi hj gF⟩
  refine DZ.imp λ{a b} ⟨ha,hb,fg⟩=>?_;rw[(ig a ha).2,(ig b hb).2] at fg;exact fg
def Au.but'{T d:ae}{pos:bN}{q:ao}{H H':Hp}{o:HO}(h:Au T pos q H)(hd:H d=some o)(n1:∀z,o ≠ .tbl z)(n2:∀z,o ≠ .ext z)(b:But d H H'):Au T pos q H':=by
 rcases h with e | ⟨c,e,ec⟩
 ·exact .inl (b _ _ e λz=>by rw[z,hd] at e;cases e;exact n1 _ rfl)
 ·exact .inr ⟨c,b _ _ e (λz=>by rw[z,hd] at e;cases e;exact n1 _ rfl),b _ _ ec λz=>by rw[z,hd] at ec;cases ec;exact n2 _ rfl⟩
def Au.butT2{T T':ae}{pos ij:bN}{q q':ao}{H H':Hp}(h:Au T pos q H)(t:Au T' ij q' H)(n:T≠T')(b:But T' H H'):Au T pos q H':=by
 have k:∀{c:ae} {z:am->Prop},H c=some (.ext z)->c≠T':=λe=>Au.ne t e λz=>by simp
 rcases h with e | ⟨c,e,ec⟩
 ·exact .inl (b _ _ e n)
 ·exact .inr ⟨c,b _ _ e n,b _ _ ec (k ec)⟩
abbrev qWy:ao:=(ao.ofString "ways_to" ++ ao.ofString ".<locals>.")++ao.ofString "<lambda>"
def lamPosW (s:aP):bN:=match Co s with
 | [_,.For _ (.Call _ _ [⟨_,.Lambda _ _ _ p,_⟩] _) _ _ _,_]=>p
 | _=>⟨0,0,0,0⟩
structure Tab2 (T T2:ae) (p1 p2:bN) (H:Hp):Prop where
 a:Au T p1 qIn H
 b:Au T2 p2 qWy H
 n:T≠T2
def Tab2.same{T T2:ae}{p1 p2:bN}{H H':Hp}(h:Tab2 T T2 p1 p2 H)(s:Same H H'):Tab2 T T2 p1 p2 H':=⟨SH.Au.same h.a s,SH.Au.same h.b s,h.n⟩
def But3 (T T2:ae) (H H':Hp):Prop:=∀b o,H b=some o->b≠T->b≠T2->H' b=some o
def Xgc (T T2:ae) (p1 p2:bN):Sp:=λvs H Q _=>∃(r g:ae) (row G:Za),vs=[.ref r,.ref g]/\H r=some (.lst (row.map V.str))/\Row2 row/\Bk row/\(dit row).length<=14/\Tab2 T T2 p1 p2 H/\H g=some (.tup (G.map V.str))/\Ae row G=true /\
 ∀(d:ae) (Us:List (Za)) (H':Hp),H d=none->H' d=some (.dT (kvT Us (wyI row G)))->(∀S,S∈Us↔Ae row S=true)->Tab2 T T2 p1 p2 H'->But3 T T2 H H'->Q (.ref d) H'
abbrev Xgd:Za:=["row", "goal", "many", "plot"]
abbrev Xge:Za:=["name", "many", "plot"]
def Xpn{Us:List (Za)}{f:Za->Int}{S:Za}(h:S∉Us):Bf (kvT Us f) (kOf S) (.int (f S))=kvT (Us++[S]) f:=by
 rw[F2 _ (by rw[Eg,Tq h])];unfold kvT;rw[Ow];rfl
def Tab2.but3{T T2:ae}{p1 p2:bN}{H H':Hp}(h:Tab2 T T2 p1 p2 H)(b:But3 T T2 H H'){c:ae}{o:HO}(e:H c=some o)(n:∀z,o ≠ .tbl z):H' c=some o:=b _ _ e (Au.ne h.a e n) (Au.ne h.b e n)
def N7 (C T T2:ae) (p1 p2:bN):Sp:=λvs H Q E=>∃(r p q:ae) (row a b:Za),vs=[.ref r,.ref p,.ref q]/\Two H r p q row a b/\Bk row/\(dit row).length<=14/\Tab2 T T2 p1 p2 H /\
 (Ae row a=true->Ae row b=true->∀H',Tab2 T T2 p1 p2 H'->But3 T T2 H H'->Q (.int (wyI row b a)) H')/\((Ae row a=false\/Ae row b=false)->∀H',Same H H'->E (.ref C) none H')
end SH
namespace L2
open PySem.Calls
section
variable {P:ap}{w:ax}{A:av}{E:Zb}{s:af}
end
section
variable {X:Cx}
end
section
variable {P:ap}{w:ax}{A:av}{it d:ae}{ep:Nat}{es:Array cn}
def Xpo(hh:A.handled=none)(ne:d≠it):jQ P w A it [it,d] [it] es.size (λi v=>∃e,es[i]? = some e/\v=e.key) (λi h=>h.IsKeyIter it d i es.size ep/\D3 h d es ep) where
 sub:=λb hb=>by simp at hb;simp[hb]
 frame:=λ_ _ _ st hk=>⟨by obtain⟨o,e,r⟩:=st.1;exact⟨o,hk it (by simp) o e,r⟩,st.2.at λo e=>hk d (by simp) o e⟩
 item:=λi s Q E hi st hQ=>Xoy st.1 st.2 hi λh' a8 sb=>hQ es[i].key h' s.toks ⟨es[i],by simp[hi],rfl⟩ ⟨a8,st.2.at λo e=>sb.extBut d o ne e⟩ λb o hb e=>sb.extBut b o (λz=>hb (by simp[z])) e
 done:=λs Q E st hQ=>Xoz hh st.1 st.2 (Oi _) λh' k=>hQ h' s.toks λb o hb e=>k b o (λz=>hb (by simp[z])) e
 self:=λ_ _ _ _ st hQ=>wpAny_pyIter_keyiter st.1 hQ
def Xpp(lo:(d==bj)=false):PySem.W.KdlSrc P w "dict" d d es.size (λi v=>∃e,es[i]? = some e/\v=e.key) (λh=>D3 h d es ep) where
 type:=λ_ hm=>hm.ty
 there:=λ_ hm=>by obtain⟨o,ho,_⟩:=hm;exact⟨Tx ho,Tx ho⟩
 keep:=λ_ _ hm hk=>hm.at λo e=>hk d (.inl rfl) o e
 notList:=by decide
 notTuple:=by decide
 hint:=λ_ _ _ _ hm hq=>PySem.W.kdl_hint_dict hm.ty hq
 iter:=λ_ s hh hm=>⟨_,_,(λ_ _ hq=>Xo0 lo hm hq),Xpo hh (Os (by obtain⟨o,ho,_⟩:=hm;exact Tx ho)),⟨⟨_,am.get?_push_size _ rfl,rfl,rfl⟩,hm.at λo e=>Tz _ e⟩⟩
end
theorem Xgf:∀{xs:List V} {us:List aa},xs.length=us.length->(∀i (h1:i<xs.length) (h2:i<us.length),Aj xs[i] us[i])->Vals xs us
 | [],[],_,_=>.nil
 | [],u::us,e,_=>by cases e
 | x::xs,[],e,_=>by cases e
 | x::xs,u::us,e,h=>.cons (h 0 (Nat.zero_lt_succ _) (Nat.zero_lt_succ _)) (Xgf (Th e) λi h1 h2=>h (i+1) (Nat.succ_lt_succ h1) (Nat.succ_lt_succ h2))
def Xpq{X:Cx}(hc:X.calm=true):Bu X (.type "list") (λxs H Q=>∃(d:ae) (kvs:List (List Key×V)),xs=[.ref d]/\H d=some (.dT kvs) /\
  ∀(l:ae) (as:List ae),H l=none->as.length=kvs.length->(∀i (h:i<kvs.length),H (as.getD i 0)=some (.tup ((kvs[i]).1.map kV)))->Q (.ref l) (upd H l (.lst (as.map V.ref)))):=by
 intro pins s Z H xs us Q I r h;obtain⟨d,kvs,rfl,hd,q⟩:=h;obtain⟨u,rfl,rx⟩:=Bq r;cases rx;obtain⟨hz,hm,ys,cT,o,es,ep,ho,hex,ul,he,_⟩:=(show A3 X.prog X.w H s.heap d (.dT kvs) from I.hok d _ hd);have KO:kvs.length=ys.length:=Paired.length cT;have KP:es.size=ys.length:=by rw[<-Oq,he,Oh]
 refine PySem.W.kdl_call (Xpp (es:=es) (ep:=ep) hm) (I.ok.hd hc) ⟨o,ho,hex,ul⟩ (by omega) λh' tk acc c kk hS cZ=>?_;have la:(ys.map λx=>x.2.1).length=acc.toList.length:=by
  have h1:acc.toList.length=acc.size:=Oq;have h2:=cZ.1;rw[Oh];omega
 refine⟨.ref s.heap.objs.size,_,I.laid (t':=tk) (o:=.lst ((ys.map λx=>x.2.1).map V.ref)) kk (Oi _) ⟨by rw[Oh,Oh];omega,acc.toList,c,Xgf (by rw[Oh];exact la) λi h1 h2=>?_,by simpa using hS⟩,rfl,q _ _ (I.hok.fresh (Oi _)) (by rw[Oh];omega) λi hi=>?_⟩
 ·have h3:i<acc.size:=by rw[<-Oq];exact h2
  have hy:i<ys.length:=by rw[Oh,Oh] at h1;exact h1
  obtain⟨e,e1,e2⟩:=cZ.2 i acc[i] (Ri h3);have hs:i<es.size:=by omega
  rw[Ri hs] at e1;cases e1;have:=(Xo1 (P:=X.prog) (w:=X.w) ul he hy hs).1;have ea:acc.toList[i]=acc[i]:=by simp
  rw[Qd,Qd,ea,e2,this];rfl
 ·have hy:i<ys.length:=by omega
  have:=Xf7 cT hi hy;have e:(ys.map λx=>x.2.1).getD i 0=(ys[i]).2.1:=by simp[List.getD,hy]
  rw[e];exact this.2.1
end L2
namespace SH
open L2
theorem most{α : Type}(f : α->Nat):∀l:List α,l≠[]->∃a∈l,∀b∈l,f b<=f a
 | [],h=>absurd rfl h
 | [a],_=>⟨a,Ov,λb hb=>by rw[Om.mp hb];exact Oi _⟩
 | a::c::r,_=>by
  obtain⟨m,hm,hl⟩:=most f (c::r) (by simp);by_cases q:f m<=f a
  ·exact⟨a,Ov,λb hb=>by
    rcases Ox.mp hb with e | e
    ·rw[e];exact Oi _
    ·exact Pm (hl b e) q⟩
  ·exact⟨m,Op _ hm,λb hb=>by
    rcases Ox.mp hb with e | e
    ·rw[e];omega
    ·exact hl b e⟩
def Xpr{row a b:Za}(h2:∀y∈row,row.count y=2)(ha:Ae row a=true)(hb:Ae row b=true)(n:a≠b):
  ∃x c,Ae row c=true/\ne2 a b x=true/\∀y,y∈c↔if y=x then y∈b else y∈a:=by
 obtain⟨p1,p2,p3,p4⟩:=Ig.mp ha;obtain⟨q1,q2,q3,q4⟩:=Ig.mp hb;by_cases e:(a.filter λx => !decide (x∈b))=[]
 ·have sub:∀x∈a,x∈b:=λx hx=>Classical.byContradiction λz=>by
   have:x∈a.filter λx => !decide (x∈b):=Ot.mpr ⟨hx,by simp[z]⟩;rw[e] at this;cases this
  have ne:(b.filter λx => !decide (x∈a))≠[]:=λe2=>n (lt_uniq p1 q1 λx=>⟨sub x,λhx=>Classical.byContradiction λz=>by
   have:x∈b.filter λx => !decide (x∈a):=Ot.mpr ⟨hx,by simp[z]⟩;rw[e2] at this;cases this⟩)
  obtain⟨x,hx,mx⟩:=most (span row) _ ne;obtain⟨jJ,sF⟩:=Ot.mp hx;have sF:x∉a:=by simpa using sF
  refine⟨x,(dit row).filter (λy=>decide (y∈a)||decide (y=x)),?_,Kw.mpr (.inr ⟨jJ,sF⟩),λy=>?_⟩
  ·have mem:∀y,y∈(dit row).filter (λy=>decide (y∈a)||decide (y=x))↔y∈row/\(y∈a\/y=x):=λy=>by rw[Ot,Ao,Q5,decide_eq_true_eq,decide_eq_true_eq]
   refine Ig.mpr ⟨(Du row).filter _,λy hy=>((mem y).mp hy).1,λy hy z hz w=>?_,λy hy z hz=>?_⟩
   ·refine(mem z).mpr ⟨hz,?_⟩;rcases ((mem y).mp hy).2 with h | h
    ·exact .inl (p3 y h z hz w)
    ·rw[h] at w;refine .inl (Classical.byContradiction λnz=>?_);have EA:=q3 x jJ z hz w;have:=mx z (Ot.mpr ⟨EA,by simp[nz]⟩);have:=Xef (h2 x (q2 x jJ)) w;omega
   ·refine q4 y ?_ z ?_
    ·rcases ((mem y).mp hy).2 with h | h
     ·exact sub y h
     ·rw[h];exact jJ
    ·rcases ((mem z).mp hz).2 with h | h
     ·exact sub z h
     ·rw[h];exact jJ
  ·rw[Ot,Ao,Q5,decide_eq_true_eq,decide_eq_true_eq];by_cases z:y=x
   ·rw[Tr z];exact⟨λ_=>z ▸ jJ,λh=>⟨q2 y h,.inr z⟩⟩
   ·rw[Tq z];exact⟨λh=>h.2.elim id λq=>absurd q z,λh=>⟨p2 y h,.inl h⟩⟩
 ·obtain⟨x,hx,mx⟩:=least (span row) _ e;obtain⟨sF,jJ⟩:=Ot.mp hx;have jJ:x∉b:=by simpa using jJ
  refine⟨x,a.filter (λy=>decide (y≠x)),?_,Kw.mpr (.inl ⟨sF,jJ⟩),λy=>?_⟩
  ·refine Ig.mpr ⟨Xmn p1,λy hy=>p2 y (Ot.mp hy).1,λy hy z hz w=>?_,λy hy z hz=>p4 y (Ot.mp hy).1 z (Ot.mp hz).1⟩;obtain⟨kr,kD⟩:=Ot.mp hy;refine Ot.mpr ⟨p3 y kr z hz w,Tt λq=>?_⟩;subst q;have EB:y∉b:=λh=>jJ (q3 y h z hz w);have:=mx y (Ot.mpr ⟨kr,by simp[EB]⟩);have:=Xef (h2 y (p2 y kr)) w;omega
  ·rw[Ot,decide_eq_true_eq];by_cases z:y=x
   ·rw[Tr z];exact⟨λh=>absurd z h.2,λh=>absurd (z ▸ h) jJ⟩
   ·rw[Tq z];exact⟨λh=>h.1,λh=>⟨h,z⟩⟩
def Gw{α : Type}{f g : α->Nat}{l:List α}(h:∀x∈l,f x=g x):(l.map f).sum=(l.map g).sum:=by rw[Pj h]
theorem Xgg{α : Type}(f g : α->Nat):∀l:List α,(l.map λx=>f x+g x).sum=(l.map f).sum+(l.map g).sum
 | []=>rfl
 | x::l=>by
  rw[O0,Ps,O0,Ps,O0,Ps,Xgg f g l];omega
theorem Xgh{α β : Type}(F : α -> β->Nat)(e:List β):∀d:List α,(d.map λx=>(e.map λy=>F x y).sum).sum=(e.map λy=>(d.map λx=>F x y).sum).sum
 | []=>by
  show 0=(e.map λ_=>0).sum;rw[Ib]
 | x::d=>by
  rw[O0,Ps,Xgh F e d,<-Xgg];rfl
theorem N8{x:ao}{f:ao->Nat}:∀{l:Za},l.Nodup->((l.erase x).map f).sum=(l.map λy=>if y=x then 0 else f y).sum
 | [],_=>rfl
 | y::l,nd=>by
  obtain⟨h1,h2⟩:=Pu.mp nd;by_cases e:y=x
  ·subst e;rw[List.erase_cons_head,O0,Ps,Tr rfl,Qi];refine Gw λz hz=>?_;have ne:z≠y:=λq=>h1 (by rw[<-q];exact hz);rw[Tq ne]
  ·rw[List.erase_cons_tail (by simpa using e),O0,Ps,O0,Ps,Tq e,N8 h2]
def Xgi{S G:Za}{x:ao}(hS:S.Pairwise ltS)(hG:G.Pairwise ltS)(h:Ah S G=[x]):Am S x=G:=by
 refine Kz (Ih x (Bj hS)) hG ?_;rw[K0 (Bj hS) (Bj hG) (by rw[h];simp),h];simp
section
variable {pl:Za->Bool}
theorem Xgj(ord:∀S,pl S=true->S.Pairwise ltS):∀(n:Nat) {S G:Za},pl S=true->pl G=true->(Ah S G).length=n+1 ->
  wyN pl G (n+1) S=((Ah S G).map λx=>if pl (Am G x)=true then wyN pl (Am G x) n S else 0).sum
 | 0,S,G,hS,hG,hn=>by
  obtain⟨x,e⟩:=List.length_eq_one_iff.mp hn;have e1:=Xgi (ord S hS) (ord G hG) e;have e2:=Xgi (ord G hG) (ord S hS) (by rw[Kh (Bj (ord G hG)) (Bj (ord S hS)),e]);unfold wyN;rw[e,O0,O0,e1,e2,Tr hG,Tr hS];rfl
 | n+1,S,G,hS,hG,hn=>by
  have gf:=Bj (ord S hS);have jb:=Bj (ord G hG);have nd:=Bj (Fs gf jb);have c:∀{A B:Za},A.Nodup->B.Nodup->Ah A B=Ah B A:=λa b=>Kh a b;have L:wyN pl G (n+1+1) S=((Ah S G).map λx=>((Ah S G).map λy=>if y=x then 0 else if pl (Am S x)=true/\pl (Am G y)=true then wyN pl (Am G y) n (Am S x) else 0).sum).sum:=by
   conv=>lhs;unfold wyN
   refine Gw λx hx=>?_;by_cases hp:pl (Am S x)=true
   ·rw[Tr hp,Xgj ord n hp hG (by have:=Gv gf jb hx;omega),K0 gf jb hx,N8 nd];refine Gw λy hy=>?_;by_cases e:y=x
    ·rw[Tr e,Tr e]
    ·rw[Tq e,Tq e];by_cases q:pl (Am G y)=true
     ·rw[Tr q,Tr ⟨hp,q⟩]
     ·rw[Tq q,Tq λz=>q z.2]
   ·rw[Tq hp];have:((Ah S G).map λy=>if y=x then 0 else if pl (Am S x)=true/\pl (Am G y)=true then wyN pl (Am G y) n (Am S x) else 0)=(Ah S G).map λ_=>0:=Pj λy _=>by
     by_cases e:y=x
     ·rw[Tr e]
     ·rw[Tq e,Tq λz=>hp z.1]
    rw[this,Ib]
  rw[L,Xgh];refine Gw λy hy=>?_;have iY:y∈Ah G S:=by rw[c jb gf];exact hy
  by_cases q:pl (Am G y)=true
  ·rw[Tr q];have EC:=Bj (Ih y jb);have ex:Ah S (Am G y)=(Ah S G).erase y:=by rw[c gf EC,K0 jb gf iY,c jb gf]
   conv=>rhs;unfold wyN
   rw[ex,N8 nd];refine Gw λx hx=>?_;by_cases e:x=y
   ·rw[Tr e,Tr e.symm]
   ·rw[Tq e,Tq λz=>e z.symm];by_cases hp:pl (Am S x)=true
    ·rw[Tr hp,Tr ⟨hp,q⟩]
    ·rw[Tq hp,Tq λz=>hp z.1]
  ·rw[Tq q];have:((Ah S G).map λx=>if y=x then 0 else if pl (Am S x)=true/\pl (Am G y)=true then wyN pl (Am G y) n (Am S x) else 0)=(Ah S G).map λ_=>0:=Pj λx _=>by
    by_cases e:y=x
    ·rw[Tr e]
    ·rw[Tq e,Tq λz=>q z.2]
   rw[this,Ib]
theorem Xgk(ord:∀S,pl S=true->S.Pairwise ltS):∀(n:Nat) {S G:Za},pl S=true->pl G=true->(Ah S G).length=n->wyN pl G n S=wyN pl S n G
 | 0,_,_,_,_,_=>rfl
 | n+1,S,G,hS,hG,hn=>by
  have gf:=Bj (ord S hS);have jb:=Bj (ord G hG);have c:=Kh jb gf;rw[Xgj ord n hG hS (by rw[c];exact hn),c]
  conv=>lhs;unfold wyN
  refine Gw λx hx=>?_;by_cases q:pl (Am S x)=true
  ·rw[Tr q,Tr q];exact Xgk ord n q hG (by have:=Gv gf jb hx;omega)
  ·rw[Tq q,Tq q]
def Xps(ord:∀S,pl S=true->S.Pairwise ltS){S G:Za}(hS:pl S=true)(hG:pl G=true):wy pl G S=wy pl S G:=by
 unfold wy;rw[Kh (Bj (ord G hG)) (Bj (ord S hS))];exact Xgk ord _ hS hG rfl
end
def Xpt{row S G:Za}(hS:Ae row S=true)(hG:Ae row G=true):wyI row G S=wyI row S G:=by
 unfold wyI;rw[Xps (λS h=>(Bn h).2) hS hG]
theorem Xgl{row G:Za}(h2:∀y∈row,row.count y=2)(hG:Ae row G=true):∀(n:Nat) {S:Za},Ae row S=true->(Ah S G).length=n->1<=wy (Ae row) G S
 | 0,S,hS,hn=>by
  rw[Kz (Bn hS).2 (Bn hG).2 (Px.mp hn),K1];exact Oi _
 | n+1,S,hS,hn=>by
  have ne:S≠G:=λe=>by rw[e,N4] at hn;cases hn
  obtain⟨x,c,hc,hx,hm⟩:=Xpr h2 hS hG ne;have jg:x∈Ah S G:=Dx.mpr (Kw.mp hx);have ec:Am S x=c:=lt_uniq (Ih x (Gi hS)) (Bn hc).2 λy=>by
   rw[Nq,hm];by_cases e:y=x
   ·subst e;rw[Tr rfl];rcases Kw.mp hx with ⟨a,b⟩ | ⟨a,b⟩<;>simp[a,b]
   ·rw[Tq e];simp[e]
  have ih:=Xgl h2 hG n hc (by rw[<-ec];have:=Gv (Gi hS) (Gi hG) jg;omega);rw[N5 (Bn hS).2 (Bn hG).2 ne];refine Pm ih ?_;have key:∀{l:Za} {f:ao->Nat},x∈l->f x<=(l.map f).sum:=by
   intro l
   induction l with
   | nil=>intro f h;cases h
   | cons y l ih=>
    intro f h;rw[O0,Ps];rcases Ox.mp h with e | e
    ·rw[e];exact Nat.le_add_right _ _
    ·exact Pm (ih e) (Nat.le_add_left _ _)
  have:=key (f:=λx=>if Ae row (Am S x)=true then wy (Ae row) G (Am S x) else 0) jg
  rwa [Tr (by rw[ec];exact hc),ec] at this
def wtS (f:Za->Int) (Us:List (Za)) (g:Za->Int):Int:=(Us.map λS=>g S * f S).sum
def Eh (Us:List (Za)) (S:Za):List (Za):=if S∈Us then Us else Us++[S]
def Cs (g:Za->Int) (S:Za) (c:Int):Za->Int:=λT=>if T=S then c else g T
def Xpu{Us:List (Za)}{g:Za->Int}{S:Za}{c:Int}:Bf (kvT Us g) (kOf S) (.int c)=kvT (Eh Us S) (Cs g S c):=by
 unfold Eh;by_cases h:S∈Us
 ·rw[Tr h];have:(Av (kvT Us g) (kOf S)).isSome=true:=by rw[Eg,Tr h];rfl
  unfold Bf;rw[D7,this,Tr rfl];unfold kvT;rw[Pn];refine Pj λT _=>?_;show (if kOf T=kOf S then (kOf T,V.int c) else (kOf T,V.int (g T)))=(kOf T,V.int (Cs g S c T));unfold Cs;by_cases e:T=S
  ·rw[Tr (by rw[e]),Tr e]
  ·rw[Tq (λz=>e (Xf8 z)),Tq e]
 ·rw[Tq h,F2 _ (by rw[Eg,Tq h])];unfold kvT;rw[Ow];congr 1
  ·refine Pj λT hT=>?_;have ne:T≠S:=λz=>h (by rw[<-z];exact hT);unfold Cs;rw[Tq ne]
  ·unfold Cs;simp
def Xpv{Us:List (Za)}(h:Us.Nodup)(S:Za):(Eh Us S).Nodup:=by
 unfold Eh;by_cases q:S∈Us
 ·rw[Tr q];exact h
 ·rw[Tq q];exact Qf.mpr ⟨h,by simp,λa ha b hb e=>q (by rw[<-Om.mp hb,<-e];exact ha)⟩
def Xpw{Us:List (Za)}{S T:Za}:T∈Eh Us S↔T∈Us\/T=S:=by
 unfold Eh;by_cases q:S∈Us
 ·rw[Tr q];exact⟨.inl,λh=>h.elim id λe=>e ▸ q⟩
 ·rw[Tq q,Ou,Om]
def atT (Us:List (Za)) (g:Za->Int) (S:Za):Int:=if S∈Us then g S else 0
def Xpx{f:Za->Int}{g:Za->Int}{S:Za}{c:Int}:∀{Us:List (Za)},Us.Nodup->wtS f (Eh Us S) (Cs g S (atT Us g S+c))=wtS f Us g+c * f S:=by
 have out:∀{Us:List (Za)} {d:Int},S∉Us->wtS f Us (Cs g S d)=wtS f Us g:=λ{Us d} h=>by
  unfold wtS;congr 1;refine Pj λT hT=>?_;have ne:T≠S:=λz=>h (by rw[<-z];exact hT);unfold Cs;rw[Tq ne]
 have inn:∀{Us:List (Za)} {d:Int},Us.Nodup->S∈Us->wtS f Us (Cs g S d)=wtS f Us g+(d - g S) * f S:=by
  intro Us
  induction Us with
  | nil=>intro d _ h;cases h
  | cons T Us ih=>
   intro d nd h;obtain⟨h1,h2⟩:=Pu.mp nd;have e:∀g:Za->Int,wtS f (T::Us) g=g T * f T+wtS f Us g:=λg=>by
    unfold wtS;rw[O0,Ps]
   rw[e,e];by_cases q:T=S
   ·subst q;rw[out h1];unfold Cs;rw[Tr rfl,Int.sub_mul];omega
   ·rw[ih h2 ((Ox.mp h).resolve_left λz=>q z.symm)];unfold Cs;rw[Tq q];omega
 intro Us nd;unfold Eh atT;by_cases h:S∈Us
 ·rw[Tr h,Tr h,inn nd h];congr 2;omega
 ·rw[Tq h,Tq h];have e:wtS f (Us++[S]) (Cs g S (0+c))=wtS f Us (Cs g S (0+c))+(0+c) * f S:=by
   unfold wtS;rw[Ow,Sq];simp[Cs]
  rw[e,out h,Ti]
def waL (row S ns:Za):List (ao×Za):=(ns.filter λx=>Ae row (Am S x)).map λx=>(x,Am S x)
def Xpy{row S G:Za}(hS:Ae row S=true)(hG:Ae row G=true)(n:S≠G):((waL row S (Ah S G)).map λq=>wyI row G q.2).sum=wyI row G S:=by
 unfold waL wyI;rw[Pn,N5 (Bn hS).2 (Bn hG).2 n,<-N6];generalize Ah S G=l
 induction l with
 | nil=>rfl
 | cons x l ih=>
  rw[O0,Ps,<-ih,Pq];by_cases q:Ae row (Am S x)=true
  ·rw[Tr q,Tr q,O0,Ps];rfl
  ·rw[Tq q,Tq q];simp
def Xpz{row S ns:Za}{q:ao×Za}:q∈waL row S ns↔q.1∈ns/\q.2=Am S q.1/\Ae row q.2=true:=by
 unfold waL;rw[Pd];constructor
 ·rintro ⟨x,hx,rfl⟩;obtain⟨h1,h2⟩:=Ot.mp hx;exact⟨h1,rfl,h2⟩
 ·rintro ⟨h1,h2,h3⟩;refine⟨q.1,Ot.mpr ⟨h1,by rw[<-h2];exact h3⟩,?_⟩;rw[<-h2]
def waT (row S ns:Za) (i:Nat):List (ao×Za):=waL row S (ns.take i)
def Xp0{row S ns:Za}{i:Nat}{x:ao}(h:ns[i]? = some x):waT row S ns (i+1)=waT row S ns i++if Ae row (Am S x)=true then [(x,Am S x)] else []:=by
 unfold waT waL;rw[List.take_add_one,h,O8,Ow];congr 1;by_cases q:Ae row (Am S x)=true
 ·rw[Tr q];simp[q]
 ·rw[Tq q];simp[q]
def Xp1{A B:List (Za)}(nd:A.Nodup)(hs:∀S∈A,S∈B):A.length<=B.length:=by
 induction A generalizing B with
 | nil=>exact Pi _
 | cons a A ih=>
  obtain⟨h1,h2⟩:=Pu.mp nd;have ha:a∈B:=hs a Ov;have:=ih (B:=B.erase a) h2 λS hS=>by
   have ne:S≠a:=λe=>h1 (by rw[<-e];exact hS);exact(Sk ne).mpr (hs S (Op _ hS))
  rw[R1 ha] at this;have:=Sc ha;rw[O5];omega
def Xp2{row:Za}{A:List (Za)}(h2:∀y∈row,row.count y=2)(h3:Bk row)(hl:(dit row).length<=14)(nd:A.Nodup)(h:∀S∈A,Ae row S=true):A.length<=64:=by
 have e:=Xp1 nd λS hS=>(N2 h2 h3 S).mpr (h S hS);have:=Ng h2 h3 hl;unfold cands at e;rw[O5,Oo,Oh,Oh] at e;omega
def Xp3(f g:Za->Int)(Us:List (Za))(S:Za):wtS f (Us++[S]) g=wtS f Us g+g S * f S:=by
 unfold wtS;rw[Ow,Sq];simp
def Xgm:Sp:=λvs H Q _=>∃(b l p:ae) (row S ns:Za) (xs:List V),vs=[.ref b,.ref l,.ref p]/\H b=some (.lst xs)/\DAll H ((bars row).map trD) xs/\H l=some (.lst (ns.map V.str))/\(∀x∈ns,x∈row)/\ns.length<=60/\Row2 row/\(dit row).length<=14/\H p=some (.tup (S.map V.str))/\Ae row S=true /\
 ∀(D:ae) (qs:List ae) (H':Hp),H D=none->H' D=some (.lst (qs.map V.ref))->Nbs H' qs (waL row S ns)->qs.length<=60->Same H H'->Q (.ref D) H'
def Xgn:Sp:=λvs H Q _=>∃(r p q:ae) (row a b:Za),vs=[.ref r,.ref p,.ref q]/\H r=some (.lst (row.map V.str))/\Row2 row/\Bk row/\(dit row).length<=14/\H p=some (.tup (a.map V.str))/\H q=some (.tup (b.map V.str))/\Ae row a=true/\Ae row b=true /\
 ∀H',Same H H'->Q (.int (wyI row b a)) H'
def spRef18 (T T2:ae) (p1 p2:bN):Sp:=λvs H Q _=>∃(r p q:ae) (row a b:Za),vs=[.ref r,.ref p,.ref q]/\Two H r p q row a b/\Bk row/\Tab2 T T2 p1 p2 H/\(Ae row a=false\/Ae row b=false)/\∀H',Same H H'->Q (.bl true) H'
abbrev NMn:Za:=["_law_row_here", "_law_one_here", "_law_other", "_law_bars_here", "_law_table", "_law_k", "_law_made", "_law_plot", "_law_name", "_law_over"]
end SH
namespace K18
open L2 SH
def top (i:Nat):aP:=PySem.Challenge.pw_shoretold_k18_how_many_shortest_walks.main.body.getD i (.Pass ⟨0,0,0,0⟩)
abbrev sAsk:aP:=top 5
abbrev sDitches:aP:=top 6
abbrev sEnds:aP:=top 7
abbrev sSpans:aP:=top 8
abbrev sLieOf:aP:=top 9
abbrev sCross:aP:=top 10
abbrev sTold:aP:=top 12
abbrev s_in_order:aP:=top 13
abbrev sAllows:aP:=top 14
abbrev sIsPlot:aP:=top 15
abbrev s_ask_plot:aP:=top 16
abbrev s_plots:aP:=top 17
abbrev s_parting:aP:=top 19
abbrev s_across:aP:=top 20
abbrev s_ways_to:aP:=top 22
abbrev s_walks_many:aP:=top 23
abbrev sBegin:aP:=top 25
abbrev sPick:aP:=top 26
abbrev sPut:aP:=top 27
abbrev sWhere:aP:=top 28
abbrev sWord:aP:=top 29
abbrev sBarred:aP:=top 30
abbrev sRow:aP:=top 31
abbrev sNames:aP:=top 32
abbrev sIsland:aP:=top 33
abbrev s__law_bars:aP:=top 34
abbrev s__law_fits:aP:=top 35
abbrev s__law_plots:aP:=top 36
abbrev s__law_one:aP:=top 37
abbrev s__law_stranger:aP:=top 38
abbrev s__law_flip:aP:=top 39
abbrev s__law_odd_plot:aP:=top 40
abbrev s__law_good_plot:aP:=top 41
abbrev s__law_apart:aP:=top 42
abbrev s__law_ways:aP:=top 43
abbrev s__law_many:aP:=top 44
abbrev s__law_int:aP:=top 45
abbrev s__law_refused:aP:=top 46
abbrev s_law:aP:=top 47
abbrev NWo:Za:=["_law_where_here", "_law_one_here", "_law_other", "_law_low", "_law_high", "_law_inner"]
abbrev NBc:Za:=["_law_one_here", "_law_name", "_law_where_here"]
abbrev NFl1:Za:=["_law_one_here", "_law_name"]
abbrev NFi:Za:=["_law_bars_here", "_law_plot", "_law_one_here", "_law_other", "_law_word_here"]
abbrev NBr:Za:=["_law_row_here", "_law_where_here", "_law_told", "_law_one_here", "_law_other", "_law_word_here"]
abbrev NP:Za:=["_law_draw", "_law_many_here", "_law_cell", "_law_got"]
abbrev NNa:Za:=["_law_draw", "_law_many_here", "_law_base", "_law_start", "_law_late", "_law_told", "_law_k", "_law_sign", "_law_hum"]
abbrev NIs:Za:=["_law_draw", "_law_most", "_law_few", "_law_many_here"]
abbrev FnPick (P:ap) (w:ax) (K:LY) (mg:ao->Option aa) (base:am):Prop:=Fn P w K mg base CX0 1 "_law_pick" ["_law_draw", "_law_many_here"] Mx
section
variable {P:ap}{w:ax}{K:LY}{mg:ao->Option aa}{base:am}
def Xp4:FnScope ["row", "name"] ["row", "name"] (defScope sAsk):=by walk_at "s"
def Xp5{f C:ae}{fd:aw}(F:Fun K "ask_ditch" "ask_ditch" sAsk f fd)(hC:mg "NoDitch" = some (.ref C))(hc:MR K C bmV "ValueError.__new__" = true):
  FnOk P w K mg base (CX1 P w) 1 f fd ["row", "name"] (Xdi C):=by
 refine F.ok1 Xp4 (by walk_at "l") ?_
 ·walk_at "i"
  obtain⟨r,row,x,rfl,hR,⟨w6,oG⟩,kq,ke⟩:=h;refine⟨_,Ai (Bc (Ax Jf (pv 1) (pv 0) (by rfl))
   (Ai (Xby (C:=C) (E:=E) hc rfl leaves1 (by rfl) hC (Aa (Xb5 (Jn (by decide +kernel) (Xj6 (pv 1) (Jn (by decide +kernel) Xb4)))) Ac))) Bd),?_⟩
  refine⟨_,rfl,_,rfl,r,_,rfl,.inl (SqL.of hR),rfl,Dj row,_,rfl,?_⟩;rw[Di];by_cases hx:x∈row
  ·refine Xis hx ?_;exact kq hx H (Same.refl H)
  ·rw[Tu hx];refine Cv ?_;refine⟨_,rfl,x,rfl,by omega,(λc h=>Qv (oG c h) (by decide)),λz=>?_⟩;exact⟨by show 1<=sizeLine;decide,ke hx H (Same.refl H)⟩
def Xp6:FnScope ["row"] ["row"] (defScope sDitches):=by walk_at "s"
def Xp7{f:ae}{fd:aw}(F:Fun K "ditches" "ditches" sDitches f fd)(T:Bl mg):FnOk P w K mg base CX0 1 f fd ["row"] spDitches:=by
 refine F.ok Xp6 (by walk_at "l") ?_
 ·walk_at "i"
  obtain⟨r,row,rfl,hR,hl,k⟩:=h;refine⟨_,Ai (Ar (A7 (Jq rfl) (by rfl) T.sorted (by rfl) (Aa (B1 (Hm rfl) (by rfl) T.set (by rfl) (Aa (pv 0) Ac)) Ac))),?_⟩;refine⟨_,rfl,r,row,rfl,.inl (SqL.of hR),by unfold aX;omega,λa na=>?_⟩;have f7:=Hl row;refine⟨a,ddup row,rfl,Ab,by omega,λl ls nl hp hs=>?_⟩;have s1:Same H (upd H a (Eo P w a (ddup row))):=(Same.refl H).step na;refine k l _ (s1.free nl) ?_ (s1.step nl);rw[Ab,F8 hp hs];rfl
def Xgo:FnScope NEn ["row", "name"] (defScope sEnds):=by walk_at "s"
def Xp8{f C:ae}{fd:aw}(F:Fun K "ends" "ends" sEnds f fd)(T:Bl mg)(FA:Fn P w K mg base (CX1 P w) 1 "ask_ditch" ["row", "name"] (Xdi C)):
  FnOk P w K mg base (CX1 P w) 2 f fd ["row", "name"] (Xdj C):=by
 refine F.ok1 Xgo (by walk_at "l") ?_
 ·walk_at "i"
  obtain⟨r,row,x,rfl,hR,hx,hl,kq,ke⟩:=h;refine⟨_,Af (E3 (Ak FA hr rfl pass1 (Aa (pv 0) (Aa (pv 1) Ac))))
   (Af (Jv (i:=2) (N:=NEc) (cap:=[none,none,some 1]) (CompScope.of (defScope sEnds) NEn rfl rfl rfl (by decide +kernel)) rfl Xgo.nd rfl rfl
    (Xj4 (by rfl) T.enum (Aa (pv 0) Ac))
    (λ_ _ _=>Mj K 2 rfl rfl (Dc (Az (i:=0) (show NEc.Nodup by decide +kernel) rfl (.inl rfl) (.inr rfl)) (Dc (Az (i:=1) (show NEc.Nodup by decide +kernel) rfl (.inl rfl) (.inr rfl)) Gz)))
    (λ_ _ _=>Ea (Ax Bp (pv 1) (pv 2) (Ay _))) (λ_ _ _=>pv 0))
   (Ai (Ar (B6 (Aa (A4 Bg (pv 2) Ag (λ_ _=>rfl)) (Aa (A4 Bg (pv 2) Ag (λ_ _=>rfl)) Ac)))))),?_⟩
  refine⟨_,rfl,_,rfl,r,row,x,rfl,hR,hx,λdy H1 s1=>?_,ke⟩;obtain⟨a,b,fg,kq⟩:=kq dy;refine⟨_,rfl,r,rfl,⟨_,SqL.of (s1 _ _ hR)⟩,?_⟩;refine Xke (K:=K) (p:=0) (q:=1) (by decide) (SqL.of (s1 _ _ hR)) (by rw[Oh,Tp];omega) (λi=>decide (row.getD i ao.empty=x)) (λi=>.int i) ?_ ?_ ?_
  ·intro i v H2 Q' hv s2 k;obtain⟨y,rfl,hy⟩:∃y,v=V.str y/\row.getD i ao.empty=y:=by
    rw[O2] at hv;cases q:row[i]? with
    | none=>rw[q] at hv;cases hv
    | some y=>rw[q] at hv;exact⟨y,(O4 hv).symm,by simp[List.getD,q]⟩
   refine⟨_,rfl,_,rfl,rfl,_,rfl,?_⟩;have:=k H2 (Same.refl _);rw[hy] at this;have e:decide (V.str y=V.str x)=decide (y=x):=by
    by_cases z:y=x
    ·rw[z];simp
    ·rw[Tu z,Tu (λq=>z (by injection q))]
   rw[e];exact this
  ·intro i v H2 Q' hv hk s2 k;exact⟨_,rfl,k H2 (Same.refl _)⟩
  ·intro D H2 nD s2 hD;have eF:H2 D=some (.lst [.int a,.int b]):=by
    rw[hD,Oh];have:=congrArg (List.map V.int) ((M4 row x).trans fg);rw[Pn] at this;rw[show ((List.range row.length).filter λi=>decide (row.getD i ao.empty=x)).map (λi:Nat=>V.int (i:Int))=_ from this];rfl
   refine⟨_,rfl,_,_,_,_,rfl,rfl,SqL.of eF,rfl,_,rfl,_,_,_,_,rfl,rfl,SqL.of eF,rfl,by show 2<=sizeLine;decide,λp np=>?_⟩;have s3:=s1.trans s2;exact kq p _ (s3.free np) Ab (s3.step np)
def Xp9:FnScope ["row"] ["row"] (defScope sSpans):=by walk_at "s"
def Xqa{f C:ae}{fd:aw}(F:Fun K "spans" "spans" sSpans f fd)(FD:Fn P w K mg base CX0 1 "ditches" ["row"] spDitches)(FE:Fn P w K mg base (CX1 P w) 2 "ends" ["row", "name"] (Xdj C)):
  FnOk P w K mg base CX0 3 f fd ["row"] spSpans:=by
 refine F.ok Xp9 (by walk_at "l") ?_
 ·walk_at "i"
  obtain⟨r,row,rfl,hR,R2,k⟩:=h;have cy:Room 1 _:=hr.mono (by decide);refine⟨_,Ai (Ar (Xc4 (N:=NSp) (cap:=[none,some 0]) (CompScope.of (defScope sSpans) ["row"] rfl rfl rfl (by decide +kernel)) rfl
   (B4 (Ak FD cy (by rfl) An (Aa (pv 0) Ac))) (λ_ _ _=>Az (i:=0) (show NSp.Nodup by decide +kernel) rfl (.inl rfl) (.inr rfl)) (λ_ _ _=>D9)
   (λ_ _ _=>pv 0) (λ_ _ _=>Ak (by exact FE) (by exact hr) (by rfl) Hq (Aa (pv 1) (Aa (pv 0) Ac))))),?_⟩
  have hl:=R2.len;refine⟨_,rfl,r,row,rfl,hR,hl,λdi H1 KQ wO s1=>?_⟩;refine⟨di,rfl,⟨_,SqL.of wO⟩,λD nD=>?_⟩;have hn:∀i,i<(dit row).length->((dit row).map V.str).getD i .non = .str ((dit row).getD i ao.empty):=λi hi=>Cb V.str ao.empty _ hi;have wP:=s1 _ _ hR;have f7:=Fc row;refine⟨wN (dit row).length λi Z2 H2=>(∃v, Z2=[v,some (.ref r)])/\Same H1 H2/\∃kvs,H2 D=some (.dK kvs)/\Spn H2 kvs row ((dit row).take i),⟨(dit row).length,by simp,Pi _,⟨none,rfl⟩,(Same.refl H1).step nD,[],Ab,⟨rfl,λx hx=>by simp at hx⟩⟩,?_⟩;rintro i m Z1 H2 ⟨rfl,hi,⟨v,rfl⟩,s2,kvs,hD,sp⟩;by_cases bf:i<(dit row).length
  ·have oP:i<((dit row).map V.str).length:=by rw[Oh];exact bf
   obtain⟨g1,g2⟩:=G9 (K:=K) (SqL.of (s2 _ _ wO)) oP;refine .inr ⟨g1,λx H3 y=>?_⟩;obtain⟨e1,e2⟩:=g2 x H3 y;subst e1 e2;rw[hn i bf];generalize hx:(dit row).getD i ao.empty=x;have uz:x∈dit row:=by rw[<-hx];exact Cp bf
   have hX:=Ao.mp uz;have fB:(dit row).take (i+1)=(dit row).take i++[x]:=by
    rw[O1 bf,<-hx];simp[List.getD,bf]
   have js:x∉(dit row).take i:=by
    have nd:=F9 row;have h2:((dit row).take (i+1)).Nodup:=nd.sublist (P5 ..);rw[fB] at h2;exact λz=>(Qf.mp h2).2.2 x z x (by simp) rfl
   refine⟨_,rfl,_,rfl,_,rfl,r,row,x,rfl,s2 _ _ wP,R2.ok x hX,by omega,λ_=>⟨_,_,Fm (R2.two x hX),λl H4 nl oQ s4=>?_⟩,λz=>absurd hX z⟩;have dP:=s4 _ _ hD;have kl:kvs.length<=60:=by
    have:=sp.len;rw[O3] at this;omega
   refine⟨kvs,Sum.inr x,rfl,dP,by rw[Tp];omega,?_⟩;refine wskip bf ⟨⟨_,rfl⟩,λb u e=>?_,_,Ab,?_⟩
   ·rw[Ad (Aw e nD)];exact s4 _ _ (s2 b u e)
   ·rw[fB];refine sp.snoc js ?_ λb xs e=>?_
    ·rw[Ad (λz=>by rw[z,dP] at oQ;cases oQ)];exact oQ
    ·have e4:=s4 _ _ e;rw[Ad (λz=>by rw[z,dP] at e4;cases e4)];exact e4
  ·have ei:i=(dit row).length:=by omega
   subst ei;refine .inl ⟨by have:=Hf (K:=K) (SqL.of (s2 _ _ wO));rwa [Oh] at this,?_⟩;rw[P8] at sp;exact k D kvs H2 (s1.free nD) hD sp (s1.trans s2)
def N9:FnScope NLo ["here", "there"] (defScope sLieOf):=by walk_at "s"
def Xqb{f:ae}{fd:aw}(F:Fun K "lie_of" "lie_of" sLieOf f fd):FnOk P w K mg base CX0 2 f fd ["here", "there"] spLieOf:=by
 refine F.ok N9 (by walk_at "l") ?_
 ·walk_at "i"
  obtain⟨p,q,a,b,c,e,rfl,hp,hq,l4,k⟩:=h;refine⟨_,Af (Bc (Ax (Xko (hu3 hr)) (pv 0) (pv 1) (Ay _)) (Ai (Ar Bi)) Bd)
   (Af (Ap (i:=2) N9.nd rfl (.inl rfl) (Xau C5 C5 (A4 (Ec K (by rfl)) (pv 1) Ag (λ_ _=>rfl)) (A4 (Ec K (by rfl)) (pv 0) Ag (λ_ _=>rfl)) (A4 (Ec K (by rfl)) (pv 1) Ag (λ_ _=>rfl))))
   (Af (Ap (i:=3) N9.nd rfl (.inl rfl) (Xau C5 C5 (A4 (Ec K (by rfl)) (pv 1) Ag (λ_ _=>rfl)) (A4 (Ec K (by rfl)) (pv 0) Ag (λ_ _=>rfl)) (A4 (Ec K (by rfl)) (pv 1) Ag (λ_ _=>rfl))))
   (Af (Bc (Ax Fz (pv 2) (pv 3) (Ay _)) (Ai (Ar Bi)) Bd)
   (Af (Bc (Dt (pv 2)) (Ai (Ar Bi)) Bd)
   (Ai (Ar (Iz (Xhj C5 C5 (A4 (Ec K (by rfl)) (pv 0) Ag (λ_ _=>rfl)) (A4 (Ec K (by rfl)) (pv 1) Ag (λ_ _=>rfl)) (A4 (Ec K (by rfl)) (pv 0) Ag (λ_ _=>rfl))) Bi Bi))))))),?_⟩
  have d2:∀{r:ae} {x y:Int},H r=some (.tup [.int x,.int y])->DAt H (.tuple [.int x,.int y]) (.ref r):=λ{r x y} h=>Mp h (Xkm [x,y]);refine⟨_,rfl,_,rfl,.tuple [.int a,.int b],.tuple [.int c,.int e],d2 hp,d2 hq,rfl,rfl,(by show min (max 0 (max 0 0)+1) (max 0 (max 0 0)+1)<=3;decide),_,rfl,?_⟩;have ee:au.eqv (.tuple [.int a,.int b]) (.tuple [.int c,.int e])=decide (a=c/\b=e):=by
   rw[Qn,Ms _ _ rfl rfl];simp
  rw[ee];have kk:=k H (Same.refl H);refine A0 (λh1=>?_) (λh1=>?_)
  ·unfold lieT at kk;rw[Tr (Tv h1)] at kk;exact kk
  ·have h1:=Tw h1;dsimp only[Ja,Db,Dd,Be];refine M5 (x:=c) (y:=a) (z:=e) (λQ' h=>⟨_,rfl,q,_,_,_,rfl,rfl,SqT.of hq,rfl,h⟩) (λQ' h=>⟨_,rfl,p,_,_,_,rfl,rfl,SqT.of hp,rfl,h⟩) (λQ' h=>⟨_,rfl,q,_,_,_,rfl,rfl,SqT.of hq,rfl,h⟩) ?_;refine M5 (x:=c) (y:=b) (z:=e) (λQ' h=>⟨_,rfl,q,_,_,_,rfl,rfl,SqT.of hq,rfl,h⟩) (λQ' h=>⟨_,rfl,p,_,_,_,rfl,rfl,SqT.of hp,rfl,h⟩) (λQ' h=>⟨_,rfl,q,_,_,_,rfl,rfl,SqT.of hq,rfl,h⟩) ?_;refine⟨_,rfl,_,rfl,rfl,_,rfl,?_⟩;rw[Lf];refine A0 (λh2=>?_) (λh2=>?_)
   ·rw[Xlh h1 (by simpa using h2)] at kk;exact kk
   ·refine⟨_,rfl,_,rfl,?_⟩;refine A0 (λh3=>?_) (λh3=>?_)
    ·rw[Xli h1 (by simpa using h2) h3] at kk;exact kk
    ·rw[Xlj l4 h1 (by simpa using h2) h3] at kk;dsimp only[Ja,Xai,tIf,Lg];refine M5 (x:=a) (y:=c) (z:=b) (λQ' h=>⟨_,rfl,p,_,_,_,rfl,rfl,SqT.of hp,rfl,h⟩) (λQ' h=>⟨_,rfl,q,_,_,_,rfl,rfl,SqT.of hq,rfl,h⟩) (λQ' h=>⟨_,rfl,p,_,_,_,rfl,rfl,SqT.of hp,rfl,h⟩) ⟨_,rfl,?_⟩;refine A0 (λh4=>?_) (λh4=>?_)
     ·rw[Tr h4] at kk;exact kk
     ·rw[Tq (by rw[h4];exact Oy)] at kk;exact kk
def Xgp:FnScope NCr ["row"] (defScope sCross):=by walk_at "s"
def Xqc{f:ae}{fd:aw}(F:Fun K "crossings" "crossings" sCross f fd)(FS:Fn P w K mg base CX0 3 "spans" ["row"] spSpans)(FO:Fn P w K mg base CX0 2 "lie_of" ["here", "there"] spLieOf):
  FnOk P w K mg base CX0 4 f fd ["row"] Xdn:=by
 refine F.ok Xgp (by walk_at "l") ?_
 ·walk_at "i"
  obtain⟨r,row,rfl,hR,R2,k⟩:=h;have hu:=Cu hr;have fF:Room 2 _:=hr.mono (by decide);refine⟨_,Af (Ap (i:=1) Xgp.nd rfl (.inr rfl) (Ak FS hr (by rfl) An (Aa (pv 0) Ac)))
   (Ai (Ar (Xc5 (N:=NCc) (cap:=[none,none,some 1]) (CompScope.of (defScope sCross) NCr rfl rfl rfl (by decide +kernel)) rfl
    (Ge (pv 1)) (λ_ _ _=>Az (i:=0) (show NCc.Nodup by decide +kernel) rfl (.inl rfl) (.inr rfl)) (λ_ _ _=>D9)
    (λ_ _ _=>Ge (pv 2)) (λ_ _ _=>Az (i:=1) (show NCc.Nodup by decide +kernel) rfl (.inl rfl) (.inr rfl))
    (λ_ _ _=>Ea (E1 (Ax Xat (pv 0) (pv 1) (Ay _)) (Ez (Ax Bp (Ak (by exact FO) (by exact fF) (by rfl) An (Aa (B9 hu (pv 2) (pv 0) (λ_ _=>rfl)) (Aa (B9 hu (pv 2) (pv 1) (λ_ _=>rfl)) Ac))) Bi (Ay _)))).pt)
    (λ_ _ _=>B6 (Aa (pv 0) (Aa (pv 1) Ac)))))),?_⟩
  have hl:=R2.len;have f7:=Fc row;refine⟨_,rfl,r,row,rfl,hR,R2,λd kvs H1 nd hd sp s1=>?_⟩;refine⟨_,rfl,d,kvs,rfl,.inl ⟨hd,λo D nD=>?_⟩⟩;generalize kO:upd H1 d (.frz o (.dK kvs))=H2 at nD;have s2:Same H H2:=λb u e=>by rw[<-kO,Ad (Aw e nd)];exact s1 b u e
  have cK:H2 d=some (.frz o (.dK kvs)):=by rw[<-kO];exact Ab
  have jK:Spn H2 kvs row (dit row):=⟨sp.keys,λx hx=>let ⟨l,h1,h2⟩:=sp.val x hx; ⟨l,h1,by rw[<-kO,Ad (λz=>by rw[z,hd] at h2;cases h2)];exact h2⟩⟩;have kl:=jK.len;have go:∀i H3,i<(dit row).length->Same H2 H3->(Itd d o kvs).go i H3/\∀x H4,(Itd d o kvs).yld i H3 x H4->H4=H3/\x = .str ((dit row).getD i ao.empty):=λi H3 hi s3=>by
   have:=Hi (kvs:=kvs) (s3 _ _ cK) (by omega:i<kvs.length);rw[jK.at i hi] at this;exact this
  have mV:∀H3,Same H2 H3->(Itd d o kvs).stop (dit row).length H3:=λH3 s3=>by
   have:=Hj (kvs:=kvs) (s3 _ _ cK)
   rwa [kl] at this
  let ns:=dit row
  let ok:Nat->Nat->Bool:=λi j=>decide (ltS (ns.getD i ao.empty) (ns.getD j ao.empty))&&decide (lieR row (ns.getD i ao.empty) (ns.getD j ao.empty) = "cross")
  let part:Nat->List au:=λi=>((List.range ns.length).filter (ok i)).map λj=>prD (ns.getD i ao.empty,ns.getD j ao.empty)
  have bS:∀i,(part i).length<=60:=λi=>by
   show (List.map _ _).length<=60;rw[Oh];refine Pm (Po ..) ?_;rw[Qg];show (dit row).length<=60;omega
  have cZ:∀i,((List.range i).flatMap part).length<=60 * i:=λi=>by
   induction i with
   | zero=>simp
   | succ i ih=>
    rw[P9,Ro,Oo];have:=bS i;simp only[Rm,Rz,Pw];omega
  refine Xkr (H0:=H2) (xs0:=[]) (n:=ns.length) (λi=>.str (ns.getD i ao.empty)) (λi=>(List.range i).flatMap part) nD ((Same.refl H2).step nD) Ab Ep (fun Z1=>∃v0 v1, Z1=[v0,v1,some (.ref d)]) ⟨none,none,rfl⟩ go mV ?_ ?_
  ·rintro i Z1 xs H3 Q' hi ⟨v0,v1,rfl⟩ s3 hD dc kk;have qy:=Cp hi;refine⟨_,rfl,d,kvs,rfl,.inr ⟨o,s3 _ _ cK,?_⟩⟩;refine Mu (H0:=H2) (n:=ns.length) (λj=>.str (ns.getD j ao.empty)) (ok i) (λj=>prD (ns.getD i ao.empty,ns.getD j ao.empty)) ((List.range i).flatMap part) nD s3 hD dc ?_ go mV ?_ ?_ ?_
   ·have:=cZ i;have h2:i<60:=by have:i<(dit row).length:=hi;omega
    have h3:ns.length<=60:=by show (dit row).length<=60;omega
    rw[Tp];omega
   ·intro j H4 Q2 hj s4 k2;have nB:=Cp hj;refine⟨_,rfl,_,rfl,_,_,rfl,rfl,_,rfl,?_⟩;refine A0 (λq1=>?_) (λq1=>?_)
    ·obtain⟨l1,g1,t1⟩:=(jK.mono s4).get (.inr ⟨o,s4 _ _ cK⟩) qy;obtain⟨l2,g2,t2⟩:=(jK.mono s4).get (.inr ⟨o,s4 _ _ cK⟩) nB;refine⟨_,rfl,_,rfl,d,_,rfl,g1,_,rfl,_,rfl,d,_,rfl,g2,l1,l2,_,_,_,_,rfl,t1,t2,lie4 (R2.two _ (Ao.mp qy)) (R2.two _ (Ao.mp nB)),λH5 s5=>?_⟩;refine⟨rfl,_,rfl,?_⟩;rw[Fl];have:=k2 H5 s5;have e1:ok i j=decide (lieR row (ns.getD i ao.empty) (ns.getD j ao.empty) = "cross"):=by
      show (decide _&&decide _)=_;have oR:decide (ltS (ns.getD i ao.empty) (ns.getD j ao.empty))=true:=q1;rw[oR,Qc]
     rw[e1] at this;exact this
    ·have:=k2 H4 (Same.refl _);have e1:ok i j=false:=by
      show (decide _&&decide _)=_;have oR:decide (ltS (ns.getD i ao.empty) (ns.getD j ao.empty))=false:=q1;rw[oR,Qa]
     rw[e1] at this;exact this
   ·intro j i9 H4 Q2 hj hk s4 dP k2;refine⟨_,rfl,_,rfl,by show 2<=sizeLine;decide,λp np=>?_⟩;exact k2 _ _ ((Same.refl H4).step np) (Xc8 dP np (Mo [ns.getD i ao.empty,ns.getD j ao.empty]))
   ·intro Z' H4 i9 e s4 dP lY;refine kk Z' H4 i9 ?_ s4 dP ?_
    ·have l1 : Z'.length=3:=by
      have:=congrArg List.length (e none);simpa using this
     match Z',l1,e with
     | [w0,w1,w2],_,e=>
      have:=e none;simp at this;exact⟨w0,w1,by rw[this.2]⟩
    ·rw[P9,Ro,Rm,Rz,Pw];exact lY
  ·intro Z' H3 xs s3 hD dc;refine k D xs H3 (s2.free nD) hD ?_ (s2.trans s3);have e:(List.range ns.length).flatMap part=(crs row).map prD:=by
    have e1:crs row=(List.range ns.length).flatMap λi=>((List.range ns.length).filter (ok i)).map λj=>(ns.getD i ao.empty,ns.getD j ao.empty):=by
     have em:dit row=(List.range ns.length).map λi=>ns.getD i ao.empty:=by
      have:=C6 ao.empty (λ_=>true) (dit row);rw[Pl.mpr (λ_ _=>rfl),Pl.mpr (λ_ _=>rfl)] at this;exact this.symm
     show (dit row).flatMap _=_
     conv=>lhs;rw[em]
     rw[List.flatMap_map];congr 1;funext i;have:=C6 ao.empty (λy=>decide (ltS (ns.getD i ao.empty) y)&&decide (lieR row (ns.getD i ao.empty) y = "cross")) (dit row);rw[<-em,<-this,Pn];rfl
    rw[e1,List.map_flatMap];congr 1;funext i;rw[Pn];rfl
   rw[<-e];exact dc
def Xqd:FnScope ["names"] ["names"] (defScope sTold):=by walk_at "s"
def Xqe{f:ae}{fd:aw}(F:Fun K "told" "told" sTold f fd)(T:Bl mg):FnOk P w K mg base CX0 1 f fd ["names"] (spTold K):=by
 refine F.ok Xqd (by walk_at "l") ?_
 ·walk_at "i"
  obtain⟨p,ss,rfl,hR,hl,k⟩:=h;refine⟨_,Ai (Ar (B1 G6 (by rfl) T.tuple (by rfl) (Aa (A7 (Jq rfl) (by rfl) T.sorted (by rfl) (Aa (B1 (Hm rfl) (by rfl) T.set (by rfl) (Aa (pv 0) Ac)) Ac)) Ac))),?_⟩;refine⟨_,rfl,p,ss,rfl,hR,by unfold aX;omega,λa na=>?_⟩;have f7:=Hl ss;refine⟨a,ddup ss,rfl,Ab,by omega,λl ls nl hp hs=>?_⟩;have s1:Same H (upd H a (Eo P w a (ddup ss))):=(Same.refl H).step na;refine⟨l,_,rfl,.inl ⟨SqL.of Ab,λt nt=>?_⟩⟩;have s2:=s1.step (o:=.lst (ls.map V.str)) nl;refine k t _ (s2.free nt) ?_ (s2.step nt);rw[Ab,F8 hp hs];rfl
def Xqf:FnScope ["some"] ["some"] (defScope s_in_order):=by walk_at "s"
def Xqg{f T:ae}{fd:aw}(F:FunT K "in_order" s_in_order f fd T)(B:Bl mg)(jF:BmOk mg base):FnOk P w K mg base CX0 4 f fd ["some"] (spInOrder T (lamPos s_in_order)):=by
 refine F.ok Xqf (λvs H Q E h=>?_) (λc0 hhd A outer s H vs Q E hr h=>?_)
 ·obtain⟨l,ps,Ts,rfl,_⟩:=h;rfl
 ·obtain⟨l,ps,Ts,rfl,hl,hT,nd,cz,tab,k⟩:=h;refine⟨_,Ai (Ar (Xon (show (A.deeper (aO "in_order" (defScope s_in_order) s.heap.objs.size f (.ref c0))).units+1+1<bD by have:=hr.un;omega) (by rfl) B.sorted (by rfl) (Aa (pv 0) Ac) (Xax (Xnm (T:=T) (c0:=c0) (q:=qIn) jF rfl rfl rfl hhd rfl) Xaw))),?_⟩;refine⟨_,rfl,⟨tab,λf' c pm dH H' nf hf hc m7 kp=>?_⟩⟩;have zy:∀b o,H b=some o->(∀z,o ≠ .tbl z)->b≠T:=λb o e n z=>by
   rcases tab with q | ⟨_,q,_⟩<;>(rw[z,q] at e;cases e;exact n _ rfl)
  have m8:Tups H' ps Ts:=⟨hT.1,λi hi=>kp _ _ (hT.2 i hi) (zy _ _ (hT.2 i hi) λz=>by simp)⟩;refine⟨l,f',ps,Ts,rfl,rfl,kp _ _ hl (zy _ _ hl λz=>by simp),m8,nd,cz,?_,λD p H2 nD g so sm hD=>?_⟩
  ·refine Xoo (k:=0) (x := "plot") hf hc ⟨rfl,rfl,rfl,by decide +kernel,rfl,by decide +kernel,by decide +kernel⟩ hr (λu=>rfl) λA1 oT s1 H1 i hi sm cy=>?_;refine⟨_,B6 (Aa (A7 B8 (by rfl) B.len bx (Aa (pv 0) Ac)) (Aa (pv 0) Ac)),λQ1 kk=>?_⟩;have hp:=sm _ _ (m8.2 i hi);refine⟨_,rfl,ps.getD i 0,_,rfl,.inr (SqT.of hp),_,rfl,by show 2<=sizeLine;decide,λt nt=>?_⟩;refine kk t _ ?_ (Same.upd0 nt);rw[Ab,Oh]
  ·obtain⟨ED,iF⟩:=Xop (Ts:=Ts) (by rw[<-hT.1];exact g) (by rw[<-hT.1];exact so);refine k D _ _ H2 ?_ hD ((Xoq m8 g).same sm) ED iF (SH.Au.same m7 sm) λb o e n=>sm _ _ (kp b o e n);cases e:H D with
   | none=>rfl
   | some o=>
    by_cases z:D=T
    ·rcases m7 with q | ⟨_,q,_⟩<;>(rw[<-z,nD] at q;cases q)
    ·rw[kp D o e z] at nD;cases nD
def Xqh:FnScope ["how", "off"] ["how", "off"] (defScope sAllows):=by walk_at "s"
def Xqi{f:ae}{fd:aw}(F:Fun K "allows" "allows" sAllows f fd):FnOk P w K mg base CX0 1 f fd ["how", "off"] spAllows:=by
 refine F.ok Xqh (by walk_at "l") ?_
 ·walk_at "i"
  obtain⟨h9,ln,rfl,k⟩:=h;refine⟨_,Af (Bc (Ax Bp (pv 0) Bi (Ay _)) (Ai (Ar (pv 1))) Bd)
   (Ai (Ar (Xg9 (El Fz (pv 0) Bi (Ay _)) (K8 (Xag (pv 1)))))),?_⟩
  refine⟨_,rfl,rfl,_,rfl,?_⟩;rw[Fl];unfold B0 at k;refine A0 (λq=>?_) (λq=>?_)
  ·rw[Tr (Tv q)] at k;exact⟨_,rfl,k⟩
  ·rw[Tq (Tw q)] at k;refine⟨_,rfl,rfl,_,rfl,?_⟩;rw[Fl];refine A0 (λq2=>?_) (λq2=>?_)
   ·rw[q2,Bool.true_or] at k;exact k
   ·rw[q2,Bool.false_or] at k;exact⟨_,rfl,ln,rfl,k⟩
def Xgq:FnScope NIp ["row", "plot"] (defScope sIsPlot):=by walk_at "s"
def Xqj{f:ae}{fd:aw}(F:Fun K "is_plot" "is_plot" sIsPlot f fd)(T:Bl mg)(FS:Fn P w K mg base CX0 3 "spans" ["row"] spSpans)(FO:Fn P w K mg base CX0 2 "lie_of" ["here", "there"] spLieOf)
  (FT:Fn P w K mg base CX0 1 "told" ["names"] (spTold K)) (FA:Fn P w K mg base CX0 1 "allows" ["how", "off"] spAllows):FnOk P w K mg base CX0 4 f fd ["row", "plot"] Xdr:=by
 refine F.ok Xgq (by walk_at "l") ?_
 ·walk_at "i"
  obtain⟨r,p,row,ss,rfl,hR,R2,hP,hok,lQ,k⟩:=h;have hu:=Cu hr;have cy:Room 1 _:=hr.mono (by decide);have fF:Room 2 _:=hr.mono (by decide);refine⟨_,Af (Ap (i:=2) Xgq.nd rfl (.inr rfl) (Ak FS hr (by rfl) An (Aa (pv 0) Ac)))
   (Af (Bc (E2 (Ax (Xc6 (hu3 hr)) (pv 1) (Ak FT cy (by rfl) An (Aa (pv 1) Ac)) (Ay _))
     (Fx (Dt (A7 (Xkv rfl) (by rfl) T.any (by rfl) (Aa (Ga (N:=NI1) (cap:=[none,some 2]) (CompScope.of (defScope sIsPlot) NIp rfl rfl rfl (by decide +kernel)) rfl
      (G0 (pv 1)) (λ_ _ _=>Az (i:=0) (show NI1.Nodup by decide +kernel) rfl (.inl rfl) (.inr rfl)) (λ_ _ _=>D9) (λ_ _ _=>Xg6 (Xie (by exact hu) (pv 0) (pv 1)) (by rfl))) Ac))))).pt
    (Ai (Ar Ds)) Bd)
   (Ai (Ar (A7 (Xi9 rfl) (by rfl) T.all (by rfl) (Aa (Xc5 (N:=NI2) (cap:=[none,none,some 1,some 2]) (CompScope.of (defScope sIsPlot) NIp rfl rfl rfl (by decide +kernel)) rfl
    (G0 (pv 1)) (λ_ _ _=>Az (i:=0) (show NI2.Nodup by decide +kernel) rfl (.inl rfl) (.inr rfl)) (λ_ _ _=>D9)
    (λ_ _ _=>Ge (pv 3)) (λ_ _ _=>Az (i:=1) (show NI2.Nodup by decide +kernel) rfl (.inl rfl) (.inr rfl)) (λ_ _ _=>D9)
    (λ_ _ _=>Ak (by exact FA) (by exact cy) (by rfl) An (Aa (Ak (by exact FO) (by exact fF) (by rfl) An (Aa (B9 (by exact hu) (pv 3) (pv 0) (λ_ _=>rfl)) (Aa (B9 (by exact hu) (pv 3) (pv 1) (λ_ _=>rfl)) Ac)))
     (Aa (El (Mi K (by rfl)) (pv 1) (pv 2) (by rfl)) Ac)))) Ac))))),?_⟩
  have hl:=R2.len;have f7:=Fc row;refine⟨_,rfl,r,row,rfl,hR,R2,λd kvs H1 nd hd sp s1=>?_⟩;have nC:=s1 _ _ hP;refine⟨_,rfl,_,rfl,p,ss,rfl,.inr (SqT.of nC),lQ,λt H2 nt ht s2=>?_⟩;have hJ:=s1.trans s2;have jL:=s2 _ _ nC;refine⟨_,_,Fp jL,Fp ht,Gc _ (Es hok),Gc _ (Es (Xds hok)),Nb _ _,_,rfl,?_⟩;rw[Nc hok (Xds hok)];by_cases e1:ss=told ss
  ·rw[Tt e1];refine Bs ?_;refine⟨_,rfl,p,rfl,⟨_,SqT.of jL⟩,?_⟩;have cK:=s2 _ _ hd;have jK:=sp.mono s2;refine Xkc (n:=ss.length) (by rw[Tp];omega) (λi=>(ss.map V.str).getD i .non) (λi=>.bl (!decide (ss.getD i ao.empty∈row))) ?_ ?_ ?_ ?_
   ·intro i H3 hi s3;exact Hg (SqT.of (s3 _ _ jL)) (by rw[Oh];exact hi)
   ·intro H3 s3;have:=Hh (K:=K) (SqT.of (s3 _ _ jL))
    rwa [Oh] at this
   ·intro i H3 Q' hi s3 kk;rw[Cb V.str ao.empty ss hi];refine⟨_,rfl,_,rfl,d,_,rfl,.inl ⟨kvs,Sum.inr _,.inl (s3 _ _ cK),rfl,rfl⟩,?_⟩;rw[jK.has];exact kk H3 (Same.refl _)
   ·intro D H3 nD s3 hD;have eF:H3 D=some (.lst (((List.range ss.length).map λi => !decide (ss.getD i ao.empty∈row)).map V.bl)):=by rw[hD,Pn];rfl
    refine⟨D,_,rfl,eF,_,rfl,?_⟩;rw[Xlo ao.empty (λx => !decide (x∈row)) ss];have jn:=hJ.trans s3;have e2:(ss.any λx => !decide (x∈row)) = !(ss.all λx=>decide (x∈row)):=by rw[List.not_all_eq_any_not]
    rw[e2];cases e3:ss.all (λx=>decide (x∈row)) with
    | false=>
     refine Cv ?_;have:=k H3 jn;unfold Ae at this;rw[e3,S6,Qa] at this;exact this
    | true=>
     refine Bs ?_;have dy:∀x∈ss,x∈row:=λx hx=>Tv (Pg.mp e3 x hx);have ii:=s3 _ _ jL;have kP:=s3 _ _ cK;have wQ:=jK.mono s3;refine⟨_,rfl,p,rfl,⟨_,SqT.of ii⟩,λD2 oU=>?_⟩;have kl:=wQ.len;have sG:p≠d:=λz=>by rw[z,kP] at ii;cases ii
     have jM:D2≠d:=(Aw kP oU).symm;have sH:hid d H3 D2=none:=by
      unfold hid;rw[Tq jM];exact oU
     have oV:hid d H3 p=some (.tup (ss.map V.str)):=Cy ii sG
     let part:Nat->List Bool:=λi=>(dit row).map λy=>B0 (lieR row (ss.getD i ao.empty) y) (decide (y∈ss))
     refine Xks (H0:=hid d H3) (xs0:=[]) (n:=ss.length) (λi=>.str (ss.getD i ao.empty)) (λi=>((List.range i).flatMap part).map au.bool) (λH4=>Rd H4 d (.dK kvs)) sH ((Fh d H3).trans ((Same.refl H3).step oU)) (.inl (ku kP oU)) Ab Ep
      (fun Z1=>∃v0 v1, Z1=[v0,v1,some (.ref p),some (.ref d)]) ⟨none,none,rfl⟩ ?_ ?_ ?_ ?_
     ·intro i H4 hi s4;have:=Hg (K:=K) (SqT.of (s4 _ _ oV)) (show i<(ss.map V.str).length by rw[Oh];exact hi)
      rwa [Cb V.str ao.empty ss hi] at this
     ·intro H4 s4;have:=Hh (K:=K) (SqT.of (s4 _ _ oV))
      rwa [Oh] at this
     ·rintro i Z1 xs H4 Q' hi ⟨v0,v1,rfl⟩ s4 g4 dP dc kk;have hX:ss.getD i ao.empty∈row:=dy _ (Cp hi);have main:∀(wR:TE) (o:aM) (H5:Hp),(∀(j:Nat) (H6:Hp) (Q2:VK) (l1 l2:ae),j<(dit row).length->DGet H6 d (.str (ss.getD i ao.empty)) (some (.ref l1))->H6 l1=some (.tup [.int (pl row (ss.getD i ao.empty)).1,.int (pl row (ss.getD i ao.empty)).2]) ->
        DGet H6 d (.str ((dit row).getD j ao.empty)) (some (.ref l2))->H6 l2=some (.tup [.int (pl row ((dit row).getD j ao.empty)).1,.int (pl row ((dit row).getD j ao.empty)).2])->H6 p=some (.tup (ss.map V.str))->(∀H',Same H6 H'->Q2 (.bl (B0 (lieR row (ss.getD i ao.empty) ((dit row).getD j ao.empty)) (decide ((dit row).getD j ao.empty∈ss)))) H') ->
        wR [some (.str (ss.getD i ao.empty)),some (.str ((dit row).getD j ao.empty)),some (.ref p),some (.ref d)] H6 Q2)->H5 d=some (.frz o (.dK kvs))->Same (hid d H3) H5->H5 D2=some (.lst xs)->DAll (hid D2 H5) (((List.range i).flatMap part).map au.bool) xs ->
        tLp (Be 1) E8 (Hs wR D2) (Itd d o kvs) ([some (.str (ss.getD i ao.empty)),v1,some (.ref p),some (.ref d)]:L2.St) H5 Q':=λwR o H5 EE oW s5 sI wS=>by
       have bS:∀j,(part j).length<=60:=λj=>by
        show (List.map _ _).length<=60;rw[Oh];omega
       have cZ:∀j,(((List.range j).flatMap part).map au.bool).length<=60 * j:=λj=>by
        rw[Oh]
        induction j with
        | zero=>simp
        | succ j ih=>
         rw[P9,Ro,Oo,Rm,Rz,Pw];have:=bS j;omega
       have kQ:hid D2 H5 d=some (.frz o (.dK kvs)):=Cy oW jM.symm;have gZ:Spn (hid D2 H5) kvs row (dit row):=⟨wQ.keys,λx hx=>let ⟨l,h1,h2⟩:=wQ.val x hx; ⟨l,h1,Cy (s5 _ _ (Cy h2 (λz=>by rw[z,kP] at h2;cases h2))) (λz=>by rw[z,oU] at h2;cases h2)⟩⟩;have sJ:hid D2 H5 p=some (.tup (ss.map V.str)):=Cy (s5 _ _ oV) (λz=>by rw[z,oU] at ii;cases ii);refine Mu (H0:=hid D2 H5) (n:=(dit row).length) (λj=>.str ((dit row).getD j ao.empty)) (λ_=>true) (λj=>.bool (B0 (lieR row (ss.getD i ao.empty) ((dit row).getD j ao.empty)) (decide ((dit row).getD j ao.empty∈ss)))) (((List.range i).flatMap part).map au.bool)
        (Tr rfl) (Fh D2 H5) sI wS (by have:=cZ i;have h2:i<60:=(by omega);rw[Tp];omega) ?_ ?_ ?_ ?_ ?_
       ·intro j H6 hj s6;have:=Hi (kvs:=kvs) (s6 _ _ kQ) (by omega:j<kvs.length)
        rwa [gZ.at j hj] at this
       ·intro H6 s6;have:=Hj (kvs:=kvs) (s6 _ _ kQ)
        rwa [kl] at this
       ·intro j H6 Q2 hj s6 k2;exact k2 H6 (Same.refl _)
       ·intro j i9 H6 Q2 hj _ s6 sK k2;have EF:=Cp hj;obtain⟨l1,g1,t1⟩:=(gZ.mono s6).get (.inr ⟨o,s6 _ _ kQ⟩) (Ao.mpr hX);obtain⟨l2,g2,t2⟩:=(gZ.mono s6).get (.inr ⟨o,s6 _ _ kQ⟩) EF;exact EE j H6 Q2 l1 l2 hj g1 t1 g2 t2 (s6 _ _ sJ) λH' s'=>k2 _ _ s' (by unfold DAt;rfl)
       ·intro Z' H6 i9 e6 s6 sK jy;refine kk Z' H6 i9 ?_ (λb u e=>?_) (.inr ⟨o,s6 _ _ kQ⟩) sK ?_
        ·have l1 : Z'.length=4:=by
          have:=congrArg List.length (e6 none);simpa using this
         match Z',l1,e6 with
         | [w0,w1,w2,w3],_,e6=>
          have:=e6 none;simp at this;exact⟨w0,w1,by rw[this.2.1,this.2.2]⟩
        ·refine s6 _ _ (Cy (s5 _ _ e) (λz=>?_));rw[z,sH] at e;cases e
        ·rw[Pl.mpr (λ_ _=>rfl)] at jy;have em:(List.range (dit row).length).map (λj=>au.bool (B0 (lieR row (ss.getD i ao.empty) ((dit row).getD j ao.empty)) (decide ((dit row).getD j ao.empty∈ss))))=(part i).map au.bool:=by
          show _=((dit row).map _).map _;have this:=C6 ao.empty (λ_=>true) (dit row);rw[Pl.mpr (λ_ _=>rfl),Pl.mpr (λ_ _=>rfl)] at this
          conv=>rhs;rw[<-this]
          rw[Pn,Pn];rfl
         rw[em] at jy;rw[P9,Ro,Ow,Rm,Rz,Pw];exact jy
      rcases g4 with g4 | ⟨o,g4⟩
      ·refine⟨_,rfl,d,kvs,rfl,.inl ⟨g4,λo=>?_⟩⟩;refine main _ o _ (λj H6 Q2 l1 l2 hj g1 t1 g2 t2 qz k2=>⟨_,rfl,_,rfl,d,_,rfl,g1,_,rfl,_,rfl,d,_,rfl,g2,l1,l2,_,_,_,_,rfl,t1,t2,lie4 (R2.two _ hX) (R2.two _ (Ao.mp (Cp hj))),λH7 s7=>⟨_,rfl,_,rfl,p,_,rfl,.inr (SqT.of (s7 _ _ qz)),rfl,Dj ss,_,_,rfl,by rw[Tq (by decide),Di];exact k2 H7 s7⟩⟩) Ab (λb u e=>?_) (by rw[Ad jM];exact dP) ?_
       ·rw[Ad (λz=>by rw[z] at e;unfold hid at e;rw[Tr rfl] at e;cases e)];exact s4 _ _ e
       ·rw[Na dc];have gb:∀bs:List Bool,DAll (hid D2 (upd H4 d (.frz o (.dK kvs)))) (bs.map au.bool) (bs.map V.bl):=λbs=>by
         induction bs with
         | nil=>exact Ep
         | cons b bs ih=>exact Ht (by unfold DAt;rfl) ih
        exact gb _
      ·exact⟨_,rfl,d,kvs,rfl,.inr ⟨o,g4,main _ o H4 (λj H6 Q2 l1 l2 hj g1 t1 g2 t2 qz k2=>⟨_,rfl,_,rfl,d,_,rfl,g1,_,rfl,_,rfl,d,_,rfl,g2,l1,l2,_,_,_,_,rfl,t1,t2,lie4 (R2.two _ hX) (R2.two _ (Ao.mp (Cp hj))),λH7 s7=>⟨_,rfl,_,rfl,p,_,rfl,.inr (SqT.of (s7 _ _ qz)),rfl,Dj ss,_,_,rfl,by rw[Tq (by decide),Di];exact k2 H7 s7⟩⟩) g4 s4 dP dc⟩⟩
     ·intro Z' H4 xs s4 g4 dP dc;have hx:=Na dc;subst hx;refine⟨D2,_,rfl,dP,?_⟩;have ef:((List.range ss.length).flatMap part).all id=ss.all λx=>(dit row).all λy=>B0 (lieR row x y) (decide (y∈ss)):=by
       have e5:(List.range ss.length).flatMap part=ss.flatMap λx=>(dit row).map λy=>B0 (lieR row x y) (decide (y∈ss)):=Xlp ao.empty (λx=>(dit row).map λy=>B0 (lieR row x y) (decide (y∈ss))) ss;rw[e5,Xdt];congr 1;funext x;rw[List.all_map];rfl
      rw[ef];have rQ:Same H H4:=λb u e=>s4 _ _ (Cy (jn _ _ e) (λz=>by rw[z,nd] at e;cases e));have:=k H4 rQ;unfold Ae at this;rw[Tt e1,e3,Qc,Qc] at this;exact this
  ·rw[Tu e1];refine Cv ?_;have:=k H2 hJ;unfold Ae at this;rw[Tu e1,Qa,Qa] at this;exact this
def Xqk:FnScope ["row", "plot"] ["row", "plot"] (defScope s_ask_plot):=by walk_at "s"
def Xql{f C:ae}{fd:aw}(F:Fun K "ask_plot" "ask_plot" s_ask_plot f fd)(hC:mg "NoPlot" = some (.ref C))(hc:MR K C bmV "ValueError.__new__" = true)(FX:Fn P w K mg base CX0 4 "is_plot" ["row", "plot"] Xdr):
  FnOk P w K mg base (CX1 P w) 5 f fd ["row", "plot"] (spAskPlot C):=by
 refine F.ok1 Xqk (by walk_at "l") ?_
 ·walk_at "i"
  obtain⟨r,p,row,ss,rfl,hR,R2,hP,hok,lQ,kq,ke⟩:=h;refine⟨_,Ai (Bc (Gy (Dt (Ak FX hr (by rfl) An (Aa (pv 0) (Aa (pv 1) Ac)))))
   (Ai (Xby (C:=C) (E:=E) hc rfl leaves1 (by rfl) hC (Aa (Xb5 (Jn (by decide +kernel) (Xk4 hr (pv 1) (Jn (by decide +kernel) Xb4)))) Ac))) Bd),?_⟩
  refine⟨_,rfl,_,rfl,r,p,row,ss,rfl,hR,R2,hP,hok,by omega,λH1 s1=>⟨_,rfl,?_⟩⟩;cases e:Ae row ss with
  | true=>exact Bs (kq e H1 s1)
  | false=>
   refine Cv ⟨_,rfl,p,ss,rfl,s1 _ _ hP,lQ,Xlz hok,λz=>?_⟩;exact⟨by show 1<=sizeLine;decide,ke e H1 s1⟩
def Iw:FnScope NPp ["row"] (defScope s_plots):=by walk_at "s"
def Xqm{f T:ae}{fd:aw}(F:Fun K "plots" "plots" s_plots f fd)(FS:Fn P w K mg base CX0 3 "spans" ["row"] spSpans)(FO:Fn P w K mg base CX0 2 "lie_of" ["here", "there"] spLieOf)(FT:Fn P w K mg base CX0 1 "told" ["names"] (spTold K))(FC:Fn P w K mg base CX0 4 "crossings" ["row"] Xdn)
  (FI:Fn P w K mg base CX0 4 "in_order" ["some"] (spInOrder T (lamPos s_in_order))):FnOk P w K mg base CX0 5 f fd ["row"] (spPlotsA T (lamPos s_in_order)):=by
 refine F.ok Iw (by walk_at "l") ?_
 ·walk_at "i"
  obtain⟨r,row,rfl,hR,R2,h3,nE,tab,k⟩:=h;have hu:=Cu hr;have cy:Room 1 _:=hr.mono (by decide);have fF:Room 2 _:=hr.mono (by decide);have sL:Room 3 _:=hr.mono (by decide);refine⟨_,Af (Ap (i:=1) Iw.nd rfl (.inr rfl) (Ak FS sL (by rfl) An (Aa (pv 0) Ac)))
   (Af (Ap (i:=2) Iw.nd rfl (.inr rfl) (Xc4 (N:=NPo) (cap:=[none,some 1]) (CompScope.of (defScope s_plots) NPp rfl rfl rfl (by decide +kernel)) rfl
    (Ge (pv 1)) (λ_ _ _=>Az (i:=0) (show NPo.Nodup by decide +kernel) rfl (.inr rfl) (.inl rfl)) (λ_ _ _=>D9) (λ_ _ _=>pv 0)
    (λs0 H0 ex=>Ga (N:=NPi) (cap:=[none,some 0,some 1]) (CompScope.of _ NPo rfl rfl rfl (by kernel_rfl)) rfl
     (Ge (pv 1)) (λ_ _ _=>Az (i:=0) (show NPi.Nodup by decide +kernel) rfl (.inl rfl) (.inr rfl))
     (λ_ _ _=>Ea (Ax (Mi K (by rfl)) (Ak (by exact FO) (by exact fF) (by rfl) An (Aa (B9 hu (pv 2) (pv 1) (λ_ _=>rfl)) (Aa (B9 hu (pv 2) (pv 0) (λ_ _=>rfl)) Ac))) (B6 (Aa Bi (Aa Bi Ac))) (by rfl)))
     (λ_ _ _=>pv 0))))
   (Af (Xf4 (i:=3) (N:=NPs) (cap:=[none,some 2]) (CompScope.of (defScope s_plots) NPp rfl rfl rfl (by decide +kernel)) rfl Iw.nd rfl rfl
    (Ge (pv 2)) (λ_ _ _=>Az (i:=0) (show NPs.Nodup by decide +kernel) rfl (.inl rfl) (.inr rfl)) (λ_ _ _=>D9)
    (λ_ _ _=>Ak (by exact FT) (by exact cy) (by rfl) An (Aa (B9 hu (pv 1) (pv 0) (λ_ _=>rfl)) Ac)))
   (Af (Xf4 (i:=4) (N:=NPd) (cap:=[none,none,some 2]) (CompScope.of (defScope s_plots) NPp rfl rfl rfl (by decide +kernel)) rfl Iw.nd rfl rfl
    (B4 (Ak FC hr (by rfl) An (Aa (pv 0) Ac))) (λ_ _ _=>Mj K 2 rfl rfl (Dc (Az (i:=0) (show NPd.Nodup by decide +kernel) rfl (.inl rfl) (.inr rfl)) (Dc (Az (i:=1) (show NPd.Nodup by decide +kernel) rfl (.inl rfl) (.inr rfl)) Gz))) (λ_ _ _=>D9)
    (λ_ _ _=>Ak (by exact FT) (by exact cy) (by rfl) An (Aa (Aq Br (B9 hu (pv 2) (pv 0) (λ_ _=>rfl)) (B9 hu (pv 2) (pv 1) (λ_ _=>rfl))) Ac)))
   (Ai (Ar (Ak FI hr (by rfl) An (Aa (Aq Br (Aq Br (Bw (Aa (B6 Ac) Ac)) (pv 3)) (pv 4)) Ac))))))),?_⟩
  have hl:=R2.len;have f7:=Fc row;refine⟨_,rfl,r,row,rfl,hR,R2,λd kvs H1 nd hd sp s1=>?_⟩;refine⟨_,rfl,d,kvs,rfl,.inl ⟨hd,λo D nD=>?_⟩⟩;generalize kO:upd H1 d (.frz o (.dK kvs))=H2 at nD;have s2:Same H H2:=λb u e=>by rw[<-kO,Ad (Aw e nd)];exact s1 b u e
  have cK:H2 d=some (.frz o (.dK kvs)):=by rw[<-kO];exact Ab
  have jK:Spn H2 kvs row (dit row):=⟨sp.keys,λx hx=>let ⟨l,h1,h2⟩:=sp.val x hx; ⟨l,h1,by rw[<-kO,Ad (λz=>by rw[z,hd] at h2;cases h2)];exact h2⟩⟩;have kl:=jK.len;have go:∀i H3,i<(dit row).length->Same H2 H3->(Itd d o kvs).go i H3/\∀x H4,(Itd d o kvs).yld i H3 x H4->H4=H3/\x = .str ((dit row).getD i ao.empty):=λi H3 hi s3=>by
   have:=Hi (kvs:=kvs) (s3 _ _ cK) (by omega:i<kvs.length);rw[jK.at i hi] at this;exact this
  have mV:∀H3,Same H2 H3->(Itd d o kvs).stop (dit row).length H3:=λH3 s3=>by
   have:=Hj (kvs:=kvs) (s3 _ _ cK)
   rwa [kl] at this
  refine⟨wN (dit row).length λi Z2 H3=>(∃v, Z2=[v,some (.ref d)])/\Same H2 H3/\∃jN,H3 D=some (.dK jN)/\Offs H3 jN row ((dit row).take i),⟨(dit row).length,by simp,Pi _,⟨none,rfl⟩,(Same.refl H2).step nD,[],Ab,⟨rfl,λx hx=>by simp at hx⟩⟩,?_⟩;rintro i m Z1 H3 ⟨rfl,hi,⟨v,rfl⟩,s3,jN,hD,sM⟩;by_cases bf:i<(dit row).length
  ·obtain⟨g1,g2⟩:=go i H3 bf s3;refine .inr ⟨g1,λx H4 y=>?_⟩;obtain⟨e1,e2⟩:=g2 x H4 y;subst e1 e2;generalize hx:(dit row).getD i ao.empty=x;have uz:x∈dit row:=by rw[<-hx];exact Cp bf
   have hX:=Ao.mp uz;have fB:(dit row).take (i+1)=(dit row).take i++[x]:=by
    rw[O1 bf,<-hx];simp[List.getD,bf]
   have js:x∉(dit row).take i:=by
    have nd:=F9 row;have h2:((dit row).take (i+1)).Nodup:=nd.sublist (P5 ..);rw[fB] at h2;exact λz=>(Qf.mp h2).2.2 x z x (by simp) rfl
   refine⟨_,rfl,_,rfl,d,kvs,rfl,.inr ⟨o,s3 _ _ cK,?_⟩⟩;refine Ff (n:=(dit row).length) (by rw[Tp];omega) (λj=>.str ((dit row).getD j ao.empty)) (λj=>upB row x ((dit row).getD j ao.empty)) (λj=>.str ((dit row).getD j ao.empty)) ?_ ?_ ?_ ?_ ?_
   ·exact λj H5 hj s5=>go j H5 hj (s3.trans s5)
   ·exact λH5 s5=>mV H5 (s3.trans s5)
   ·intro j H5 Q' hj s5 kk;have u3:=s3.trans s5;have nB:=Cp hj;obtain⟨l1,wT,t1⟩:=(jK.mono u3).get (.inr ⟨o,u3 _ _ cK⟩) uz;obtain⟨l2,wX,t2⟩:=(jK.mono u3).get (.inr ⟨o,u3 _ _ cK⟩) nB;refine⟨_,rfl,_,rfl,d,_,rfl,wT,_,rfl,_,rfl,d,_,rfl,wX,l1,l2,_,_,_,_,rfl,t1,t2,lie4 (R2.two x hX) (R2.two _ (Ao.mp nB)),λH6 s6=>?_⟩;refine⟨by show 2<=sizeLine;decide,λt nt=>?_⟩;refine⟨t,[ao.ofString "same",ao.ofString "within"].map V.str,rfl,.inr (SqT.of Ab),rfl,Dj _,_,rfl,?_⟩;rw[Tq (by decide),Di];have e:=Xox (row:=row) (x:=x) (y:=(dit row).getD j ao.empty) (R2.two x hX) (R2.two _ (Ao.mp nB));unfold lieR at e;rw[e];exact kk _ (s6.step nt)
   ·intro j H5 Q' hj hk s5 kk;exact⟨_,rfl,kk H5 (Same.refl _)⟩
   ·intro l H5 nl s5 l6;have oX:H5 l=some (.lst (((dit row).filter (upB row x)).map V.str)):=by
     rw[l6,<-C6 ao.empty (upB row x) (dit row),Pn];rfl
    have sI:=s5 _ _ hD;have z4:jN.length<=60:=by
     have:=sM.len;rw[O3] at this;omega
    refine⟨jN,Sum.inr x,rfl,sI,by rw[Tp];omega,?_⟩;refine wskip bf ⟨⟨_,rfl⟩,λb u e=>?_,_,Ab,?_⟩
    ·rw[Ad (Aw e nD)];exact s5 _ _ (s3 b u e)
    ·rw[fB];refine sM.snoc js ?_ λb xs e=>?_
     ·rw[Ad (λz=>by rw[z,sI] at oX;cases oX)];exact oX
     ·have e4:=s5 _ _ e;rw[Ad (λz=>by rw[z,sI] at e4;cases e4)];exact e4
  ·have ei:i=(dit row).length:=by omega
   subst ei;refine .inl ⟨mV H3 s3,?_⟩;rw[P8] at sM;have m9:=s2.trans s3;refine⟨_,rfl,D,jN,rfl,.inl ⟨hD,λo2 L nL=>?_⟩⟩;generalize wY:upd H3 D (.frz o2 (.dK jN))=H4 at nL;have EG:H D=none:=s2.free nD;have s4:Same H H4:=λb u e=>by rw[<-wY,Ad (Aw e EG)];exact m9 b u e
   have dP:H4 D=some (.frz o2 (.dK jN)):=by rw[<-wY];exact Ab
   have u4:Offs H4 jN row (dit row):=⟨sM.keys,λx hx=>let ⟨l,h1,h2⟩:=sM.val x hx; ⟨l,h1,by rw[<-wY,Ad (λz=>by rw[z,hD] at h2;cases h2)];exact h2⟩⟩;have z4:=u4.len;have fl:∀x,((dit row).filter (upB row x)).length<=14:=λx=>Pm (Po ..) (by omega);refine Mu (H0:=H4) (xs0:=[]) (n:=(dit row).length) (λj=>.str ((dit row).getD j ao.empty)) (λ_=>true) (λj=>tupD ((dit row).filter (upB row ((dit row).getD j ao.empty)))) [] nL ((Same.refl H4).step nL) Ab Ep (by rw[Tp,Qu];omega) ?_ ?_ ?_ ?_ ?_
   ·intro j H5 hj s5;have:=Hi (kvs:=jN) (s5 _ _ dP) (by omega:j<jN.length);rw[u4.at j hj] at this;exact this
   ·intro H5 s5;have:=Hj (kvs:=jN) (s5 _ _ dP)
    rwa [z4] at this
   ·exact λj H5 Q' hj s5 kk=>kk H5 (Same.refl _)
   ·intro j xs H5 Q' hj _ s5 wZ kk;obtain⟨l,gg,l6⟩:=(u4.mono s5).get (.inr ⟨o2,s5 _ _ dP⟩) (Cp hj);refine⟨_,rfl,_,rfl,D,_,rfl,gg,l,_,rfl,.inl (SqL.of l6),by have:=fl ((dit row).getD j ao.empty);omega,λt H6 nt ht s6=>?_⟩;rw[J6 ((Du row).filter _)] at ht;refine kk _ H6 s6 (Fp ?_);have EH:=s6 _ _ wZ;unfold hid;rw[Tq (λz=>by rw[z,EH] at ht;cases ht)];exact ht
   ·intro Z' H5 xs e s5 wZ dc;have e1:([]:List au)++((List.range (dit row).length).filter λ_=>true).map (λj=>tupD ((dit row).filter (upB row ((dit row).getD j ao.empty))))=((dit row).map λa=>(dit row).filter (upB row a)).map tupD:=by
     have:=C6 ao.empty (λ_=>true) (dit row);rw[Pl.mpr (λ_ _=>rfl),Pl.mpr (λ_ _=>rfl)] at this;have q:=congrArg (List.map λa=>tupD ((dit row).filter (upB row a))) this;rw[Pn] at q;rw[Rj,Pl.mpr (λ_ _=>rfl),Pn];exact q
    rw[e1] at dc;obtain⟨nF,rfl,q0⟩:=Xeg dc;have q0:Tups H5 nF _:=q0.same (Fh L H5);have z5:=s4.trans s5;refine⟨_,rfl,r,row,rfl,z5 _ _ hR,R2,λcl xa H6 KR fM jy s6=>?_⟩;refine⟨cl,rfl,⟨_,SqL.of fM⟩,λM nM=>?_⟩;have oY:xa.length=(crs row).length:=by
     have:=Gb jy;simpa using this
    have z6:=(u4.mono s5).mono s6;have sK:=s6 _ _ (s5 _ _ dP);have KS:=Ng R2.two h3 (by omega);refine⟨wN (crs row).length λi Z2 H7=>(∃u v, Z2=[u,v,some (.ref D)])/\Same H6 H7/\∃qs:List ae,H7 M=some (.lst (qs.map V.ref))/\Tups H7 qs (((crs row).take i).map λq=>(dit row).filter λy=>upB row q.1 y||upB row q.2 y),⟨(crs row).length,by simp,Pi _,⟨none,none,rfl⟩,(Same.refl H6).step nM,[],Ab,Tups.nil _⟩,?_⟩;rintro i m Z1 H7 ⟨rfl,hi,⟨u,v,rfl⟩,s7,qs,hM,qA⟩;by_cases bf:i<(crs row).length
    ·obtain⟨g1,g2⟩:=G9 (K:=K) (SqL.of (s7 _ _ fM)) (by omega:i<xa.length);refine .inr ⟨g1,λx H8 y=>?_⟩;obtain⟨e1,e2⟩:=g2 x H8 y;subst e1 e2;obtain⟨v1,hv,oZ⟩:=Mn (i:=i) (d:=prD ((crs row)[i])) jy (by rw[O2,Oj bf];rfl);have hq:=Pk bf;generalize EI:(crs row)[i]=q at oZ hq;obtain⟨l7,u5,_,_⟩:=Ir hq;have ev:xa.getD i .non=v1:=by simp[List.getD,hv]
     rw[ev];unfold prD DAt at oZ;obtain⟨pp,ys,rfl,EJ,EK⟩:=oZ;obtain rfl:=Hz (ss:=[q.1,q.2]) EK;have xb:=Fh cl H6 _ _ EJ;have fB:(crs row).take (i+1)=(crs row).take i++[q]:=by
      rw[O1 bf,EI]
     obtain⟨l1,wT,oq⟩:=(z6.mono s7).get (.inr ⟨o2,s7 _ _ sK⟩) (Ao.mpr l7);obtain⟨l2,wX,og⟩:=(z6.mono s7).get (.inr ⟨o2,s7 _ _ sK⟩) (Ao.mpr u5);have f1:=fl q.1;have f2:=fl q.2;refine⟨pp,_,rfl,SqT.of (s7 _ _ xb),rfl,_,_,rfl,_,_,rfl,rfl,?_⟩;refine⟨_,rfl,_,rfl,D,_,rfl,wT,_,rfl,_,rfl,D,_,rfl,wX,l1,l2,_,_,rfl,rfl,oq,og,by rw[Oh,Oh,Tp];omega,λc nc=>?_⟩;refine⟨c,(dit row).filter (upB row q.1)++(dit row).filter (upB row q.2),rfl,.inl (by rw[Ow];exact SqL.of Ab),by rw[Oo];omega,λt H9 nt ht s9=>?_⟩;have nG:Same H8 H9:=((Same.refl H8).step nc).trans s9;have z7:=nG _ _ hM;have et:told ((dit row).filter (upB row q.1)++(dit row).filter (upB row q.2))=(dit row).filter λy=>upB row q.1 y||upB row q.2 y:=by
      refine lt_uniq (M8 _) ((Du row).filter _) λz=>?_;rw[Xdp,Ou,Ot,Ot,Ot,Q5,<-and_or_left]
     rw[et] at ht;have EL:qs.length<=49:=by
      have:=qA.1;rw[Oh,O3] at this;omega
     refine⟨_,z7,by rw[Oh,Tp];omega,?_⟩;have nJ:∀b w,H9 b=some (.tup w)->upd H9 M (.lst (qs.map V.ref++[.ref t])) b=some (.tup w):=λb w e=>by
      rw[Ad (λz=>by rw[z,z7] at e;cases e)];exact e
     refine wskip bf ⟨⟨_,_,rfl⟩,λb w e=>?_,qs++[t],by rw[Ab,Ow];rfl,?_⟩
     ·rw[Ad (Aw e nM)];exact nG _ _ (s7 b w e)
     ·rw[fB,Ow];refine Tups.app ⟨qA.1,λj hj=>nJ _ _ (nG _ _ (qA.2 j hj))⟩ (Tups.cons (nJ _ _ ht) (Tups.nil _))
    ·have ei:i=(crs row).length:=by omega
     subst ei;refine .inl ⟨by have:=Hf (K:=K) (SqL.of (s7 _ _ fM));rwa [oY] at this,?_⟩;rw[P8] at qA;have sN:=s6.trans s7;have EM:=sN _ _ wZ;have EN:=q0.same sN;have EO:=z5.trans sN;refine⟨Pi _,λe0 EQ=>⟨by show 1<=sizeLine;decide,λz nz=>?_⟩⟩;generalize z8:upd H7 e0 (.tup [])=Ha at nz;have sa:Same H7 Ha:=by rw[<-z8];exact(Same.refl H7).step EQ
     have ER:Ha e0=some (.tup (([]:Za).map V.str)):=by rw[<-z8];exact Ab
     generalize z9:upd Ha z (.lst [.ref e0])=Hb;have sb:Same Ha Hb:=by rw[<-z9];exact(Same.refl Ha).step nz
     have hz:Hb z=some (.lst [.ref e0]):=by rw[<-z9];exact Ab
     have l1:nF.length=(dit row).length:=by have:=q0.1;simpa using this
     have l2:qs.length=(crs row).length:=by have:=qA.1;simpa using this
     have zA:=sa.trans sb;refine⟨_,rfl,z,L,_,_,rfl,rfl,hz,zA _ _ EM,by rw[Oh,Pp,Tp];omega,λc1 n1=>?_⟩;generalize zB:upd Hb c1 (.lst ([.ref e0]++nF.map V.ref))=Hc;have sc:Same Hb Hc:=by rw[<-zB];exact(Same.refl Hb).step n1
     have xc:Hc c1=some (.lst ([.ref e0]++nF.map V.ref)):=by rw[<-zB];exact Ab
     have zC:=zA.trans sc;refine⟨_,rfl,c1,M,_,_,rfl,rfl,xc,zC _ _ hM,by rw[Oo,Oh,Oh,Pp,Tp];omega,λc2 n2=>?_⟩;generalize zD:upd Hc c2 (.lst (([.ref e0]++nF.map V.ref)++qs.map V.ref))=Hd;have sd:Same Hc Hd:=by rw[<-zD];exact(Same.refl Hc).step n2
     have gp:Hd c2=some (.lst ((e0::(nF++qs)).map V.ref)):=by
      rw[<-zD,Ab,O0,Ow];rfl
     have xf:=zC.trans sd;have xg:=EO.trans xf;have li:Tups Hd (e0::(nF++qs)) ([]::cands row):=Tups.cons ((sb.trans (sc.trans sd)) _ _ ER) (Tups.app (EN.same xf) (qA.same xf));refine⟨c2,e0::(nF++qs),[]::cands row,rfl,gp,li,Xf3 R2.two,by rw[O5,Oo];omega,SH.Au.same tab xg,λD' iZ sD H' ES eF m8 pm so m7 bt=>?_⟩;refine k D' iZ sD H' (xg.free ES) eF m8 (λS=>(pm.mem_iff).trans (N2 R2.two h3 S)) so ?_ m7 λb w e n=>bt _ _ (xg _ _ e) n;rw[m8.1,pm.length_eq,<-li.1,O5,Oo];omega
def Xqn:FnScope ["one", "other"] ["one", "other"] (defScope s_parting):=by walk_at "s"
def Xqo{f:ae}{fd:aw}(F:Fun K "parting" "parting" s_parting f fd)(T:Bl mg):FnOk P w K mg base CX0 1 f fd ["one", "other"] spParting:=by
 refine F.ok Xqn (by walk_at "l") ?_
 ·walk_at "i"
  obtain⟨p,q,a,b,rfl,hP,hQ,na,nb,la,lb,k⟩:=h;refine⟨_,Ai (Ar (A7 (Jq rfl) (by rfl) T.sorted (by rfl) (Aa (Aq Xnf (B1 (Hm rfl) (by rfl) T.set (by rfl) (Aa (pv 0) Ac)) (B1 (Hm rfl) (by rfl) T.set (by rfl) (Aa (pv 1) Ac))) Ac))),?_⟩;refine⟨_,rfl,p,a,rfl,.inr (SqT.of hP),by unfold aX;omega,λa1 n1=>?_⟩;refine⟨_,rfl,q,b,rfl,.inr (SqT.of (ku hQ n1)),by unfold aX;omega,λa2 n2=>?_⟩;have pa:=J5 na;have pb:=J5 nb;refine⟨a1,a2,_,_,rfl,rfl,ku Ab n2,Ab,Hk a,Hk b,by rw[pa.length_eq];exact la,by rw[pb.length_eq];exact lb,λc zs nc wj lz mz=>?_⟩;refine⟨c,zs,rfl,Ab,by omega,λl ls nl pl so=>?_⟩;refine k l _ ?_ ?_ ?_
  ·exact(((Same.refl H).step n1).step n2).free ((Same.refl _).step nc |>.free nl)
  ·rw[Ab,F8 pl so,xor_srt na nb wj λy=>by rw[mz,pa.mem_iff,pb.mem_iff]]
  ·exact((((Same.refl H).step n1).step n2).step nc).step nl
def Xqp:FnScope ["plot", "name"] ["plot", "name"] (defScope s_across):=by walk_at "s"
def Xqq{f:ae}{fd:aw}(F:Fun K "across" "across" s_across f fd)(B:Bl mg)(FP:Fn P w K mg base CX0 1 "parting" ["one", "other"] spParting):FnOk P w K mg base CX0 2 f fd ["plot", "name"] spAcross:=by
 refine F.ok Xqp (by walk_at "l") ?_
 ·walk_at "i"
  obtain⟨p,ss,x,rfl,hp,nd,hl,k⟩:=h;have cy:Room 1 _:=hr.mono (by decide);refine⟨_,Ai (Ar (B1 G6 (by rfl) B.tuple (by rfl) (Aa (Ak FP cy (by rfl) An (Aa (pv 0) (Aa (B6 (Aa (pv 1) Ac)) Ac))) Ac))),?_⟩;refine⟨_,rfl,_,rfl,by show 1<=sizeLine;decide,λt nt=>?_⟩;refine⟨p,t,ss,[x],rfl,ku hp nt,Ab,nd,by simp,hl,by show 1<16;decide,λl H1 nl oq s1=>?_⟩;rw[Xe1] at oq;refine⟨l,_,rfl,.inl ⟨SqL.of oq,λq nq=>?_⟩⟩;have s0:=((Same.refl H).step nt (o:=.tup [.str x])).trans s1;exact k q _ (s0.free nq) Ab (s0.step nq)
def Oa:FnScope Xgd ["row", "goal"] (defScope s_ways_to):=by walk_at "s"
def Xqr{f T T2:ae}{fd:aw}(F:FunT K "ways_to" s_ways_to f fd T2)(B:Bl mg)(jF:BmOk mg base)(FP:Fn P w K mg base CX0 5 "plots" ["row"] (spPlotsA T (lamPos s_in_order)))(FX:Fn P w K mg base CX0 2 "across" ["plot", "name"] spAcross)(FG:Fn P w K mg base CX0 1 "parting" ["one", "other"] spParting):
  FnOk P w K mg base CX0 6 f fd ["row", "goal"] (Xgc T T2 (lamPos s_in_order) (lamPosW s_ways_to)):=by
 refine F.ok Oa (λvs H Q E h=>?_) (λc0 hhd A outer s H vs Q E hr h=>?_)
 ·obtain⟨r,g,row,G,rfl,_⟩:=h;rfl
 ·obtain⟨r,g,row,G,rfl,hR,R2,h3,sO,tab,hg,hG,k⟩:=h;have hu:=Cu hr;have cy:Room 1 _:=hr.mono (by decide);have fF:Room 2 _:=hr.mono (by decide);refine⟨_,Af (Ap (i:=2) Oa.nd rfl (.inr rfl) (Xf9 hu (pv 1) Ag))
   (Af (B5 aW.never rfl (B4 (Xpf (by rfl) B.sorted (by rfl) (Aa (Ak FP hr (by rfl) An (Aa (pv 0) Ac)) Ac) (Xax (Xo6 (T:=T2) (c0:=c0) (q:=qWy) (cl:=[("goal",s.heap.objs.size+1)]) jF rfl (λ_=>rfl) rfl hhd rfl) Xaw))) (Az (i:=3) Oa.nd rfl (.inr rfl))
    (Ai (Bc (Ax (Xc6 (hu3 hr)) (pv 3) (pv 1) (Ay _))
     (Ai (Lw hu (pv 2) (pv 3) (A7 (Xpj rfl) (by rfl) B.sum (by rfl) (Aa (Ga (N:=Xge) (cap:=[none,some 2,some 3]) (CompScope.of (defScope s_ways_to) Xgd rfl rfl rfl (by decide +kernel)) rfl
      (B4 (Ak FG cy (by rfl) An (Aa (pv 3) (Aa (pv 1) Ac)))) (λ_ _ _=>Az (i:=0) (show Xge.Nodup by decide +kernel) rfl (.inl rfl) (.inr rfl)) (λ_ _ _=>D9)
      (λ_ _ _=>Ly (by exact hu) (pv 1) (Ak (by exact FX) (by exact fF) (by rfl) An (Aa (pv 2) (Aa (pv 0) Ac))) Ag ⟨rfl,rfl,rfl,rfl⟩)) Ac)) rfl)) Bd)))
   (Ai (Ar (pv 2)))),?_⟩
  have pc:∀{S:Za},Ae row S=true->S.Pairwise ltS/\S.Nodup/\S.length<16/\∀y∈S,okN y:=λ{S} hS=>⟨(Bn hS).2,Gi hS,by have:=Ie hS;omega,λy hy=>R2.ok y ((Bn hS).1 y hy)⟩;obtain⟨lG,jb,zF,zG⟩:=pc hG;intro d nd;have s0:Same H (upd H d (.dT [])):=Same.upd0 nd;refine⟨_,rfl,Ab,g,kOf G,rfl,by rw[D4];exact s0 _ _ hg,?_⟩;rw[Xaa];generalize zH:upd H d (.dT [(kOf G,V.int 1)])=H1;have s1:Same H H1:=by rw[<-zH];exact Same.upd0 nd
  have oA:H1 d=some (.dT (kvT [G] (wyI row G))):=by
   rw[<-zH,Ab];unfold kvT wyI;rw[O0,K1];rfl
  have u6:=tab.same s1;dsimp only[Be];refine⟨_,rfl,r,row,rfl,s1 _ _ hR,R2,h3,sO,u6.a,λl ps Ts H2 nl hl hT bY pw hle pe b2=>?_⟩;have b2:But T H1 H2:=b2;have xh:=SH.Au.butT2 u6.b u6.a tab.n.symm b2;have k2:∀{b:ae} {o:HO},H1 b=some o->(∀z,o ≠ .tbl z)->H2 b=some o:=λe n=>b2 _ _ e (SH.Au.ne u6.a e n);have u7:=k2 (s1 _ _ hR) λz=>by simp
  have rP:=k2 (s1 _ _ hg) λz=>by simp
  have cK:=k2 oA λz=>by simp
  have qB:=Xo3 pw;have cz:=Xpl R2.two h3 sO qB bY;refine⟨xh,λf' c pm dH H3 nf hf hc gI kp=>?_⟩;have b3:But T2 H2 H3:=kp;have k3:∀{b:ae} {o:HO},H2 b=some o->(∀z,o ≠ .tbl z)->H3 b=some o:=λe n=>b3 _ _ e (SH.Au.ne xh e n);have zI:=k3 rP λz=>by simp
  have kP:=k3 cK λz=>by simp
  have qC:=k3 hl λz=>by simp
  have zJ:Tups H3 ps Ts:=⟨hT.1,λi hi=>k3 (hT.2 i hi) λz=>by simp⟩;have ET:=SH.Au.butT2 pe xh tab.n b3;refine⟨l,f',ps,Ts.map λS=>(Ah S G).length,rfl,rfl,qC,by rw[Oh,hT.1],by rw[hT.1];exact cz,?_,λD out H4 nD oN s4 dP=>?_⟩
  ·refine Xpg (k:=1) (j:=1) (x := "one") (y := "goal") (vg:=.ref g) (cg:=s.heap.objs.size+1) hf hc ⟨rfl,rfl,rfl,by decide +kernel,rfl⟩ (by decide +kernel) rfl rfl rfl rfl (.inr (.inl rfl)) rfl (hr.mono (by decide)) (λu=>rfl) λA1 oT KU KW i hi sm EU=>?_;refine⟨_,A7 B8 (by rfl) B.len bx (Aa (Ak (by exact FG) (by exact EU) (by rfl) An (Aa (pv 0) (Aa (pv 1) Ac))) Ac),λQ1 kk=>?_⟩;have hS:Ae row (Ts.getD i [])=true:=(bY _).mp (SH.Tups.at hT hi);obtain⟨lS,gf,sP,xi⟩:=pc hS;refine⟨_,rfl,_,rfl,_,g,Ts.getD i [],G,rfl,sm _ _ (zJ.2 i hi),sm _ _ zI,gf,jb,sP,zF,λlx Hx zK nK sx=>?_⟩;refine⟨lx,_,rfl,.inl (SqL.of nK),?_⟩;have dQ:i<Ts.length:=by rw[<-hT.1];exact hi
   have e:((Ts.map λS=>(Ah S G).length).getD i 0:Nat)=((Ah (Ts.getD i []) G).map V.str).length:=by
    rw[Oh];simp[List.getD,dQ]
   rw[<-e];exact kk Hx sx
  ·obtain⟨Us,hU,xj,EV⟩:=Xpm zJ (λS=>(Ah S G).length) oN;have sQ:=hU.same s4;have sR:=s4 _ _ kP;have xk:=s4 _ _ zI;have u8:Us.Nodup:=xj.nodup_iff.mpr qB;have mB:∀S,S∈Us↔Ae row S=true:=λS=>(xj.mem_iff).trans (bY S);have EW:D≠d:=(Aw kP nD).symm;have sS:Us.length<=64:=by rw[xj.length_eq];omega
   have EX:=SH.Au.same ET s4;have EY:=SH.Au.same gI s4
   let Vs:Nat->List (Za):=λi=>G::(Us.take i).filter λS=>decide (S≠G)
   refine⟨D,rfl,⟨_,SqL.of dP⟩,?_⟩;refine De (K:=K) (a:=D) (xs:=out.map V.ref) (λi Z H5=>(∃v, Z=[some (.ref r),some (.ref g),some (.ref d),v])/\But d H4 H5/\H5 d=some (.dT (kvT (Vs i) (wyI row G)))) ?_ ?_ ?_ ?_
   ·exact⟨⟨_,rfl⟩,But.refl _ _,sR⟩
   ·rintro i Z H5 _ ⟨_,b5,_⟩;exact SqL.of (b5 _ _ dP EW)
   ·rintro i x Z H5 qy ⟨⟨v,rfl⟩,b5,oW⟩;obtain⟨hi,rfl⟩:=N3 qy;have dQ:i<Us.length:=by rw[<-sQ.1];exact hi
    have u9:=b5 _ _ (sQ.2 i hi) (λz=>by have:=sQ.2 i hi;rw[z,sR] at this;cases this);have zL:=b5 _ _ xk (λz=>by rw[z,sR] at xk;cases xk);have fB:Us.take (i+1)=Us.take i++[Us.getD i []]:=by
     rw[O1 dQ];simp[List.getD,dQ]
    have hS:Ae row (Us.getD i [])=true:=(mB _).mp (SH.Tups.at sQ hi);have sT:∀W,W∈Us->(Ah W G).length<(Ah (Us.getD i []) G).length->W∈Us.take i:=λW hW bf=>by
     obtain⟨j,hj,rfl⟩:=P3.mp hW;have e:Us.getD i []=Us[i]:=by simp[List.getD,dQ]
     by_cases z:j<i
     ·exact List.mem_take_iff_getElem.mpr ⟨j,by omega,rfl⟩
     ·by_cases z2:j=i
      ·subst z2;rw[e] at bf;exact absurd bf (P1 _)
      ·have:=Qh.mp EV i j dQ hj (by omega);rw[e] at bf;omega
    have js:Us.getD i []∉Us.take i:=by
     have h2:(Us.take (i+1)).Nodup:=u8.sublist (P5 ..);rw[fB] at h2;exact λz=>(Qf.mp h2).2.2 _ z _ (by simp) rfl
    generalize Us.getD i []=S at u9 fB hS sT js;obtain⟨lS,gf,sP,xi⟩:=pc hS;dsimp only[Be];refine⟨_,rfl,_,rfl,_,_,Fp u9,Fp zL,Gc _ (Es xi),Gc _ (Es zG),Nb _ _,_,rfl,?_⟩;rw[Nc xi zG];by_cases e:S=G
    ·rw[Tt e];refine Bs ⟨⟨_,rfl⟩,b5,?_⟩;have:Vs (i+1)=Vs i:=by
      show G::(Us.take (i+1)).filter _=G::(Us.take i).filter _;rw[fB,O8];simp[e]
     rw[this];exact oW
    ·rw[Tu e];refine Cv ?_;refine⟨_,rfl,_,rfl,_,g,S,G,rfl,u9,zL,gf,jb,sP,zF,λlx H6 zK nK s6=>?_⟩;have xl:=s6 _ _ oW;have qz:=s6 _ _ u9;refine⟨lx,rfl,⟨_,SqL.of nK⟩,?_⟩;have oY:(Ah S G).length<=32:=by have:=Np S G;omega
     refine Ff (n:=(Ah S G).length) (by rw[Tp];omega) (λj=>.str ((Ah S G).getD j ao.empty)) (λ_=>true) (λj=>.int ((if Ae row (Am S ((Ah S G).getD j ao.empty))=true then wy (Ae row) G (Am S ((Ah S G).getD j ao.empty)) else 0:Nat):Int)) ?_ ?_ ?_ ?_ ?_
     ·intro j H7 hj s7;have:=G9 (K:=K) (SqL.of (s7 _ _ nK)) (by rw[Oh];exact hj);rw[Cb V.str ao.empty (Ah S G) hj] at this;exact this
     ·intro H7 s7;have:=Hf (K:=K) (SqL.of (s7 _ _ nK))
      rwa [Oh] at this
     ·exact λj H7 Q' hj s7 kk=>kk H7 (Same.refl _)
     ·intro j H7 Q' hj _ s7 kk;have hx:(Ah S G).getD j ao.empty∈Ah S G:=Cp hj;generalize (Ah S G).getD j ao.empty=x at hx kk ⊢;refine⟨_,rfl,d,rfl,.inr ⟨_,.inl (s7 _ _ xl)⟩,?_⟩;refine⟨_,rfl,_,rfl,_,S,x,rfl,s7 _ _ qz,gf,sP,λq H8 nq hq s8=>?_⟩;refine⟨_,.inr ⟨_,kOf (Am S x),q,.inl (s8 _ _ (s7 _ _ xl)),rfl,by rw[D4];exact hq,rfl⟩,?_⟩;rw[Eg];have nN:=Gv gf jb hx;by_cases bS:Ae row (Am S x)=true
      ·have dy:Am S x∈Vs i:=by
        by_cases z:Am S x=G
        ·exact Ox.mpr (.inl z)
        ·exact Op _ (Ot.mpr ⟨sT _ ((mB _).mpr bS) (by omega),Tt z⟩)
       rw[Tr dy];rw[Tr bS] at kk;exact kk H8 s8
      ·have dy:Am S x∉Vs i:=λz=>by
        rcases Ox.mp z with z | z
        ·exact bS (by rw[z];exact hG)
        ·exact bS ((mB _).mp (Pr (Ot.mp z).1))
       rw[Tq dy];rw[Tq bS] at kk;exact kk H8 s8
     ·intro L H7 nL s7 hL;refine⟨L,((Ah S G).map λx=>(((if Ae row (Am S x)=true then wy (Ae row) G (Am S x) else 0:Nat)):Int)),rfl,?_,?_⟩
      ·have q:=congrArg (List.map λx=>V.int ((if Ae row (Am S x)=true then wy (Ae row) G (Am S x) else 0:Nat):Int)) (C6 ao.empty (λ_=>true) (Ah S G));rw[Pn,Pl.mpr (λ_ _=>rfl),Pl.mpr (λ_ _=>rfl)] at q;rw[hL,Pl.mpr (λ_ _=>rfl),Pn];exact congrArg (λz=>some (HO.lst z)) q
      ·rw[N6,<-N5 lS lG e];have FH:=s7 _ _ xl;have l6:(kvT (Vs i) (wyI row G)).length<sizeLine:=by
        rw[Iu];show ((Us.take i).filter _).length+1<sizeLine;have h1:=Po (λS=>decide (S≠G)) (Us.take i);have h2:=List.length_take_le i Us;rw[Tp];omega
       refine⟨_,rfl,_,rfl,d,_,rfl,.inr ⟨_,kOf S,_,FH,rfl,by rw[D4];exact s7 _ _ qz,l6,rfl⟩,?_⟩;have sN:=s6.trans s7;refine⟨⟨_,rfl⟩,λb o eb nb=>?_,?_⟩
       ·rw[Ad nb];exact sN _ _ (b5 b o eb nb)
       ·rw[Ab];have FJ:S∉Vs i:=λz=>by
         rcases Ox.mp z with z | z
         ·exact e z
         ·exact js (Ot.mp z).1
        have eV:Vs (i+1)=Vs i++[S]:=by
         show G::(Us.take (i+1)).filter _=(G::(Us.take i).filter _)++[S];rw[fB,O8];simp[e]
        rw[eV,<-Xpn FJ];rfl
   ·rintro Z H5 ⟨⟨v,rfl⟩,b5,oW⟩;rw[Oh] at oW;refine⟨_,rfl,?_⟩;have tk:∀S,S∈Vs out.length↔Ae row S=true:=λS=>by
     show S∈G::(Us.take out.length).filter _↔_;rw[Ph (by rw[sQ.1];exact Oi _),Ox,Ot,mB];by_cases z:S=G
     ·subst z;simp[hG]
     ·simp[z]
    refine k d (Vs out.length) H5 nd oW tk ⟨SH.Au.but' EX sR (λz=>by simp) (λz=>by simp) b5,SH.Au.but' EY sR (λz=>by simp) (λz=>by simp) b5,tab.n⟩ λb o eb n1 n2=>?_;exact b5 _ _ (s4 _ _ (b3 _ _ (b2 _ _ (s1 _ _ eb) n1) n2)) (Aw eb nd)
def Xqs:FnScope ["row", "one", "other"] ["row", "one", "other"] (defScope s_walks_many):=by walk_at "s"
def Xqt{f C T T2:ae}{fd:aw}(F:Fun K "walks_many" "walks_many" s_walks_many f fd)(FA:Fn P w K mg base (CX1 P w) 5 "ask_plot" ["row", "plot"] (spAskPlot C))(FW:Fn P w K mg base CX0 6 "ways_to" ["row", "goal"] (Xgc T T2 (lamPos s_in_order) (lamPosW s_ways_to))):
  FnOk P w K mg base (CX1 P w) 7 f fd ["row", "one", "other"] (N7 C T T2 (lamPos s_in_order) (lamPosW s_ways_to)):=by
 refine F.ok1 Xqs (by walk_at "l") ?_
 ·walk_at "i"
  obtain⟨r,p,q,row,a,b,rfl,t2,h3,hd,tab,kq,ke⟩:=h;have hu:=Cu hr;have zM:Room 5 _:=hr.mono (by decide);refine⟨_,Af (E3 (Ak FA zM (by rfl) pass1 (Aa (pv 0) (Aa (pv 1) Ac))))
   (Af (E3 (Ak FA zM (by rfl) pass1 (Aa (pv 0) (Aa (pv 2) Ac))))
   (Ai (Ar (B9 hu (Ak FW hr (by rfl) An (Aa (pv 0) (Aa (pv 2) Ac))) (pv 1) (λ_ _=>rfl))))),?_⟩
  refine⟨_,rfl,_,rfl,r,p,row,a,rfl,t2.hr,t2.r2,t2.hp,t2.oa,t2.la,λha H1 s1=>?_,λha H1 s1=>ke (.inl ha) H1 s1⟩;have t3:=t2.same s1;refine⟨_,rfl,_,rfl,r,q,row,b,rfl,t3.hr,t2.r2,t3.hq,t2.ob,t2.lb,λhb H2 s2=>?_,λhb H2 s2=>ke (.inr hb) H2 (s1.trans s2)⟩;have hJ:=s1.trans s2;have t4:=t3.same s2;refine⟨_,rfl,_,rfl,r,q,row,b,rfl,t4.hr,t2.r2,h3,hd,tab.same hJ,t4.hq,hb,λd Us H3 nd kP hU gI b3=>?_⟩;have xm:=(tab.same hJ).but3 b3 t4.hp λz=>by simp
  refine⟨_,rfl,d,.int (wyI row b a),rfl,.inr ⟨_,kOf a,p,.inl kP,rfl,by rw[D4];exact xm,?_⟩,?_⟩
  ·rw[Eg,Tr ((hU a).mpr ha)]
  ·exact kq ha hb H3 gI λb o e n1 n2=>b3 _ _ (hJ _ _ e) n1 n2
def Xqu:FnScope ["_law_script"] ["_law_script"] (defScope sBegin):=by walk_at "s"
def Xqv{f:ae}{fd:aw}(F:Fun K "_law_begin" "_law_begin" sBegin f fd)(T:Bl mg):FnOk P w K mg base CX0 1 f fd ["_law_script"] (Xdc K):=by
 refine F.ok Xqu (by walk_at "l") ?_
 ·walk_at "i"
  obtain⟨a,ns,rfl,hS,hl,k⟩:=h;refine⟨_,Ai (Ar (Bw (Aa (B1 Jg rfl T.list jc (Aa (B2 Df (pv 0) B7 (Bx Ag)) Ac)) (Aa Ag (Aa Ag (Aa Ag (Aa Ag Ac))))))),?_⟩;refine⟨_,rfl,_,rfl,a,_,rfl,hS,λp hp=>?_⟩;have FL:Bz (ns.map V.int) none (some 63)=ns.map V.int:=by
   unfold Bz;rw[HT.sIx_none,Rr,show (some (63:Int))=some ((63:Nat):Int) from rfl,HT.sIx_nat];exact Ph (by rw[Oh];omega)
  rw[FL];refine⟨p,_,rfl,.inl (SqL.of Ab),λq hq=>?_⟩;refine⟨by show 5<=sizeLine;decide,λdr nO=>?_⟩;have zN:p≠q:=Aw (o:=.lst (ns.map V.int)) Ab hq;have pf:q≠dr:=Aw (o:=.lst (ns.map V.int)) Ab nO;have zO:H q=none:=by rw[Ad zN.symm] at hq;exact hq
  have FM:p≠dr:=Aw (H:=upd (upd H p (.lst (ns.map V.int))) q (.lst (ns.map V.int))) (o:=.lst (ns.map V.int)) (by rw[Ad zN,Ab]) nO;have zP:H dr=none:=by rw[Ad pf.symm,Ad FM.symm] at nO;exact nO
  refine k dr q _ zP zO ⟨⟨ns,0,0,1,0,Ab,by rw[Ad pf,Ab],Pi _,hl,by decide,by decide⟩⟩ ((((Same.refl H).upd hp).upd zO).upd zP)
def Ob:FnScope NP ["_law_draw", "_law_many_here"] (defScope sPick):=by walk_at "s"
def Xqw{f:ae}{fd:aw}(F:Fun K "_law_pick" "_law_pick" sPick f fd)(T:Bl mg):FnOk P w K mg base CX0 1 f fd ["_law_draw", "_law_many_here"] Mx:=by
 refine F.ok Ob (by walk_at "l") ?_
 ·walk_at "i"
  obtain⟨dr,sc,n,rfl,ph,zk,⟨ns,p,c,m,k,hd,hs,hp,hl,xn,mY⟩,kk⟩:=h;have sU:dr≠sc:=by
   intro e;subst e;rw[hd] at hs;cases ns with
   | nil=>cases hs
   | cons a r=>cases hs
  refine Xka (fun Z' H'=>∃x y p c m, Z'=[some (.ref dr),some (.int n),x,y]/\H' dr=some (.lst [.ref sc,.int (p:Nat),.int c,.int m,.int k])/\p<=ns.length/\0<=m/\m<1000000007/\∀b o,H b=some o->b≠dr->H' b=some o) ?_ ?_
  ·-- FQ rest
   refine⟨_,Af (Bc (Ax Xas (A4 Bg (pv 0) Ag (λ_ _=>rfl)) (pv 1) (Ay _))
     (Af (Ap (i:=3) Ob.nd rfl (.inl rfl) (Aq Fy (A4 Bg (pv 0) Ag (λ_ _=>rfl)) (pv 1)))
     (Af (Ek (Aq Xan (A4 Bg (pv 0) Ag (λ_ _=>rfl)) (pv 1)) (E4 (pv 0) Ag E6))
     (Ai (Ar (pv 3))))) Bd)
    (Af (Ek (Aq Bv (A4 Bg (pv 0) Ag (λ_ _=>rfl)) Ag) (E4 (pv 0) Ag E6))
    (Af (Ek (Aq Fy (Aq Bv (Aq Bv (Aq Xao (A4 Bg (pv 0) Ag (λ_ _=>rfl)) Ag) (Aq Xam Ag (A4 Bg (pv 0) Ag (λ_ _=>rfl)))) Ag) Ag) (E4 (pv 0) Ag E6))
    (Ai (Ar (Aq Fy (Aq Xan (A4 Bg (pv 0) Ag (λ_ _=>rfl)) Ag) (pv 1)))))),?_⟩
   rintro Z' H' ⟨x,y,p,c,m,rfl,gW,lR,sV,sW,kp⟩;refine⟨_,rfl,dr,_,_,_,rfl,rfl,SqL.of gW,rfl,_,rfl,_,_,rfl,rfl,_,rfl,?_⟩;refine A0 (λhc=>?_) (λhc=>?_)
   ·-- KY
    refine⟨_,rfl,dr,_,_,_,rfl,rfl,SqL.of gW,rfl,_,rfl,_,_,rfl,rfl,ph,?_⟩;refine⟨_,rfl,dr,_,_,_,rfl,rfl,SqL.of gW,rfl,_,rfl,_,_,rfl,rfl,⟨ph,by omega⟩,?_⟩;refine⟨_,rfl,dr,_,_,2,rfl,rfl,gW,rfl,?_⟩;refine⟨_,rfl,?_⟩;refine kk _ _ (R9 _ (by omega)) (Rt _ ph) ⟨⟨ns,p,c / n,m,k,Ab,?_,lR,hl,sV,sW⟩⟩ λb o e hb=>by rw[Ad hb];exact kp b o e hb
    rw[Ad sU.symm];exact kp _ _ hs sU.symm
   ·refine⟨_,rfl,dr,_,_,_,rfl,rfl,SqL.of gW,rfl,_,_,rfl,rfl,?_⟩;refine⟨_,rfl,dr,_,_,4,rfl,rfl,gW,rfl,?_⟩;refine⟨_,rfl,dr,_,_,_,rfl,rfl,SqL.of Ab,rfl,_,_,rfl,rfl,cpow3 sV sW,?_⟩;refine⟨_,rfl,dr,_,_,_,rfl,rfl,SqL.of Ab,rfl,_,_,rfl,rfl,.inl ⟨by decide,by decide⟩,_,_,rfl,rfl,_,_,rfl,rfl,_,_,rfl,rfl,(by show (0:Int)<1000000007;decide),?_⟩;refine⟨_,rfl,dr,_,_,3,rfl,rfl,Ab,rfl,?_⟩;refine⟨_,rfl,dr,_,_,_,rfl,rfl,SqL.of Ab,rfl,_,_,rfl,rfl,⟨by decide,by decide⟩,_,rfl,_,_,rfl,rfl,ph,?_⟩;refine kk _ _ (R9 _ (by omega)) (Rt _ ph) ⟨⟨ns,p,c,_,k+1,Ab,?_,lR,hl,R9 _ (by decide),Rt _ (by decide)⟩⟩ λb o e hb=>by rw[Ad hb,Ad hb];exact kp b o e hb
    rw[Ad sU.symm,Ad sU.symm];exact kp _ _ hs sU.symm
  ·intro nx js;refine⟨_,Bc (E1 (Ax C5 (A4 Bg (pv 0) Ag (λ_ _=>rfl)) (pv 1) (Ay _)) (Ez (Ax C5 (A4 Bg (pv 0) Ag (λ_ _=>rfl)) (A7 B8 (by rfl) T.len bx (Aa (A4 Bg (pv 0) Ag (λ_ _=>rfl)) Ac)) (Ay _)))).pt
     (Af (Ap (i:=2) Ob.nd rfl (.inl rfl) (A4 Bg (A4 Bg (pv 0) Ag (λ_ _=>rfl)) (A4 Bg (pv 0) Ag (λ_ _=>rfl)) (λ_ _=>rfl)))
     (Af (Ek (Aq Bv (A4 Bg (pv 0) Ag (λ_ _=>rfl)) Ag) (E4 (pv 0) Ag E6))
     (Af (Ek Ag (E4 (pv 0) Ag E6))
     (Ai (Bc (Ax Xas (pv 2) (Aq Xao Ag Ag) (Ay _))
      (Ai (Ek (pv 2) (E4 (pv 0) Ag E6)))
      (Ai (Ek (Aq Fy (Aq Bv (A4 Bg (pv 0) Ag (λ_ _=>rfl)) (pv 2)) Ag) (E4 (pv 0) Ag E6)))))))) Bd,?_⟩
   refine⟨_,rfl,dr,_,_,_,rfl,rfl,SqL.of hd,rfl,_,rfl,_,_,rfl,rfl,_,rfl,?_⟩;have skip:nx [some (.ref dr),some (.int n),none,none] H:=js _ _ ⟨none,none,p,c,m,rfl,hd,hp,xn,mY,λb o e _=>e⟩;refine A0 (λ_=>?_) (λ_=>Bs skip);refine⟨_,rfl,dr,_,_,_,rfl,rfl,SqL.of hd,rfl,_,rfl,dr,_,_,_,rfl,rfl,SqL.of hd,rfl,sc,_,rfl,.inl (SqL.of hs),_,_,rfl,rfl,_,rfl,?_⟩;refine A0 (λbf=>?_) (λ_=>skip);have oP:(p:Int)<((ns.map V.int).length:Nat):=Tv bf;rw[Oh] at oP;have bS:p<ns.length:=by omega
   have ig:(ns.map V.int)[p]? = some (.int (ns[p]'bS)):=by rw[O2,Oj bS];rfl
   refine⟨_,rfl,dr,_,_,_,rfl,rfl,SqL.of hd,rfl,_,rfl,dr,_,_,_,rfl,rfl,SqL.of hd,rfl,sc,_,_,_,rfl,rfl,SqL.of hs,E5 ig,?_⟩;refine⟨_,rfl,dr,_,_,_,rfl,rfl,SqL.of hd,rfl,_,_,rfl,rfl,?_⟩;refine⟨_,rfl,dr,_,_,1,rfl,rfl,hd,rfl,?_⟩;refine⟨_,rfl,dr,_,_,2,rfl,rfl,Ab,rfl,?_⟩;refine⟨_,rfl,_,_,rfl,rfl,⟨by decide,by decide,by decide⟩,_,_,rfl,rfl,_,rfl,?_⟩;refine A0 (λ_=>?_) (λ_=>?_)
   ·refine⟨_,rfl,_,rfl,dr,_,_,2,rfl,rfl,Ab,rfl,?_⟩;refine js _ _ ⟨_,none,p+1,_,m,rfl,Ab,bS,xn,mY,λb o e hb=>by rw[Ad hb,Ad hb,Ad hb];exact e⟩
   ·refine⟨_,rfl,dr,_,_,_,rfl,rfl,SqL.of Ab,rfl,_,rfl,_,_,rfl,rfl,_,_,rfl,rfl,(by show (0:Int)<1000000007;decide),?_⟩;refine⟨_,rfl,dr,_,_,3,rfl,rfl,Ab,rfl,?_⟩;refine js _ _ ⟨_,none,p+1,_,_,rfl,Ab,bS,R9 _ (by decide),Rt _ (by decide),λb o e hb=>by rw[Ad hb,Ad hb,Ad hb];exact e⟩
def Xgr:FnScope NPut ["_law_row_here", "_law_name", "_law_at", "_law_to"] (defScope sPut):=by walk_at "s"
def Xqx{f:ae}{fd:aw}(F:Fun K "_law_put" "_law_put" sPut f fd):FnOk P w K mg base CX0 1 f fd ["_law_row_here", "_law_name", "_law_at", "_law_to"] Xde:=by
 refine F.ok Xgr (by walk_at "l") ?_
 ·walk_at "i"
  obtain⟨r,row,x,a,b,rfl,hR,hl,fg,hb,k⟩:=h;refine⟨_,Af (Ap (i:=4) Xgr.nd rfl (.inl rfl) (Aq Br (Aq Br (B2 Df (pv 0) B7 (Bx (pv 2))) (Bw (Aa (pv 1) Ac))) (B2 Df (pv 0) (Bx (pv 2)) (Bx (pv 3)))))
   (Ai (Ar (Aq Br (Aq Br (pv 4) (Bw (Aa (pv 1) Ac))) (B2 Df (pv 0) (Bx (pv 3)) B7)))),?_⟩
  have eG:∀n,n<=100000->n<=sizeLine:=λn h=>by rw[Tp];omega
  refine⟨_,rfl,_,rfl,_,rfl,r,_,rfl,SqL.of hR,λp1 n1=>?_⟩;rw[Fd _ _ _ (by omega)];refine⟨_,rfl,by show 1<=sizeLine;decide,λp2 n2=>?_⟩;refine⟨p1,p2,_,_,rfl,rfl,ku Ab n2,Ab,eG _ (by simp;omega),λp3 n3=>?_⟩;refine⟨_,rfl,_,rfl,_,rfl,_,rfl,_,rfl,r,_,rfl,SqL.of (ku (ku (ku hR n1) n2) n3),λp4 n4=>?_⟩;rw[Xkb _ _ _ _ fg hb];refine⟨p3,p4,_,_,rfl,rfl,ku Ab n4,Ab,eG _ (by simp;omega),λp5 n5=>?_⟩;refine⟨_,rfl,_,rfl,by show 1<=sizeLine;decide,λp6 n6=>?_⟩;refine⟨p5,p6,_,_,rfl,rfl,ku Ab n6,Ab,eG _ (by simp;omega),λp7 n7=>?_⟩;refine⟨_,rfl,_,rfl,_,rfl,r,_,rfl,SqL.of (ku (ku (ku (ku (ku (ku (ku hR n1) n2) n3) n4) n5) n6) n7),λp8 n8=>?_⟩;rw[Fe _ _ _ hb];refine⟨p7,p8,_,_,rfl,rfl,ku Ab n8,Ab,eG _ (by simp;omega),λp9 n9=>?_⟩;have s8:=((((((((Same.refl H).go n1 n2).go n2 n3).go n3 n4).go n4 n5).go n5 n6).go n6 n7).go n7 n8).go n8 n9;refine k p9 _ (s8.free n9) (Ab.trans ?_) (s8.step n9);unfold Dv;simp
def Oc:FnScope NWh ["_law_row_here"] (defScope sWhere):=by walk_at "s"
def Xqy{f:ae}{fd:aw}(F:Fun K "_law_where" "_law_where" sWhere f fd)(T:Bl mg):FnOk P w K mg base CX0 1 f fd ["_law_row_here"] M0:=by
 refine F.ok Oc (by walk_at "l") ?_
 ·walk_at "i"
  obtain⟨r,row,rfl,hR,hl,k⟩:=h;have hu:=Cu hr;refine⟨_,Af (Ap (i:=1) Oc.nd rfl (.inl rfl) Xih)
   (Af (B5 aW.never rfl (G1 rfl T.range (Aa (A7 B8 (by rfl) T.len bx (Aa (pv 0) Ac)) Ac)) (Az (i:=2) Oc.nd rfl (.inl rfl))
    (Ai (Lw hu (pv 1) (A4 Bg (pv 0) (pv 2) (λ_ _=>rfl))
     (Aq Br (Ly hu (pv 1) (A4 Bg (pv 0) (pv 2) (λ_ _=>rfl)) (Bw Ac) ⟨rfl,rfl,rfl,rfl⟩) (Bw (Aa (pv 2) Ac))) rfl)))
   (Ai (Ar (pv 1)))),?_⟩
  intro d nd;have s0:Same H (upd H d (.dK [])):=(Same.refl H).step nd;refine⟨_,rfl,r,_,rfl,.inl (SqL.of (s0 _ _ hR)),((row.map V.str).length:Int),rfl,by omega,by rw[Oh];omega,?_⟩;have hn:((row.map V.str).length:Int).toNat=row.length:=by rw[Oh];simp
  rw[hn];refine G3 (lo:=0) (n:=row.length) (λi Z H2=>∃kvs v, Z=[some (.ref r),some (.ref d),v]/\Same H H2/\H2 d=some (.dK kvs)/\Wh H2 kvs (row.take i)) ?_ ?_ ?_
  ·exact⟨[],none,rfl,s0,Ab,⟨λk hk=>by simp at hk,λx hx=>by simp at hx,λ_ _=>rfl,by simp,by simp⟩⟩
  ·rintro i Z H2 hi ⟨kvs,v,rfl,s2,hd,wh⟩;have ig:(row.map V.str)[i]? = some (.str (row[i]'hi)):=by rw[O2,Oj hi];rfl
   have mC:atI (row.map V.str) (0+(i:Int))=some (.str (row[i]'hi)):=by rw[Ti];exact E5 ig
   have tk:row.take (i+1)=row.take i++[row[i]'hi]:=by rw[O1 hi]
   have kl:=wh.len;rw[O3] at kl;have ll:(plc (row.take i) (row[i]'hi)).length<=1000:=by
    rw[My];have:=List.count_le_length (a:=row[i]'hi) (l:=row.take i);rw[O3] at this;omega
   have eG:∀n,n<=100000->n<=sizeLine:=λn h=>by rw[Tp];omega
   refine⟨_,rfl,d,rfl,.inl ⟨kvs,.inl hd⟩,_,rfl,_,rfl,r,_,_,_,rfl,rfl,SqL.of (s2 _ _ hR),mC,by show 0<=sizeLine;decide,λp1 n1=>?_⟩;refine⟨_,DGet.k (k:=Sum.inr (row[i]'hi)) (ku hd n1),?_⟩;obtain⟨q,xs,e1,hq,i8⟩:∃q xs,(Av kvs (Sum.inr (row[i]'hi):Key)).getD (V.ref p1)=V.ref q/\upd H2 p1 (.lst []) q=some (.lst (xs.map V.int))/\plc (row.take i) (row[i]'hi)=xs:=by
    by_cases hx:row[i]'hi∈row.take i
    ·obtain⟨l,e1,e2⟩:=wh.val _ hx;exact⟨l,_,by rw[e1];rfl,ku e2 n1,rfl⟩
    ·refine⟨p1,[],by rw[wh.none _ hx];rfl,Ab,?_⟩;have:(plc (row.take i) (row[i]'hi)).length=0:=by rw[My];exact Rs.mpr hx
     exact Px.mp this
   have nK:xs.length<=1000:=by rw[<-i8];exact ll
   rw[e1];refine⟨_,rfl,by show 1<=sizeLine;decide,λp2 n2=>?_⟩;refine⟨q,p2,_,_,rfl,rfl,ku hq n2,Ab,eG _ (by simp;omega),λp3 n3=>?_⟩;refine⟨_,rfl,_,rfl,_,rfl,r,_,_,_,rfl,rfl,SqL.of (ku (ku (ku (s2 _ _ hR) n1) n2) n3),mC,?_⟩;have cK:=ku (u:=.lst [V.int (0+(i:Int))]) (ku (u:=.lst []) hd n1) n2;have kP:=ku (u:=.lst (xs.map V.int++[V.int (0+(i:Int))])) cK n3;refine⟨d,_,rfl,DPut.k (k:=Sum.inr (row[i]'hi)) kP (by rw[Tp];omega),_,_,rfl,?_,Ab,?_⟩
   ·have s3:=((s2.go n1 n2).go n2 n3).step (o:=.lst (xs.map V.int++[V.int (0+(i:Int))])) n3;exact s3.upd nd
   ·rw[tk];refine wh.snoc _ p3 ?_ λb ys e=>?_
    ·have ne:p3≠d:=(Aw cK n3).symm;rw[Ad ne,Ab,Mz,Tr rfl,i8,Ow,O3,Q4 (Ru hi)];simp
    ·have ne:b≠d:=λz=>by rw[z,hd] at e;cases e
     rw[Ad ne];exact ku (ku (ku e n1) n2) n3
  ·rintro Z H2 ⟨kvs,v,rfl,s2,hd,wh⟩;rw[P8] at wh;exact⟨_,rfl,k d kvs H2 nd hd wh s2⟩
def K2:FnScope NWo ["_law_where_here", "_law_one_here", "_law_other"] (defScope sWord):=by walk_at "s"
def Xqz{f:ae}{fd:aw}(F:Fun K "_law_word" "_law_word" sWord f fd)(T:Bl mg):FnOk P w K mg base CX0 1 f fd ["_law_where_here", "_law_one_here", "_law_other"] spWord:=by
 refine F.ok K2 (by walk_at "l") ?_
 ·walk_at "i"
  obtain⟨d,l1,l2,kvs,x,y,a,b,c,e,rfl,hd,v1,v2,h1,h2,k⟩:=h;have hu:=Cu hr;refine⟨_,Af (Ek (B9 hu (pv 0) (pv 1) (λ_ _=>rfl)) (Xi5 rfl (Dc (Az (i:=3) K2.nd rfl (.inr rfl)) (Dc (Az (i:=4) K2.nd rfl (.inr rfl)) Gz))))
   (Af (Jv (i:=5) (N:=["_law_at", "_law_high", "_law_low"]) (cap:=[none,some 4,some 3]) (CompScope.of (defScope sWord) NWo rfl rfl rfl (by decide +kernel)) rfl K2.nd rfl rfl
     (B4 (B9 hu (pv 0) (pv 2) (λ_ _=>rfl))) (λ_ _ _=>Az (i:=0) (show (["_law_at", "_law_high", "_law_low"]:Za).Nodup by decide +kernel) rfl (.inl rfl) (.inr rfl))
     (λ_ _ _=>Ea (E1 (Ax C5 (pv 2) (pv 0) (Ay _)) (Ez (Ax C5 (pv 0) (pv 1) (Ay _)))).pt) (λ_ _ _=>pv 0))
   (Af (Bc (E2 (Ax Bp (pv 1) (pv 2) (Ay _)) (Fx (Ax Xhi (A7 B8 (by rfl) T.len bx (Aa (pv 5) Ac)) Ag (Ay _)))).pt
    (Ai (Ar (A4 Lr (B6 (Aa Bi (Aa Bi (Aa Bi Ac)))) (A7 B8 (by rfl) T.len bx (Aa (pv 5) Ac)) (λ_ _=>rfl)))) Bd)
   (Ai (Ar (Iz (E1 (Ax C5 (A4 Bg (B9 hu (pv 0) (pv 2) (λ_ _=>rfl)) Ag (λ_ _=>rfl)) (pv 3) (Ay _)) (Ez (Ax C5 (pv 4) (A4 Bg (B9 hu (pv 0) (pv 2) (λ_ _=>rfl)) Ag (λ_ _=>rfl)) (Ay _)))).pt Bi Bi))))),?_⟩
  refine⟨_,rfl,_,rfl,d,_,rfl,DGet.rd hd v1,l1,_,rfl,SqL.of h1,rfl,?_⟩;refine⟨_,_,rfl,_,_,rfl,rfl,?_⟩;refine⟨_,rfl,_,rfl,d,_,rfl,DGet.rd hd v2,l2,rfl,⟨_,SqL.of h2⟩,?_⟩;refine Ma (n:=2) (λi=>([V.int c,V.int e]:List V).getD i .non) (λD i Z2 H2=>∃v, Z2=[v,some (.int b),some (.int a)]/\Same H H2/\H2 D=some (.lst ((inn a b (([c,e]:List Int).take i)).map V.int))) ?_ ?_ ?_ ?_ ?_
  ·intro D hD;exact⟨none,rfl,(Same.refl H).step hD,Ab⟩
  ·rintro D i Z2 H2 hD hi ⟨v,rfl,s2,hl⟩;exact G9 (SqL.of (s2 _ _ h2)) hi
  ·rintro D Z2 H2 hD ⟨v,rfl,s2,hl⟩;exact Hf (SqL.of (s2 _ _ h2))
  ·rintro D i Z2 H2 hD hi ⟨v,rfl,s2,hl⟩;obtain⟨t,q0,o4⟩:∃t,([V.int c,V.int e]:List V).getD i .non = .int t/\([c,e]:List Int).take (i+1)=([c,e]:List Int).take i++[t]:=by
    match i,hi with
    | 0,_=>exact⟨c,rfl,rfl⟩
    | 1,_=>exact⟨e,rfl,rfl⟩
   rw[q0];have fX:(inn a b (([c,e]:List Int).take i)).length<=2:=Pm (M3 ..) (by rw[O3];simp;omega);refine⟨_,rfl,_,rfl,_,_,rfl,rfl,_,rfl,?_⟩;refine A0 (λq1=>?_) (λq1=>Bs (wskip hi ⟨_,rfl,s2,?_⟩))
   ·refine⟨_,rfl,_,rfl,_,_,rfl,rfl,_,rfl,?_⟩;refine A0 (λq2=>?_) (λq2=>wskip hi ⟨_,rfl,s2,?_⟩)
    ·refine⟨_,rfl,wput hi hl (by rw[Oh,Tp];omega) ⟨_,rfl,?_,?_⟩⟩
     ·intro b' o e';rw[Ad (Aw e' hD)];exact s2 b' o e'
     ·rw[Ab,o4];unfold inn;rw[O8,Ow,Pq,Tr (by rw[q1,q2];rfl)];rfl
    ·rw[hl,o4];unfold inn;rw[O8,Pq,Tq (by rw[q1,q2];decide)];simp
   ·rw[hl,o4];unfold inn;rw[O8,Pq,Tq (by rw[q1];simp)];simp
  ·rintro D Z2 H2 hD ⟨v,rfl,s2,hl⟩;have oy:H2 D=some (.lst ((inn a b [c,e]).map V.int)):=hl;have fX:(inn a b [c,e]).length<=2:=M3 ..;have nP:∀p,H2 p=none->atI ([V.str "same",V.str "cross",V.str "around"]:List V) (((inn a b [c,e]).map V.int).length:Int)=some (.str (words3.getD (inn a b [c,e]).length "apart")):=λp _=>by
    rw[Oh];generalize (inn a b [c,e]).length=n at fX
    match n,fX with
    | 0,_=>rfl
    | 1,_=>rfl
    | 2,_=>rfl
   have sX:(decide (x=y)||decide (0<(inn a b [c,e]).length))=true->∀p,H2 p=none->∀H',Same H H'->Q (.str (words3.getD (inn a b [c,e]).length "apart")) H':=λhc p _ H' s'=>by
    have:=k H' s';unfold Dw at this;rw[Tr hc] at this;exact this
   refine⟨_,rfl,_,rfl,rfl,_,rfl,?_⟩;refine A0 (λq1=>?_) (λq1=>?_)
   ·refine Cv ⟨by show 3<=sizeLine;decide,λp hp=>?_⟩;refine⟨_,rfl,D,_,rfl,.inl (SqL.of (ku oy hp)),p,_,_,_,rfl,rfl,SqT.of Ab,nP p hp,?_⟩;refine sX ?_ p hp _ (s2.step hp);have oR:decide (x=y)=true:=by
     have:=Tv q1;injection this with this
     exact Tt this
    rw[oR];rfl
   ·refine⟨_,rfl,D,_,rfl,.inl (SqL.of oy),_,_,rfl,rfl,_,rfl,?_⟩;have oR:decide (x=y)=false:=by
     have:=Tw q1;exact Tu λz=>this (by rw[z])
    refine A0 (λq2=>?_) (λq2=>?_)
    ·have xo:0<(inn a b [c,e]).length:=by
      have:=Tv q2;rw[Oh] at this;omega
     refine⟨by show 3<=sizeLine;decide,λp hp=>?_⟩;refine⟨_,rfl,D,_,rfl,.inl (SqL.of (ku oy hp)),p,_,_,_,rfl,rfl,SqT.of Ab,nP p hp,?_⟩;exact sX (by rw[Tt xo,Tf]) p hp _ (s2.step hp)
    ·have xo:¬ 0<(inn a b [c,e]).length:=by
      have:=Tw q2;rw[Oh] at this;omega
     have en:∀z:ao,(if c<a/\b<e then ("within" : ao) else "apart")=z->Q (.str z) H2:=λz hz=>by
      have:=k H2 s2;unfold Dw at this;rw[Tq (by rw[oR,Tu xo];decide),hz] at this;exact this
     refine⟨_,rfl,_,rfl,d,_,rfl,DGet.rd (Rd.same hd s2) v2,l2,_,_,_,rfl,rfl,SqL.of (s2 _ _ h2),rfl,_,rfl,_,_,rfl,rfl,_,rfl,?_⟩;refine A0 (λq3=>?_) (λq3=>?_)
     ·refine⟨_,rfl,_,rfl,_,rfl,d,_,rfl,DGet.rd (Rd.same hd s2) v2,l2,_,_,_,rfl,rfl,SqL.of (s2 _ _ h2),rfl,_,_,rfl,rfl,_,rfl,?_⟩;refine A0 (λq4=>?_) (λq4=>?_)
      ·exact en _ (Tr ⟨Tv q3,Tv q4⟩)
      ·exact en _ (Tq λz=>Tw q4 z.2)
     ·exact Bs (en _ (Tq λz=>Tw q3 z.1))
def Ix:FnScope NBa ["_law_row_here", "_law_name"] (defScope sBarred):=by walk_at "s"
def Xq0{f:ae}{fd:aw}(F:Fun K "_law_barred" "_law_barred" sBarred f fd)(T:Bl mg)(FW:Fn P w K mg base CX0 1 "_law_where" ["_law_row_here"] M0)
  (FO:Fn P w K mg base CX0 1 "_law_word" ["_law_where_here", "_law_one_here", "_law_other"] spWord):FnOk P w K mg base CX0 2 f fd ["_law_row_here", "_law_name"] spBarredN:=by
 refine F.ok Ix (by walk_at "l") ?_
 ·walk_at "i"
  obtain⟨r,row,x,rfl,hR,hl,h2,hx,k⟩:=h;have hu:=Cu hr;refine⟨_,Af (Ap (i:=2) Ix.nd rfl (.inr rfl) (Ak FW hr rfl An (Aa (pv 0) Ac)))
   (Af (Jv (i:=3) (N:=NBc) (cap:=[none,some 1,some 2]) (CompScope.of (defScope sBarred) NBa rfl rfl rfl (by decide +kernel)) rfl Ix.nd rfl rfl
     (Xjc (pv 2)) (λ_ _ _=>Az (i:=0) (show NBc.Nodup by decide +kernel) rfl (.inl rfl) (.inr rfl))
     (λ_ _ _=>Ea (Ax Bp (Ak FO hr rfl An (Aa (pv 2) (Aa (pv 1) (Aa (pv 0) Ac)))) Bi (Ay _))) (λ_ _ _=>pv 0))
   (Af (B5 aW.never rfl (G1 rfl T.range (Aa (A7 B8 (by rfl) T.len bx (Aa (pv 3) Ac)) Ac)) (Az (i:=4) Ix.nd rfl (.inl rfl))
    (Ai (B5 aW.never rfl (B4 (B2 Df (pv 3) (Bx (Aq Bv (pv 4) Ag)) B7)) (Az (i:=5) Ix.nd rfl (.inl rfl))
     (Ai (Bc (Ax Bp (Ak FO hr rfl An (Aa (pv 2) (Aa (A4 Bg (pv 3) (pv 4) (λ_ _=>rfl)) (Aa (pv 5) Ac)))) Bi (Ay _)) (Ai (Ar Ds)) Bd)))))
   (Ai (Ar Ds)))),?_⟩
  refine⟨_,rfl,r,row,rfl,hR,hl,λd kvs H1 nd hd wh s1=>?_⟩;refine⟨_,rfl,d,kvs,rfl,hd,λo=>?_⟩;generalize kO:upd H1 d (.frz o (.dK kvs))=H2;have s2:Same H H2:=λb u e=>by rw[<-kO,Ad (Aw e nd)];exact s1 b u e
  have cK:H2 d=some (.frz o (.dK kvs)):=by rw[<-kO];exact Ab
  have uA:Wh H2 kvs row:=⟨wh.keys,λy hy=>let ⟨l,e1,e2⟩:=wh.val y hy; ⟨l,e1,by rw[<-kO,Ad (λz=>by rw[z,hd] at e2;cases e2)];exact e2⟩,wh.none,wh.nd,wh.len⟩;have jm:=wh.len;refine Ma (n:=kvs.length) (λi=>(kvs.map λp=>kV p.1).getD i .non) (λD i Z2 H3=>∃(v:Option V) (ms:Za), Z2=[v,some (.str x),some (.ref d)]/\Same H2 H3/\H3 D=some (.lst (ms.map V.str))/\(∀m∈ms,m∈row)/\ms.length<=i/\∀(j:Nat) (y:ao),j<i->(kvs.map λp=>kV p.1).getD j .non = .str y->A2 row x y->y∈ms) ?_ ?_ ?_ ?_ ?_
  ·intro D hD;exact⟨none,[],rfl,(Same.refl H2).step hD,Ab,by simp,Oi _,λj y h=>absurd h (Qo _)⟩
  ·rintro D i Z2 H3 hD hi ⟨v,ms,rfl,s3,hm,dy,xp,bY⟩;exact Hi (s3 _ _ cK) hi
  ·rintro D Z2 H3 hD ⟨v,ms,rfl,s3,hm,dy,xp,bY⟩;exact Hj (s3 _ _ cK)
  ·rintro D i Z2 H3 hD hi ⟨v,ms,rfl,s3,hm,dy,xp,bY⟩;obtain⟨y,kr,kD⟩:∃y,(kvs.map λp=>kV p.1).getD i .non = .str y/\y∈row:=by
    obtain⟨y,e1,e2⟩:=wh.keys (kvs[i]'hi).1 (Pd.mpr ⟨kvs[i]'hi,Pk hi,rfl⟩);refine⟨y,?_,e2⟩;simp only[List.getD,O2,Oj hi,Q3,Option.getD_some];rw[e1];rfl
   rw[kr];obtain⟨l1,e1,g1⟩:=uA.pl hx (h2 x hx);obtain⟨l2,e2,g2⟩:=uA.pl kD (h2 y kD);refine⟨_,rfl,_,rfl,_,rfl,d,l1,l2,kvs,x,y,_,_,_,_,rfl,.inr ⟨o,s3 _ _ cK⟩,e1,e2,s3 _ _ g1,s3 _ _ g2,λH4 s4=>?_⟩;have zQ:=s3.trans s4;refine⟨rfl,_,rfl,?_⟩;rw[<-Gg (h2 x hx) (h2 y kD)];refine A0 (λhc=>?_) (λhc=>wskip hi ⟨_,ms,rfl,zQ,s4 _ _ hm,dy,by omega,λj z hj hz kz=>?_⟩);rotate_left
   ·by_cases ej:j=i
    ·subst ej;rw[kr] at hz;injection hz with hz
     subst hz;exact absurd (by rw[show lieR row x y = "cross" from kz]) (Xd0 hc)
    ·exact bY j z (by omega) hz kz
   refine⟨_,rfl,wput hi (s4 _ _ hm) (by rw[Oh,Tp];omega) ⟨_,ms++[y],rfl,?_,by rw[Ab,Ow];rfl,?_,by rw[Oo,Pp];omega,λj z hj hz kz=>?_⟩⟩
   ·intro b u e;rw[Ad (Aw e hD)];exact zQ b u e
   ·intro m hm;rcases Ou.mp hm with z | z
    ·exact dy m z
    ·rw[Om.mp z];exact kD
   ·by_cases ej:j=i
    ·subst ej;rw[kr] at hz;injection hz with hz
     subst hz;simp
    ·exact P7 _ (bY j z (by omega) hz kz)
  ·rintro D Z2 H3 hD ⟨v,ms,rfl,s3,hm,dy,xp,bY⟩;refine⟨_,rfl,D,_,rfl,.inl (SqL.of hm),((ms.map V.str).length:Int),rfl,by omega,by rw[Oh];omega,?_⟩;have hn:((ms.map V.str).length:Int).toNat=ms.length:=by rw[Oh];simp
   rw[hn];refine G3 (lo:=0) (n:=ms.length) (λi Z H4=>∃v1 v2, Z=[some (.ref r),some (.str x),some (.ref d),some (.ref D),v1,v2]/\Same H3 H4/\∀(p q:Nat) (y z:ao),p<i->p<q->ms[p]? = some y->ms[q]? = some z->¬A2 row y z) ?_ ?_ ?_
   ·exact⟨none,none,rfl,Same.refl _,λp q y z h=>absurd h (Qo _)⟩
   ·rintro i Z H4 hi ⟨v1,v2,rfl,s4,ho⟩;refine⟨_,rfl,_,rfl,_,_,rfl,rfl,_,rfl,D,_,rfl,SqL.of (s4 _ _ hm),λp np=>?_⟩;have e0:(0:Int)+(i:Int)+1=((i+1:Nat):Int):=by omega
    rw[e0,Fe _ _ _ (by omega)];have s5:Same H3 (upd H4 p (.lst ((ms.drop (i+1)).map V.str))):=s4.step np;refine⟨p,rfl,⟨_,SqL.of Ab⟩,?_⟩;refine De (K:=K) (a:=p) (xs:=(ms.drop (i+1)).map V.str) (λj Z H5=>∃v2, Z=[some (.ref r),some (.str x),some (.ref d),some (.ref D),some (.int (0+(i:Int))),v2]/\Same (upd H4 p (.lst ((ms.drop (i+1)).map V.str))) H5/\∀(q:Nat) (z:ao),q<j->ms[i+1+q]? = some z->¬A2 row (ms[i]'hi) z) ?_ ?_ ?_ ?_
    ·exact⟨_,rfl,Same.refl _,λq z h=>absurd h (Qo _)⟩
    ·rintro j Z H5 _ ⟨v2,rfl,s6,eW⟩;exact SqL.of (s6 _ _ Ab)
    ·rintro j y Z H5 hj ⟨v2,rfl,s6,eW⟩;obtain⟨z,rfl,hz,FV⟩:∃z,y=V.str z/\z∈ms/\ms[i+1+j]? = some z:=by
      rw[O2] at hj;cases q:(ms.drop (i+1))[j]? with
      | none=>rw[q] at hj;cases hj
      | some z=>
       rw[q] at hj;exact⟨z,(O4 hj).symm,P4 (Qq q),by rw[<-q,Sa]⟩
     have jO:=s5.trans s6;have ig:(ms.map V.str)[i]? = some (.str (ms[i]'hi)):=by rw[O2,Oj hi];rfl
     have mC:atI (ms.map V.str) (0+(i:Int))=some (.str (ms[i]'hi)):=by rw[Ti];exact E5 ig
     obtain⟨l1,e1,g1⟩:=uA.pl (dy _ (Pk hi)) (h2 _ (dy _ (Pk hi)));obtain⟨l2,e2,g2⟩:=uA.pl (dy _ hz) (h2 _ (dy _ hz));have xq:=s3.trans jO;refine⟨_,rfl,_,rfl,_,rfl,D,_,_,_,rfl,rfl,SqL.of (jO _ _ hm),mC,_,rfl,d,l1,l2,kvs,_,z,_,_,_,_,rfl,.inr ⟨o,xq _ _ cK⟩,e1,e2,xq _ _ g1,xq _ _ g2,λH6 s7=>?_⟩;refine⟨rfl,_,rfl,?_⟩;rw[<-Gg (h2 _ (dy _ (Pk hi))) (h2 _ (dy _ hz))];refine A0 (λ_=>?_) (λhc=>?_)
     ·exact k true H6 (λe=>by cases e) ((s2.trans s3).trans (jO.trans s7))
     ·refine⟨_,rfl,s6.trans s7,λq u hq hu=>?_⟩;by_cases eq:q=j
      ·subst eq;rw[FV] at hu;have hu:=O4 hu;subst hu;exact λkz=>absurd (by rw[show lieR row (ms[i]'hi) z = "cross" from kz]) (Xd0 hc)
      ·exact eW q u (by omega) hu
    ·rintro Z H5 ⟨v2,rfl,s6,eW⟩;refine⟨_,_,rfl,s5.trans s6,λp q y z hp vz hy hz=>?_⟩;by_cases ep:p=i
     ·subst ep;rw[Oj hi] at hy;rw[<-O4 hy];refine eW (q - (p+1)) z ?_ (by rw[show p+1+(q - (p+1))=q by omega];exact hz);have:=(O6.mp hz).1;rw[Oh,Pz];omega
     ·exact ho p q y z (by omega) vz hy hz
   ·rintro Z H4 ⟨v1,v2,rfl,s4,ho⟩;refine k false H4 (λ_ y hy z hz k1 k2 k3=>?_) ((s2.trans s3).trans s4);have mem:∀u∈row,A2 row x u->u∈ms:=λu hu ku=>by
     obtain⟨l,e,_⟩:=wh.val u hu;obtain⟨j,hj,ej⟩:=P3.mp (G7 e);rw[Oh] at hj;refine bY j u hj ?_ ku;rw[Qd] at ej;simp only[List.getD,O2,Oj hj,Q3,Option.getD_some];rw[ej];rfl
    obtain⟨p,hp,ep⟩:=P3.mp (mem y hy k1);obtain⟨q,hq,eq⟩:=P3.mp (mem z hz k2);have lg:ms[p]? = some y:=by rw[Oj hp,ep]
    have uB:ms[q]? = some z:=by rw[Oj hq,eq]
    rcases Nat.lt_trichotomy p q with h | h | h
    ·exact ho p q y z hp h lg uB k3
    ·subst h;rw[lg] at uB;have e:=O4 uB;subst e;exact Ee (h2 y hy) k3
    ·exact ho q p z y hq h uB lg (C8 (h2 y hy) (h2 z hz) k3)
def Ei:FnScope NRo ["_law_draw", "_law_names_here"] (defScope sRow):=by walk_at "s"
def Xq1{f:ae}{fd:aw}(F:Fun K "_law_row" "_law_row" sRow f fd)(T:Bl mg)(FP:FnPick P w K mg base)(xr:Fn P w K mg base CX0 1 "_law_put" ["_law_row_here", "_law_name", "_law_at", "_law_to"] Xde)
  (FB:Fn P w K mg base CX0 2 "_law_barred" ["_law_row_here", "_law_name"] spBarredN):FnOk P w K mg base CX0 3 f fd ["_law_draw", "_law_names_here"] spRowN:=by
 refine F.ok Ei (by walk_at "l") ?_
 ·walk_at "i"
  obtain⟨dr,sc,nl,ns,rfl,dk,hN,sY,uC,pi,k⟩:=h;have cy:Room 1 _:=hr.mono (by decide);have eG:∀m,m<=100000->m<=sizeLine:=λm h=>by rw[Tp];omega
  refine⟨_,Af (Bc (Ax Bp (Ak FP cy rfl An (Aa (pv 0) (Aa Ag Ac))) Ag (Ay _))
    (Af (Ap (i:=2) Ei.nd rfl (.inl rfl) (Ak FP cy rfl An (Aa (pv 0) (Aa (Aq Bv (A7 B8 (by rfl) T.len bx (Aa (pv 1) Ac)) Ag) Ac))))
    (Ai (Ar (Aq Br (Aq Br (pv 1) (Jm (B2 Df (pv 1) B7 (Bx (pv 2))))) (Jm (B2 Df (pv 1) (Bx (pv 2)) B7)))))) Bd)
   (Af (Ap (i:=3) Ei.nd rfl (.inl rfl) (Bw Ac))
   (Af (B5 aW.never rfl (B4 (pv 1)) (Az (i:=4) Ei.nd rfl (.inl rfl))
    (Af (Ap (i:=5) Ei.nd rfl (.inl rfl) (Ak FP cy rfl An (Aa (pv 0) (Aa (Aq Bv (A7 B8 (by rfl) T.len bx (Aa (pv 3) Ac)) Ag) Ac))))
    (Af (Ap (i:=6) Ei.nd rfl (.inl rfl) (Aq Bv (pv 5) (Ak FP cy rfl An (Aa (pv 0) (Aa (Aq Xhh (Aq Bv (A7 B8 (by rfl) T.len bx (Aa (pv 3) Ac)) Ag) (pv 5)) Ac)))))
    (Af (Ap (i:=7) Ei.nd rfl (.inl rfl) (Ak xr cy rfl An (Aa (pv 3) (Aa (pv 4) (Aa (pv 5) (Aa (pv 6) Ac))))))
    (Af (Bc (Dt (Ak FB hr rfl An (Aa (pv 7) (Aa (pv 4) Ac))))
     (Ai (Ap (i:=7) Ei.nd rfl (.inl rfl) (Aq Br (Aq Br (B2 Df (pv 3) B7 (Bx (pv 5))) (Bw (Aa (pv 4) (Aa (pv 4) Ac)))) (B2 Df (pv 3) (Bx (pv 5)) B7)))) Bd)
    (Ai (Ap (i:=3) Ei.nd rfl (.inl rfl) (pv 7))))))))
   (Ai (Ar (pv 3))))),?_⟩
  refine⟨_,rfl,dr,sc,4,rfl,by decide,by decide,dk,λr1 H1 _ _ d1 b1=>?_⟩;refine⟨rfl,_,rfl,?_⟩;have b1:But dr H H1:=b1;have xt:=b1 _ _ hN sY;refine A0 (λ_=>?_) (λ_=>?_)
  ·-- FQ FY
   refine⟨_,rfl,_,rfl,nl,_,rfl,.inl (SqL.of xt),_,_,rfl,rfl,dr,sc,_,rfl,by omega,by rw[Oh];omega,d1,λc H2 c0 c1 d2 b2=>?_⟩;obtain⟨c,rfl⟩:=Pt c0;rw[Oh] at c1;have hc:c<=ns.length:=by omega
   have jP:=But.trans b1 b2;have xu:=b2 _ _ xt sY;obtain⟨xs,nO⟩:=d2.at;refine⟨_,rfl,_,rfl,_,rfl,_,rfl,nl,_,rfl,SqL.of xu,λp1 n1=>?_⟩;rw[Fd _ _ _ hc];refine⟨p1,_,rfl,SqL.of Ab,λp2 n2=>?_⟩;refine⟨nl,p2,_,_,rfl,rfl,ku (ku xu n1) n2,Ab,eG _ (by simp;omega),λp3 n3=>?_⟩;refine⟨_,rfl,_,rfl,_,rfl,nl,_,rfl,SqL.of (ku (ku (ku xu n1) n2) n3),λp4 n4=>?_⟩;rw[Fe _ _ _ hc];refine⟨p4,_,rfl,SqL.of Ab,λp5 n5=>?_⟩;refine⟨p3,p5,_,_,rfl,rfl,ku (ku Ab n4) n5,Ab,eG _ (by simp;omega),λp6 n6=>?_⟩;have s5:=(((((Same.refl H2).go n1 n2).go n2 n3).go n3 n4).go n4 n5).go n5 n6;have f6:=s5.free n6;have jC:(ns++(ns.take c).reverse++(ns.drop c).reverse).Perm (ns++ns):=by
    rw[Pb];refine P6 ns ?_;refine((Sf _).append (Sf _)).trans ?_;rw[Pa]
   refine k p6 (ns++(ns.take c).reverse++(ns.drop c).reverse) _ (jP.free nO f6) (Ab.trans (by simp)) jC (noThree_grid uC c λz hz=>Fj uC jC z ?_) (d2.same (s5.step n6)) (jP.same (s5.step n6));exact jC.mem_iff.mpr (P7 _ hz)
  ·-- KZ one by one
   refine⟨by show 0<=sizeLine;decide,λp np=>?_⟩;obtain⟨Le,sZ⟩:=d1.at;have s0:Same H1 (upd H1 p (.lst [])):=(Same.refl H1).step np;refine⟨_,rfl,nl,rfl,⟨_,SqL.of (s0 _ _ xt)⟩,?_⟩;refine De (K:=K) (a:=nl) (xs:=ns.map V.str) (λi Z H2=>∃(v2 v4 v5 v6 v7:Option V) (q:ae) (row:Za), Z=[some (.ref dr),some (.ref nl),v2,some (.ref q),v4,v5,v6,v7]/\H2 q=some (.lst (row.map V.str))/\H q=none/\q≠dr/\row.Perm (ns.take i++ns.take i)/\Bk row/\DrawOk H2 dr sc/\But dr H H2) ?_ ?_ ?_ ?_
   ·exact⟨_,_,_,_,_,p,[],rfl,Ab,b1.free sZ np,(Aw sZ np).symm,by simp,Xl2,d1.same s0,b1.same s0⟩
   ·rintro i Z H2 _ ⟨v2,v4,v5,v6,v7,q,row,rfl,hq,nq,pf,hp,eC,d2,b2⟩;exact SqL.of (b2 _ _ hN sY)
   ·rintro i y Z H2 hi ⟨v2,v4,v5,v6,v7,q,row,rfl,hq,nq,pf,hp,eC,d2,b2⟩;have fX:i<ns.length:=by
     have:=(O6.mp hi).1
     rwa [Oh] at this
    obtain⟨x,rfl,hx⟩:∃x,y=V.str x/\ns[i]? = some x:=by
     rw[O2] at hi;cases z:ns[i]? with
     | none=>rw[z] at hi;cases hi
     | some x=>rw[z] at hi;exact⟨x,(O4 hi).symm,rfl⟩
    have tk:ns.take (i+1)=ns.take i++[x]:=by
     rw[O1 fX];rw[Oj fX] at hx;rw[O4 hx]
    have oK:row.length<=28:=by
     have:=hp.length_eq;rw[Oo,O3] at this;omega
    have qB:(ns.take i++[x]).Nodup:=by rw[<-tk];exact uC.sublist (P5 ..)
    refine⟨_,rfl,_,rfl,q,_,rfl,.inl (SqL.of hq),_,_,rfl,rfl,dr,sc,_,rfl,by omega,by rw[Oh];omega,d2,λa H3 a0 a1 d3 b3=>?_⟩;obtain⟨a,rfl⟩:=Pt a0;rw[Oh] at a1;have qD:=b3 _ _ hq pf;refine⟨_,rfl,_,rfl,_,rfl,q,_,rfl,.inl (SqL.of qD),_,_,rfl,rfl,_,rfl,_,_,rfl,rfl,dr,sc,_,rfl,by rw[Oh];omega,by rw[Oh];omega,d3,λc H4 c0 c1 d4 b4=>?_⟩;obtain⟨c,rfl⟩:=Pt c0;rw[Oh] at c1;refine⟨_,_,rfl,rfl,?_⟩;have Go:(a:Int)+(c:Int)=((a+c:Nat):Int):=by omega
    dsimp only;rw[Go];have lq:a+c<=row.length:=by omega
    have nQ:=b4 _ _ qD pf;have zR:=But.trans b2 (But.trans b3 b4);obtain⟨G',mD⟩:=d4.at;refine⟨_,rfl,_,rfl,_,rfl,_,rfl,q,row,x,a,a+c,rfl,nQ,by omega,by omega,lq,λl H5 zS l6 s5=>?_⟩;have d5:=d4.same s5;have GA:=zR.same s5;have tf:=zR.free mD zS;have jz:l≠dr:=(Aw mD zS).symm;have gJ:(Dv row x a (a+c)).Perm ((ns.take i++[x])++(ns.take i++[x])):=Xdh hp (Xdd row x a (a+c) (by omega));have rB:(Dv row x a (a+c)).length<=1000:=by
     have:=gJ.length_eq;rw[Oo,Oo,O3,Pp] at this;omega
    refine⟨_,rfl,_,rfl,l,_,x,rfl,l6,rB,Fj qB gJ,gJ.mem_iff.mpr (by simp),λbb H6 xv s6=>?_⟩;have d6:=d5.same s6;have xw:=GA.same s6;refine⟨bb,rfl,?_⟩;have tj:∀y∈row,row.count y=2:=Fj (uC.sublist (P5 ..)) hp;refine A0 (λ_=>?_) (λGB=>?_)
    ·have zT:=s6 _ _ (s5 _ _ nQ);refine⟨_,rfl,_,rfl,_,rfl,q,_,rfl,SqL.of zT,λp1 n1=>?_⟩;rw[Fd _ _ _ (by omega)];refine⟨_,rfl,_,rfl,by show 2<=sizeLine;decide,λp2 n2=>?_⟩;refine⟨p1,p2,_,_,rfl,rfl,ku Ab n2,Ab,eG _ (by simp;omega),λp3 n3=>?_⟩;refine⟨_,rfl,_,rfl,_,rfl,q,_,rfl,SqL.of (ku (ku (ku zT n1) n2) n3),λp4 n4=>?_⟩;rw[Fe _ _ _ (by omega)];refine⟨p3,p4,_,_,rfl,rfl,ku Ab n4,Ab,eG _ (by simp;omega),λp5 n5=>?_⟩;have xx:=((((Same.refl H6).go n1 n2).go n2 n3).go n3 n4).go n4 n5;have f5:=xx.free n5;obtain⟨L',tw⟩:=d6.at;have pN:(row.take a++[x,x]++row.drop a).Perm (x::x::row):=by
      have e:row.take a++[x,x]++row.drop a=row.take a++x::x::row.drop a:=by simp
      rw[e];refine Rq.trans (List.Perm.cons x (Rq.trans (List.Perm.cons x ?_)));rw[Pa]
     have pM:=Xdh hp pN;have pj:=Fj qB pM;refine⟨_,rfl,_,_,_,_,_,p5,row.take a++[x,x]++row.drop a,rfl,Ab.trans (by simp),xw.free tw f5,(Aw tw f5).symm,by rw[tk];exact pM,?_,d6.same (xx.step n5),xw.same (xx.step n5)⟩;refine Xdy (x:=x) eC tj pj (λy hy=>?_) (λp hp=>Xl5 hp) (λy hy z hz ky=>absurd ky (Xl4 (pj x (by simp)) (pj y hy)));have:=pN.mem_iff.mp hy;simp only[Ox] at this;rcases this with h | h | h
     ·exact .inl h
     ·exact .inl h
     ·exact .inr h
    ·refine⟨_,rfl,_,_,_,_,_,l,_,rfl,s6 _ _ l6,tf,jz,by rw[tk];exact gJ,?_,d6,xw⟩;refine Xdy (x:=x) eC tj (Fj qB gJ) (λy hy=>?_) (λp hp=>Xl3 (by omega) hp) (xv GB);have:=(Xdd row x a (a+c) (by omega)).mem_iff.mp hy;simp only[Ox] at this;rcases this with h | h | h
     ·exact .inl h
     ·exact .inl h
     ·exact .inr h
   ·rintro Z H2 ⟨v2,v4,v5,v6,v7,q,row,rfl,hq,nq,pf,hp,eC,d2,b2⟩;rw[Oh,P8] at hp;exact⟨_,rfl,k q row H2 nq hq hp eC d2 b2⟩
def Ex:FnScope NNa ["_law_draw", "_law_many_here"] (defScope sNames):=by walk_at "s"
def Xq2{f:ae}{fd:aw}(F:Fun K "_law_names" "_law_names" sNames f fd)(T:Bl mg)(FP:FnPick P w K mg base):FnOk P w K mg base CX0 2 f fd ["_law_draw", "_law_many_here"] spNames:=by
 refine F.ok Ex (by walk_at "l") ?_
 ·walk_at "i"
  obtain⟨dr,sc,n,rfl,hn,dk,k⟩:=h;refine⟨_,Af (Ap (i:=2) Ex.nd rfl (.inl rfl) Bi)
   (Af (Ap (i:=3) Ex.nd rfl (.inl rfl) (Ak FP hr rfl An (Aa (pv 0) (Aa Ag Ac))))
   (Af (Ap (i:=4) Ex.nd rfl (.inl rfl) (El Bp (Ak FP hr rfl An (Aa (pv 0) (Aa Ag Ac))) Ag (Ay _)))
   (Af (Ap (i:=5) Ex.nd rfl (.inl rfl) (Bw Ac))
   (Af (B5 aW.never rfl (G1 rfl T.range (Aa (pv 1) Ac)) (Az (i:=6) Ex.nd rfl (.inl rfl))
    (Af (Ap (i:=7) Ex.nd rfl (.inl rfl) (A4 Xhz (pv 2) (Aq Fy (Aq Bv (pv 3) (pv 6)) Ag) (λ_ _=>rfl)))
    (Af (Ap (i:=8) Ex.nd rfl (.inl rfl) (Aq Xi8 Bi (Aq Fy (Aq Bv (pv 3) (Aq Xam (pv 6) (pv 6))) Ag)))
    (Ai (E3 (Lu PySem.F.plainAttrs_list PySem.F.slot_list_append PySem.F.type_list_append Jh (pv 5)
     (Aa (Iz (Dt (pv 4)) (Aq Je (Aq Je (pv 8) (pv 7)) Bi) (Aq Je (pv 7) (pv 8))) Ac)))))))
   (Ai (Ar (pv 5))))))),?_⟩
  refine⟨_,rfl,dr,sc,26,rfl,by decide,by decide,dk,λr1 H1 zU LA d1 b1=>?_⟩;refine⟨_,rfl,dr,sc,2,rfl,by decide,by decide,d1,λr2 H2 zV LB d2 b2=>?_⟩;refine⟨rfl,?_⟩;refine⟨by show 0<=sizeLine;decide,λl nl=>?_⟩;obtain⟨st,rfl⟩:=Pt zU;have bK:st<26:=by omega
  generalize bf:decide (V.int r2=V.int 1)=late;have jP:But dr H H2:=But.trans b1 b2;obtain⟨xs,nO⟩:=d2.at;have tf:H l=none:=jP.free nO nl;obtain⟨jz,t0⟩:=d2.ne nl;refine⟨_,rfl,(n:Int),rfl,by omega,by omega,?_⟩;rw[Qr];refine G3 (lo:=0) (n:=n) (λi Z H3=>∃v1 v2 v3, Z=[some (.ref dr),some (.int n),some (.str Fi),some (.int st),some (.bl late),some (.ref l),v1,v2,v3]/\H3 l=some (.lst ((A8 st late i).map V.str))/\DrawOk H3 dr sc/\But dr H H3) ?_ ?_ ?_
  ·exact⟨none,none,none,rfl,Ab,d2.upd jz t0,jP.upd tf⟩
  ·rintro i Z H3 hi ⟨v1,v2,v3,rfl,qC,d3,b3⟩;have GC:((st:Int)+(0+(i:Int))) % 26=(((st+i) % 26:Nat):Int):=by omega
   have GD:(st+i) % 26<26:=S9 _ (by decide);have GE:((0:Int)+(i:Int)) * (0+(i:Int))=((i * i:Nat):Int):=by rw[Ti];exact(Int.natCast_mul i i).symm
   have h7:(st+i * i) % 7<7:=S9 _ (by decide);have e7:((st:Int)+((i * i:Nat):Int)) % 7=(((st+i * i) % 7:Nat):Int):=by
    generalize i * i=j;omega
   refine⟨_,rfl,_,rfl,_,rfl,_,_,rfl,rfl,_,_,rfl,rfl,(by show (0:Int)<26;decide),_,_,_,rfl,rfl,(by show 26<=sizeLine;decide),by rw[GC];exact Xk7 GD,?_⟩;refine⟨_,rfl,_,rfl,_,rfl,_,_,rfl,rfl,.inl ⟨by omega,by omega⟩,_,_,rfl,rfl,_,_,rfl,rfl,(by show (0:Int)<7;decide),?_⟩;have x4:((st:Int)+((0:Int)+(i:Int)) * (0+(i:Int))) % 7=(((st+i * i) % 7:Nat):Int):=by rw[GE,e7]
   refine⟨_,_,rfl,rfl,by rw[x4];omega,by rw[x4];omega,by show 1<=1000;decide,?_⟩;rw[x4,Qr];have oK:(repS "m" ((st+i * i) % 7)).length<=6:=by
    rw[L8];have:(ao.ofString "m").length=1:=rfl;rw[this];omega
   have lQ:(signOf ((st+i) % 26)).length=1:=rfl;have pi:(A8 st late i).length=i:=by unfold A8;simp
   have t6:A8 st late (i+1)=A8 st late i++[Hy st late i]:=by unfold A8;rw[P9,Ow];rfl
   have eG:∀m,m<=100000->m<=sizeLine:=λm h=>by rw[Tp];omega
   have fin:∀z:ao,Hy st late i=z->Lv (.ref l) [.str z] H3 λ_ H4=>∃v1 v2 v3,[some (V.ref dr),some (.int n),some (.str Fi),some (.int st),some (.bl late),some (.ref l),some (.int (0+(i:Int))),some (.str (signOf ((st+i) % 26))),some (.str (repS "m" ((st+i * i) % 7)))]=[some (.ref dr),some (.int n),some (.str Fi),some (.int st),some (.bl late),some (.ref l),v1,v2,v3]/\H4 l=some (.lst ((A8 st late (i+1)).map V.str))/\DrawOk H4 dr sc/\But dr H H4:=λz hz=>by
    refine⟨l,_,_,rfl,rfl,qC,by rw[Oh,pi,Tp];omega,_,_,_,rfl,?_,d3.upd jz t0,b3.upd tf⟩;rw[Ab,t6,Ow,<-hz];rfl
   refine⟨_,rfl,.inl ⟨rfl,_,SqL.of qC⟩,_,rfl,late,rfl,?_⟩;refine A0 (λhL=>?_) (λhL=>?_)
   ·refine⟨_,rfl,_,rfl,_,_,rfl,rfl,eG _ (by show (repS "m" ((st+i * i) % 7)).length+1<=100000;omega),_,_,rfl,rfl,eG _ ?_,fin _ (by unfold Hy;rw[Tr hL];rfl)⟩;rw[E9];show (repS "m" ((st+i * i) % 7)).length+1+1<=100000;omega
   ·exact⟨_,rfl,_,rfl,_,_,rfl,rfl,eG _ (by show 1+(repS "m" ((st+i * i) % 7)).length<=100000;omega),fin _ (by unfold Hy;rw[Tq (by rw[hL];decide)];rfl)⟩
  ·rintro Z H3 ⟨v1,v2,v3,rfl,qC,d3,b3⟩;exact⟨_,rfl,k l st late H3 tf bK qC t0 d3 b3⟩
def Od:FnScope NIs ["_law_draw", "_law_most"] (defScope sIsland):=by walk_at "s"
def Xq3{f:ae}{fd:aw}(F:Fun K "_law_island" "_law_island" sIsland f fd)(T:Bl mg)(FP:FnPick P w K mg base)(FN:Fn P w K mg base CX0 2 "_law_names" ["_law_draw", "_law_many_here"] spNames)
  (FR:Fn P w K mg base CX0 3 "_law_row" ["_law_draw", "_law_names_here"] spRowN):FnOk P w K mg base CX0 4 f fd ["_law_draw", "_law_most"] spIslandN:=by
 refine F.ok Od (by walk_at "l") ?_
 ·walk_at "i"
  obtain⟨dr,sc,m,rfl,hm,dk,k⟩:=h;have cy:Room 1 _:=hr.mono (by decide);have fF:Room 2 _:=hr.mono (by decide);refine⟨_,Af (Ap (i:=2) Od.nd rfl (.inl rfl) (Aq Bv Ag (Ak FP cy rfl An (Aa (pv 0) (Aa Ag Ac)))))
   (Af (Ap (i:=3) Od.nd rfl (.inl rfl) (A4 Lr (B6 (Aa (Ak FP cy rfl An (Aa (pv 0) (Aa Ag Ac))) (Aa (pv 2) (Aa (Ak FP cy rfl An (Aa (pv 0) (Aa (Aq Bv (pv 1) Ag) Ac))) Ac))))
    (Ak FP cy rfl An (Aa (pv 0) (Aa Ag Ac))) (λ_ _=>rfl)))
   (Ai (Ar (Ak FR hr rfl An (Aa (pv 0) (Aa (Ak FN fF rfl An (Aa (pv 0) (Aa (A7 (Xhk rfl) (by rfl) T.min boot_min (Aa (pv 3) (Aa (pv 1) Ac))) Ac))) Ac)))))),?_⟩
  refine⟨_,rfl,dr,sc,5,rfl,by decide,by decide,dk,λr1 H1 zU _ d1 b1=>⟨_,_,rfl,rfl,?_⟩⟩;refine⟨_,rfl,dr,sc,5,rfl,by decide,by decide,d1,λr2 H2 zV _ d2 b2=>?_⟩;refine⟨_,rfl,_,rfl,_,rfl,_,_,rfl,rfl,dr,sc,_,rfl,by omega,by omega,d2,λr3 H3 GF _ d3 b3=>?_⟩;have b1:But dr H H1:=b1;have t7:But dr H H3:=But.trans b1 (But.trans b2 b3);refine⟨by show 3<=sizeLine;decide,λp np=>?_⟩;obtain⟨t8,ne2⟩:=d3.ne np;obtain⟨LC,x5⟩:=d3.at;have GG:=t7.free x5 np;refine⟨_,rfl,dr,sc,3,rfl,by decide,by decide,d3.upd t8 ne2,λr4 H4 GH LD d4 b4=>?_⟩;have b4:But dr (L2.upd H3 p (.tup [.int r2,.int (2+r1),.int r3])) H4:=b4;have GI:=b4 p _ Ab t8;have qE:But dr H H4:=But.trans (t7.upd GG) b4;obtain⟨mm,x6,GJ⟩:∃mm:Int,0<=mm/\atI ([.int r2,.int (2+r1),.int r3]:List V) r4=some (.int mm):=by
   obtain⟨i,rfl⟩:=Pt GH;have hi:i<3:=by omega
   match i,hi with
   | 0,_=>exact⟨r2,zV,rfl⟩
   | 1,_=>exact⟨2+r1,by omega,rfl⟩
   | 2,_=>exact⟨r3,GF,rfl⟩
  refine⟨p,_,_,_,rfl,rfl,SqT.of GI,GJ,?_⟩;obtain⟨n,hn,GK⟩:∃n:Nat,(if (m:Int)<mm then (m:Int) else mm)=(n:Int)/\n<=m:=by
   obtain⟨j,rfl⟩:=Pt x6;by_cases hj:(m:Int)<(j:Int)
   ·exact⟨m,Tr hj,Oi _⟩
   ·exact⟨j,Tq hj,by omega⟩
  refine⟨_,rfl,_,rfl,_,rfl,_,rfl,_,_,rfl,?_⟩;rw[hn];refine⟨dr,sc,n,rfl,by omega,d4,λl st late H5 nl bK l6 t0 d5 b5=>?_⟩;obtain⟨G',mD⟩:=d4.at;have jz:l≠dr:=(Aw mD nl).symm;have zW:=But.trans qE b5;refine⟨dr,sc,l,_,rfl,d5,l6,jz,Jz bK (by omega),by unfold A8;simp;omega,λl2 row H6 qF t9 hp eC d6 b6=>?_⟩;obtain⟨LF,x8⟩:=d5.at;exact k l2 row n st late H6 (zW.free x8 qF) GK bK t9 hp eC d6 (But.trans zW b6)
def Gx:FnScope NBr ["_law_row_here"] (defScope s__law_bars):=by walk_at "s"
def Xq4{f:ae}{fd:aw}(F:Fun K "_law_bars" "_law_bars" s__law_bars f fd)(T:Bl mg)(FW:Fn P w K mg base CX0 1 "_law_where" ["_law_row_here"] M0)
  (FO:Fn P w K mg base CX0 1 "_law_word" ["_law_where_here", "_law_one_here", "_law_other"] spWord):FnOk P w K mg base CX0 2 f fd ["_law_row_here"] spBars:=by
 refine F.ok Gx (by walk_at "l") ?_
 ·walk_at "i"
  obtain⟨r,row,rfl,hR,R2,k⟩:=h;refine⟨_,Af (Ap (i:=1) Gx.nd rfl (.inl rfl) (Ak FW hr (by rfl) An (Aa (pv 0) Ac)))
   (Af (Ap (i:=2) Gx.nd rfl (.inl rfl) (Bw Ac))
   (Af (B5 aW.never rfl (B4 (A7 (Xcm rfl) (by rfl) T.sorted (by rfl) (Aa (pv 1) Ac))) (Az (i:=3) Gx.nd rfl (.inl rfl))
    (Ai (B5 aW.never rfl (B4 (A7 (Xcm rfl) (by rfl) T.sorted (by rfl) (Aa (pv 1) Ac))) (Az (i:=4) Gx.nd rfl (.inl rfl))
     (Af (Ap (i:=5) Gx.nd rfl (.inl rfl) (Ak FO hr (by rfl) An (Aa (pv 1) (Aa (pv 3) (Aa (pv 4) Ac)))))
     (Ai (Bc (E2 (Ax Bp (pv 5) Bi (Ay _)) (Fx (E1 (Ax Bp (pv 5) Bi (Ay _)) (Ez (Ax Xat (pv 3) (pv 4) (Ay _)))).pt)).pt
      (Ai (E3 (Lu PySem.F.plainAttrs_list PySem.F.slot_list_append PySem.F.type_list_append Jh (pv 2) (Aa (B6 (Aa (pv 3) (Aa (pv 4) (Aa (pv 5) Ac)))) Ac)))) Bd))))))
   (Ai (Ar (pv 2))))),?_⟩
  have oK:=R2.len;have f7:=Fc row;refine⟨_,rfl,r,row,rfl,hR,by omega,λd kvs H1 nd hd wh s1=>?_⟩;obtain⟨ss,jE,zX,zY⟩:=wh.names;have lQ:ss.length<=60:=by
   have h1:=congrArg List.length jE;rw[Oh,Oh] at h1;have:=wh.len;omega
  refine⟨by show 0<=sizeLine;decide,λu nu=>?_⟩;refine⟨_,rfl,d,kvs,ss,rfl,.inl (ku hd nu),jE,by omega,λsn ls x9 tD GL=>?_⟩;rw[Xcs tD GL zX zY];have GM:∀{xs:List V},upd (upd H1 u (.lst [])) sn (.lst xs) u=some (.lst []):=λ{xs}=>ku Ab x9;have s2:Same H1 (upd (upd H1 u (.lst [])) sn (.lst ((dit row).map V.str))):=((Same.refl H1).step nu).step x9;have pk:upd (upd H1 u (.lst [])) sn (.lst ((dit row).map V.str)) sn=some (.lst ((dit row).map V.str)):=Ab;have GN:sn≠u:=(Aw (H:=upd H1 u (.lst [])) Ab x9).symm;have nA:upd (upd H1 u (.lst [])) sn (.lst ((dit row).map V.str)) u=some (.lst []):=GM;generalize upd (upd H1 u (.lst [])) sn (.lst ((dit row).map V.str))=H2 at s2 pk nA;have GO:∀(i j:Nat),i<=60->∀x,((C7 row i++C0 row x ((dit row).take j)).map trD).length<=5000:=λi j hi x=>by
   rw[Oh,Oo];have h1:=Xlx row i;have h2:=Xdv row x ((dit row).take j);rw[O3] at h2;have h3:i * (dit row).length<=60 * 60:=S5 hi (by omega);omega
  have gq:∀b o,H1 b=some o->hid u H2 b=some o:=λb o e=>Cy (s2 _ _ e) (Aw e nu);refine⟨sn,rfl,⟨_,SqL.of pk⟩,?_⟩;refine De (K:=K) (a:=sn) (xs:=(dit row).map V.str) (λi Z H9=>∃v3 v4 v5, Z=[some (.ref r),some (.ref d),some (.ref u),v3,v4,v5]/\Same (hid u H2) H9/\∃xs,H9 u=some (.lst xs)/\DAll (hid u H9) ((C7 row i).map trD) xs) ?_ ?_ ?_ ?_
  ·exact⟨none,none,none,rfl,Fh u H2,[],nA,Ep⟩
  ·rintro i Z H9 _ ⟨v3,v4,v5,rfl,s9,_⟩;exact SqL.of (s9 _ _ (Cy pk GN))
  ·rintro i y Z H9 hi ⟨v3,v4,v5,rfl,s9,xs,uD,dc⟩;have fX:i<(dit row).length:=by
    have:=(O6.mp hi).1
    rwa [Oh] at this
   obtain⟨x,rfl,hx⟩:∃x,y=V.str x/\(dit row).getD i ao.empty=x:=by
    rw[O2,Oj fX] at hi;exact⟨_,(O4 hi).symm,by simp[List.getD,fX]⟩
   have hX:x∈row:=Ao.mp (by rw[<-hx];exact Cp fX);refine⟨_,rfl,d,kvs,ss,rfl,.inl (s9 _ _ (gq _ _ hd)),jE,by omega,λpr LG tE lJ vF=>?_⟩;rw[Xcs lJ vF zX zY];have uE:Same H9 (upd H9 pr (.lst ((dit row).map V.str))):=(Same.refl H9).step tE;have kT:upd H9 pr (.lst ((dit row).map V.str)) pr=some (.lst ((dit row).map V.str)):=Ab;have xA:pr≠u:=(Aw uD tE).symm;generalize upd H9 pr (.lst ((dit row).map V.str))=uF at uE kT;have tF:=DAll.same (Hu (D:=u) uE) _ _ dc;have xB:=uE _ _ uD;have zZ:=s9.trans uE;refine⟨pr,rfl,⟨_,SqL.of kT⟩,?_⟩;refine De (K:=K) (a:=pr) (xs:=(dit row).map V.str) (λj Z px=>∃v4 v5, Z=[some (.ref r),some (.ref d),some (.ref u),some (.str x),v4,v5]/\Same (hid u uF) px/\∃xs,px u=some (.lst xs)/\DAll (hid u px) ((C7 row i++C0 row x ((dit row).take j)).map trD) xs) ?_ ?_ ?_ ?_
   ·exact⟨v4,v5,rfl,Fh u uF,xs,xB,by simpa [C0] using tF⟩
   ·rintro j Z px _ ⟨v4,v5,rfl,qG,_⟩;exact SqL.of (qG _ _ (Cy kT xA))
   ·rintro j z Z px hj ⟨v4,v5,rfl,qG,xs,pB,jd⟩;have uG:j<(dit row).length:=by
     have:=(O6.mp hj).1
     rwa [Oh] at this
    obtain⟨y,rfl,hy⟩:∃x,z=V.str x/\(dit row).getD j ao.empty=x:=by
     rw[O2,Oj uG] at hj;exact⟨_,(O4 hj).symm,by simp[List.getD,uG]⟩
    have o7:y∈row:=Ao.mp (by rw[<-hy];exact Cp uG);have c1:=R2.two x hX;have c2:=R2.two y o7;have bb:∀b o,H1 b=some o->px b=some o:=λb o e=>qG _ _ (Cy (zZ _ _ (gq b o e)) (Aw e nu));obtain⟨l1,e1,g1⟩:=wh.two' hX c1;obtain⟨l2,e2,g2⟩:=wh.two' o7 c2;refine⟨_,rfl,_,rfl,_,rfl,d,l1,l2,kvs,x,y,_,_,_,_,rfl,.inl (bb _ _ hd),e1,e2,bb _ _ g1,bb _ _ g2,λtG hJ=>?_⟩;rw[<-Gg c1 c2];have mE:=hJ _ _ pB;have kU:=DAll.same (Hu (D:=u) hJ) _ _ jd;have jP:=qG.trans hJ;have jl:=Xlw row x uG;rw[hy] at jl;have stay:Cq row x y=false->∃v4 v5,[some (V.ref r),some (.ref d),some (.ref u),some (.str x),some (.str y),some (.str (lieR row x y))]=[some (.ref r),some (.ref d),some (.ref u),some (.str x),v4,v5]/\Same (hid u uF) tG/\∃xs,tG u=some (.lst xs)/\DAll (hid u tG) ((C7 row i++C0 row x ((dit row).take (j+1))).map trD) xs:=λhk=>by
     refine⟨_,_,rfl,jP,xs,mE,?_⟩;rw[jl,hk,Tq Oy,Pw];exact kU
    have app:Cq row x y=true->Xah (tBM K "list" Lv (C4 2) (Em (Lk (Em (C4 3) (Em (C4 4) (Em (C4 5) F0)))) F0)) {nx:=fun Z H=>∃v4 v5, Z=[some (.ref r),some (.ref d),some (.ref u),some (.str x),v4,v5]/\Same (hid u uF) H/\∃xs,H u=some (.lst xs)/\DAll (hid u H) ((C7 row i++C0 row x ((dit row).take (j+1))).map trD) xs,rt:=Q} [some (V.ref r),some (.ref d),some (.ref u),some (.str x),some (.str y),some (.str (lieR row x y))] tG:=λhk=>by
     refine⟨_,rfl,.inl ⟨rfl,_,SqL.of mE⟩,_,rfl,_,rfl,_,rfl,by show 3<=sizeLine;decide,λp np=>?_⟩;have oY:xs.length<=5000:=by
      rw[Gb kU];exact GO i j (by omega) x
     refine⟨u,_,_,rfl,rfl,ku mE np,by rw[Tp];omega,?_⟩;refine⟨_,_,rfl,?_,xs++[.ref p],Ab,?_⟩
     ·intro b o e;have nb:b≠u:=λz=>by rw[z] at e;unfold hid at e;rw[Tr rfl] at e;cases e
      rw[Ad nb,Ad (Aw (jP _ _ e) np)];exact jP _ _ e
     ·rw[Xc7,jl,hk,Tr rfl,<-Pb,Ow];refine Jw (DAll.same (Hu (D:=u) ((Same.refl tG).step np)) _ _ kU) ?_;exact Xc8 mE np (Mo [x,y,lieR row x y])
    refine⟨_,rfl,rfl,_,rfl,?_⟩;rw[Fl];refine A0 (λq1=>?_) (λq1=>?_)
    ·exact Cv (app (by unfold Cq;rw[q1];rfl))
    ·refine⟨_,rfl,rfl,_,rfl,?_⟩;rw[Fl];refine A0 (λq2=>?_) (λq2=>?_)
     ·refine⟨_,rfl,_,rfl,_,_,rfl,rfl,_,rfl,?_⟩;refine A0 (λq3=>?_) (λq3=>?_)
      ·refine app ?_;unfold Cq;have xC:decide (ltS x y)=true:=q3;rw[q2,xC,R8,Tf]
      ·refine stay ?_;unfold Cq;have xC:decide (ltS x y)=false:=q3;rw[q1,xC,S6,Tc]
     ·refine Bs (stay ?_);unfold Cq;rw[q1,q2,Qa,Tc]
   ·rintro Z px ⟨v4,v5,rfl,qG,xs,pB,jd⟩;rw[Oh,P8] at jd;refine⟨_,_,_,rfl,λb o e=>?_,xs,pB,?_⟩
    ·have nb:b≠u:=λz=>by rw[z] at e;unfold hid at e;rw[Tr rfl] at e;cases e
     exact qG _ _ (Cy (zZ _ _ e) nb)
    ·rw[Xlv row fX,hx];exact jd
  ·rintro Z H9 ⟨v3,v4,v5,rfl,s9,xs,uD,dc⟩;rw[Oh,Xlu] at dc;refine⟨_,rfl,k u xs H9 (s1.free nu) uD (DAll.same (Fh u H9) _ _ dc) (λb o e=>s9 _ _ (gq _ _ (s1 _ _ e)))⟩
def K3:FnScope NFi ["_law_bars_here", "_law_plot"] (defScope s__law_fits):=by walk_at "s"
def Xq5{f:ae}{fd:aw}(F:Fun K "_law_fits" "_law_fits" s__law_fits f fd):FnOk P w K mg base CX0 1 f fd ["_law_bars_here", "_law_plot"] spFits:=by
 refine F.ok K3 (by walk_at "l") ?_
 ·walk_at "i"
  obtain⟨b,p,xs,bs,ss,rfl,hB,dc,hP,k⟩:=h;refine⟨_,Af (B5 aW.never rfl (B4 (pv 0)) (Xak (n:=3) rfl (Dc (Az (i:=2) K3.nd rfl (.inl rfl)) (Dc (Az (i:=3) K3.nd rfl (.inl rfl)) (Dc (Az (i:=4) K3.nd rfl (.inl rfl)) Gz))))
    (Ai (Bc (E1 (Ax Ls (pv 2) (pv 1) (by rfl)) (Ez (Ax Fz (El Ls (pv 3) (pv 1) (by rfl)) (El Bp (pv 4) Bi (Ay _)) (Ay _)))).pt (Ai (Ar Ds)) Bd)))
   (Ai (Ar Ds)),?_⟩
  refine⟨_,rfl,b,rfl,⟨_,SqL.of hB⟩,?_⟩;have oY:xs.length=bs.length:=by rw[Gb dc,Oh]
  refine De (K:=K) (a:=b) (xs:=xs) (λi Z H2=>∃v2 v3 v4, Z=[some (.ref b),some (.ref p),v2,v3,v4]/\Same H H2/\Cz (bs.take i) ss=true) ?_ ?_ ?_ ?_
  ·exact⟨none,none,none,rfl,Same.refl H,rfl⟩
  ·rintro i Z H2 _ ⟨v2,v3,v4,rfl,s2,_⟩;exact SqL.of (s2 _ _ hB)
  ·rintro i y Z H2 hi ⟨v2,v3,v4,rfl,s2,hf⟩;have fX:i<xs.length:=(O6.mp hi).1;have As:i<bs.length:=by omega
   obtain⟨v,hv,dv⟩:=Mn dc (show (bs.map trD)[i]? = some (trD bs[i]) by rw[O2,Oj As];rfl);rw[hi] at hv;cases hv;obtain⟨q,rfl,hq⟩:=Xlt dv;have fB:bs.take (i+1)=bs.take i++[bs[i]]:=O1 As;generalize bs[i]=t at *;have mq:Cz (bs.take (i+1)) ss = !(decide (t.1∈ss) && !decide (decide (t.2.1∈ss)=decide (t.2.2 = "within"))):=by
    rw[fB];unfold Cz at hf ⊢;rw[List.all_append,hf,Qc];simp
   have xD:(decide (t.1∈ss) && !decide (decide (t.2.1∈ss)=decide (t.2.2 = "within")))=true->Cz bs ss=false:=λhb=>by
    rw[Rx];intro z;have hz:Cz (bs.take (i+1)) ss=true:=by
     unfold Cz at z ⊢;rw[Pg] at z ⊢;exact λx hx=>z x (Pr hx)
    rw[mq,hb] at hz;cases hz
   refine⟨q,_,rfl,SqT.of (s2 _ _ hq),rfl,_,_,rfl,_,_,rfl,_,_,rfl,rfl,?_⟩;refine⟨_,rfl,_,rfl,p,_,rfl,.inr (SqT.of (s2 _ _ hP)),rfl,Dj ss,_,rfl,?_⟩;rw[Tq (by decide),Di];refine A0 (λq1=>?_) (λq1=>?_)
   ·refine⟨_,rfl,_,rfl,p,_,rfl,.inr (SqT.of (s2 _ _ hP)),rfl,Dj ss,_,rfl,rfl,rfl,_,rfl,?_⟩;rw[Tq (by decide),Di,Fl];have eb:(!decide (V.bl (decide (t.2.1∈ss))=V.bl (decide (t.2.2 = "within")))) = !decide (decide (t.2.1∈ss)=decide (t.2.2 = "within")):=by
     congr 1;rw[Qn,decide_eq_true_eq,decide_eq_true_eq];exact⟨λz=>by injection z,λz=>by rw[z]⟩
    rw[eb];refine A0 (λq2=>?_) (λq2=>?_)
    ·have:=k H2 s2;rw[xD (by rw[q1,q2];rfl)] at this;exact this
    ·exact⟨_,_,_,rfl,s2,by rw[mq,q1,q2];rfl⟩
   ·exact Bs ⟨_,_,_,rfl,s2,by rw[mq,q1];rfl⟩
  ·rintro Z H2 ⟨v2,v3,v4,rfl,s2,hf⟩;rw[oY,P8] at hf;have:=k H2 s2;rw[hf] at this;exact this
def C3:FnScope NPl ["_law_row_here"] (defScope s__law_plots):=by walk_at "s"
def Xq6{f:ae}{fd:aw}(F:Fun K "_law_plots" "_law_plots" s__law_plots f fd)(T:Bl mg)(tH:Fn P w K mg base CX0 1 "_law_fits" ["_law_bars_here", "_law_plot"] spFits)
  (pD:Fn P w K mg base CX0 2 "_law_bars" ["_law_row_here"] spBars):FnOk P w K mg base CX0 3 f fd ["_law_row_here"] spPlots:=by
 refine F.ok C3 (by walk_at "l") ?_
 ·walk_at "i"
  obtain⟨r,row,rfl,hR,R2,h3,nE,k⟩:=h;have GP:_+4<bD:=R4 (Nat.add_le_add_left (by decide:4<=64) _) hr.units;have cy:Room 1 _:=hr.mono (by decide);have fF:Room 2 _:=hr.mono (by decide);refine⟨_,Af (Ap (i:=1) C3.nd rfl (.inl rfl) (Ak pD fF (by rfl) An (Aa (pv 0) Ac)))
   (Af (Ap (i:=2) C3.nd rfl (.inl rfl) (Xdu (i:=0) rfl (by rfl) T.sorted (by rfl) T.set (pv 0)))
   (Af (Ap (i:=3) C3.nd rfl (.inl rfl) (Bw (Aa (B6 Ac) Ac)))
   (Af (Ap (i:=4) C3.nd rfl (.inl rfl) (Bw (Aa (B6 Ac) Ac)))
   (Af (B5 aW.never rfl (G1 rfl T.range (Aa (A7 B8 (by rfl) T.len bx (Aa (pv 2) Ac)) Ac)) (Az (i:=5) C3.nd rfl (.inl rfl))
    (Af (Ap (i:=6) C3.nd rfl (.inl rfl) (Bw Ac))
    (Af (B5 aW.never rfl (B4 (pv 4)) (Az (i:=7) C3.nd rfl (.inl rfl))
     (Ai (B5 aW.never rfl (B4 (pv 2)) (Az (i:=8) C3.nd rfl (.inl rfl))
      (Af (Ap (i:=9) C3.nd rfl (.inl rfl) (B1 G6 (by rfl) T.tuple (by rfl) (Aa (A7 Xmg (by rfl) T.sorted (by rfl) (Aa (Aq Hv (pv 7) (B6 (Aa (pv 8) Ac))) Ac)) Ac)))
      (Ai (Bc (E1 (Ax Jf (pv 8) (pv 7) (by rfl)) (Ez (Ax (Xmh GP) (pv 9) (pv 6) (by rfl)))).pt
       (Ai (Ap (i:=6) C3.nd rfl (.inl rfl) (Aq Br (pv 6) (Aq Xbf (Bw (Aa (pv 9) Ac)) (B1 Xav (by rfl) T.int (by rfl) (Aa (Ak tH cy (by rfl) An (Aa (pv 1) (Aa (pv 9) Ac))) Ac))))))
       Bd))))))
    (Af (Ap (i:=4) C3.nd rfl (.inl rfl) (A7 Xmf (by rfl) T.sorted (by rfl) (Aa (pv 6) Ac)))
    (Ai (Ap (i:=3) C3.nd rfl (.inl rfl) (Aq Br (pv 3) (pv 4))))))))
   (Ai (Ar (pv 3))))))),?_⟩
  have oK:=R2.len;have f7:=Fc row;refine⟨_,rfl,r,row,rfl,hR,R2,λb xs0 H1 nb hb bY s1=>?_⟩;refine⟨_,rfl,r,row,rfl,.inl (SqL.of (s1 _ _ hR)),R2.len,λnl H2 nn xE s2=>?_⟩;have vt:=s2 _ _ hb;have tI:=DAll.same s2 _ _ bY;have hJ:=s1.trans s2;refine⟨by show 0<=sizeLine;decide,λe1 t8=>?_⟩;refine⟨by show 1<=sizeLine;decide,λuH pF=>?_⟩;refine⟨by show 0<=sizeLine;decide,λe2 ne2=>?_⟩;refine⟨by show 1<=sizeLine;decide,λxF mF=>?_⟩;generalize qH:upd (upd (upd (upd H2 e1 (.tup [])) uH (.lst [.ref e1])) e2 (.tup [])) xF (.lst [.ref e2])=H3;have f1:Same H2 H3:=by
   rw[<-qH];exact((((Same.refl H2).step t8).step pF).step ne2).step mF
  have GQ:H3 uH=some (.lst ([e1].map V.ref)):=by
   rw[<-qH];exact ku (ku Ab ne2) mF
  have GR:H3 xF=some (.lst ([e2].map V.ref)):=by
   rw[<-qH];exact Ab
  have nC:Plts row H3 [e1]:=λp hp=>by
   rw[Om.mp hp];exact⟨[],by rw[<-qH];exact ku (ku (ku Ab pF) ne2) mF,Kd row⟩
  have jL:Plts row H3 [e2]:=λp hp=>by
   rw[Om.mp hp];exact⟨[],by rw[<-qH];exact ku Ab mF,Kd row⟩
  have GS:H uH=none:=hJ.free (((Same.refl H2).step t8).free pF);clear qH;have tJ:=f1 _ _ xE;refine⟨_,rfl,nl,_,rfl,.inl (SqL.of tJ),(((dit row).map V.str).length:Int),rfl,by omega,by rw[Oh];omega,?_⟩;have GT:(((dit row).map V.str).length:Int).toNat=(dit row).length:=by rw[Oh];simp
  rw[GT];refine G3 (lo:=0) (n:=(dit row).length) (λi Z H4=>∃(v5 v6 v7 v8 v9:Option V) (tl ly:ae) (ps qs:List ae), Z=[some (.ref r),some (.ref b),some (.ref nl),some (.ref tl),some (.ref ly),v5,v6,v7,v8,v9]/\Same H3 H4/\H tl=none/\H4 tl=some (.lst (ps.map V.ref))/\H4 ly=some (.lst (qs.map V.ref))/\ps≠[]/\ps.length<=1+63 * i/\Plts row H4 ps/\Plts row H4 qs) ?_ ?_ ?_
  ·exact⟨_,_,_,_,_,uH,xF,[e1],[e2],rfl,Same.refl _,GS,GQ,GR,by simp,by simp,nC,jL⟩
  ·rintro i Z H4 hi ⟨v5,v6,v7,v8,v9,tl,ly,ps,qs,rfl,s4,At,lT,xG,fw,bS,tK,A'⟩;refine⟨by show 0<=sizeLine;decide,λf0 GU=>?_⟩;have g1:Same H4 (upd H4 f0 (.lst [])):=(Same.refl H4).step GU;have uv:Fresh row (upd H4 f0 (.lst [])) f0 [] []:=⟨Ab,rfl,.nil,λ_ h=>by cases h⟩;generalize upd H4 f0 (.lst [])=H5 at g1 uv;have tL:=s4.trans g1;have AA:=tL _ _ tJ;have GV:=tL _ _ (f1 _ _ vt);have GW:=DAll.same tL _ _ (DAll.same f1 _ _ tI);have GX:=A'.same g1;refine⟨_,rfl,ly,rfl,⟨_,SqL.of (g1 _ _ xG)⟩,?_⟩;refine De (K:=K) (a:=ly) (xs:=qs.map V.ref) (λj Z H6=>∃(v7 v8 v9:Option V) (f:ae) (xs:List V) (Ts:List (Za)), Z=[some (.ref r),some (.ref b),some (.ref nl),some (.ref tl),some (.ref ly),some (.int (0+(i:Int))),some (.ref f),v7,v8,v9]/\Same H5 H6/\Fresh row H6 f xs Ts) ?_ ?_ ?_ ?_
   ·exact⟨_,_,_,f0,[],[],rfl,Same.refl _,uv⟩
   ·rintro j Z H6 _ ⟨v7,v8,v9,f,xs,Ts,rfl,s6,hf⟩;exact SqL.of (s6 _ _ (g1 _ _ xG))
   ·rintro j y Z H6 hj ⟨v7,v8,v9,f,xs,Ts,rfl,s6,hf⟩;obtain⟨q,rfl,hq⟩:∃q,y=V.ref q/\q∈qs:=by
     rw[O2] at hj;cases z:qs[j]? with
     | none=>rw[z] at hj;cases hj
     | some q=>rw[z] at hj;exact⟨q,(O4 hj).symm,Qq z⟩
    obtain⟨ss,AB,xH⟩:=GX q hq;have GY:=Ie xH;obtain⟨GZ,HC⟩:=Bn xH;refine⟨_,rfl,nl,rfl,⟨_,SqL.of (s6 _ _ AA)⟩,?_⟩;refine De (K:=K) (a:=nl) (xs:=(dit row).map V.str) (λm Z H7=>∃(v8 v9:Option V) (f:ae) (xs:List V) (Ts:List (Za)), Z=[some (.ref r),some (.ref b),some (.ref nl),some (.ref tl),some (.ref ly),some (.int (0+(i:Int))),some (.ref f),some (.ref q),v8,v9]/\Same H5 H7/\Fresh row H7 f xs Ts) ?_ ?_ ?_ ?_
    ·exact⟨_,_,f,xs,Ts,rfl,s6,hf⟩
    ·rintro m Z H7 _ ⟨v8,v9,f,xs,Ts,rfl,s7,hf⟩;exact SqL.of (s7 _ _ AA)
    ·rintro m y Z H7 hm ⟨v8,v9,f,xs,Ts,rfl,s7,hf⟩;obtain⟨x,rfl,hx⟩:∃x,y=V.str x/\x∈row:=by
      rw[O2] at hm;cases z:(dit row)[m]? with
      | none=>rw[z] at hm;cases hm
      | some x=>rw[z] at hm;exact⟨x,(O4 hm).symm,Ao.mp (Qq z)⟩
     refine⟨_,rfl,_,rfl,by show 1<=sizeLine;decide,λt1 AC=>?_⟩;have s8:Same H5 (upd H7 t1 (.tup [.str x])):=s7.step AC;have HE:Same H7 (upd H7 t1 (.tup [.str x])):=(Same.refl H7).step AC;refine⟨q,t1,_,_,rfl,rfl,s8 _ _ AB,Ab,by rw[Oh,Tp];show ss.length+1<=_;omega,λp1 H9 s9 tD=>?_⟩;have xI:H9 p1=some (.tup ((ss++[x]).map V.str)):=by rw[tD,Ow];rfl
     refine⟨p1,_,rfl,xI,by rw[Oo];show ss.length+1<64;omega,λl2 qF=>?_⟩;refine⟨l2,_,rfl,.inl ⟨SqL.of Ab,λov HF=>?_⟩⟩;have k7:Same H7 (upd (upd H9 l2 (.lst ((srt (ss++[x])).map V.str))) ov (.tup ((srt (ss++[x])).map V.str))):=((HE.trans s9).step qF).step HF;have uI:upd (upd H9 l2 (.lst ((srt (ss++[x])).map V.str))) ov (.tup ((srt (ss++[x])).map V.str)) ov=some (.tup ((srt (ss++[x])).map V.str)):=Ab;generalize upd (upd H9 l2 (.lst ((srt (ss++[x])).map V.str))) ov (.tup ((srt (ss++[x])).map V.str))=HA at k7 uI;have pG:=s7.trans k7;have mG:=hf.same k7;have xJ:∀y∈srt (ss++[x]),okN y:=λy hy=>by
      rcases Ou.mp (Fb.mp hy) with z | z
      ·exact R2.ok y (GZ y z)
      ·rw[Om.mp z];exact R2.ok x hx
     have HG:∀T∈Ts,∀y∈T,okN y:=λT hT y hy=>R2.ok y ((Bn (hf.ok T hT).2).1 y hy);have HH:au.depth (tupD (srt (ss++[x])))<=3:=by
      have:=Nb (srt (ss++[x])) (srt (ss++[x]))
      rwa [Tg] at this
     have LH:xs.length=Ts.length:=by rw[Gb mG.all,Oh]
     have bf:=Xd5 R2.two h3 nE hf.nd hf.ok;dsimp only[Be];refine⟨_,rfl,_,rfl,q,_,rfl,.inr (SqT.of (pG _ _ AB)),rfl,Dj ss,_,rfl,?_⟩;rw[Tr rfl,Di];refine A0 (λhc=>?_) (λhc=>Bs ⟨_,_,f,xs,Ts,rfl,pG,mG⟩);have i8:x∉ss:=by simpa using hc
     refine⟨_,rfl,_,rfl,tupD (srt (ss++[x])),Ts.map tupD,Fp uI,Xkn mG.at' mG.all,Gc _ (Es xJ),Jx _ (plainAll_map tupD Ts λT hT=>Es (HG T hT)),HH,_,rfl,?_⟩;refine A0 (λhd=>?_) (λhd=>⟨_,_,f,xs,Ts,rfl,pG,mG⟩);have jW:srt (ss++[x])∉Ts:=λhm=>by
      have:((Ts.map tupD).any λe=>au.eqv e (tupD (srt (ss++[x]))))=true:=by
       rw[Rp];refine⟨_,Pd.mpr ⟨_,hm,rfl⟩,?_⟩;show au.eqv (.tuple _) (.tuple _)=true;rw[Nc xJ xJ];exact Tt rfl
      rw[this] at hd;exact absurd hd (by decide)
     refine⟨_,rfl,_,rfl,by show 1<=sizeLine;decide,λc nc=>?_⟩;have kA:Same HA (upd HA c (.lst [.ref ov])):=(Same.refl HA).step nc;refine⟨_,rfl,_,rfl,b,ov,xs0,bars row,srt (ss++[x]),rfl,kA _ _ (pG _ _ GV),DAll.same kA _ _ (DAll.same pG _ _ GW),kA _ _ uI,λHB sB=>?_⟩;have AD:=sB _ _ (show upd HA c (.lst [.ref ov]) c=_ from Ab);refine .inr ⟨_,rfl,?_⟩;cases oh:Cz (bars row) (srt (ss++[x])) with
     | false=>
      refine⟨c,_,_,rfl,rfl,AD,by simp,by simp,by simp,λc2 xK=>?_⟩;have e0:(if True then (List.replicate ((if (false:Bool)=true then (1:Int) else 0)).toNat [V.ref ov]).flatten else ([]:List V))=[]:=by simp
      have kB:Same HA (upd HB c2 (.lst [])):=(kA.trans sB).step xK;refine⟨f,c2,xs,[],rfl,rfl,kB _ _ mG.at',Ab,by rw[Tp];simp;omega,λg ng=>?_⟩;have kC:Same HA (upd (upd HB c2 (.lst [])) g (.lst (xs++[]))):=kB.step ng;refine⟨_,_,g,xs++[],Ts,rfl,pG.trans kC,⟨Ab,?_,hf.nd,hf.ok⟩⟩;exact(congrArg (DAll _ _) (Pw xs)).mpr (DAll.same kC _ _ mG.all)
     | true=>
      refine⟨c,_,_,rfl,rfl,AD,by simp,by simp,by show 1 * 1<=sizeLine;decide,λc2 xK=>?_⟩;have kB:Same HA (upd HB c2 (.lst [V.ref ov])):=(kA.trans sB).step xK;refine⟨f,c2,xs,[V.ref ov],rfl,rfl,kB _ _ mG.at',Ab,by rw[Tp];simp;omega,λg ng=>?_⟩;have kC:Same HA (upd (upd HB c2 (.lst [V.ref ov])) g (.lst (xs++[V.ref ov]))):=kB.step ng;refine⟨_,_,g,xs++[V.ref ov],Ts++[srt (ss++[x])],rfl,pG.trans kC,⟨Ab,?_,?_,?_⟩⟩
      ·rw[Ow];exact Jw (DAll.same kC _ _ mG.all) (Fp (kC _ _ uI))
      ·rw[Qf];exact⟨hf.nd,by simp,λa ha b hb e=>jW (by rw[Om.mp hb] at e;exact e ▸ ha)⟩
      ·intro T hT;rcases Ou.mp hT with z | z
       ·exact hf.ok T z
       ·rw[Om.mp z];exact⟨Xmj,Xmi R2.two xH hx i8 oh⟩
    ·rintro Z H7 ⟨v8,v9,f,xs,Ts,rfl,s7,hf⟩;exact⟨_,_,_,f,xs,Ts,rfl,s7,hf⟩
   ·rintro Z H6 ⟨v7,v8,v9,f,xs,Ts,rfl,s6,hf⟩;have bf:=Xd5 R2.two h3 nE hf.nd hf.ok;obtain⟨fs,rfl,uf,mq⟩:=Xeb hf.all;refine⟨_,rfl,f,fs,rfl,hf.at',λp hp=>?_,by omega,λpH gj xL jC=>?_⟩
    ·obtain⟨T,hT,xM⟩:=mq p hp;exact⟨T,xM,(hf.ok T hT).1⟩
    have g6:Same H6 (upd H6 pH (.lst (gj.map V.ref))):=(Same.refl H6).step xL;have pI:=(g1.trans s6).trans g6;have xN:Plts row (upd H6 pH (.lst (gj.map V.ref))) gj:=λp hp=>by
     obtain⟨T,hT,xM⟩:=mq p (jC.mem_iff.mp hp);exact⟨T,g6 _ _ xM,(hf.ok T hT).2⟩
    have pJ:upd H6 pH (.lst (gj.map V.ref)) pH=some (.lst (gj.map V.ref)):=Ab;generalize upd H6 pH (.lst (gj.map V.ref))=H8 at g6 pI xN pJ;have HI:=jC.length_eq;refine⟨_,rfl,_,rfl,tl,pH,_,_,rfl,rfl,pI _ _ lT,pJ,by rw[Oh,Oh,Tp];omega,λuJ tM=>?_⟩;have g8:Same H8 (upd H8 uJ (.lst (ps.map V.ref++gj.map V.ref))):=(Same.refl H8).step tM;have e8:upd H8 uJ (.lst (ps.map V.ref++gj.map V.ref)) uJ=some (.lst ((ps++gj).map V.ref)):=by rw[Ab,Ow]
    refine⟨_,_,_,_,_,uJ,pH,ps++gj,gj,rfl,(s4.trans pI).trans g8,?_,e8,g8 _ _ pJ,by simp[fw],by rw[Oo];omega,λp hp=>?_,xN.same g8⟩
    ·exact hJ.free (f1.free (s4.free (pI.free tM)))
    ·rcases Ou.mp hp with z | z
     ·exact(tK.same (pI.trans g8)) p z
     ·exact(xN.same g8) p z
  ·rintro Z H4 ⟨v5,v6,v7,v8,v9,tl,ly,ps,qs,rfl,s4,At,lT,xG,fw,bS,tK,A'⟩;exact⟨_,rfl,k tl ps H4 At lT fw (by omega) tK ((hJ.trans f1).trans s4)⟩
def Xq7:FnScope ["_law_draw", "_law_some"] ["_law_draw", "_law_some"] (defScope s__law_one):=by walk_at "s"
def Xq8{f:ae}{fd:aw}(F:Fun K "_law_one" "_law_one" s__law_one f fd)(T:Bl mg)(FP:FnPick P w K mg base):FnOk P w K mg base CX0 2 f fd ["_law_draw", "_law_some"] Xei:=by
 refine F.ok Xq7 (by walk_at "l") ?_
 ·walk_at "i"
  obtain⟨dr,sc,l,xs,rfl,d,hl,jz,h0,h1,k⟩:=h;have cy:Room 1 _:=hr.mono (by decide);refine⟨_,Ai (Ar (A4 Bg (pv 1) (Ak FP cy (by rfl) An (Aa (pv 0) (Aa (A7 B8 (by rfl) T.len bx (Aa (pv 1) Ac)) Ac))) (λ_ _=>rfl))),?_⟩;refine⟨_,rfl,_,rfl,_,rfl,l,_,rfl,.inl (SqL.of hl),dr,sc,_,rfl,by omega,by omega,d,λgi H4 g0 g1 d4 b4=>?_⟩;have b4:But dr H H4:=b4;obtain⟨gi,rfl⟩:=Pt g0;have xO:gi<xs.length:=by omega
  have ig:atI xs (gi:Int)=some (xs.getD gi .non):=E5 (by rw[Oj xO];simp[List.getD,xO]);exact⟨l,_,_,_,rfl,rfl,SqL.of (b4 _ _ hl jz),ig,k gi H4 xO d4 b4⟩
def Xq9:FnScope ["_law_row_here"] ["_law_row_here"] (defScope s__law_stranger):=by walk_at "s"
def Xra{f:ae}{fd:aw}(F:Fun K "_law_stranger" "_law_stranger" s__law_stranger f fd):FnOk P w K mg base CX0 1 f fd ["_law_row_here"] M6:=by
 refine F.ok Xq9 (by walk_at "l") ?_
 ·walk_at "i"
  obtain⟨r,row,rfl,hR,hl,k⟩:=h;have hu:=Cu hr;refine⟨_,Ai (Ar (Iz (Ax (Xb1 (Tb hu)) (pv 0) (Bw Ac) (Ay _))
   (Aq Je (B2 Xj7 (A4 Bg (pv 0) Ag (λ_ _=>rfl)) B7 (Bx Ag)) Bi) Bi)),?_⟩
  refine⟨_,rfl,by show 0<=sizeLine;decide,λp np=>?_⟩;have s1:Same H (upd H p (.lst [])):=(Same.refl H).step np;refine⟨r,p,_,_,rfl,rfl,SqL.of (s1 _ _ hR),SqL.of Ab,J3 row,by simp,_,rfl,?_⟩;have e:B3 (row.map V.str) []=decide (row=[]):=L7 row [];rw[e];cases row with
  | nil=>exact k _ s1
  | cons y r'=>
   refine Cv ?_;refine⟨_,rfl,r,_,_,_,rfl,rfl,SqL.of (s1 _ _ hR),(show atI ((y::r').map V.str) ((0:Nat):Int)=some (.str y) from E5 rfl),_,rfl,y,rfl,rfl,⟨_,rfl⟩,by have:=hl y Ov;omega,?_⟩;refine⟨_,_,rfl,rfl,?_,k _ s1⟩;have h1:=Txt.slice_le y none (some 7);have h2:=hl y Ov;have h3:(ao.ofString "q").length=1:=rfl;rw[Tp,h3];omega
def Xrb:FnScope NFl ["_law_plot", "_law_name"] (defScope s__law_flip):=by walk_at "s"
def Xrc{f:ae}{fd:aw}(F:Fun K "_law_flip" "_law_flip" s__law_flip f fd)(T:Bl mg):FnOk P w K mg base CX0 1 f fd ["_law_plot", "_law_name"] spFlip:=by
 refine F.ok Xrb (by walk_at "l") ?_
 ·walk_at "i"
  obtain⟨p,ss,x,rfl,hP,hl,k⟩:=h;refine⟨_,Ai (Ar (B1 G6 (by rfl) T.tuple (by rfl) (Aa (A7 Xc9 (by rfl) T.sorted (by rfl) (Aa (Aq Br
   (Ga (N:=NFl1) (cap:=[none,some 1]) (CompScope.of (defScope s__law_flip) NFl rfl rfl rfl (by decide +kernel)) rfl
    (G0 (pv 0)) (λ_ _ _=>Az (i:=0) (show NFl1.Nodup by decide +kernel) rfl (.inl rfl) (.inr rfl)) (λ_ _ _=>Ea (Ax Fz (pv 0) (pv 1) (Ay _))) (λ_ _ _=>pv 0))
   (Aq Xbf (Bw (Aa (pv 1) Ac)) (B1 Xav (by rfl) T.int (by rfl) (Aa (El Jf (pv 1) (pv 0) (by rfl)) Ac)))) Ac)) Ac))),?_⟩
  refine⟨_,rfl,p,rfl,⟨_,SqT.of hP⟩,?_⟩;refine Ff (n:=ss.length) (by rw[Tp];omega) (λi=>(ss.map V.str).getD i .non) (λi=>decide (ss.getD i ao.empty≠x)) (λi=>.str (ss.getD i ao.empty)) ?_ ?_ ?_ ?_ ?_
  ·intro i H2 hi s2;exact Hg (SqT.of (s2 _ _ hP)) (by rw[Oh];exact hi)
  ·intro H2 s2;have:=Hh (K:=K) (SqT.of (s2 _ _ hP))
   rwa [Oh] at this
  ·intro i H2 Q' hi s2 kk;rw[Cb V.str ao.empty _ hi];refine⟨_,rfl,_,rfl,rfl,_,rfl,?_⟩;rw[Fl];have:=kk H2 (Same.refl _);have e:(!decide (ss.getD i ao.empty=x))=decide (ss.getD i ao.empty≠x):=by
    by_cases z:ss.getD i ao.empty=x
    ·simp[z]
    ·simp[z]
   rw[e];exact this
  ·intro i H2 Q' hi hk s2 kk;rw[Cb V.str ao.empty _ hi];exact⟨_,rfl,kk H2 (Same.refl _)⟩
  ·intro D H2 nD s2 hD;have eF:H2 D=some (.lst ((ss.filter λy=>decide (y≠x)).map V.str)):=by
    rw[hD,<-C6 ao.empty (λy=>decide (y≠x)) ss,Pn];rfl
   have uf:=Po (λy=>decide (y≠x)) ss;refine⟨_,rfl,by show 1<=sizeLine;decide,λb nb=>?_⟩;refine⟨_,rfl,_,rfl,p,_,rfl,.inr (SqT.of (ku (s2 _ _ hP) nb)),rfl,Dj ss,.inr ⟨_,rfl,?_⟩⟩;rw[Di];show Xbe _ _ _ _;have tN:(if (!decide (x∈ss))=true then (1:Int) else 0).toNat=(if x∈ss then 0 else 1):=by
    by_cases hx:x∈ss
    ·simp[hx]
    ·simp[hx]
   have xP:(List.replicate (if x∈ss then 0 else 1) [V.str x]).flatten=(if x∈ss then ([]:Za) else [x]).map V.str:=by
    by_cases hx:x∈ss
    ·simp[hx]
    ·simp[hx]
   refine⟨b,_,_,rfl,rfl,Ab,?_,?_,?_,λc nc=>?_⟩
   ·by_cases hx:x∈ss<;>simp[hx]
   ·by_cases hx:x∈ss<;>simp[hx]
   ·rw[Tr rfl,tN,Tp];by_cases hx:x∈ss<;>simp[hx]
   ·rw[Tr rfl,tN,xP];have HJ:(if x∈ss then ([]:Za) else [x]).length<=1:=by by_cases hx:x∈ss<;>simp[hx]
    have s3:=(s2.step (o:=.lst [V.str x]) nb);refine⟨D,c,_,_,rfl,rfl,ku (ku eF nb) nc,Ab,by rw[Oh,Oh,Tp];omega,λe ne=>?_⟩;have s4:=s3.step (o:=.lst ((if x∈ss then ([]:Za) else [x]).map V.str)) nc;rw[<-Ow];refine⟨e,_,rfl,Ab,by rw[Oo];omega,λt nt=>?_⟩;have s5:=s4.step (o:=.lst ((ss.filter (λy=>decide (y≠x))++(if x∈ss then [] else [x])).map V.str)) ne;refine⟨t,_,rfl,.inl ⟨SqL.of Ab,λq nq=>?_⟩⟩;have s6:=s5.step (o:=.lst ((srt (ss.filter (λy=>decide (y≠x))++(if x∈ss then [] else [x]))).map V.str)) nt;exact k q _ (s6.free nq) Ab (s6.step nq)
def K4:FnScope NOd ["_law_draw", "_law_row_here", "_law_plot"] (defScope s__law_odd_plot):=by walk_at "s"
def Xrd{f:ae}{fd:aw}(F:Fun K "_law_odd_plot" "_law_odd_plot" s__law_odd_plot f fd)(T:Bl mg)(FP:FnPick P w K mg base)(FS:Fn P w K mg base CX0 1 "_law_stranger" ["_law_row_here"] M6)
  (FF:Fn P w K mg base CX0 1 "_law_flip" ["_law_plot", "_law_name"] spFlip):FnOk P w K mg base CX0 2 f fd ["_law_draw", "_law_row_here", "_law_plot"] spOdd:=by
 refine F.ok K4 (by walk_at "l") ?_
 ·walk_at "i"
  obtain⟨dr,sc,r,p,row,ss,rfl,dk,hR,jM,hI,hP,hok,lQ,k⟩:=h;have hu:=Tb (Cu hr);have eG:∀m,m<=100000->m<=sizeLine:=λm h=>by rw[Tp];omega
  refine⟨_,Af (Ap (i:=3) K4.nd rfl (.inl rfl) (Ak FP hr (by rfl) An (Aa (pv 0) (Aa Ag Ac))))
   (Af (Ap (i:=4) K4.nd rfl (.inl rfl) (Ak FP hr (by rfl) An (Aa (pv 0) (Aa (Aq Bv (A7 B8 (by rfl) T.len bx (Aa (pv 2) Ac)) Ag) Ac))))
   (Af (Bc (E2 (Ax Bp (pv 3) Ag (Ay _)) (Fx (Ax (Xi3 hu) (pv 1) (Bw Ac) (Ay _)))).pt
    (Ai (Ar (Aq Hv (Aq Hv (B2 Hw (pv 2) B7 (Bx (pv 4))) (B6 (Aa (Ak FS hr (by rfl) An (Aa (pv 1) Ac)) Ac))) (B2 Hw (pv 2) (Bx (pv 4)) B7)))) Bd)
   (Af (Ap (i:=5) K4.nd rfl (.inl rfl) (A4 Bg (pv 1) (Ak FP hr (by rfl) An (Aa (pv 0) (Aa (A7 B8 (by rfl) T.len bx (Aa (pv 1) Ac)) Ac))) (λ_ _=>rfl)))
   (Af (Bc (Ax Bp (pv 3) Ag (Ay _)) (Ai (Ar (Aq Hv (Aq Hv (B2 Hw (pv 2) B7 (Bx (pv 4))) (B6 (Aa (pv 5) Ac))) (B2 Hw (pv 2) (Bx (pv 4)) B7)))) Bd)
   (Af (Bc (Ax Bp (pv 3) Ag (Ay _)) (Ai (Ar (Xk1 (pv 2)))) Bd)
   (Af (Bc (Ax Bp (pv 3) Ag (Ay _)) (Ai (Ar (B1 G6 (by rfl) T.tuple (by rfl) (Aa (Aq Br (B1 Jg (by rfl) T.list jc (Aa (pv 2) Ac)) (B1 Jg (by rfl) T.list jc (Aa (B2 Hw (pv 2) B7 (Bx Ag)) Ac))) Ac)))) Bd)
   (Ai (Ar (Ak FF hr (by rfl) An (Aa (pv 2) (Aa (pv 5) Ac))))))))))),?_⟩
  refine⟨_,rfl,dr,sc,5,rfl,by decide,by decide,dk,λwy H1 w0 w1 d1 b1=>?_⟩;have sG:∀{H0:Hp} {q:ae} {xs:List V},DrawOk H0 dr sc->H0 q=some (.tup xs)->q≠dr:=λ{H0 q xs} d e z=>by
   obtain⟨ys,h⟩:=d.at;rw[z,h] at e;cases e
  have b1:But dr H H1:=b1;have nC:=b1 _ _ hP (sG dk hP);have wP:=b1 _ _ hR jM;refine⟨_,rfl,_,rfl,p,_,rfl,.inr (SqT.of nC),_,_,rfl,rfl,dr,sc,_,rfl,by omega,by rw[Oh];omega,d1,λjR H2 a0 a1 d2 b2=>?_⟩;obtain⟨jR,rfl⟩:=Pt a0;rw[Oh] at a1;have ig:jR<=ss.length:=by omega
  have b2:But dr H1 H2:=b2;have jP:=b1.trans b2;have jL:=b2 _ _ nC (sG d1 nC);have u7:=b2 _ _ wP jM;have put:∀(x:ao) (H3:Hp),okN x->DrawOk H3 dr sc->But dr H H3->H3 p=some (.tup (ss.map V.str))->∀(q:ae) (H4:Hp),Same H3 H4->H4 q=some (.tup ((ss.take jR++[x]++ss.drop jR).map V.str))->Q (.ref q) H4:=λx H3 hx d3 b3 _ q H4 s4 hq=>by
   refine k q _ H4 hq (λy hy=>?_) ?_ (d3.same s4) (b3.same s4)
   ·rcases Ou.mp hy with hy | hy
    ·rcases Ou.mp hy with hy | hy
     ·exact hok y (Pr hy)
     ·rw[Om.mp hy];exact hx
    ·exact hok y (P4 hy)
   ·rw[Oo,Oo,O3,Pz,Pp];omega
  have mH:∀H3,DrawOk H3 dr sc->But dr H H3->H3 p=some (.tup (ss.map V.str))->H3 r=some (.lst (row.map V.str)) ->
    ∀(q:ae) (H4:Hp),Same H3 H4->H4 q=some (.tup ((ss.take jR++[Gf row]++ss.drop jR).map V.str))->Q (.ref q) H4:=λH3 d3 b3 ii _=>put _ H3 hI.stranger.1 d3 b3 ii
  have nR:∀H3,DrawOk H3 dr sc->But dr H H3->H3 p=some (.tup (ss.map V.str))->H3 r=some (.lst (row.map V.str)) ->
    tSl Mw (C4 2) Ln (Lo (C4 4)) [some (.ref dr),some (.ref r),some (.ref p),some (.int wy),some (.int jR),none] H3 λx H4=>Lk (Em (Ll M6 [] E0 (Em (C4 1) F0)) F0) [some (.ref dr),some (.ref r),some (.ref p),some (.int wy),some (.int jR),none] H4 λy H5=>Mv x y H5 λz H6=>
     tSl Mw (C4 2) (Lo (C4 4)) Ln [some (.ref dr),some (.ref r),some (.ref p),some (.int wy),some (.int jR),none] H6 λu H7=>Mv z u H7 Q:=λH3 d3 b3 ii mI=>by
   refine⟨_,rfl,_,rfl,_,rfl,p,_,rfl,ii,λq1 H4 s4 l7=>?_⟩;rw[Fd _ _ _ ig] at l7;refine⟨_,rfl,r,row,rfl,s4 _ _ mI,λy hy=>(hI.ok y hy).1,λH5 s5=>⟨by show 1<=sizeLine;decide,λq2 n2=>?_⟩⟩;have tL:=(s4.trans s5).step (o:=.tup [.str (Gf row)]) n2;refine⟨q1,q2,_,[.str (Gf row)],rfl,rfl,ku (s5 _ _ l7) n2,Ab,eG _ (by simp;omega),λq3 H6 s6 qD=>?_⟩;have jO:=tL.trans s6;refine⟨_,rfl,_,rfl,_,rfl,p,_,rfl,jO _ _ ii,λq4 H7 s7 nQ=>?_⟩;rw[Fe _ _ _ ig] at nQ;refine⟨q3,q4,_,_,rfl,rfl,s7 _ _ qD,nQ,eG _ (by simp;omega),λq5 H8 s8 xQ=>?_⟩;refine mH H3 d3 b3 ii mI q5 H8 (jO.trans (s7.trans s8)) (xQ.trans ?_);rw[Ow,Ow];rfl
  refine⟨_,rfl,rfl,_,rfl,?_⟩;refine A0 (λ_=>?_) (λ_=>?_)
  ·exact Cv (nR H2 d2 jP jL u7)
  ·refine⟨_,rfl,by show 0<=sizeLine;decide,λe ne=>?_⟩;have s3:Same H2 (upd H2 e (.lst [])):=(Same.refl H2).step ne;refine⟨r,e,_,_,rfl,rfl,SqL.of (s3 _ _ u7),SqL.of Ab,J3 row,by simp,_,rfl,?_⟩;generalize upd H2 e (.lst [])=H3 at s3;have d3:=d2.same s3;have t7:=jP.same s3;have ii:=s3 _ _ jL;have mI:=s3 _ _ u7;have ee:B3 (row.map V.str) []=decide (row=[]):=L7 row [];rw[ee];refine A0 (λ_=>nR H3 d3 t7 ii mI) (λfw=>?_);have fw:=Tw fw;have oK:=hI.len;have jh:0<row.length:=List.length_pos_iff.mpr fw;refine⟨_,rfl,_,rfl,_,rfl,r,_,rfl,.inl (SqL.of mI),dr,sc,_,rfl,by rw[Oh];omega,by rw[Oh];omega,d3,λi H4 i0 i1 d4 b4=>?_⟩;obtain⟨i,rfl⟩:=Pt i0;rw[Oh] at i1;have hi:i<row.length:=by omega
   have b4:But dr H3 H4:=b4;have qE:=t7.trans b4;have pL:=b4 _ _ ii (sG d3 ii);have HK:=b4 _ _ mI jM;refine⟨r,_,_,_,rfl,rfl,SqL.of HK,Xlb V.str ao.empty row hi,?_⟩;have hx:row.getD i ao.empty∈row:=Cp hi;generalize row.getD i ao.empty=x at hx;have AE:=hI.ok x hx;refine⟨_,rfl,rfl,_,rfl,?_⟩;refine A0 (λ_=>?_) (λ_=>?_)
   ·refine⟨_,rfl,_,rfl,_,rfl,p,_,rfl,pL,λq1 H5 s5 l7=>?_⟩;rw[Fd _ _ _ ig] at l7;refine⟨_,rfl,by show 1<=sizeLine;decide,λq2 n2=>?_⟩;have pI:=s5.step (o:=.tup [.str x]) n2;refine⟨q1,q2,_,[.str x],rfl,rfl,ku l7 n2,Ab,eG _ (by simp;omega),λq3 H6 s6 qD=>?_⟩;have AF:=pI.trans s6;refine⟨_,rfl,_,rfl,_,rfl,p,_,rfl,AF _ _ pL,λq4 H7 s7 nQ=>?_⟩;rw[Fe _ _ _ ig] at nQ;refine⟨q3,q4,_,_,rfl,rfl,s7 _ _ qD,nQ,eG _ (by simp;omega),λq5 H8 s8 xQ=>?_⟩;refine put x H4 AE d4 qE pL q5 H8 (AF.trans (s7.trans s8)) (xQ.trans ?_);rw[Ow,Ow];rfl
   ·refine⟨_,rfl,rfl,_,rfl,?_⟩;refine A0 (λ_=>?_) (λ_=>?_)
    ·refine⟨_,rfl,p,_,rfl,pL,λq nq=>?_⟩;have s5:Same H4 (upd H4 q (.tup (ss.map V.str).reverse)):=(Same.refl H4).step nq;refine k q ss.reverse _ (Ab.trans (by rw[List.map_reverse])) (λy hy=>hok y (List.mem_reverse.mp hy)) (by rw[R0];omega) (d4.same s5) (qE.same s5)
    ·refine⟨_,rfl,rfl,_,rfl,?_⟩;refine A0 (λ_=>?_) (λ_=>?_)
     ·refine⟨_,rfl,p,_,rfl,.inr (SqT.of pL),λl1 n1=>?_⟩;have s5:Same H4 (upd H4 l1 (.lst (ss.map V.str))):=(Same.refl H4).step n1;refine⟨_,rfl,_,rfl,p,_,rfl,s5 _ _ pL,λq1 H6 s6 l7=>?_⟩;have e1:(some (1:Int))=some ((1:Nat):Int):=rfl;rw[e1,Xly] at l7;refine⟨q1,_,rfl,.inr (SqT.of l7),λl2 n2=>?_⟩;have s7:=(s5.trans s6).step (o:=.lst ((ss.take 1).map V.str)) n2;refine⟨l1,l2,_,_,rfl,rfl,ku (s6 _ _ Ab) n2,Ab,eG _ (by simp;omega),λl3 n3=>?_⟩;have s8:=s7.step (o:=.lst (ss.map V.str++(ss.take 1).map V.str)) n3;refine⟨l3,_,rfl,.inl ⟨SqL.of Ab,λq nq=>?_⟩⟩;have s9:=s8.step (o:=.tup (ss.map V.str++(ss.take 1).map V.str)) nq;refine k q (ss++ss.take 1) _ (Ab.trans (by rw[Ow])) (λy hy=>?_) (by rw[Oo,O3];omega) (d4.same s9) (qE.same s9);rcases Ou.mp hy with hy | hy
      ·exact hok y hy
      ·exact hok y (Pr hy)
     ·refine⟨_,rfl,_,rfl,p,ss,x,rfl,pL,by omega,λq H5 nq hq s5=>?_⟩;refine k q _ H5 hq (λy hy=>?_) (Xls ss x) (d4.same s5) (qE.same s5);rcases Xlr hy with h | h
      ·exact hok y h
      ·rw[h];exact AE
def Xre:FnScope NGo ["_law_row_here", "_law_plot"] (defScope s__law_good_plot):=by walk_at "s"
def Xrf{f:ae}{fd:aw}(F:Fun K "_law_good_plot" "_law_good_plot" s__law_good_plot f fd)(T:Bl mg)(FF:Fn P w K mg base CX0 1 "_law_fits" ["_law_bars_here", "_law_plot"] spFits)
    (FB:Fn P w K mg base CX0 2 "_law_bars" ["_law_row_here"] spBars):FnOk P w K mg base CX0 3 f fd ["_law_row_here", "_law_plot"] spGood:=by
  refine F.ok Xre (by walk_at "l") ?_
  . walk_at "i"
    obtain⟨r,p,row,ss,rfl,hR,R2,hP,hok,lQ,k⟩:=h;have hu:=Tb (Cu hr);have cy:Room 1 _:=hr.mono (by decide);refine⟨_,Af (Bc (Ax (Xb1 hu) (B1 Jg (by rfl) T.list jc (Aa (pv 1) Ac)) (Ga (N:=NGo1) (cap:=[none,some 1]) (CompScope.of (defScope s__law_good_plot) NGo rfl rfl rfl (by decide +kernel)) rfl
          (B4 (Xdu (i:=0) rfl (by rfl) T.sorted (by rfl) T.set (pv 0))) (λ_ _ _=>Az (i:=0) (show NGo1.Nodup by decide +kernel) rfl (.inl rfl) (.inr rfl))
          (λ_ _ _=>Ea (Ax (Mi K (by rfl)) (pv 0) (pv 1) (by rfl))) (λ_ _ _=>pv 0)) (Ay _)) (Ai (Ar Ds)) Bd)
      (Ai (Ar (Ak FF cy (by rfl) An (Aa (Ak FB hr (by rfl) An (Aa (pv 0) Ac)) (Aa (pv 1) Ac))))),?_⟩
    have oK:=R2.len;have f7:=Fc row;refine⟨_,rfl,p,_,rfl,.inr (SqT.of hP),λl1 n1=>?_⟩;have s1:Same H (upd H l1 (.lst (ss.map V.str))):=(Same.refl H).step n1;have h1:upd H l1 (.lst (ss.map V.str)) l1=some (.lst (ss.map V.str)):=Ab;generalize upd H l1 (.lst (ss.map V.str))=H1 at s1 h1;refine⟨_,rfl,r,row,rfl,.inl (SqL.of (s1 _ _ hR)),oK,λl H2 nl og s2=>?_⟩;have jL:=s2 _ _ (s1 _ _ hP);refine⟨l,rfl,⟨_,SqL.of og⟩,?_⟩;refine Ff (n:=(dit row).length) (by rw[Tp];omega) (λi=>((dit row).map V.str).getD i .non) (λi=>decide ((dit row).getD i ao.empty∈ss)) (λi=>.str ((dit row).getD i ao.empty)) ?_ ?_ ?_ ?_ ?_
    . intro i H3 hi s3;exact G9 (SqL.of (s3 _ _ og)) (by rw[Oh];exact hi)
    . intro H3 s3;have:=Hf (K:=K) (SqL.of (s3 _ _ og))
      rwa [Oh] at this
    . intro i H3 Q' hi s3 kk;rw[Cb V.str ao.empty _ hi];refine⟨_,rfl,_,rfl,p,_,rfl,.inr (SqT.of (s3 _ _ jL)),rfl,Dj ss,_,rfl,?_⟩;rw[Tq (by decide),Di];exact kk H3 (Same.refl _)
    . intro i H3 Q' hi hk s3 kk;rw[Cb V.str ao.empty _ hi];exact⟨_,rfl,kk H3 (Same.refl _)⟩
    . intro D H3 nD s3 hD;have eF:H3 D=some (.lst (((dit row).filter λy=>decide (y∈ss)).map V.str)):=by
        rw[hD,<-C6 ao.empty (λy=>decide (y∈ss)) (dit row),Pn];rfl
      have jn:=s1.trans (s2.trans s3);refine⟨l1,D,_,_,rfl,rfl,SqL.of (s3 _ _ (s2 _ _ h1)),SqL.of eF,J3 _,J3 _,_,rfl,?_⟩;rw[L7];by_cases e:ss=(dit row).filter λy=>decide (y∈ss)
      . rw[Tt e];refine Bs ?_;refine⟨_,rfl,r,row,rfl,jn _ _ hR,R2,λb xs H4 nb hb dc s4=>?_⟩;refine⟨_,rfl,b,p,xs,bars row,ss,rfl,hb,dc,s4 _ _ (jn _ _ hP),λH5 s5=>?_⟩;have:=k H5 (jn.trans (s4.trans s5));unfold Er at this;rw[Tt e,Qc] at this;exact this
      . rw[Tu e];refine Cv ?_;have:=k H3 jn;unfold Er at this;rw[Tu e,Qa] at this;exact this
def Xgs:FnScope NAp ["_law_one_here", "_law_other"] (defScope s__law_apart):=by walk_at "s"
def Xrg{f:ae}{fd:aw}(F:Fun K "_law_apart" "_law_apart" s__law_apart f fd)(T:Bl mg):FnOk P w K mg base CX0 1 f fd ["_law_one_here", "_law_other"] spApart:=by
  refine F.ok Xgs (by walk_at "l") ?_
  . walk_at "i"
    obtain⟨p,q,a,b,rfl,hP,hQ,la,lb,k⟩:=h;refine⟨_,Af (Jv (i:=2) (N:=NAp1) (cap:=[none,some 1]) (CompScope.of (defScope s__law_apart) NAp rfl rfl rfl (by decide +kernel)) rfl Xgs.nd rfl rfl
          (G0 (pv 0)) (λ_ _ _=>Az (i:=0) (show NAp1.Nodup by decide +kernel) rfl (.inl rfl) (.inr rfl))
          (λ_ _ _=>Ea (Ax (Xcu K (by rfl)) (pv 0) (pv 1) (by rfl))) (λ_ _ _=>pv 0))
      (Ai (Ar (A7 Xc9 (by rfl) T.sorted (by rfl) (Aa (Aq Br (pv 2)
        (Ga (N:=NAp2) (cap:=[none,some 0]) (CompScope.of (defScope s__law_apart) NAp rfl rfl rfl (by decide +kernel)) rfl
          (G0 (pv 1)) (λ_ _ _=>Az (i:=0) (show NAp2.Nodup by decide +kernel) rfl (.inl rfl) (.inr rfl))
          (λ_ _ _=>Ea (Ax (Xcu K (by rfl)) (pv 0) (pv 1) (by rfl))) (λ_ _ _=>pv 0))) Ac)))),?_⟩
    refine⟨_,rfl,p,rfl,⟨_,SqT.of hP⟩,?_⟩;refine Ff (n:=a.length) (by rw[Tp];omega) (λi=>(a.map V.str).getD i .non) (λi => !decide (a.getD i ao.empty∈b)) (λi=>.str (a.getD i ao.empty)) ?_ ?_ ?_ ?_ ?_
    . intro i H3 hi s3;exact Hg (SqT.of (s3 _ _ hP)) (by rw[Oh];exact hi)
    . intro H3 s3;have:=Hh (K:=K) (SqT.of (s3 _ _ hP))
      rwa [Oh] at this
    . intro i H3 Q' hi s3 kk;rw[Cb V.str ao.empty _ hi];refine⟨_,rfl,_,rfl,q,_,rfl,.inr (SqT.of (s3 _ _ hQ)),rfl,Dj b,_,rfl,?_⟩;rw[Tr rfl,Di];exact kk H3 (Same.refl _)
    . intro i H3 Q' hi hk s3 kk;rw[Cb V.str ao.empty _ hi];exact⟨_,rfl,kk H3 (Same.refl _)⟩
    . intro D H3 nD s3 hD;have eF:H3 D=some (.lst ((a.filter λx => !decide (x∈b)).map V.str)):=by
        rw[hD,<-C6 ao.empty (λx => !decide (x∈b)) a,Pn];rfl
      have LI:(a.filter λx => !decide (x∈b)).length<=24:=Pm (Po ..) la;refine⟨_,rfl,_,rfl,q,rfl,⟨_,SqT.of (s3 _ _ hQ)⟩,?_⟩;refine Ff (n:=b.length) (by rw[Tp];omega) (λi=>(b.map V.str).getD i .non) (λi => !decide (b.getD i ao.empty∈a)) (λi=>.str (b.getD i ao.empty)) ?_ ?_ ?_ ?_ ?_
      . intro i H4 hi s4;exact Hg (SqT.of (s4 _ _ (s3 _ _ hQ))) (by rw[Oh];exact hi)
      . intro H4 s4;have:=Hh (K:=K) (SqT.of (s4 _ _ (s3 _ _ hQ)))
        rwa [Oh] at this
      . intro i H4 Q' hi s4 kk;rw[Cb V.str ao.empty _ hi];refine⟨_,rfl,_,rfl,p,_,rfl,.inr (SqT.of (s4 _ _ (s3 _ _ hP))),rfl,Dj a,_,rfl,?_⟩;rw[Tr rfl,Di];exact kk H4 (Same.refl _)
      . intro i H4 Q' hi hk s4 kk;rw[Cb V.str ao.empty _ hi];exact⟨_,rfl,kk H4 (Same.refl _)⟩
      . intro D2 H4 oU s4 HL;have xR:H4 D2=some (.lst ((b.filter λx => !decide (x∈a)).map V.str)):=by
          rw[HL,<-C6 ao.empty (λx => !decide (x∈a)) b,Pn];rfl
        have LJ:(b.filter λx => !decide (x∈a)).length<=24:=Pm (Po ..) lb;refine⟨D,D2,_,_,rfl,rfl,s4 _ _ eF,xR,by rw[Oh,Oh,Tp];omega,λl nl=>?_⟩;refine⟨l,_,rfl,by rw[Ab,<-Ow],by rw[Oo];omega,λl2 qF=>?_⟩;refine k l2 _ ?_ Ab ?_
        . exact((s3.trans s4).step nl).free qF
        . exact((s3.trans s4).step nl).step qF
def K5:FnScope NWy ["_law_bars_here", "_law_names_here", "_law_plot"] (defScope s__law_ways):=by walk_at "s"
def Xrh{f:ae}{fd:aw}(F:Fun K "_law_ways" "_law_ways" s__law_ways f fd)(FF:Fn P w K mg base CX0 1 "_law_flip" ["_law_plot", "_law_name"] spFlip)(FI:Fn P w K mg base CX0 1 "_law_fits" ["_law_bars_here", "_law_plot"] spFits):FnOk P w K mg base CX0 2 f fd ["_law_bars_here", "_law_names_here", "_law_plot"] Xgm:=by
 refine F.ok K5 (by walk_at "l") ?_
 ·walk_at "i"
  obtain⟨b,l,p,row,S,ns,xs,rfl,hb,i8,hl,lN,pi,R2,nE,hp,hS,k⟩:=h;refine⟨_,Af (Ap (i:=3) K5.nd rfl (.inl rfl) (Bw Ac))
   (Af (B5 aW.never rfl (B4 (pv 1)) (Az (i:=4) K5.nd rfl (.inl rfl))
    (Af (Ap (i:=5) K5.nd rfl (.inl rfl) (Ak FF hr (by rfl) An (Aa (pv 2) (Aa (pv 4) Ac))))
    (Ai (Bc (Dt (Ak FI hr (by rfl) An (Aa (pv 0) (Aa (pv 5) Ac)))) (Ai (E3 (Lu PySem.F.plainAttrs_list PySem.F.slot_list_append PySem.F.type_list_append Jh (pv 3) (Aa (B6 (Aa (pv 4) (Aa (pv 5) Ac))) Ac)))) Bd))))
   (Ai (Ar (pv 3)))),?_⟩
  refine⟨by show 0<=sizeLine;decide,λD nD=>?_⟩;have s1:Same H (upd H D (.lst [])):=(Same.refl H).step nD;have AG:upd H D (.lst []) D=some (.lst (([]:List ae).map V.ref)):=Ab;dsimp only[Be];generalize upd H D (.lst [])=H1 at s1 AG;refine⟨_,rfl,l,rfl,⟨_,SqL.of (s1 _ _ hl)⟩,?_⟩;refine De (K:=K) (a:=l) (xs:=ns.map V.str) (λi Z H'=>∃(v4 v5:Option V) (qs:List ae), Z=[some (.ref b),some (.ref l),some (.ref p),some (.ref D),v4,v5]/\Same H H'/\H' D=some (.lst (qs.map V.ref))/\Nbs H' qs (waT row S ns i)/\qs.length<=i) ?_ ?_ ?_ ?_
  ·exact⟨_,_,[],rfl,s1,AG,by unfold waT;rw[List.take_zero];exact Nbs.nil _,Pi _⟩
  ·rintro i Z H' _ ⟨v4,v5,qs,rfl,s',_⟩;exact SqL.of (s' _ _ hl)
  ·rintro i v Z H' hv ⟨v4,v5,qs,rfl,s',eF,hn,hq⟩;obtain⟨x,rfl,hx,qy⟩:∃x,v=V.str x/\x∈ns/\ns[i]? = some x:=by
    rw[O2] at hv;cases z:ns[i]? with
    | none=>rw[z] at hv;cases hv
    | some x=>rw[z] at hv;exact⟨x,(O4 hv).symm,Qq z,rfl⟩
   have AH:=Xp0 (row:=row) (S:=S) qy;have hx:=lN x hx;have fX:i<ns.length:=by
    have:=(O6.mp hv).1
    rwa [Oh] at this
   have LK:=Ie hS;dsimp only[Be];refine⟨_,rfl,_,rfl,p,S,x,rfl,s' _ _ hp,by omega,λq H2 nq u5 s2=>?_⟩;have pO:=s'.trans s2;dsimp only[Be];refine⟨_,rfl,_,rfl,b,q,xs,bars row,Am S x,rfl,pO _ _ hb,DAll.same pO _ _ i8,u5,λH3 s3=>⟨_,rfl,?_⟩⟩;rw[Xnh R2.two hS hx];have m9:=pO.trans s3;have xS:=s3 _ _ (s2 _ _ eF);have tJ:=hn.same (s2.trans s3);refine A0 (λbS=>?_) (λbS=>⟨_,_,qs,rfl,m9,xS,by rw[AH,Tq (by rw[bS];decide),Pw];exact tJ,by omega⟩);refine⟨_,rfl,.inl ⟨rfl,_,SqL.of xS⟩,_,rfl,_,rfl,by show 2<=sizeLine;decide,λt nt=>?_⟩;have s4:Same H3 (upd H3 t (.tup [.str x,.ref q])):=(Same.refl H3).step nt;have ht:upd H3 t (.tup [.str x,.ref q]) t=some (.tup [.str x,.ref q]):=Ab;generalize upd H3 t (.tup [.str x,.ref q])=H4 at s4 ht;have dP:=s4 _ _ xS;refine⟨D,_,_,rfl,rfl,dP,by rw[Oh,Tp];omega,?_⟩;have kt:∀{a:ae} {w:List V},H4 a=some (.tup w)->upd H4 D (.lst (qs.map V.ref++[.ref t])) a=some (.tup w):=λ{a w} e=>by
    rw[Ad (λz=>by rw[z,dP] at e;cases e)];exact e
   refine⟨_,_,qs++[t],rfl,λa o e=>?_,by rw[Ab,Ow];rfl,?_,by rw[Oo,Pp];omega⟩
   ·rw[Ad (Aw e nD)];exact s4 _ _ (m9 _ _ e)
   ·rw[AH,Tr bS];exact((tJ.same s4).keep λa w e=>kt e).snoc (kt ht) (kt (s4 _ _ (s3 _ _ u5)))
  ·rintro Z H' ⟨v4,v5,qs,rfl,s',eF,hn,hq⟩;rw[Oh] at hq;rw[Oh] at hn;unfold waT at hn;rw[P8] at hn;exact⟨_,rfl,k D qs H' nD eF hn (by omega) s'⟩
def Ej:FnScope NMn ["_law_row_here", "_law_one_here", "_law_other"] (defScope s__law_many):=by walk_at "s"
def Xri{f:ae}{fd:aw}(F:Fun K "_law_many" "_law_many" s__law_many f fd)(B:Bl mg)(pD:Fn P w K mg base CX0 2 "_law_bars" ["_law_row_here"] spBars)(uK:Fn P w K mg base CX0 1 "_law_apart" ["_law_one_here", "_law_other"] spApart)(xT:Fn P w K mg base CX0 2 "_law_ways" ["_law_bars_here", "_law_names_here", "_law_plot"] Xgm):
  FnOk P w K mg base CX0 3 f fd ["_law_row_here", "_law_one_here", "_law_other"] Xgn:=by
 refine F.ok Ej (by walk_at "l") ?_
 ·walk_at "i"
  obtain⟨r,p,q,row,a,b,rfl,hR,R2,h3,nE,hp,hq,ha,hb,k⟩:=h;have hu:=Cu hr;have cy:Room 1 _:=hr.mono (by decide);refine⟨_,Af (Ap (i:=3) Ej.nd rfl (.inl rfl) (Ak pD hr (by rfl) An (Aa (pv 0) Ac)))
   (Af (Ap (i:=4) Ej.nd rfl (.inl rfl) (Xf9 hu (pv 1) Ag))
   (Af (B5 aW.never rfl (G1 rfl B.range (Aa (A7 B8 (by rfl) B.len bx (Aa (Ak uK cy (by rfl) An (Aa (pv 1) (Aa (pv 2) Ac))) Ac)) Ac)) (Az (i:=5) Ej.nd rfl (.inl rfl))
    (Af (Ap (i:=6) Ej.nd rfl (.inl rfl) Xii)
    (Af (B5 aW.never rfl (B4 (B1 (Xpq rfl) (by rfl) B.list (by rfl) (Aa (pv 4) Ac))) (Az (i:=7) Ej.nd rfl (.inl rfl))
     (Ai (B5 aW.never rfl (B4 (Ak xT hr (by rfl) An (Aa (pv 3) (Aa (Ak uK cy (by rfl) An (Aa (pv 7) (Aa (pv 2) Ac))) (Aa (pv 7) Ac))))) (Mj K 2 rfl rfl (Dc (Az (i:=8) Ej.nd rfl (.inl rfl)) (Dc (Az (i:=9) Ej.nd rfl (.inl rfl)) Gz)))
      (Ai (Lw hu (pv 6) (pv 9) (Aq Bv (Ly hu (pv 6) (pv 9) Ag ⟨rfl,rfl,rfl,rfl⟩) (B9 hu (pv 4) (pv 7) (λ_ _=>rfl))) rfl)))))
    (Ai (Ap (i:=4) Ej.nd rfl (.inl rfl) (pv 6))))))
   (Ai (Ar (B9 hu (pv 4) (pv 2) (λ_ _=>rfl)))))),?_⟩
  have pc:∀{S:Za},Ae row S=true->S.Pairwise ltS/\S.Nodup/\S.length<=14/\∀y∈S,y∈row:=λ{S} hS=>⟨(Bn hS).2,Gi hS,Pm (Ie hS) nE,(Bn hS).1⟩;obtain⟨lb,HM,LL,HN⟩:=pc hb;obtain⟨la,LM,LN,LO⟩:=pc ha;refine⟨_,rfl,r,row,rfl,hR,R2,λbs xs H1 LP HP i8 s1=>?_⟩;dsimp only[Db,Dd,Be];intro d nd;have HQ:Same H1 (upd H1 d (.dT [])):=Same.upd0 nd;refine⟨_,rfl,Ab,p,kOf a,rfl,by rw[D4];exact HQ _ _ (s1 _ _ hp),?_⟩;rw[Xaa];have cK:upd H1 d (.dT [(kOf a,V.int 1)]) d=some (.dT (kvT [a] λ_=>1)):=Ab;have s2:Same H1 (upd H1 d (.dT [(kOf a,V.int 1)])):=Same.upd0 nd;generalize upd H1 d (.dT [(kOf a,V.int 1)])=H2 at cK s2;have pO:=s1.trans s2;refine⟨_,rfl,_,rfl,p,q,a,b,rfl,pO _ _ hp,pO _ _ hq,by omega,by omega,λlx H3 zK nK s3=>?_⟩;have m9:=pO.trans s3;have oY:=Np a b;refine⟨lx,_,rfl,.inl (SqL.of nK),?_⟩;refine⟨_,rfl,by omega,by rw[Oh];omega,?_⟩;rw[Oh,Qr];refine G3 (lo:=0) (n:=(Ah a b).length) (λi Z H4=>∃(t:ae) (v5 v6 v7 v8 v9:Option V), Z=[some (.ref r),some (.ref p),some (.ref q),some (.ref bs),some (.ref t),v5,v6,v7,v8,v9]/\Same H3 H4/\∃(Us:List (Za)) (g:Za->Int),H4 t=some (.dT (kvT Us g))/\Us.Nodup/\(∀S∈Us,Ae row S=true/\(Ah S b).length+i=(Ah a b).length)/\wtS (wyI row b) Us g=wyI row b a) ?_ ?_ ?_
  ·refine⟨d,_,_,_,_,_,rfl,Same.refl _,[a],_,s3 _ _ cK,by simp,λS hS=>?_,by unfold wtS;simp⟩;rw[Om.mp hS];exact⟨ha,rfl⟩
  ·rintro i Z H4 hi ⟨t,v5,v6,v7,v8,v9,rfl,s4,Us,g,ht,u8,hU,wU⟩;dsimp only[Db,Dd,Be];intro m nm;have s5:Same H4 (upd H4 m (.dT [])):=Same.upd0 nm;have xU:upd H4 m (.dT []) m=some (.dT (kvT [] g)):=Ab;generalize upd H4 m (.dT [])=H5 at s5 xU;refine⟨_,rfl,t,_,rfl,s5 _ _ ht,λl as nl tO has=>?_⟩;have s6:Same H5 (upd H5 l (.lst (as.map V.ref))):=Same.upd0 nl;have t9:upd H5 l (.lst (as.map V.ref)) l=some (.lst (as.map V.ref)):=Ab;generalize upd H5 l (.lst (as.map V.ref))=H6 at s6 t9;have sS:as.length=Us.length:=by rw[tO,Iu]
   have xV:Tups H6 as Us:=⟨sS,λj hj=>by
    have fj:j<Us.length:=by omega
    have:=s6 _ _ (has j (by rw[Iu];exact fj));have e:((kvT Us g)[j]'(by rw[Iu];exact fj)).1=kOf (Us.getD j []):=by
     unfold kvT;rw[Qd];simp[List.getD,fj]
    rw[e,D4] at this;exact this⟩
   have jO:Same H3 H6:=(s4.trans s5).trans s6;have LQ:=m9.trans jO;have xW:=s6 _ _ xU;have HR:=s6 _ _ (s5 _ _ ht);have AI:t≠m:=Aw ht nm;have HS:l≠m:=(Aw xU nl).symm;have pQ:=((s2.trans s3).trans jO) _ _ HP;have HU:DAll H6 ((bars row).map trD) xs:=DAll.same ((s2.trans s3).trans jO) _ _ i8;have LS:H m=none:=by
    cases e:H m with
    | none=>rfl
    | some u=>rw[s4 _ _ (m9 _ _ e)] at nm;cases nm
   have AJ:H3 m=none:=by
    cases e:H3 m with
    | none=>rfl
    | some u=>rw[s4 _ _ e] at nm;cases nm
   have stay:∀{H7:Hp},But m H6 H7->Same H3 H7:=λb7 b u e=>b7 _ _ (jO _ _ e) (Aw e AJ);refine⟨l,rfl,⟨_,SqL.of t9⟩,?_⟩;refine De (K:=K) (a:=l) (xs:=as.map V.ref) (λj Z H7=>∃(v7 v8 v9:Option V), Z=[some (.ref r),some (.ref p),some (.ref q),some (.ref bs),some (.ref t),some (.int (0+(i:Int))),some (.ref m),v7,v8,v9]/\But m H6 H7/\∃(Vs:List (Za)) (g2:Za->Int),H7 m=some (.dT (kvT Vs g2))/\Vs.Nodup/\(∀S∈Vs,Ae row S=true/\(Ah S b).length+(i+1)=(Ah a b).length)/\wtS (wyI row b) Vs g2=wtS (wyI row b) (Us.take j) g) ?_ ?_ ?_ ?_
   ·exact⟨_,_,_,rfl,But.refl _ _,[],g,xW,by simp,(λS hS=>by cases hS),rfl⟩
   ·rintro j Z H7 _ ⟨_,_,_,_,b7,_⟩;exact SqL.of (b7 _ _ t9 HS)
   ·rintro j x Z H7 nB ⟨v7,v8,v9,rfl,b7,Vs,g2,uL,xX,hV,wV⟩;obtain⟨hj,rfl⟩:=N3 nB;have fj:j<Us.length:=by omega
    have tP:=xV.2 j hj;obtain⟨hS,xY⟩:=hU _ (SH.Tups.at xV hj);have AK:=SH.Tups.at xV hj;have fB:Us.take (j+1)=Us.take j++[Us.getD j []]:=by
     rw[O1 fj];simp[List.getD,fj]
    have AL:as.getD j 0≠m:=λz=>by rw[z,xW] at tP;cases tP
    generalize Us.getD j []=S at tP hS xY AK fB;generalize as.getD j 0=aj at tP AL;obtain⟨lS,gf,sP,HV⟩:=pc hS;have xZ:=b7 _ _ tP AL;have HW:=m9.trans (stay b7);have HX:S≠b:=λe=>by
     rw[e,N4] at xY;simp at xY;omega
    dsimp only[Be];refine⟨_,rfl,_,rfl,_,rfl,aj,q,S,b,rfl,xZ,HW _ _ hq,by omega,by omega,λHY H8 HZ ya s8=>?_⟩;have Is:=Np S b;have yb:=b7 _ _ pQ (λz=>by rw[z,xW] at pQ;cases pQ);have yc:DAll H7 ((bars row).map trD) xs:=DAll.same (λbb u e=>b7 _ _ ((jO.trans (Same.refl _)) _ _ e) (Aw e AJ)) _ _ (DAll.same (s2.trans s3) _ _ i8);refine⟨_,rfl,bs,HY,aj,row,S,Ah S b,xs,rfl,s8 _ _ yb,DAll.same s8 _ _ yc,ya,λx hx=>?_,by omega,R2,nE,s8 _ _ xZ,hS,λD qs H9 nD hD AM EL s9=>?_⟩
    ·rcases Dx.mp hx with z | z
     ·exact HV x z.1
     ·exact HN x z.1
    have nG:=s8.trans s9;have AN:=nG _ _ uL;have IA:=nG _ _ (b7 _ _ HR AI);have IB:=nG _ _ xZ;have IC:D≠m:=(Aw (s8 _ _ uL) nD).symm;have ID:=AM.1;refine⟨D,rfl,⟨_,SqL.of hD⟩,?_⟩;refine De (K:=K) (a:=D) (xs:=qs.map V.ref) (λe Z Ha=>∃(v8 v9:Option V), Z=[some (.ref r),some (.ref p),some (.ref q),some (.ref bs),some (.ref t),some (.int (0+(i:Int))),some (.ref m),some (.ref aj),v8,v9]/\But m H9 Ha/\∃(Ws:List (Za)) (g3:Za->Int),Ha m=some (.dT (kvT Ws g3))/\Ws.Nodup/\(∀S∈Ws,Ae row S=true/\(Ah S b).length+(i+1)=(Ah a b).length)/\wtS (wyI row b) Ws g3=wtS (wyI row b) (Us.take j) g+g S * (((waL row S (Ah S b)).take e).map λz=>wyI row b z.2).sum) ?_ ?_ ?_ ?_
    ·exact⟨_,_,rfl,But.refl _ _,Vs,g2,AN,xX,hV,by rw[wV];simp⟩
    ·rintro e Z Ha _ ⟨_,_,_,ba,_⟩;exact SqL.of (ba _ _ hD IC)
    ·rintro e x Z Ha IE ⟨v8,v9,rfl,ba,Ws,g3,mJ,tQ,hW,wW⟩;obtain⟨he,rfl⟩:=N3 IE;have yd:e<(waL row S (Ah S b)).length:=by omega
     obtain⟨pq,h1,h2⟩:=AM.2 e he;have IF:(waL row S (Ah S b)).getD e dN=(waL row S (Ah S b))[e]:=by simp[List.getD,yd]
     have iG:=Pk yd;have tR:(waL row S (Ah S b)).take (e+1)=(waL row S (Ah S b)).take e++[(waL row S (Ah S b))[e]]:=O1 yd;rw[IF] at h1 h2;generalize (waL row S (Ah S b))[e]=nq at h1 h2 iG tR;obtain⟨z1,z2,z3⟩:=Xpz.mp iG;have nN:=Gv gf HM z1;rw[<-z2] at nN;have ka:∀{c:ae} {w:List V},H9 c=some (.tup w)->Ha c=some (.tup w):=λ{c w} ee=>ba _ _ ee (λz=>by rw[z,AN] at ee;cases ee);have IG:=ka h1;have AO:=ka h2;have IH:=ka IB;have II:=ba _ _ IA AI;refine⟨_,_,rfl,SqT.of IG,rfl,_,_,rfl,_,_,rfl,rfl,?_⟩;have lW:=Xp2 R2.two h3 nE tQ λS hS=>(hW S hS).1;have eg:(Av (kvT Ws g3) (kOf nq.2)).getD (V.int 0)=V.int (SH.atT Ws g3 nq.2):=by
      rw[Eg];unfold SH.atT;by_cases zz:nq.2∈Ws
      ·rw[Tr zz,Tr zz];rfl
      ·rw[Tq zz,Tq zz];rfl
     refine⟨_,rfl,m,rfl,.inr ⟨_,.inl mJ⟩,_,rfl,_,.inr ⟨_,kOf nq.2,pq,.inl mJ,rfl,by rw[D4];exact AO,rfl⟩,?_⟩;rw[eg];refine⟨_,rfl,_,rfl,t,.int (g S),rfl,.inr ⟨_,kOf S,aj,.inl II,rfl,by rw[D4];exact IH,by rw[Eg,Tr AK]⟩,?_⟩;refine⟨_,_,rfl,rfl,?_⟩;refine⟨_,rfl,_,rfl,m,_,rfl,.inr ⟨_,kOf nq.2,pq,mJ,rfl,by rw[D4];exact AO,by rw[Iu,Tp];omega,rfl⟩,?_⟩;rw[Xpu];refine⟨_,_,rfl,λc u eu nu=>?_,Eh Ws nq.2,_,Ab,Xpv tQ _,λS' vk=>?_,?_⟩
     ·rw[Ad nu];exact ba _ _ eu nu
     ·rcases Xpw.mp vk with zz | zz
      ·exact hW S' zz
      ·rw[zz];exact⟨z3,by omega⟩
     ·rw[Xpx tQ,wW,tR,Ow,Sq,Int.mul_add];simp;omega
    ·rintro Z Ha ⟨v8,v9,rfl,ba,Ws,g3,mJ,tQ,hW,wW⟩;have IJ:(waL row S (Ah S b)).take (qs.map V.ref).length=waL row S (Ah S b):=Ph (by rw[Oh];omega);rw[IJ,Xpy hS hb HX] at wW;refine⟨_,_,_,rfl,λc u eu nu=>ba _ _ (nG _ _ (b7 _ _ eu nu)) nu,Ws,g3,mJ,tQ,hW,?_⟩;rw[wW,fB,Xp3]
   ·rintro Z H7 ⟨v7,v8,v9,rfl,b7,Vs,g2,uL,xX,hV,wV⟩;rw[Oh,Ph (by omega),wU] at wV;exact⟨_,rfl,m,_,_,_,_,_,rfl,stay b7,Vs,g2,uL,xX,hV,wV⟩
  ·rintro Z H4 ⟨t,v5,v6,v7,v8,v9,rfl,s4,Us,g,ht,u8,hU,wU⟩;have pR:∀S∈Us,S=b:=λS hS=>by
    obtain⟨h1,h2⟩:=hU S hS;exact Kz (Bn h1).2 lb (Px.mp (by omega))
   have jh:=Xgl R2.two hb _ ha rfl;have eU:Us=[b]:=by
    cases Us with
    | nil=>
     unfold wtS wyI at wU;simp at wU;omega
    | cons S Us=>
     cases Us with
     | nil=>rw[pR S (by simp)]
     | cons S' Us=>
      exact absurd ((pR S (by simp)).trans (pR S' (by simp)).symm) (by
       have:=(Pu.mp u8).1;exact λe=>this (by rw[e];simp))
   have eg:g b=wyI row b a:=by
    rw[eU] at wU;unfold wtS at wU;have e1:wyI row b b=1:=by unfold wyI;rw[K1];rfl
    rw[O0,Td,Ps,List.sum_nil,e1] at wU;omega
   have s0:=m9.trans s4;refine⟨_,rfl,_,rfl,t,.int (wyI row b a),rfl,.inr ⟨_,kOf b,q,.inl ht,rfl,by rw[D4];exact s0 _ _ hq,?_⟩,k H4 s0⟩;rw[Eg,eU,Tr (by simp),eg]
def Xrj:FnScope ["_law_thing"] ["_law_thing"] (defScope s__law_int):=by walk_at "s"
def Xrk{f:ae}{fd:aw}(F:Fun K "_law_int" "_law_int" s__law_int f fd)(T:Bl mg):FnOk P w K mg base CX0 1 f fd ["_law_thing"] Xdo:=by
 refine F.ok Xrj (by walk_at "l") ?_
 ·walk_at "i"
  obtain⟨i,rfl,k⟩:=h;refine⟨_,Ai (Ar (Xaf (A7 Xb7 (by rfl) T.isi qI (Aa (pv 0) (Aa (Xae (v:=.ty "int") (by rfl) T.int (by rfl) rfl) Ac)))
   (K8 (Xag (A7 Xb7 (by rfl) T.isi qI (Aa (pv 0) (Aa (Xae (v:=.ty "bool") (by rfl) T.bool (by rfl) rfl) Ac))))))),?_⟩
  refine⟨_,rfl,_,_,_,_,true,rfl,.int i,rfl,Xk8 K "int",true,rfl,Cv ?_⟩;exact⟨_,rfl,_,_,_,_,false,rfl,.int i,rfl,Xla K,false,rfl,k⟩
abbrev NRf:Za:=["_law_row_here", "_law_one_here", "_law_other", "_law_refused_here"]
def Oe:FnScope NRf ["_law_row_here", "_law_one_here", "_law_other"] (defScope s__law_refused):=by walk_at "s"
def Xrl{f C T T2 fa:ae}{fd ye:aw}(F:Fun K "_law_refused" "_law_refused" s__law_refused f fd)(hC:mg "NoPlot" = some (.ref C))
  (mJ:mg "walks_many" = some (.ref fa)) (yf:ME K (.ref fa)=true) (yg:Binds K ye ["row", "one", "other"] []) (FA:FnOk P w K mg base (CX1 P w) 7 fa ye ["row", "one", "other"] (N7 C T T2 (lamPos s_in_order) (lamPosW s_ways_to))) (e1:M' K (.ref C) (.ref C)=some true):
  FnOk P w K mg base CX0 8 f fd ["_law_row_here", "_law_one_here", "_law_other"] (spRef18 T T2 (lamPos s_in_order) (lamPosW s_ways_to)):=by
 refine F.ok Oe (by walk_at "l") ?_
 ·walk_at "i"
  obtain⟨r,p,q,row,a,b,rfl,t2,h3,tab,xD,k⟩:=h;refine⟨_,Af (Ap (i:=3) Oe.nd rfl (.inl rfl) Ds)
   (Af (Xku (Cc:=C) rfl rfl (by rfl) hC
     (λpn R=>Ai (E3 (Xi2 FA hr (by rfl) mJ yf yg .nil (Aa (pv 0) (Aa (pv 1) (Aa (pv 2) Ac))))))
     (λpn ex=>Ai (Ap (i:=3) Oe.nd rfl (.inl rfl) Ds)))
   (Ai (Ar (pv 3)))),?_⟩
  refine⟨λC1 Z1 H1=>C1=C /\ Z1=[some (.ref r),some (.ref p),some (.ref q),some (.bl false)]/\Same H H1,?_,?_⟩
  ·refine⟨_,rfl,_,rfl,_,rfl,r,p,q,row,a,b,rfl,t2,h3,t2.hd,tab,λia ib=>?_,λ_ H' s'=>⟨C,rfl,rfl,rfl,s'⟩⟩;rcases xD with e | e
   ·rw[ia] at e;cases e
   ·rw[ib] at e;cases e
  ·rintro C1 Z1 H1 ⟨rfl,rfl,s1⟩;exact⟨e1,_,rfl,k H1 s1⟩
end
end K18
set_option maxHeartbeats 8000000
namespace SH
open L2
def Tab2.butD{H H':Hp}{T T2 dr sc:ae}{p1 p2:bN}(t:Tab2 T T2 p1 p2 H)(d:DrawOk H dr sc)(b:But dr H H'):Tab2 T T2 p1 p2 H':=by
 obtain⟨xs,h⟩:=d.at;exact⟨SH.Au.but t.a h b,SH.Au.but t.b h b,t.n⟩
def Xrm{ps:List ae}(h:0<ps.length):atI (ps.map V.ref) (-1)=some (.ref (ps.getD (ps.length - 1) 0)):=by
 unfold atI ixN;rw[Oh,Tq (by decide),Tr (by omega)];show (ps.map V.ref)[((-1:Int)+ps.length).toNat]? = _;have hl:ps.length - 1<ps.length:=by omega
 rw[show ((-1:Int)+ps.length).toNat=ps.length - 1 by omega,O2,Oj hl,List.getD,Oj hl];rfl
structure Ev18 (H:Hp) (T T2:ae) (p1 p2:bN) (r p q:ae) (row a b:Za):Prop where
 two:Two H r p q row a b
 tab:Tab2 T T2 p1 p2 H
section
variable {H H':Hp}{T T2:ae}{p1 p2:bN}{r p q:ae}{row a b:Za}
def Ev18.same(e:Ev18 H T T2 p1 p2 r p q row a b)(s:Same H H'):Ev18 H' T T2 p1 p2 r p q row a b:=⟨e.two.same s,e.tab.same s⟩
def Ev18.but3(e:Ev18 H T T2 p1 p2 r p q row a b)(t:Tab2 T T2 p1 p2 H')(b3:But3 T T2 H H'):Ev18 H' T T2 p1 p2 r p q row a b:=
 ⟨⟨e.tab.but3 b3 e.two.hr λz=>by simp,e.two.r2,e.two.hd,e.tab.but3 b3 e.two.hp λz=>by simp,e.tab.but3 b3 e.two.hq λz=>by simp,e.two.oa,e.two.ob,e.two.la,e.two.lb⟩,t⟩
def Two.swap(t:Two H r p q row a b):Two H r q p row b a:=⟨t.hr,t.r2,t.hd,t.hq,t.hp,t.ob,t.oa,t.lb,t.la⟩
def Two.left(t:Two H r p q row a b):Two H r p p row a a:=⟨t.hr,t.r2,t.hd,t.hp,t.hp,t.oa,t.oa,t.la,t.la⟩
end
end SH
namespace K18
open L2 SH
def K6 (K:LY) (T T2:ae):Sp:=λvs H Q _=>∃(a:ae) (ns:List Int),vs=[.ref a]/\SqL K H a (ns.map V.int)/\ns.length<=63/\H T=some (.tbl #[])/\H T2=some (.tbl #[])/\∀H',Q (.bl true) H'
def Og{t u:TS}{D:Ends}{Z:L2.St}{H:Hp}(P:L2.St->Hp->Prop)(h2:∀Z' H',P Z' H'->u D Z' H')(h1:∀nx,(∀Z' H',P Z' H'->nx Z' H')->t {D with nx:=nx} Z H):Db t u D Z H:=h1 (u D) h2
section
variable {P:ap}{w:ax}{K:LY}{mg:ao->Option aa}{base:am}
abbrev NL18:Za:=["_law_script", "_law_draw", "_law_row_here", "_law_names_here", "_law_cut", "_law_some", "_law_one_here", "_law_other", "_law_odd", "_law_due", "_law_found"]
def Ct:FnScope NL18 ["_law_script"] (defScope s_law):=by walk_at "s"
def Xrn{f C T T2:ae}{fd:aw}(nT:T≠T2)(F:Fun K "law" "law" s_law f fd)(B:Bl mg)(FB:Fn P w K mg base CX0 1 "_law_begin" ["_law_script"] (Xdc K))(FP:FnPick P w K mg base)
  (FI:Fn P w K mg base CX0 4 "_law_island" ["_law_draw", "_law_most"] spIslandN) (FN:Fn P w K mg base CX0 2 "_law_names" ["_law_draw", "_law_many_here"] spNames) (yh:Fn P w K mg base CX0 3 "_law_plots" ["_law_row_here"] spPlots) (uM:Fn P w K mg base CX0 2 "_law_one" ["_law_draw", "_law_some"] Xei)
  (FO:Fn P w K mg base CX0 2 "_law_odd_plot" ["_law_draw", "_law_row_here", "_law_plot"] spOdd) (FG:Fn P w K mg base CX0 3 "_law_good_plot" ["_law_row_here", "_law_plot"] spGood) (FZ:Fn P w K mg base CX0 1 "_law_int" ["_law_thing"] Xdo)
  (uN:Fn P w K mg base CX0 8 "_law_refused" ["_law_row_here", "_law_one_here", "_law_other"] (spRef18 T T2 (lamPos s_in_order) (lamPosW s_ways_to))) (yi:Fn P w K mg base CX0 3 "_law_many" ["_law_row_here", "_law_one_here", "_law_other"] Xgn)
  (pS:Fn P w K mg base (CX1 P w) 7 "walks_many" ["row", "one", "other"] (N7 C T T2 (lamPos s_in_order) (lamPosW s_ways_to))):
  FnOk P w K mg base CX0 9 f fd ["_law_script"] (K6 K T T2):=by
 refine F.ok Ct (by walk_at "l") ?_
 ·walk_at "i"
  obtain⟨a,ns,rfl,hS,aN,vq,IK,k⟩:=h;have hu:=Cu hr;have cy:Room 1 _:=hr.mono (by decide);have fF:Room 2 _:=hr.mono (by decide);have sL:Room 3 _:=hr.mono (by decide);have IL:Room 4 _:=hr.mono (by decide);have uO:Room 7 _:=hr.mono (by decide);refine⟨_,Af (Ap (i:=1) Ct.nd rfl (.inl rfl) (Ak FB cy (by rfl) An (Aa (pv 0) Ac)))
   (Af (Ap (i:=2) Ct.nd rfl (.inl rfl) (Ak FI IL (by rfl) An (Aa (pv 1) (Aa Ag Ac))))
   (Af (Bc (Ax Bp (Ak FP cy (by rfl) An (Aa (pv 1) (Aa Ag Ac))) Ag (Ay _)) (Af (Ap (i:=3) Ct.nd rfl (.inl rfl) (Ak FN fF (by rfl) An (Aa (pv 1) (Aa (Aq Bv Ag (Ak FP cy (by rfl) An (Aa (pv 1) (Aa Ag Ac)))) Ac))))
   (Af (Ap (i:=4) Ct.nd rfl (.inl rfl) (Ak FP cy (by rfl) An (Aa (pv 1) (Aa (Aq Bv (A7 B8 (by rfl) B.len bx (Aa (pv 3) Ac)) Ag) Ac))))
   (Ai (Ap (i:=2) Ct.nd rfl (.inl rfl) (Aq Br (Aq Br (pv 3) (Jm (B2 Df (pv 3) B7 (Bx (pv 4))))) (Jm (B2 Df (pv 3) (Bx (pv 4)) B7))))))) Bd)
   (Af (Ap (i:=5) Ct.nd rfl (.inl rfl) (Ak yh sL (by rfl) An (Aa (pv 2) Ac)))
   (Af (Ap (i:=6) Ct.nd rfl (.inl rfl) (Ak uM fF (by rfl) An (Aa (pv 1) (Aa (pv 5) Ac))))
   (Af (Ap (i:=7) Ct.nd rfl (.inl rfl) (Ak uM fF (by rfl) An (Aa (pv 1) (Aa (pv 5) Ac))))
   (Af (Bc (Ax Bp (Ak FP cy (by rfl) An (Aa (pv 1) (Aa Ag Ac))) Ag (Ay _)) (Af (Ap (i:=6) Ct.nd rfl (.inl rfl) (B6 Ac))
   (Ai (Ap (i:=7) Ct.nd rfl (.inl rfl) (A4 Bg (pv 5) (Lb Ld Ag) (λ_ _=>rfl))))) Bd)
   (Af (Ap (i:=8) Ct.nd rfl (.inl rfl) (Ak FO fF (by rfl) An (Aa (pv 1) (Aa (pv 2) (Aa (pv 6) Ac)))))
   (Af (Bc (Gy (Dt (Ak FG sL (by rfl) An (Aa (pv 2) (Aa (pv 8) Ac))))) (Ai (Bc (E2 (Gy (Dt (Ak uN hr (by rfl) An (Aa (pv 2) (Aa (pv 8) (Aa (pv 7) Ac)))))) (Fx (Gy (Dt (Ak uN hr (by rfl) An (Aa (pv 2) (Aa (pv 7) (Aa (pv 8) Ac)))))))).pt (Ai (Ar Ds)) Bd)) Bd)
   (Af (Ap (i:=9) Ct.nd rfl (.inl rfl) (Ak yi sL (by rfl) An (Aa (pv 2) (Aa (pv 6) (Aa (pv 7) Ac)))))
   (Af (Ap (i:=10) Ct.nd rfl (.inl rfl) (Ak pS uO (by rfl) Hq (Aa (pv 2) (Aa (pv 6) (Aa (pv 7) Ac)))))
   (Af (Bc (E2 (Gy (Dt (Ak FZ cy (by rfl) An (Aa (pv 10) Ac)))) (E2 (Ax Fz (pv 10) (pv 9) (Ay _)) (Fx (Ax Fz (Ak pS uO (by rfl) Hq (Aa (pv 2) (Aa (pv 7) (Aa (pv 6) Ac)))) (pv 9) (Ay _))))).pt (Ai (Ar Ds)) Bd)
   (Ai (Ar (Xaf (El Bp (Ak pS uO (by rfl) Hq (Aa (pv 2) (Aa (pv 6) (Aa (pv 6) Ac)))) Ag (Ay _)) (K8 (El Bp (Ak pS uO (by rfl) Hq (Aa (pv 2) (Aa (pv 6) (Aa (pv 7) Ac)))) (pv 9) (Ay _))))))))))))))))),?_⟩
  refine⟨_,rfl,a,ns,rfl,hS,aN,λdr sc H1 ze LU d1 s1=>?_⟩;have yj:Tab2 T T2 (lamPos s_in_order) (lamPosW s_ways_to) H1:=⟨.inl (s1 _ _ vq),.inl (s1 _ _ IK),nT⟩;refine⟨_,rfl,dr,sc,14,rfl,by decide,d1,λr0 yk n0 cq tS H2 IM ph yl IN IP ym d2 b2=>?_⟩;have pe:=yj.butD d1 b2;have tT:r0≠dr:=(d1.ne IM).1;dsimp only[Dd,Be];refine Og (t:=Jb _ _ _) (fun Z H3=>∃(r:ae) (row:Za) (v3 v4:Option V), Z=[some (.ref a),some (.ref dr),some (.ref r),v3,v4,none,none,none,none,none,none]/\H3 r=some (.lst (row.map V.str))/\r≠dr/\Isl row/\Bk row/\DrawOk H3 dr sc/\Tab2 T T2 (lamPos s_in_order) (lamPosW s_ways_to) H3) ?_ ?_
  ·rintro Z H3 ⟨r,row,v3,v4,rfl,mI,jM,hI,eC,d3,gI⟩;have R2:=hI.row2;have f7:=hI.dlen;have pT:∀t,Ae row t=true->(∀y∈t,okN y)/\t.length<=14:=λt ht=>⟨λy hy=>R2.ok y ((Bn ht).1 y hy),Pm (Ie ht) f7⟩;dsimp only[Db,Dd,Be];refine⟨_,rfl,r,row,rfl,mI,R2,eC,f7,λl ps H4 nl oQ fw LV tK s4=>?_⟩;have d4:=d3.same s4;have yn:=gI.same s4;have jz:l≠dr:=(d3.ne nl).1;have yo:0<ps.length:=List.length_pos_iff.mpr fw;have pU:∀i,i<ps.length->∃t,H4 (ps.getD i 0)=some (.tup (t.map V.str))/\Ae row t=true:=λi hi=>by
    have e:ps.getD i 0=ps[i]:=by simp[List.getD,hi]
    obtain⟨t,h1,h2⟩:=tK (ps.getD i 0) (by rw[e];exact Pk hi);exact⟨t,h1,h2⟩
   refine⟨_,rfl,_,rfl,dr,sc,l,_,rfl,d4,oQ,jz,by rw[Oh];exact yo,by rw[Oh];omega,λi1 H5 qv d5 b5=>?_⟩;rw[Oh] at qv;rw[Cb V.ref 0 ps qv];have b5:But dr H4 H5:=b5;refine⟨_,rfl,_,rfl,dr,sc,l,_,rfl,d5,b5 _ _ oQ jz,jz,by rw[Oh];exact yo,by rw[Oh];omega,λi2 H6 eW d6 b6=>?_⟩;rw[Oh] at eW;rw[Cb V.ref 0 ps eW];have yp:But dr H4 H6:=b5.trans b6;obtain⟨t1,tD,yq⟩:=pU i1 qv;obtain⟨t2,lJ,yr⟩:=pU i2 eW;have kt:∀{H':Hp} {p:ae} {t:Za},But dr H4 H'->H4 p=some (.tup (t.map V.str))->H' p=some (.tup (t.map V.str)):=λb h=>b _ _ h (d4.ntup _ _ h);have IQ:=yp _ _ (s4 _ _ mI) jM;have pV:=yn.butD d4 yp;refine Og (t:=Jb _ _ _) (fun Z H7=>∃(p q:ae) (x y:Za), Z=[some (.ref a),some (.ref dr),some (.ref r),v3,v4,some (.ref l),some (.ref p),some (.ref q),none,none,none]/\DrawOk H7 dr sc/\Ev18 H7 T T2 (lamPos s_in_order) (lamPosW s_ways_to) r p q row x y/\Ae row x=true/\Ae row y=true) ?_ ?_
   ·rintro Z H7 ⟨p,q,x,y,rfl,d7,e7,ix,iy⟩;dsimp only[Db,Dd,Be];refine⟨_,rfl,_,rfl,_,rfl,dr,sc,r,p,row,x,rfl,d7,e7.two.hr,jM,hI,e7.two.hp,e7.two.oa,by have:=e7.two.la;omega,λo ss H8 ho hok ui d8 b8=>?_⟩;have b8:But dr H7 H8:=b8;have e8:Ev18 H8 T T2 (lamPos s_in_order) (lamPosW s_ways_to) r p q row x y:=⟨⟨b8 _ _ e7.two.hr jM,R2,f7,b8 _ _ e7.two.hp (d7.ntup _ _ e7.two.hp),b8 _ _ e7.two.hq (d7.ntup _ _ e7.two.hq),e7.two.oa,e7.two.ob,e7.two.la,e7.two.lb⟩,e7.tab.butD d7 b8⟩;have oY:x.length<=14:=(pT x ix).2;refine Og (t:=Jb _ _ _) (fun Z H9 => Z=[some (.ref a),some (.ref dr),some (.ref r),v3,v4,some (.ref l),some (.ref p),some (.ref q),some (.ref o),none,none]/\Ev18 H9 T T2 (lamPos s_in_order) (lamPosW s_ways_to) r p q row x y) ?_ ?_
    ·rintro Z H9 ⟨rfl,e9⟩;dsimp only[Db,Dd,Be];refine⟨_,rfl,_,rfl,_,rfl,r,p,q,row,x,y,rfl,e9.two.hr,R2,eC,f7,e9.two.hp,e9.two.hq,ix,iy,λHa sa=>?_⟩;have ea:=e9.same sa;refine⟨_,rfl,_,rfl,_,rfl,r,p,q,row,x,y,rfl,ea.two,eC,f7,ea.tab,λ_ _ Hb tb bb=>?_,λz=>by rw[ix,iy] at z;rcases z with z | z<;>cases z⟩;have eb:=ea.but3 tb bb;refine⟨_,rfl,_,rfl,_,rfl,?_⟩;refine Bs ?_;refine⟨_,rfl,_,rfl,rfl,_,rfl,?_⟩;rw[Tt rfl];refine Bs ?_;refine⟨_,rfl,_,rfl,_,rfl,r,q,p,row,y,x,rfl,eb.two.swap,eC,f7,eb.tab,λ_ _ Hc tc bc=>?_,λz=>by rw[ix,iy] at z;rcases z with z | z<;>cases z⟩;have ec:=eb.but3 tc bc;refine⟨_,rfl,rfl,_,rfl,?_⟩;rw[Xpt iy ix,Tt rfl];refine Bs ?_;dsimp only[Ja];refine⟨_,rfl,_,rfl,_,rfl,r,p,p,row,x,x,rfl,ec.two.left,eC,f7,ec.tab,λ_ _ Hd td bd=>?_,λz=>by rw[ix] at z;rcases z with z | z<;>cases z⟩;have ed:=ec.but3 td bd;have e1:wyI row x x=1:=by unfold wyI;rw[K1];rfl
     rw[e1];refine⟨rfl,_,rfl,?_⟩;rw[Tt rfl,Tr rfl];refine⟨_,rfl,_,rfl,_,rfl,r,p,q,row,x,y,rfl,ed.two,eC,f7,ed.tab,λ_ _ He te be=>?_,λz=>by rw[ix,iy] at z;rcases z with z | z<;>cases z⟩;refine⟨_,rfl,rfl,?_⟩;rw[Tt rfl];exact k He
    ·intro nx kn;refine⟨_,rfl,_,rfl,r,o,row,ss,rfl,e8.two.hr,R2,ho,hok,by omega,λH9 s9=>⟨_,rfl,?_⟩⟩;rw[J8 R2.two];have e9:=e8.same s9;cases hg:Ae row ss with
     | true=>exact Bs (kn _ _ ⟨rfl,e9⟩)
     | false=>
      refine Cv ?_;have tq:Two H9 r o q row ss y:=⟨e9.two.hr,R2,f7,s9 _ _ ho,e9.two.hq,hok,e9.two.ob,by omega,e9.two.lb⟩;refine⟨_,rfl,_,rfl,_,rfl,r,o,q,row,ss,y,rfl,tq,eC,e9.tab,.inl hg,λHa sa=>⟨_,rfl,?_⟩⟩;refine Bs ?_;refine⟨_,rfl,_,rfl,_,rfl,r,q,o,row,y,ss,rfl,(tq.same sa).swap,eC,e9.tab.same sa,.inr hg,λHb sb=>⟨_,rfl,?_⟩⟩;exact Bs (kn _ _ ⟨rfl,(e9.same sa).same sb⟩)
   ·intro nx kn;refine⟨_,rfl,dr,sc,2,rfl,by decide,by decide,d6,λm H7 m0 m1 d7 b7=>?_⟩;have uP:But dr H4 H7:=yp.trans b7;have tU:=pV.butD d6 b7;have AQ:=b7 _ _ IQ jM;refine⟨rfl,_,rfl,?_⟩;refine A0 (λ_=>?_) (λ_=>?_)
    ·refine⟨by show 0<=sizeLine;decide,λe ne=>?_⟩;have s8:Same H7 (upd H7 e (.tup [])):=Same.upd0 ne;have AR:upd H7 e (.tup []) e=some (.tup (([]:Za).map V.str)):=Ab;generalize upd H7 e (.tup [])=H8 at s8 AR;have IR:=s8 _ _ (uP _ _ oQ jz);obtain⟨t3,xm,yt⟩:=pU (ps.length - 1) (by omega);dsimp only[Db,Dd,Be];refine⟨_,rfl,_,rfl,l,_,_,.ref (ps.getD (ps.length - 1) 0),rfl,rfl,SqL.of IR,?_,?_⟩
     ·exact Xrm yo
     ·refine kn _ _ ⟨e,_,[],t3,rfl,d7.same s8,⟨⟨s8 _ _ AQ,R2,f7,AR,s8 _ _ (kt uP xm),by simp,(pT t3 yt).1,by simp,by have:=(pT t3 yt).2;omega⟩,tU.same s8⟩,Kd row,yt⟩
    ·exact kn _ _ ⟨_,_,t1,t2,rfl,d7,⟨⟨AQ,R2,f7,kt uP tD,kt uP lJ,(pT t1 yq).1,(pT t2 yr).1,by have:=(pT t1 yq).2;omega,by have:=(pT t2 yr).2;omega⟩,tU⟩,yq,yr⟩
  ·intro nx kn;refine⟨_,rfl,dr,sc,3,rfl,by decide,by decide,d2,λm0 H3 xn mY d3 b3=>?_⟩;have gI:=pe.butD d2 b3;refine⟨rfl,_,rfl,?_⟩;refine A0 (λ_=>?_) (λ_=>kn _ _ ⟨r0,yk,_,_,rfl,b3 _ _ IN tT,tT,⟨n0,cq,tS,ph,yl,IP⟩,ym,d3,gI⟩);dsimp only[Db,Dd,Be];refine⟨_,rfl,_,rfl,dr,sc,13,rfl,by decide,by decide,d3,λm H4 qp LW d4 b4=>?_⟩;obtain⟨m,rfl⟩:=Pt qp;have yu:2+m<=14:=by omega
   refine⟨2,(m:Int),rfl,rfl,dr,sc,2+m,by simp,yu,d4,λnl st late H5 IS bK pi t0 d5 b5=>?_⟩;have sY:nl≠dr:=(d4.ne IS).1;have yw:=Jz (late:=late) bK yu;have IT:(A8 st late (2+m)).length=2+m:=by unfold A8;rw[Oh,Qg]
   generalize hN:A8 st late (2+m)=N at pi yw IT;refine⟨_,rfl,_,rfl,nl,_,rfl,.inl (SqL.of pi),_,_,rfl,rfl,dr,sc,_,rfl,by rw[Oh];omega,by rw[Oh];omega,d5,λc H6 IU xc d6 b6=>?_⟩;rw[Oh] at xc;obtain⟨c,rfl⟩:=Pt IU;have hc:c<=N.length:=by omega
   have yx:=b6 _ _ pi sY;have eG:∀m,m<=100000->m<=sizeLine:=λm h=>by rw[Tp];omega
   refine⟨_,rfl,_,rfl,_,rfl,_,rfl,nl,_,rfl,SqL.of yx,λp1 n1=>?_⟩;rw[Fd _ _ _ hc];refine⟨p1,_,rfl,SqL.of Ab,λp2 n2=>?_⟩;refine⟨nl,p2,_,_,rfl,rfl,ku (ku yx n1) n2,Ab,eG _ (by simp;omega),λp3 n3=>?_⟩;refine⟨_,rfl,_,rfl,_,rfl,nl,_,rfl,SqL.of (ku (ku (ku yx n1) n2) n3),λp4 n4=>?_⟩;rw[Fe _ _ _ hc];refine⟨p4,_,rfl,SqL.of Ab,λp5 n5=>?_⟩;refine⟨p3,p5,_,_,rfl,rfl,ku (ku Ab n4) n5,Ab,eG _ (by simp;omega),λp6 n6=>?_⟩;have s5:=(((((Same.refl H6).go n1 n2).go n2 n3).go n3 n4).go n4 n5).go n5 n6;have f6:=s5.free n6;have jC:(N++(N.take c).reverse++(N.drop c).reverse).Perm (N++N):=by
    rw[Pb];refine P6 N ?_;refine((Sf _).append (Sf _)).trans ?_;rw[Pa]
   have pV:=((gI.butD d3 b4).butD d4 b5).butD d5 b6;exact kn _ _ ⟨p6,N++(N.take c).reverse++(N.drop c).reverse,_,_,rfl,Ab.trans (by simp),(d6.ne f6).1,⟨2+m,st,late,yu,bK,by rw[hN];exact jC⟩,noThree_grid yw c λz hz=>Fj yw jC z (jC.mem_iff.mpr (P7 _ hz)),d6.same (s5.step n6),pV.same (s5.step n6)⟩
end
end K18
set_option maxHeartbeats 4000000
namespace PySem.OldK
def of_tabs{h₀ h:am}{L:List ae}(ht:∀T∈L,isCodeTable h₀ T)(hT:∀T∈L,h₀.get? T=some (MK #[]))(m8:∀T∈L,∃ps,h.get? T=some (MK ps))(k:∀b o,b∉L->h₀.get? b=some o->h.get? b=some o):BC h₀ h:=by
 refine⟨λb o e=>?_,λb o e=>?_⟩
 ·by_cases z:b∈L
  ·obtain⟨ps,jl⟩:=m8 b z;rw[hT b z] at e;cases e;exact .inr (.inl ⟨ht b z,rfl, #[],ps,rfl,by simpa using jl⟩)
  ·exact .inl (k b o z e)
 ·by_cases z:b∈L
  ·obtain⟨ps,jl⟩:=m8 b z;exact⟨_,jl⟩
  ·exact⟨o,k b o z e⟩
end PySem.OldK
namespace L2
def Xro{P:ap}{w:ax}{K:LY}{mg mb:ao->Option aa}{CX:CXT}{k:Nat}{fa a:ae}{fd:aw}{x:ao}{sp:Sp}{s₁ : af}{vs:List aa}{ns:List Int}{L:List ae}
  (hT:∀T∈L,s₁.heap.get? T=some (MK #[])) (hTK:∀T∈L,K.lookup T=none) (hhd:∀T∈L,∃c0,MH K c0 T=true) (jF:BmOk mg s₁.heap)
  (KX:K.In s₁.heap) (lN:s₁.heap.Ns aq mg) (hb:s₁.heap.Ns cU mb) (xv:∀x:ao,x ≠ "__name__" -> mb x=bF x) (yy:s₁.heap.NoLimit) (hg:s₁.gens = #[])
  (ha:s₁.heap.get? a=some {cls:=.type "list",data:=.seq vs.toArray}) (hi:cX vs ns) (hl:ns.length<=sizeLine) (hr:Room k eQ)
  (F:∀base:am,K.In base->base.Ns aq mg->BmOk mg base->FnOk P w K mg base CX k fa fd [x] sp) (tV:∀(s:af) (u:aa),eI s fd ⟨[u],[]⟩ [(x,u)])
  (gZ:∀H:Hp,(∀T∈L,H T=some (.tbl #[]))->SqL K H a (ns.map V.int)->sp [.ref a] H (λv _=>v = .bl true) λ_ _ _=>False)
  (y0:∀H e s',CX [] H s₁ (λ_ _ _=>False) e s'->False):
  bB (ah P w) eQ (.call (.ref fa) ⟨[.ref a],[]⟩) (λr s'=>r = .ok (.ret (.bool true))/\BC s₁.heap s'.heap/\s'.os=s₁.os/\cA s'.gens) s₁:=by
 have rv:=Xbr hi;have y1:=hi.length;have tW:∀H:Hp,(∀T∈L,H T=some (.tbl #[]))->(∀b,b∉L->H b=none \/ ∃o xs,H b=some (.frz o (.lst xs)))->SqL K H a (ns.map V.int)->HOk P w H s₁.heap->(∀b,H b≠none->b=a\/b∈L)->(H a≠none->K.lookup a=none) ->
   bB (ah P w) eQ (.call (.ref fa) ⟨[.ref a],[]⟩) (λr s'=>r = .ok (.ret (.bool true))/\BC s₁.heap s'.heap/\s'.os=s₁.os/\cA s'.gens) s₁:=by
  intro H AS hO hS hok hA hK;have fQ:∀{b:ae} {o:aM},s₁.heap.get? b=some o->H b=none->(Dr s₁.heap H).get? b=some o:=λe n=>Xg2 e n;have lD:∀{b:ae} {o:aM} {es:Array cn} {ep:Nat},s₁.heap.get? b=some o->o.data = .dict es ep->H b=none:=λ{b o es ep} e d=>by
   cases q:H b with
   | none=>rfl
   | some u=>
    rcases hA b (by rw[q];simp) with e' | e'
    ·subst e';rw[ha] at e;cases e;have d':uX.seq vs.toArray _=uX.dict es ep:=d;cases d'
    ·rw[hT b e'] at e;cases e;cases d
  have uQ:∀{b:ae} {m:ao->Option aa},s₁.heap.Ns b m->(Dr s₁.heap H).Ns b m:=λ{b m} ⟨o,es,ep,e,d,r⟩=>⟨o,es,ep,fQ e (lD e d),d,r⟩;have AT:K.In (Dr s₁.heap H):=λb o e=>fQ (KX b o e) (by
   cases q:H b with
   | none=>rfl
   | some u=>
    rcases hA b (by rw[q];simp) with e' | e'
    ·subst e';rw[hK (by rw[q];simp)] at e;cases e
    ·rw[hTK b e'] at e;cases e)
  have y3:BmOk mg (Dr s₁.heap H):=by
   obtain⟨bm,ob,b1,b2,b3,b4,b5,b6⟩:=jF;refine⟨bm,ob,b1,b2,fQ b3 ?_,b4,b5,b6⟩;cases q:H bm with
   | none=>rfl
   | some u=>
    rcases hA bm (by rw[q];simp) with e' | e'
    ·subst e';rw[ha] at b3;cases b3;exact absurd (show aa.type "list" = aa.type "module" from b4) (by decide)
    ·rw[hT bm e'] at b3;cases b3;cases b4
  have hM:Mod K mg (Dr s₁.heap H):=⟨AT,uQ lN,⟨mb,uQ hb,xv⟩,let ⟨mc,h1,h2⟩:=yy; ⟨mc,uQ h1,h2⟩⟩;have e0:Env0 P w K mg (Dr s₁.heap H) eQ [] s₁ H:=⟨rfl,hM,λb o e=>Xg3 e,Nat.le_of_eq (Xg1 _ _),trivial,λb hb=>absurd (show b∈([]:List ae) from hb) (by simp),hok,.of_eq hg⟩;refine br ((F _ AT (uQ lN) y3).run eQ [] s₁ H ⟨[.ref a],[]⟩ [.ref a] [.ref a] _ _ hr e0 (tV s₁ (.ref a)) (.cons rfl .nil) (gZ H AS hS)) λr s' h=>?_;cases r with
  | error e=>exact(y0 H e s' h).elim
  | ok fl=>
   cases fl with
   | next=>exact False.elim h
   | brk=>exact False.elim h
   | cont=>exact False.elim h
   | ret u=>
    obtain⟨v,H',os,bare,un,tX,r',q⟩:=h;have q':v = .bl true:=q;subst q';obtain rfl:u=aa.bool true:=r';refine⟨rfl,BC.of_tabs (L:=L) (λT hm=>by obtain⟨c0,hh⟩:=hhd T hm;have C:=MP KX hh;exact(C.tab (hT T hm)).isCodeTable) hT (λT hm=>?_) λb o nb e=>?_,os,bare⟩
    ·obtain⟨cf,IV⟩:=un.tbls T #[] (AS T hm);exact⟨#[]++cf,tX T _ IV⟩
    cases q:H b with
    | none=>exact un.keep b o e q (by intro z;exact absurd (show b∈([]:List ae) from z) (by simp)) (by simp)
    | some u=>
     rcases hO b nb with z | ⟨ob,xs,z⟩
     ·rw[q] at z;cases z
     ·have z2:=un.frzs b ob _ z;obtain⟨e1,_⟩:=hok b _ z;obtain⟨e2,_⟩:=tX b _ z2;rw[e] at e1;cases e1;exact e2
 cases hk:K.lookup a with
 | some o=>
  have e:=KX a o hk;rw[ha] at e;cases e;have y4:a∉L:=λz=>by rw[hTK a z] at hk;cases hk
  refine tW (λb=>if b∈L then some (.tbl #[]) else none) (λT hm=>Tr hm) (λb n=>.inl (Tq n)) (.inr ⟨_,vs.toArray,_,hk,rfl,rfl,rfl,by rw[Ol,y1];exact hl,by simpa using rv⟩) (λb u z=>?_) (λb z=>.inr (Classical.byContradiction λn=>z (Tq n))) λz=>absurd (Tq y4) z;by_cases hb:b∈L
  ·have z':=(Tr hb).symm.trans z;cases z';exact hT b hb
  ·have z':=(Tq hb).symm.trans z;cases z'
 | none=>
  have y4:a∉L:=λz=>by have:=hT a z;rw[ha] at this;cases this
  refine tW (λb=>if b∈L then some (.tbl #[]) else if b=a then some (.frz {cls:=.type "list",data:=.seq vs.toArray} (.lst (ns.map V.int))) else none) (λT hm=>Tr hm) (λb n=>?_) (.inl (.inr ⟨{cls:=.type "list",data:=.seq vs.toArray},(Tq y4).trans (Tr rfl)⟩)) (λb u z=>?_) (λb z=>?_) λ_=>hk
  ·by_cases hb:b=a
   ·exact .inr ⟨_,_,(Tq n).trans (Tr hb)⟩
   ·exact .inl ((Tq n).trans (Tq hb))
  ·by_cases hb:b∈L
   ·have z':=(Tr hb).symm.trans z;cases z';exact hT b hb
   ·have z1:=(Tq hb).symm.trans z;by_cases hb:b=a
    ·have z':=(Tr hb).symm.trans z1;cases z';subst hb;exact⟨ha,by rw[Oh];exact hl,vs,_,rv,ha⟩
    ·have z':=(Tq hb).symm.trans z1;cases z'
  ·by_cases hb:b∈L
   ·exact .inr hb
   ·by_cases hc:b=a
    ·exact .inl hc
    ·exact absurd ((Tq hb).trans (Tq hc)) z
def Xrp{l:NM}{n k:Nat}{q:ap}{loose:Za}{XP:(ao->Option aa)->am->Prop}{YP:ax->am->Prop}{d:DefRec}{K:IW->LY}{CX:ax->CXT}{sp:ax->Sp}{x:ao}{L:List ae}
  (hn:l.most=some n) (xE:n<=sizeLine) (qY:d.params.defaults=[]) (hr:Room k eQ)
  (hY:∀(w:ax) (h:am),YP w h->(K w.params).In h) (y6:∀(w:ax) (h:am),YP w h->∀T∈L,h.get? T=some (MK #[])) (hTK:∀P,∀T∈L,(K P).lookup T=none) (hhd:∀P,∀T∈L,∃c0,MH (K P) c0 T=true)
  (F:∀(w:ax) (mg:ao->Option aa) (fa:ae) (h:am),(K w.params).In h->h.Ns aq mg->mg d.name=some (.ref fa) ->
   ∃fd:aw,(∀(s:af) (u:aa),eI s fd ⟨[u],[]⟩ [(x,u)]) /\
    ∀base:am,(K w.params).In base->base.Ns aq mg->BmOk mg base->FnOk l.prog w (K w.params) mg base (CX w) k fa fd [x] (sp w))
  (gZ:∀(w:ax) (H:Hp) (a:ae) (ns:List Int),ns.length<=n->(∀T∈L,H T=some (.tbl #[]))->SqL (K w.params) H a (ns.map V.int)->sp w [.ref a] H (λv _=>v = .bl true) λ_ _ _=>False)
  (y0:∀(w:ax) (H:Hp) (s:af) (e:aa) (s':af),CX w [] H s (λ_ _ _=>False) e s'->False):
  NR q loose XP YP l.row.toRowW d [] (λf vs=>PySem.call f vs):=by
 refine Att.attach_call hn qY λw s₀ s₁ mg mb fa o pm cd dq a vs ns G Y ho hd gX hmg om jX aN hg=>?_;have KX:=hY w _ Y;obtain⟨fd,hb,hF⟩:=F w mg fa _ KX G.T.g hmg;exact Xro (y6 w _ Y) (hTK _) (hhd _) G.T.bmain KX G.T.g G.T.b G.T.builtins G.T.nolimit hg om jX (Pm aN xE) hr hF hb (λH hO hS=>gZ w H a ns aN hO hS) λH e s'=>y0 w H s₁ e s'
def Fn.ofT{P:ap}{w:ax}{K:LY}{h:am}{mg:ao->Option aa}{base:am}{CX:CXT}{k:Nat}{x:ao}{st:aP}{ps:Za}{sp:Sp}{T:ae}(X:K.In h)(G:h.Ns aq mg)(D:DefT K x st T)
  (hb:∀(kV dq pm:aa) (an:Option ae) (cdv ct:aa) (us:List aa),us.length=ps.length->cQ (MM x x (D8 st) (Co st) (defScope st) .none kV dq pm an cdv ct) ⟨us,[]⟩=pure (ps.zip us))
  (ok:∀f fd,FunT K x st f fd T->FnOk P w K mg base CX k f fd ps sp):Fn P w K mg base CX k x ps sp:=by
 obtain⟨f,fd,a,hk,F,F'⟩:=D.ex;exact⟨⟨f,fd,MS X G a,hk,F'.binds hb,ok f fd F⟩⟩
end L2
namespace HD
open PySem PySem.W PySem.Calls PyProof.Rows
abbrev O:=Option SharedT
noncomputable abbrev B (a b:O) (c:Bool):O := @Bool.rec (λ_=>O) a b c
noncomputable def go (F:SharedT->er->Option (SharedT×er)) (ok:er->Bool) (n:Nat):SharedT->er->O := @Nat.rec (λ_=>SharedT->er->O) (λ_ _=>none) (λ_ ih s t=>B (B none (@Option.rec (SharedT×er) (λ_=>O) none (λx=>@Prod.rec SharedT er (λ_=>O) ih x) (F s t)) (ok t)) (some s) (through t)) n
def Xrq{tb p w m a z}:∀n s t,go (stepT (denote tb) p w) (stepOk m a) n s t=some z->topRun tb p w m a n s.abs t=some z.abs:=by
 intro n
 induction n with
 | zero=>intro s t h;cases h
 | succ n ih=>
  intro s t h;unfold topRun;have h':B (B none (@Option.rec (SharedT×er) (λ_=>O) none (λx=>@Prod.rec SharedT er (λ_=>O) (go (stepT (denote tb) p w) (stepOk m a) n) x) (stepT (denote tb) p w s t)) (stepOk m a t)) (some s) (through t)=some z:=h;cases ht:through t with
  | true=>rw[ht] at h';cases h';rfl
  | false=>
   cases hk:stepOk m a t with
   | false=>rw[ht,hk] at h';cases h'
   | true=>
    cases hs:stepT (denote tb) p w s t with
    | none=>rw[ht,hk,hs] at h';cases h'
    | some x=>
     rw[ht,hk,hs] at h';rw[stepT_spec hs];exact ih _ _ h'
noncomputable def tree (P:IW):BT:=((boot_heap P).objs.toList.foldl (λ(x:BT×Nat) o=>(x.1.ins x.2 o,x.2+1)) (.nil,0)).1
def Xrr(P):absHeap (tree P) 11 {}=boot_heap P:=by kernel_rfl
def Xrs(P):((boot_heap P).isNs aq,(boot_heap P).objs.size,(boot_heap P).nsMap aq "__annotations__")=(true,11,some (.ref 6)):=by kernel_rfl
abbrev ck (p:ap) (g h:am) (z:af):=staticsOk (qJ p.main.body) g h&&namesBound p h&&gensDone z&&laidKept g h
def left{p q loose Xt α}{Yf:af->α}{Ya N g}(e:opening p=plainProg p.main.scope.names)(hN:Nat.ble 600 N=true)(f:∀s,fenceModules? p s=some s)
 (h:∀w:ax,(λos=>(go (Fast.tw10156331382660048174 (Fast.tw11892475500146522536 Fast.tw14364793385576792824) p w) (Fast.tw6613529449190102663 11 (some (.ref 6))) N ⟨tree w.params,11,{},#[],boot_drawn,boot_toks,os⟩ (topStub p)).map λz=>(ck p (boot_heap w.params) z.abs.heap z.abs,Fast.tw4187177175401517315 q loose (qJ p.main.body) Xt g z.abs,Yf z.abs))=λ_=>some (true,openGood q loose,Ya w)):LeftO p q loose Xt Yf Ya N g:=λw=>by
 rw[<-Fast.te10156331382660048174,<-Fast.te11892475500146522536,<-Fast.te14364793385576792824,<-Fast.te6613529449190102663,<-Fast.te4187177175401517315] at h;obtain⟨⟨hp,gs,d,k,os⟩,e1,e2⟩:=Sb.mp (boot_open e hN f w);obtain⟨rfl,rfl,rfl,rfl⟩:hp=boot_heap w.params/\gs=#[]/\d=boot_drawn/\k=boot_toks:=by simpa using e2
 obtain⟨z1,z2,z3⟩:_/\_/\_:=by simpa only[Prod.mk.injEq] using Xrs w.params
 obtain⟨z,hz,l⟩:=Sb.mp (congrFun (h w) os);obtain⟨l1,l2,l3⟩:_/\_/\_:=by simpa only[Prod.mk.injEq] using l
 have r:=Xrq _ _ _ hz;rw[show (SharedT.mk (tree w.params) 11 {} #[] boot_drawn boot_toks os).abs=⟨boot_heap w.params,#[],boot_drawn,boot_toks,os⟩ by show af.mk (absHeap (tree w.params) 11 {}) _ _ _ _=_;rw[Xrr]] at r;unfold openEnds;rw[e1];show (topFrom LX p w N _).map _=_;rw[show topFrom LX p w N ⟨boot_heap w.params,#[],boot_drawn,boot_toks,os⟩=some z.abs by
  unfold topFrom;dsimp only;rw[z1,z2,z3,r];show (match ck p (boot_heap w.params) z.abs.heap z.abs with | true=>_ | false=>_)=_;rw[l1]]
 exact congrArg some (Prod.ext l2 l3)
def isDef:aP->Bool
 | .Assign _ (.Constant (.str _) _ _) _=>false
 | _=>true
end HD
namespace L2
open PySem
def len1{us:List aa}(h:us.length=1):∃a,us=[a]:=List.length_eq_one_iff.mp h
def len2{us:List aa}(h:us.length=2):∃a b,us=[a,b]:=by
 cases us with
 | nil=>cases h
 | cons a r=>
  obtain⟨b,rfl⟩:=len1 (Th h);exact⟨a,b,rfl⟩
def len3{us:List aa}(h:us.length=3):∃a b c,us=[a,b,c]:=by
 cases us with
 | nil=>cases h
 | cons a r=>
  obtain⟨b,c,rfl⟩:=len2 (Th h);exact⟨a,b,c,rfl⟩
def len4{us:List aa}(h:us.length=4):∃a b c d,us=[a,b,c,d]:=by
 cases us with
 | nil=>cases h
 | cons a r=>
  obtain⟨b,c,d,rfl⟩:=len3 (Th h);exact⟨a,b,c,d,rfl⟩
end L2
local macro_rules | `(tactic| walk_at "1") => `(tactic| (intro _ _ _ _ _ _ us hl;obtain⟨a,e⟩:=L2.len1 hl;subst e;rfl))
local macro_rules | `(tactic| walk_at "2") => `(tactic| (intro _ _ _ _ _ _ us hl;obtain⟨a,b,e⟩:=L2.len2 hl;subst e;rfl))
local macro_rules | `(tactic| walk_at "3") => `(tactic| (intro _ _ _ _ _ _ us hl;obtain⟨a,b,c,e⟩:=L2.len3 hl;subst e;rfl))
local macro_rules | `(tactic| walk_at "4") => `(tactic| (intro _ _ _ _ _ _ us hl;obtain⟨a,b,c,d,e⟩:=L2.len4 hl;subst e;rfl))
namespace K18
open L2 SH
def Xrt{P:ap}{w:ax}{K:LY}{h:am}{mg:ao->Option aa}{fa j4 kW T_ uR:ae}(X:K.In h)(G:h.Ns aq mg)(IZ:mg "law" = some (.ref fa))
  (gK:DefAt K "ask_ditch" sAsk)
  (j5:DefAt K "ditches" sDitches)
  (pY:DefAt K "ends" sEnds)
  (mK:DefAt K "spans" sSpans)
  (kX:DefAt K "lie_of" sLieOf)
  (gM:DefAt K "crossings" sCross)
  (pZ:DefAt K "told" sTold)
  (d_in_order:DefT K "in_order" s_in_order T_)
  (kY:DefAt K "allows" sAllows)
  (j6:DefAt K "is_plot" sIsPlot)
  (iH:DefAt K "ask_plot" s_ask_plot)
  (mL:DefAt K "plots" s_plots)
  (j7:DefAt K "parting" s_parting)
  (kZ:DefAt K "across" s_across)
  (d_ways_to:DefT K "ways_to" s_ways_to uR)
  (fR:DefAt K "walks_many" s_walks_many)
  (fS:DefAt K "_law_begin" sBegin)
  (gN:DefAt K "_law_pick" sPick)
  (iI:DefAt K "_law_put" sPut)
  (fT:DefAt K "_law_where" sWhere)
  (gO:DefAt K "_law_word" sWord)
  (f9:DefAt K "_law_barred" sBarred)
  (iJ:DefAt K "_law_row" sRow)
  (fU:DefAt K "_law_names" sNames)
  (fA:DefAt K "_law_island" sIsland)
  (gP:DefAt K "_law_bars" s__law_bars)
  (gQ:DefAt K "_law_fits" s__law_fits)
  (fV:DefAt K "_law_plots" s__law_plots)
  (iK:DefAt K "_law_one" s__law_one)
  (eA:DefAt K "_law_stranger" s__law_stranger)
  (gR:DefAt K "_law_flip" s__law_flip)
  (eB:DefAt K "_law_odd_plot" s__law_odd_plot)
  (dW:DefAt K "_law_good_plot" s__law_good_plot)
  (fW:DefAt K "_law_apart" s__law_apart)
  (gT:DefAt K "_law_ways" s__law_ways)
  (gU:DefAt K "_law_many" s__law_many)
  (iL:DefAt K "_law_int" s__law_int)
  (fi:DefAt K "_law_refused" s__law_refused)
  (tY:DefAt K "law" s_law)
  (x_NoDitch:ExcAt K "NoDitch" j4)
  (x_NoPlot:ExcAt K "NoPlot" kW)
  (J':T_≠uR)
  (z_len:MC K aq "len" = some none)
  (z_range:MC K aq "range" = some none)
  (z_list:MC K aq "list" = some none)
  (z_min:MC K aq "min" = some none)
  (z_isinstance:MC K aq "isinstance" = some none)
  (z_all:MC K aq "all" = some none)
  (z_str:MC K aq "str" = some none)
  (z_ValueError:MC K aq "ValueError" = some none)
  (z_sorted:MC K aq "sorted" = some none)
  (z_set:MC K aq "set" = some none)
  (z_enumerate:MC K aq "enumerate" = some none)
  (z_int:MC K aq "int" = some none)
  (z_bool:MC K aq "bool" = some none)
  (z_tuple:MC K aq "tuple" = some none)
  (z_any:MC K aq "any" = some none)
  (z_dict:MC K aq "dict" = some none)
  (z_sum:MC K aq "sum" = some none)
  (z_max:MC K aq "max" = some none)
  : ∃fd:aw,(∀(s:af) (v:aa),eI s fd ⟨[v],[]⟩ [("_law_script",v)])/\∀base:am,K.In base->base.Ns aq mg->BmOk mg base->FnOk P w K mg base CX0 9 fa fd ["_law_script"] (K6 K T_ uR):=by
 have T:Bl mg:=⟨LZ X G z_len,LZ X G z_range,LZ X G z_list,LZ X G z_min,LZ X G z_isinstance,LZ X G z_all,LZ X G z_str,LZ X G z_ValueError,LZ X G z_sorted,LZ X G z_set,LZ X G z_enumerate,LZ X G z_int,LZ X G z_bool,LZ X G z_tuple,LZ X G z_any,LZ X G z_dict,LZ X G z_sum,LZ X G z_max⟩;obtain⟨f,fd,a,hk,F⟩:=tY.ex;have e:=IZ.symm.trans (MS X G a);cases e;refine⟨fd,?_,λbase hB hG jF=>?_⟩
 ·obtain⟨oc,od,kV,dq,pm,an,cdv,ct,iT,rfl,lk,gX⟩:=F.ex;exact λs v=>.of_eq rfl
 ·have FB:Fn P w K mg base _ _ _ _ _:=Fn.of X G fS (by walk_at "1") λf fd F=>Xqv F T;have FP:FnPick P w K mg base:=Fn.of X G gN (by walk_at "2") λf fd F=>Xqw F T;have FU:Fn P w K mg base _ _ _ _ _:=Fn.of X G iI (by walk_at "4") λf fd F=>Xqx F;have FW:Fn P w K mg base _ _ _ _ _:=Fn.of X G fT (by walk_at "1") λf fd F=>Xqy F T;have FO:Fn P w K mg base _ _ _ _ _:=Fn.of X G gO (by walk_at "3") λf fd F=>Xqz F T;have FA:Fn P w K mg base _ _ _ _ _:=Fn.of X G f9 (by walk_at "2") λf fd F=>Xq0 F T FW FO;have FR:Fn P w K mg base _ _ _ _ _:=Fn.of X G iJ (by walk_at "2") λf fd F=>Xq1 F T FP FU FA;have FN:Fn P w K mg base _ _ _ _ _:=Fn.of X G fU (by walk_at "2") λf fd F=>Xq2 F T FP;have FI:Fn P w K mg base _ _ _ _ _:=Fn.of X G fA (by walk_at "2") λf fd F=>Xq3 F T FP FN FR;have FK:Fn P w K mg base _ _ _ _ _:=Fn.of X G gK (by walk_at "2") λf fd F=>Xp5 F (MS X G x_NoDitch.a) x_NoDitch.e;have FD:Fn P w K mg base _ _ _ _ _:=Fn.of X G j5 (by walk_at "1") λf fd F=>Xp7 F T;have FE:Fn P w K mg base _ _ _ _ _:=Fn.of X G pY (by walk_at "2") λf fd F=>Xp8 F T FK;have y7:Fn P w K mg base _ _ _ _ _:=Fn.of X G mK (by walk_at "1") λf fd F=>Xqa F FD FE;have y8:Fn P w K mg base _ _ _ _ _:=Fn.of X G kX (by walk_at "2") λf fd F=>Xqb F;have JA:Fn P w K mg base _ _ _ _ _:=Fn.of X G gM (by walk_at "1") λf fd F=>Xqc F y7 y8;have AU:Fn P w K mg base _ _ _ _ _:=Fn.of X G pZ (by walk_at "1") λf fd F=>Xqe F T;have JB:Fn P w K mg base _ _ _ _ _:=Fn.of X G kY (by walk_at "2") λf fd F=>Xqi F;have JC:Fn P w K mg base _ _ _ _ _:=Fn.of X G j6 (by walk_at "2") λf fd F=>Xqj F T y7 y8 AU JB;have JD:Fn P w K mg base _ _ _ _ _:=Fn.ofT X G d_in_order (by walk_at "1") λf fd F=>Xqg F T jF;have yh:Fn P w K mg base _ _ _ _ _:=Fn.of X G mL (by walk_at "1") λf fd F=>Xqm F y7 y8 AU JA JD;have FS:Fn P w K mg base _ _ _ _ _:=Fn.of X G eA (by walk_at "1") λf fd F=>Xra F;have AV:Fn P w K mg base _ _ _ _ _:=Fn.of X G gR (by walk_at "2") λf fd F=>Xrc F T;have JE:Fn P w K mg base _ _ _ _ _:=Fn.of X G eB (by walk_at "3") λf fd F=>Xrd F T FP FS AV;have tH:Fn P w K mg base _ _ _ _ _:=Fn.of X G gQ (by walk_at "2") λf fd F=>Xq5 F;have pD:Fn P w K mg base _ _ _ _ _:=Fn.of X G gP (by walk_at "1") λf fd F=>Xq4 F T FW FO;have JF:Fn P w K mg base _ _ _ _ _:=Fn.of X G dW (by walk_at "2") λf fd F=>Xrf F T tH pD;have JG:Fn P w K mg base _ _ _ _ _:=Fn.of X G iH (by walk_at "2") λf fd F=>Xql F (MS X G x_NoPlot.a) x_NoPlot.e JC;have AW:Fn P w K mg base _ _ _ _ _:=Fn.of X G j7 (by walk_at "2") λf fd F=>Xqo F T;have JH:Fn P w K mg base _ _ _ _ _:=Fn.of X G kZ (by walk_at "2") λf fd F=>Xqq F T AW;have JI:Fn P w K mg base _ _ _ _ _:=Fn.ofT X G d_ways_to (by walk_at "2") λf fd F=>Xqr F T jF yh JH AW;have FZ:Fn P w K mg base _ _ _ _ _:=Fn.of X G iL (by walk_at "1") λf fd F=>Xrk F T;have pS:Fn P w K mg base _ _ _ _ _:=Fn.of X G fR (by walk_at "3") λf fd F=>Xqt F JG JI;have JJ:Fn P w K mg base _ _ _ _ _:=Fn.of X G fV (by walk_at "1") λf fd F=>Xq6 F T tH pD;have uM:Fn P w K mg base _ _ _ _ _:=Fn.of X G iK (by walk_at "2") λf fd F=>Xq8 F T FP;have uK:Fn P w K mg base _ _ _ _ _:=Fn.of X G fW (by walk_at "2") λf fd F=>Xrg F T;have xT:Fn P w K mg base _ _ _ _ _:=Fn.of X G gT (by walk_at "3") λf fd F=>Xrh F AV tH;have yi:Fn P w K mg base _ _ _ _ _:=Fn.of X G gU (by walk_at "3") λf fd F=>Xri F T pD uK xT;have uN:Fn P w K mg base CX0 8 "_law_refused" ["_law_row_here", "_law_one_here", "_law_other"] (spRef18 T_ uR (lamPos s_in_order) (lamPosW s_ways_to)):=Fn.of X G fi (by walk_at "3") λf fd F=>by
   obtain⟨fa,ye,mJ,yf,yg,JK⟩:=pS.ex;exact Xrl F (MS X G x_NoPlot.a) mJ yf yg JK x_NoPlot.self
  exact Xrn J' F T FB FP FI FN JJ uM JE JF FZ uN yi pS
def walk{l:NM}{q:ap}{loose:Za}{XP:(ao->Option aa)->am->Prop}{YP:ax->am->Prop}{d:DefRec}{K:IW->LY}(hn:l.most=some 63)(qY:d.params.defaults=[])
  (hY:∀(w:ax) (h:am),YP w h->(K w.params).In h) (y6:∀(w:ax) (h:am),YP w h->∀T∈[96,141],h.get? T=some (MK #[])) (hTK:∀P,∀T∈[96,141],(K P).lookup T=none) (hhd:∀P,∀T∈[96,141],∃c0,MH (K P) c0 T=true)
  (F:∀(w:ax) (mg:ao->Option aa) (fa:ae) (h:am),(K w.params).In h->h.Ns aq mg->mg d.name=some (.ref fa) ->
   ∃fd:aw,(∀(s:af) (u:aa),eI s fd ⟨[u],[]⟩ [("_law_script",u)])/\∀base:am,(K w.params).In base->base.Ns aq mg->BmOk mg base->FnOk l.prog w (K w.params) mg base CX0 9 fa fd ["_law_script"] (K6 (K w.params) 96 141)):
  NR q loose XP YP l.row.toRowW d [] (λf vs=>PySem.call f vs):=
 L2.Xrp (L:=[96,141]) (n:=63) (k:=9) (x := "_law_script") (CX:=λ_=>CX0) (sp:=λw=>K6 (K w.params) 96 141) hn (by decide) qY ⟨rfl,by decide,by decide,rfl⟩ hY y6 hTK hhd F (λ_ _ a ns hl hT hS=>⟨a,ns,rfl,hS,hl,hT 96 (by decide),hT 141 (by decide),λ_=>rfl⟩) λ_ _ _ _ _ z=>z
end K18
open PySem PySem.W PyProof.Rows
local macro_rules | `(tactic| walk_at "D") => `(tactic| (refine' L2.DefAt.of ?a ?l ?c ?k;(case a=>k_is);(case l=>k_is);(case c=>k_is);(case k=>k_is)))
local macro_rules | `(tactic| walk_at "X") => `(tactic| (refine' ⟨?a,?e,?ga,?gn,?cl,?sb,?so,?sv,?ss,?ic,?ty⟩;(case a=>k_is);(case e=>k_exc);(case ga=>k_is);(case gn=>k_is);(case cl=>k_is);(case sb=>k_is);(case so=>k_is);(case sv=>k_is);(case ss=>k_is);(case ic=>k_is);(case ty=>k_is)))
def HD.q:Program:={PySem.Challenge.pw_shoretold_k18_how_many_shortest_walks with main:={PySem.Challenge.pw_shoretold_k18_how_many_shortest_walks.main with body:=PySem.Challenge.pw_shoretold_k18_how_many_shortest_walks.main.body.filter HD.isDef}}
theorem HD.said:PySem.Challenge.rw_shoretold_k18_how_many_shortest_walks.wellSaid=true:=by
 rw[Fast.te9446332074065402090]
 kernel_rfl
local macro_rules | `(tactic| o_head $H) => `(tactic| refine PySem.W.holds_open (q:=HD.q) (loose:=[]) (Xt:=λs=>xlAt HD.q [] s&&recOk [] s) (XP:=XL HD.q []) (N:=1000000) ?hl (Hook.of $H) (Hook.keeps $H) (λs e=>xl_of s (Bool.and_eq_true_iff.mp e).1) XL.keeps (by rfl) (by rfl) (by rfl) (λs e=>recFacts_of (Bool.and_eq_true_iff.mp e).2) (by rfl) (by assumption) (by decide +kernel) ⟨rfl,rfl,rfl,rfl,rfl,by decide +kernel⟩ ?hw ?hc)
set_option maxRecDepth 100000 in
set_option maxHeartbeats 0 in
theorem PySem.Challenge.cw_shoretold_k18_how_many_shortest_walks_holds : PySem.Challenge.rw_shoretold_k18_how_many_shortest_walks.Holds := by
 w_on
 refine holds_law HD.said λsaid=>?_
 k_head
 case hw=>w_witness2
 case hl=>exact HD.left (by kernel_rfl) (by kernel_rfl) (λs=>by kernel_rfl) (λw=>by kernel_rfl)
 k_fill
 refine K18.walk (l:=PySem.Challenge.rw_shoretold_k18_how_many_shortest_walks) rfl rfl (λw h Y=>PySem.W.km_in_of Y) (λw h Y T hm=>PySem.W.km_tabs_of Y T hm) ?hTK ?hhd ?F
 case hTK=>
  intro P T hm;rcases Ox.mp hm with e | e
  ·subst e;kernel_rfl
  ·rw[Om.mp e];kernel_rfl
 case hhd=>
  intro P T hm;rcases Ox.mp hm with e | e
  ·subst e;exact⟨100,by kernel_rfl⟩
  ·rw[Om.mp e];exact⟨143,by kernel_rfl⟩
 case F=>
  intro w mg fa h KX G hmg;refine' K18.Xrt KX G hmg ?_ ?_ ?_ ?_ ?_ ?_ ?_ ?d_in_order ?_ ?_ ?_ ?_ ?_ ?_ ?d_ways_to ?_ ?_ ?_ ?_ ?_ ?_ ?_ ?_ ?_ ?_ ?_ ?_ ?_ ?_ ?_ ?_ ?_ ?_ ?_ ?_ ?_ ?_ ?_ ?_ ?x_NoDitch ?x_NoPlot (by decide) ?z_len ?z_range ?z_list ?z_min ?z_isinstance ?z_all ?z_str ?z_ValueError ?z_sorted ?z_set ?z_enumerate ?z_int ?z_bool ?z_tuple ?z_any ?z_dict ?z_sum ?z_max
  any_goals walk_at "D"
  (case d_in_order=>(refine' L2.DefT.of ?a ?l ?c ?k ?t;(case a=>k_is);(case l=>k_is);(case c=>k_is);(case k=>k_is);(case t=>kernel_rfl)))
  (case d_ways_to=>(refine' L2.DefT.of ?a ?l ?c ?k ?t;(case a=>k_is);(case l=>k_is);(case c=>k_is);(case k=>k_is);(case t=>kernel_rfl)))
  (case x_NoDitch=>walk_at "X")
  (case x_NoPlot=>walk_at "X")
  (case z_len=>k_is);(case z_range=>k_is);(case z_list=>k_is);(case z_min=>k_is);(case z_isinstance=>k_is);(case z_all=>k_is);(case z_str=>k_is);(case z_ValueError=>k_is);(case z_sorted=>k_is);(case z_set=>k_is);(case z_enumerate=>k_is);(case z_int=>k_is);(case z_bool=>k_is);(case z_tuple=>k_is);(case z_any=>k_is);(case z_dict=>k_is);(case z_sum=>k_is);(case z_max=>k_is)
#print axioms PySem.Challenge.cw_shoretold_k18_how_many_shortest_walks_holds
