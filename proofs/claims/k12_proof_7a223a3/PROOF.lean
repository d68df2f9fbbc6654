import PyProof.Rows.All
import Wide.All
import OpenK.AllK
import Wide.FinOn
import PySem.Challenge.RW_shoretold_k12_neighbours_of_a_plot
set_option bootstrap.genMatcherCode false
noncomputable section
set_option Elab.async false
set_option linter.all false
set_option maxRecDepth 100000
abbrev Sx := @if_neg
abbrev Sy := @if_pos
abbrev Sz := @decide_eq_true
abbrev S0 := @decide_eq_false
abbrev S5 := @of_decide_eq_true
abbrev S6 := @of_decide_eq_false
local macro_rules | `(tactic| walk_at "s") => `(tactic| exact ⟨rfl,rfl,rfl,by decide +kernel,rfl,by decide +kernel,by decide +kernel⟩)
local macro_rules | `(tactic| walk_at "l") => `(tactic| (intro vs H Q E h;(repeat (obtain ⟨_,h⟩ := h));subst_vars;rfl))
local macro_rules | `(tactic| walk_at "i") => do let v:=#["cdv","A","outer","s","H","vs","Q","E","hr","h"].map fun x=>Lean.mkIdent (.mkSimple x);`(tactic| intro $[$v]*)
open PySem in
abbrev Za:=List Str
open PySem in
abbrev Zb:=Value→Shared→Prop
open List renaming length_map→Np,getElem?_eq_getElem→Nq,size_toArray→Nt,mem_singleton→Nv,mem_cons_of_mem→Nw,length_append→Nx,mem_cons_self→Ny,mem_append→N0,map_append→N2,mem_cons→N4,mem_filter→N6,getElem?_eq_some_iff→N7,length_take→N8,getElem?_map→Oa,getD_eq_getElem?_getD→Ob,take_succ_eq_append_getElem→Od,length_cons→Oe,filter_append→Og,all_eq_true→Oh,append_assoc→Oi,mem_map→Oj,take_append_drop→Ol,pairwise_append→Om,mem_append_right→Oo,map_cons→Op,filter_eq_self→Ot,getElem_mem→Ov,filter_cons→Ow,append_nil→Oy,length_singleton→Oz,take_of_length_le→O0,filterMap_cons→O1,map_map→O2,mem_of_mem_take→O3,length_drop→O4,range_succ→O5,mem_range→O6,mem_of_mem_drop→O7,lookup_cons→O8,take_length→O9,length_eq_zero_iff→Pa,length_filter_le→Pb,nodup_cons→Pd,take_sublist→Pe,getElem?_append_right→Ph,getElem?_append_left→Pj,length_range→Pk,mem_append_left→Pl,mem_iff_getElem→Pm,map_congr_left→Pn,nodup_append→Pp,mem_of_getElem?→Pr,drop_eq_nil_of_le→Pt,length_nil→Pw,countP_cons→Pz,mem_singleton_self→P1,replicate_succ→P2,drop_sublist→P3,perm_append_comm→P4,any_eq_true→P6,dropWhile_cons→P9,takeWhile_cons→Qa,filter_eq_nil_iff→Qb,length_eraseIdx_of_lt→Qc,getElem_map→Qd,pairwise_cons→Qf,getElem?_toArray→Qg,drop_eq_getElem_cons→Qi,nil_append→Qj,find?_cons→Qk,count_append→Qm,flatMap_cons→Qn,flatMap_append→Qp,sum_cons→Qq,perm_middle→Qr,drop_zero→Qs,mem_filterMap→Qt,count_eq_zero→Qu,foldl_cons→Qx,getElem?_eq_none→Qy,count_cons_self→Q5,pairwise_iff_getElem→Q6,ext_getElem→Q7,not_mem_nil→Q8,flatMap_nil→Q9,length_reverse→Ra,findIdx?_eq_some_iff_getElem→Rc,getElem?_drop→Rj,getElem?_set_self→Rk,flatten_cons→Rm,pairwise_map→Rp,getElem_take→Rr,drop_take→Rt,getElem_inj→Ru,cons_append→Rv,getElem?_set_ne→Rw,getElem_toArray→Rx,any_cons→Rz,of_mem_zip→R0,forIn_cons→R1,filter_nil→R5,mem_map_of_mem→R6,filterMap_map→R8,map_nil→Sa,count_pos_iff→Sd,getElem?_take→Sf,forIn_nil→Sg,reverse_cons→Si,getElem_drop→Sl,all_cons→So,set_set→Sq
open Nat renaming le_refl→Nr,ne_of_lt→Nz,lt_of_lt_of_le→Oc,le_trans→Oq,zero_le→Ou,lt_irrefl→Ox,lt_succ_of_lt→Po,le_succ→Ps,not_lt_zero→Py,zero_add→P0,min_eq_left→P8,lt_trans→Qe,min_le_left→Qo,ne_of_gt→Qw,le_of_lt→Rb,lt_of_le_of_lt→Sb,sub_zero→Sc,mod_lt→Sk,lt_of_succ_lt→Sm
open Array renaming length_toList→N1,getElem?_eq_some_iff→Pq,getElem?_toList→Qz,forIn_toList→Ri,getElem?_setIfInBounds_ne→Rq,append_assoc→R7
open Bool renaming and_eq_true→N3,false_ne_true→N9,false_eq_true→Os,false_and→Pf,true_and→Pi,eq_iff_iff→Pu,eq_false_iff→Ql,or_eq_true→Q3,not_true→Rf,and_self→Rg,not_eq_true'→Ro,and_false→Rs,or_eq_true_iff→R4,or_true→Se,or_false→Sn
open Option.some renaming inj→N5
open Int renaming eq_ofNat_of_zero_le→Pc,emod_lt_of_pos→Qv,toNat_natCast→Q4,emod_nonneg→Rh
open List.Perm renaming append_left→Pg,refl→Px
open Option renaming isSome_iff_exists→P5,map_some→P7,map_eq_some_iff→Rl,isSome_some→R9,isSome_map→Sj
open Sum.inr renaming inj→Qh
open List.Pairwise renaming filter→Ry
open PySem renaming wpAny_bind→Sr,wpAny_pure→Ss,sizeLine_eq→Sw
open PyProof.Rows renaming wpS_bind→Su,wpS_pure→Sv
open PySem.Heap renaming lt_size→S7,get?_push_of_some→S8
open PySem.Heap.SameBut renaming update→S9
open PySem PySem.Spec PyProof.Rows
open PySem renaming Value→aa,Addr→ae,wpAny→af,model→ag,Shared→ah,SetTable→ai,Builtin→aj,Heap→ak,PyData→am,Str→ao,mainGlobals→aq,Program→ar,Around→av,wpAny_holding→aw,starEach→az,World→aA,wpAny_newObj_type→aC,wpAny_setState_of→aE,wpAny_mono→aF,compareOp→aH,foldedSetIterable→aI,NameKind→aJ,Expr→aL,Obj→aM,wpAny_truthy_bool→aN,rawInt→aO,Stmt→aP,wpAny_setField→aQ,wpAny_call_entry→aR,wpAny_askSetting→aS,wpAny_rule→aT,wpAny_standAt→aU,scanBound→aW,wpAny_typeOf→aX,wpAny_field→aZ,codeAny→bc,fits_of_scanBound→be,codeAny_builtin→bg,PassesOwn→bj,backTo→bq,binaryOp→bv,codeAny_mono→bw,wpAny_storeSet_of→bx,cLine→bA,wpAny_callSpecial?_slot→bC,sysModules→bF,assignEach→bG,FuncData→bJ,keywordEach→bK,codeAny_call_builtin→bL,boot_len→bM,bootBuiltins→bO,cellsFrom→bP,plainId_quiet→bS,setField→bT,wpAny_Call_Name_kw→bV,tupleKind_room_in1→bW,pushCells→bZ,putSet_of→cb,pickOrder→ce,getItem→cf,wpAny_pyIter_list→cg,wpAny_setEpoch_of→ci,wpAny_loadPart_at→cj,Scope→cw,setsByText→cx,behindInMarks→cy,attributeBase→cz,sliceBounds→c5,excClassObj→c6,letOwnedTupleGo→c8,wpAny_passesOwn→c9,wpAny_ite_split→cB,wpAny_setEntries_of→cC,Pos→cF,backToKw→cI,evalEach→cJ,isInstance→cK,isSubtype_type→cL,compTurn→cM,Keyword→cQ,wpAny_newList→cR,ExceptHandler→cS,swapsWith→cV,wpAny_isInstance→cY,builtinsNs→dg,standAt→dh,pyNext→dm,wpAny_call→dq,call_meets→dw,setAddHashed→dz,wpAny_execs_nil→dB,pushCells_keeps→dC,codeAny_of_tree→dD,builtinLookup_eq_fast→dH,IsPart→dO,relayAll→dS,tupleKind→dY,noteFrame→eh,clausesOf→el,setFlight→er,evalPart_none→eF,wpAny_attempt→eI,typeLookup→eL,Thread→eO,Code→eZ,BindsTo→fc,bindArgs→fe,wpAny_sequenceKey→fg,slot_list_getitem→fh,valueAt→fi,callerA→fj,wpAny_pyIter_slot→fk,wpAny_pyIter_dict→fm,ElemsOf→fo,reprText→fr,noFill_tuple_add→f9,checkBuiltinCall→fC,setDiscardHashed→fG,wpAny_of_eq→fQ,Sem→fT,typeLookup_type→fW,pyIter→g7,Result→gA,wpAny_newFunctionEnv_cells→gB,atKey→gE,newFunctionEnv→gF,strKind_is→gJ,storeSet→gK,wpAny_runValue→gN,entryFor→gO,entryFor_alias→gP,wpAny_newTuple→gQ,raiseNew→gR,wpAny_seqItems→gT,setState→gZ,wpAny_FormattedValue_repr→ir,seq_tuple_add→i5,evalPart_some→i7,wpAny_getItem_list_slice→i9,strLen_append→iE,wpAny_comprehension_free→iH,setWalkUnseen→iP,bindL→ja,bindC→jb,isSubtype→jf,onTheHeap→jg,drawOrder→jh,tupleText→ji,concat_meets→jo,OwnTail→jr,sub_set_self→ju,setNext→jv,ExcBaseFacts→j5,wpAny_isTrue_Compare1→jJ,Walks→ki,wpAny_Slice→kj,seqIndex_of→ko,wpAny_alloc→kF,bindSpecial→kL,getAttr?→kM,Moved→kN,wpAny_dictSet_pairs→lJ,wpAny_isSubtype_exc→lN,wpAny_Name→mf,wpAny_load→mh,wpAny_pyIter_tuple→mi,typeIs_str→ml,typeIs_int→mo,closureFor→m5,newExc→mB,checkCount→mE,wpAny_entryPlaceOf→mM,setRoomFor→mS,getattributeRaised→mZ,wpAny_assign_Name→nP,Model→nU,setWalk→nX,wpAny_pyIter_enum→og,wpAny_frameOf_fun→oh,wpAny_eqBool_int→oC,wpAny_execs_cons→oE,DictEntry→oH,Arguments→oO,getAttrBy→oR,wpAny_setScan_of→oU,entryFor_of_tree→oX,newFields→oY,wpAny_specialOf→qz,wpAny_updateSeq→qD,importedModules→r0,wpAny_Compare1→rA,Data→rB,recursionLimit→rD,typeOf→rG,cellOf→rN,compEnvC→rO,GenState→rR,Drawn→rS,wpAny_loadPart→rT,argsOk→rZ,slotArgs→se,firstArgMember→sf,intBits_le_64→u5,call_list_seq→u7,setItem→vn,Tok→vw,getAttr→vy,call_meetsIn→vE,OsState→vG,setNextDrawn→vL,entryPlaceOf→wq,IsRangeIter→yX,wpAny_point→zA,PlainAttrs→CF,Slot→CG,OldK→CJ,getAttrBy?→CO,layNew→CQ,Params→KW,storeName→LN,lastMarks→LP,seqIndex?→LQ,slicePick→LS,byScan_of→LX,updateSeq→LY,compStart→LZ,ClassData→MA,raiseStmt→MF,setsQuiet→MM,treeTable→NN
open PyProof.Rows renaming envOfC→au,Keyed→ay,seqObj→a8,StrsAre→aG,wpS_forRange→aK,pendingOf→bf,wpS_mono→bi,SortSt→br,boot_isinstance→bu,arrOf→bB,failedOf→bI,wpS_get→bQ,listUpdate_at→bU,size_push'→bX,wpS_modify→bY,SortKind→cn,AllBare→cE,wpS_lift→dc,IsTup→dA,slicePart_none→dP,seqEpoch_at→dU,gallopOf→dW,entry_tuple_getitem→eA,args_tuple_getitem→eK,Subscript_→eM,sortedS→fq,wpS→f8,entry_list_sort→fX,get?_update_seq→fZ,joinParts_cons→gI,slot_list_sort→gU,tupleItemsOf_→i6,subscriptTail→i8,boot_list→jm,subscriptTail_builtinR→jp,IntsAre→jq,plain_sorted→jx,entry_sorted→jy,listItems_at→jz,setArr→j9,tail_any→km,kind_sorted→kO,bubble_perm→kT,getElem?_mirror_all→lR,setPending→mY,strOf→nW,sortedAll→pk,formatField_str→qE,getElem?_bubble→qO,args_list_sort→si,keyLt'→sG,mergeAt'→sZ,slicePart_int→u6,sortedAll_old→uC,args_sorted1→vQ,sortedAll_at→vZ,collect_list→wj,strsAre_map→zc,mirror_perm→zw,isTrue_and→CA,sortedHeap→DE,isTrue_or→LO,sortRuns'→MT
open PySem.W renaming Frag→NO,mg_none_of→NQ,findIn→NR,kitOne→NS,subIn→NT,nsIn→NU,exmOne→NV,keepIn→NW,kia_one→NX,cellsFrom_some→NY,hideAll→NZ,codeHdIn→Of,mg_of→On,isClsIn→O',fnOf→OA,tabObj→OB,hideAll_get→OC,codeIn→OD,funFrames_hide→OE,typeIn→OF,kla_fn→OG,of_hideAll→OH,excIn→OI,hideAll_none→OJ,clsIn→OK,methodObj→OL,codeHd_of_K→OM,instObj→ON,callWith_K→OO,isNs_of_in→OP,tail_of_in→OQ,lookIn→OR,hasDictIn→OS,specialIn→OT,kitx_list→OU,kitx_dict→OV,plainGet→OW,OpenLaw→OX,InstAt→OY,kitCls→OZ,Looks→P',WalkO→PB,isFn→PD
section
set_option hygiene false
local macro_rules|`(tactic|fin2)=>`(tactic|(have dy:∀env∈(au qual scope s.heap.objs.size f cd::outer),∀b,env.frame=some b->b∈frs (au qual scope s.heap.objs.size f cd::outer):=λenv he b hb=>Qt.mpr ⟨env,he,hb⟩;have gG:s1.heap.FunFrames base (au qual scope s.heap.objs.size f cd::outer):=I.stack;have hB:(NZ s1.heap (frs (au qual scope s.heap.objs.size f cd::outer))).StaysIn s1.heap:=λb o q=>OH _ q;have dR:∀b o,s1.heap.get? b=some o->b∉frs (au qual scope s.heap.objs.size f cd::outer)->(NZ s1.heap (frs (au qual scope s.heap.objs.size f cd::outer))).get? b=some o:=λb o e n=>OC _ e n;have sub:∀b,b∈frs (au qual scope s.heap.objs.size f cd::outer)->b=s.heap.objs.size\/b∈frs outer:=λb hb=>N4.mp (I.stkSub b hb)))
local macro_rules|`(tactic|k_go)=>`(tactic|(intro pins s Z H x y v u Q I rx ry h))
local macro_rules|`(tactic|k_in)=>`(tactic|(dsimp only))
local macro_rules|`(tactic|k_ne)=>`(tactic|(intro pins s Z H Q I h))
local macro_rules|`(tactic|kd_p)=>`(tactic|(intro X hP hw hK hc i pins s Z H E I hf st hg;subst hP hw hK))
local macro_rules|`(tactic|kt_k)=>`(tactic|(obtain⟨hz,hm,vs,rv,o,es,ep,ho,hex,hd,r⟩:=I1.hok d _ hH;have aV:kvs.length=vs.length:=Paired.length rv;refine fm (knd:=A5 X.prog X.w) hm ⟨o,es,ho,hex,hd,r⟩ ?_;have I2:=I1.freeze hH ho;refine⟨s1.heap.objs.size,[s1.heap.objs.size],_,_,_,rfl,I2.kept (t':=s1.toks) λb o e=>S8 _ e,Lk d _ o es ep hd kvs (Nz (S7 ho)),⟨_,ak.get?_push_size _ rfl,rfl,by rw[aV];rfl⟩,λb hb=>?_,q o⟩;have e:b=s1.heap.objs.size:=by simpa using hb))
local macro_rules|`(tactic|w_up)=>`(tactic|(exact absurd h (by decide)))
local macro_rules|`(tactic|x_go)=>`(tactic|(have L1:=looks_findIn (M:=ag prog w) X F.ga;have L2:=looks_findIn (M:=ag prog w) X F.gn;have f3:kL (.builtin "BaseException.__getattribute__") (.ref a)=pure (.builtin "BaseException.__getattribute__",[.ref a]):=PySem.F.excAttr_ValueError.ga.bind (.ref a);have jN:(aa.builtin "BaseException.__getattribute__" == aa.builtin "object.__getattribute__")=false:=by decide +kernel))
local macro_rules|`(tactic|z_go)=>`(tactic|(have cH:Room 1 _:=hr.mono (by decide)))
local macro_rules|`(tactic|by_in)=>`(tactic|(refine eM (thn (he pins s Z H _ I h) λv s1 ⟨x,H1,I1,r1,q1⟩=>?_);have kJ:PE X (.UnaryOp .USub (.Constant (.int 1) k p3) p4) (tUn (rU λi=>.int (-i)) (tC (.int 1))):=Xak Xap pe_int;refine kj ?_;rw[eF];refine Ss (Ss ?_);rw[i7];refine thn (kJ pins s1 Z H1 (λy H2=>y = .int (-1)/\H2=H1) I1 ⟨1,rfl,rfl,rfl⟩) λu s2 ⟨y,H2,I2,r2,ey,eH⟩=>?_;subst ey eH))
local macro_rules|`(tactic|cb_eq)=>`(tactic|(refine⟨two _ _,λt1 rm=>?_⟩;have s4:Same H3 (upd H3 t1 (.tup [.str "else",.non])):=(Same.refl H3).step rm;dsimp only[A2];generalize upd H3 t1 (.tup [.str "else",.non])=H4 at s4;have y0:=s4 _ _ yy;have iS:=s4 _ _ jl;have mF:=s1.trans ((s2.trans s3).trans s4);refine⟨_,rfl,.inl ⟨rfl,_,SqL.of iS⟩,l,_,_,rfl,rfl,iS,rfl,rfl,rfl,_,rfl,?_⟩))
local macro_rules|`(tactic|f_are)=>`(tactic|(obtain⟨f0,f1,f2,f3,f4,f5⟩:=hf it (by simp)))
local macro_rules|`(tactic|f_int)=>`(tactic|(obtain⟨u,rfl,rx⟩:=B0 r;cases rx))
local macro_rules|`(tactic|f_len)=>`(tactic|(rw[aV] at W;refine Xcb ss W S nI gM hb _ 0 _ rfl (Ou _) ⟨⟨_,ak.get?_push_size _ rfl,rfl,rfl⟩,hl.push _⟩ (hS.stay λo q=>S8 _ q) λs' mv S'=>?_;rw[kN.eq_with mv];refine Ss (h s'.heap s'.toks S' λb o nb q=>mv.heap b o (λz=>?_) (S8 _ q));rcases N4.mp z with z | z))
local macro_rules|`(tactic|f_tup)=>`(tactic|(have hl:=R2.len;have jR:=Ff row;refine⟨_,rfl,r,row,rfl,hR,R2,λd kvs H1 nd hd sp s1=>?_⟩;refine⟨_,rfl,d,kvs,rfl,.inl ⟨hd,λo D nD=>?_⟩⟩;generalize lg:upd H1 d (.frz o (.dK kvs))=H2 at nD;have s2:Same H H2:=λb u e=>by rw[<-lg,Ab (Ao e nd)];exact s1 b u e))
local macro_rules|`(tactic|gn_on)=>`(tactic|(rw[Sx (by decide)]))
local macro_rules|`(tactic|gp_on)=>`(tactic|(show af (ag P w) (A.deeper (au qual scope s.heap.objs.size f cd)) (leaving (au qual scope s.heap.objs.size f cd) (.ref ex)) _ _ s';have sub:∀b,b∈frs (au qual scope s.heap.objs.size f cd::outer)->b=s.heap.objs.size\/b∈frs outer:=λb hb=>N4.mp (I.stkSub b hb)))
local macro_rules|`(tactic|k_all)=>`(tactic|(refine⟨s.heap.objs.size,_,_,_,_,_,λj=>bs.getD j false,rfl,ki.list (A:=X.A.in1) (show X.A.in1.handled=none from I.ok.hd hc) s.heap.objs.size a b7 aB.toArray,⟨⟨_,ak.get?_push_size _ rfl,rfl,rfl⟩,p.isList.push _⟩,λi v s' Q' E' hP hQ=>?_,λh' tk k=>?_⟩))
local macro_rules|`(tactic|k_asm)=>`(tactic|(intro pins s Z H xs us Q I r h))
local macro_rules|`(tactic|k_cls)=>`(tactic|(intro pins s Z H R I h;refine thn (hl pins s Z H _ I h) λv s1 ⟨x,H1,I1,r1,q1⟩=>?_))
local macro_rules|`(tactic|k_dec)=>`(tactic|(obtain⟨sl,e1⟩:=I.base.slot b o e n hb hx))
local macro_rules|`(tactic|k_end)=>`(tactic|(obtain⟨t,rfl⟩:=rx;obtain⟨t',rfl⟩:=ry))
local macro_rules|`(tactic|k_few)=>`(tactic|(have fA:Un (frs outer) [] H H1 s.heap s1.heap:=I.base;refine⟨λb o e n hb hx=>?_,λb o e n hb hx=>?_,λb o e n hx=>?_,λb o e hx=>?_,λb xs e=>un.tups b xs (fA.tups b xs e),λb ob u e=>un.frzs b ob u (fA.frzs b ob u e),λb ps e=>?_⟩))
local macro_rules|`(tactic|k_get)=>`(tactic|(show af _ _ (aj.Tuple.tupleItemsOf (.ref t) >>= _) _ _ s;refine Sr (i6 ht ?_);refine Sr (aX lB ?_);rw[Sy (by decide)]))
local macro_rules|`(tactic|k_go0)=>`(tactic|(have fD:Room 2 _:=hr.mono (by decide)))
local macro_rules|`(tactic|k_mem)=>`(tactic|(intro pins s Z H D I h))
local macro_rules|`(tactic|k_not)=>`(tactic|(subst ey;cases (show u=aa.ref b from ry);obtain⟨z,hd,xs,cT,dd⟩:=E6 I.hok e))
local macro_rules|`(tactic|k_one)=>`(tactic|(have I1:Inv X pins Z H {s with heap:=h'}:=I.turned (t':=s.toks) (λb o hb e=>(sb.2 b hb).trans e) f0 f1 f3 f4 f5))
set_option hygiene true
namespace L2
abbrev Key:=Sum Int ao
def Dw:Key->aa->Bool
 | .inl k,v=>aa.isInt k v
 | .inr x,v=>aa.isStrOf x v
def keyH (w:aA):Key->Int
 | .inl k=>hashInt k
 | .inr x=>hashStr w x
theorem Df:∀{k:Key} {v:aa},Dw k v=true->(∃i t,k=Sum.inl i/\v=aa.int i t)\/(∃x t,k=Sum.inr x/\v=aa.str x t)
 | .inl i,v,h=>by
  obtain⟨t,e⟩:=aa.isInt_shape (k:=i) (v:=v) h;exact .inl ⟨i,t,rfl,e⟩
 | .inr x,v,h=>by
  obtain⟨t,e⟩:=aa.isStrOf_shape (x:=x) (v:=v) h;exact .inr ⟨x,t,rfl,e⟩
def Xgv(i)(t):Dw (.inl i) (.int i t)=true:=by simp[Dw,aa.isInt]
def Xgw(x)(t):Dw (.inr x) (.str x t)=true:=by simp[Dw,aa.isStrOf]
def Xgx(a b):decide ((Sum.inl a:Key)=Sum.inl b)=(a==b):=by
 by_cases e:a=b
 ·subst e;simp
 ·have h:¬(Sum.inl a:Key)=Sum.inl b:=λq=>e (Sum.inl.inj q);rw[S0 h];exact(beq_eq_false_iff_ne.mpr e).symm
def Xgy(a b):decide ((Sum.inr a:Key)=Sum.inr b)=decide (a=b):=by
 by_cases e:a=b
 ·subst e;simp
 ·have h:¬(Sum.inr a:Key)=Sum.inr b:=λq=>e (Qh q);rw[S0 h,S0 e]
def Xgz(a)(b):decide ((Sum.inl a:Key)=Sum.inr b)=false:=S0 (λq=>nomatch q)
def Xg0(a)(b):decide ((Sum.inr a:Key)=Sum.inl b)=false:=S0 (λq=>nomatch q)
def A5 (prog:ar) (w:aA):PySem.KeyKind prog w Key where
 is:=Dw
 hash:=keyH w
 inj:=λv a b ha hb=>by
  rcases Df ha with ⟨i,t,rfl,rfl⟩ | ⟨x,t,rfl,rfl⟩
  ·rcases Df hb with ⟨j,u,rfl,e⟩ | ⟨y,u,rfl,e⟩
   ·injection e with e1 _;rw[e1]
   ·exact nomatch e
  ·rcases Df hb with ⟨j,u,rfl,e⟩ | ⟨y,u,rfl,e⟩
   ·exact nomatch e
   ·injection e with e1 _;rw[e1]
 byValue:=λk v h=>by
  rcases Df h with ⟨i,t,rfl,rfl⟩ | ⟨x,t,rfl,rfl⟩<;>rfl
 pyHash:=λhv h=>by
  rcases Df hv with ⟨i,t,rfl,rfl⟩ | ⟨x,t,rfl,rfl⟩
  ·exact wpAny_pyHash_int h
  ·exact wpAny_pyHash_str h
 eqBool:=λhu hv h=>by
  rcases Df hu with ⟨i,t,rfl,rfl⟩ | ⟨x,t,rfl,rfl⟩
  ·rcases Df hv with ⟨j,u,rfl,rfl⟩ | ⟨y,u,rfl,rfl⟩
   ·rw[Xgx] at h;exact oC h
   ·rw[Xgz] at h;exact SeqAt.EqAt.int_str i t y u _ _ _ _ h
  ·rcases Df hv with ⟨j,u,rfl,rfl⟩ | ⟨y,u,rfl,rfl⟩
   ·rw[Xg0] at h;exact SeqAt.EqAt.str_int x t j u _ _ _ _ h
   ·rw[Xgy] at h;exact wpAny_eqBool_str h
 «strs»:=λk x t v h=>by
  rcases Df h with ⟨i,u,rfl,e⟩ | ⟨y,u,rfl,e⟩
  ·exact nomatch e
  ·injection e with e1 _
   subst e1;cases v<;>rfl
def Xg1(prog)(w)(i)(t):(A5 prog w).is (.inl i) (.int i t)=true:=Xgv i t
def Xg2(prog)(w)(x)(t):(A5 prog w).is (.inr x) (.str x t)=true:=Xgw x t
inductive V where
 | non | bl (b:Bool) | int (i:Int) | str (x:ao) | byt (b:Array UInt8) | flt (b:UInt64) | ref (a:ae) | ty (n:String)
 deriving DecidableEq
def Ae:V->aa->Prop
 | .non,u=>u=aa.none
 | .bl b,u=>u=aa.bool b
 | .int i,u=>∃t,u=aa.int i t
 | .str x,u=>∃t,u=aa.str x t
 | .byt b,u=>∃t,u=aa.bytes b t
 | .flt b,u=>∃t,u=aa.float b t
 | .ref a,u=>u=aa.ref a
 | .ty n,u=>u=aa.type n
abbrev Vals:List V->List aa->Prop:=Paired Ae
def Vals.length{xs}(r:Vals xs us):xs.length=us.length:=Paired.length r
theorem Vals.get:∀{xs:List V} {us:List aa} {i:Nat} {x:V},Vals xs us->xs[i]? = some x->∃u,us[i]? = some u/\Ae x u
 | _,_,_,_,.nil,e=>by simp at e
 | _,_,0,_,.cons r _,e=>by simp at e;subst e;exact⟨_,rfl,r⟩
 | _,_,i+1,x,.cons _ t,e=>by
  obtain⟨u,h1,h2⟩:=Vals.get (i:=i) (x:=x) t (by simpa using e);exact⟨u,by simpa using h1,h2⟩
theorem Vals.set  (r:Ae x u):∀{xs:List V} {us:List aa} (i:Nat),Vals xs us->Vals (xs.set i x) (us.set i u)
 | _,_,_,.nil=>.nil
 | _,_,0,.cons _ t=>.cons r t
 | _,_,i+1,.cons q t=>.cons q (Vals.set r i t)
theorem Vals.append:∀{xs ys:List V} {us ws:List aa},Vals xs us->Vals ys ws->Vals (xs++ys) (us++ws)
 | _,_,_,_,.nil,s=>s
 | _,_,_,_,.cons r t,s=>.cons r (Vals.append t s)
theorem Vals.take:∀{xs:List V} {us:List aa} (n:Nat),Vals xs us->Vals (xs.take n) (us.take n)
 | _,_,0,_=>.nil
 | _,_,_+1,.nil=>.nil
 | _,_,n+1,.cons r t=>.cons r (Vals.take n t)
theorem Vals.drop:∀{xs:List V} {us:List aa} (n:Nat),Vals xs us->Vals (xs.drop n) (us.drop n)
 | _,_,0,r=>r
 | _,_,_+1,.nil=>.nil
 | _,_,n+1,.cons _ t=>Vals.drop n t
def Bz:Option V->Option aa->Prop
 | some v,some u=>Ae v u
 | none,none=>True
 | _,_=>False
def KV {κ : Type}:List (κ × V)->List (κ × aa)->Prop:=Paired λ(p : κ × V) (q : κ × aa)=>p.1=q.1/\Ae p.2 q.2
def kV:Key->V
 | .inl i=>.int i
 | .inr x=>.str x
inductive HO where
 | lst (xs:List V)
 | tup (xs:List V)
 | dK (kvs:List (Key×V)) | dT (kvs:List (List Key×V))
 | set (S:Int->Bool) (n:Nat)
 | ins (C dx:ae) (fs:List (ao×V))
 | own (x:ae)
 | xd (fs:List (ao×V))
 | met (f x:ae)
 | rng (lo hi:Int)
 | frz (o:aM) (u:HO)
 | tbl (ps:Array aa)
 | ext (φ : ak->Prop)
abbrev Hp:=ae->Option HO
def upd (H:Hp) (a:ae) (o:HO):Hp:=λb=>if b=a then some o else H b
def Aa{H}{a}{o}:upd H a o a=some o:=by unfold upd;rw[Sy rfl]
def Ab{H}{o}(h:b≠a):upd H a o b=H b:=by unfold upd;rw[Sx h]
def Xaa{H:Hp}  (h:H a=some o)(h':H b=some u)(d:o≠u):a≠b:=by
 intro e;subst e;rw[h] at h';exact d (N5 h')
def Ao{H:Hp}{a b}{o}(h:H a=some o)(h':H b=none):a≠b:=by
 intro e;subst e;rw[h] at h';cases h'
section
variable (P:ar) (w:aA)
def Av (H:Hp) (h:ak) (a:ae):HO->Prop
 | .lst xs=>xs.length<=sizeLine/\∃(aB:List aa) (n:Nat),Vals xs aB/\h.get? a=some {cls:=.type "list",data:=.seq aB.toArray n}
 | .tup xs=>xs.length<=sizeLine/\∃aB:List aa,Vals xs aB/\dA h a aB.toArray
 | .dK kvs=>kvs.length<=sizeLine/\(a==bF)=false/\∃vs,KV kvs vs/\h.DictOf (A5 P w) a vs
 | .dT kvs=>kvs.length<=sizeLine/\(a==bF)=false/\∃xs:List (List Key×ae×aa),
   Paired (λ(p:List Key×V) (q:List Key×ae×aa)=>p.1=q.1/\H q.2.1=some (.tup (p.1.map kV))/\Ae p.2 q.2.2) kvs xs /\
   ∃o es ep,h.get? a=some o/\o.ExactDict/\o.data = .dict es ep/\es.toList=xs.map (entryOfKey (dY (A5 P w)))/\(xs.map (·.1)).Nodup
 | .set S n=>h.SetOf (intKind P w) a S n
 | .ins C dx fs=>H dx=some (.own a)/\fs.length<=1000/\dx≠a/\h.get? a=some (ON C dx) /\
   ∃mA,h.Ns1 dx mA/\(∀f,Bz (fs.lookup f) (mA f))/\PySem.Within mA (fs.map (·.1))
 | .own _=>∃o,h.get? a=some o
 | .xd fs=>∃mA,h.Ns1 a mA/\∀f,Bz (fs.lookup f) (mA f)
 | .rng lo hi=>∃t u v,h.get? a=some {cls:=.type "range",data:=.fields #[.int lo t,.int hi u,.int 1 v]}
 | .frz o u=>h.get? a=some o/\Av H h a u
 | .tbl ps=>h.get? a=some {cls:=.none,data:=.fields ps}
 | .met f x=>h.get? a=some (OL (.ref f) (.ref x))
 | .ext φ => φ h/\(∃o,h.get? a=some o)/\∀h1 h2:ak, φ h1->(∀o,h1.get? a=some o->h2.get? a=some o) -> φ h2
def HOk (H:Hp) (h:ak):Prop:=∀a o,H a=some o->Av P w H h a o
end
section
variable {P:ar}{w:aA}{H H':Hp}{h h':ak}{a:ae}{o:HO}
def Av.lt(x:Av P w H h a o):a<h.objs.size:=by
 cases o with
 | lst xs=>obtain⟨_,_,_,_,e⟩:=x;exact S7 e
 | tup xs=>obtain⟨_,_,_,p⟩:=x;exact p.lt
 | dK kvs=>obtain⟨_,_,_,_,o,_,_,e,_⟩:=x;exact S7 e
 | dT kvs=>obtain⟨_,_,_,_,o,_,_,e,_⟩:=x;exact S7 e
 | set S n=>obtain⟨o,_,_,_,e,_⟩:=x;exact S7 e
 | ins C dx fs=>obtain⟨_,_,_,e,_⟩:=x;exact S7 e
 | own y=>obtain⟨_,e⟩:=x;exact S7 e
 | xd fs=>obtain⟨_,⟨_,_,_,e,_⟩,_⟩:=x;exact S7 e
 | rng lo hi=>obtain⟨_,_,_,e⟩:=x;exact S7 e
 | frz ob u=>obtain⟨e,_⟩:=x;exact S7 e
 | tbl ps=>exact S7 (show h.get? a=some _ from x)
 | met f y=>exact S7 (show h.get? a=some _ from x)
 | ext φ=>obtain⟨_,⟨_,e⟩,_⟩:=x;exact S7 e
theorem Paired.mapP{α β : Type}{F G}:∀{l₁ : List α} {l₂ : List β},Paired F l₁ l₂->(∀a b,F a b->G a b)->Paired G l₁ l₂
 | _,_,.nil,_=>.nil
 | _,_,.cons r t,f=>.cons (f _ _ r) (Paired.mapP t f)
def Av.stay(x:Av P w H h a o)(k:∀b u,(b=a\/H b=some (.own a))->h.get? b=some u->h'.get? b=some u)
  (ho:∀b,H b=some (.own a)->H' b=some (.own a)) (ht:∀b xs,H b=some (.tup xs)->H' b=some (.tup xs)):Av P w H' h' a o:=by
 induction o with
 | lst xs=>obtain⟨z,aB,n,r,e⟩:=x;exact⟨z,aB,n,r,k _ _ (.inl rfl) e⟩
 | tup xs=>obtain⟨z,aB,r,ob,e,c⟩:=x;exact⟨z,aB,r,ob,k _ _ (.inl rfl) e,c⟩
 | dK kvs=>obtain⟨z,y,vs,r,ob,es,ep,e,c⟩:=x;exact⟨z,y,vs,r,ob,es,ep,k _ _ (.inl rfl) e,c⟩
 | dT kvs=>
  obtain⟨z,y,xs,r,ob,es,ep,e,c⟩:=x;exact⟨z,y,xs,Paired.mapP r λp q z=>⟨z.1,ht _ _ z.2.1,z.2.2⟩,ob,es,ep,k _ _ (.inl rfl) e,c⟩
 | set S n=>obtain⟨ob,es,ep,t,e,c⟩:=x;exact⟨ob,es,ep,t,k _ _ (.inl rfl) e,c⟩
 | ins C dx fs=>
  obtain⟨d,z,ne,e,mA,⟨od,es,ep,e2,c⟩,r⟩:=x;exact⟨ho _ d,z,ne,k _ _ (.inl rfl) e,mA,⟨od,es,ep,k _ _ (.inr d) e2,c⟩,r⟩
 | own y=>obtain⟨ob,e⟩:=x;exact⟨ob,k _ _ (.inl rfl) e⟩
 | xd fs=>obtain⟨mA,⟨od,es,ep,e,c⟩,r⟩:=x;exact⟨mA,⟨od,es,ep,k _ _ (.inl rfl) e,c⟩,r⟩
 | rng lo hi=>obtain⟨t,u,v,e⟩:=x;exact⟨t,u,v,k _ _ (.inl rfl) e⟩
 | frz ob u ih=>obtain⟨e,q⟩:=x;exact⟨k _ _ (.inl rfl) e,ih q⟩
 | tbl ps=>
  have e:h.get? a=some {cls:=.none,data:=.fields ps}:=x;show h'.get? a=some {cls:=.none,data:=.fields ps};exact k a _ (.inl rfl) e
 | met f y=>
  have e:h.get? a=some (OL (.ref f) (.ref y)):=x;show h'.get? a=some (OL (.ref f) (.ref y));exact k a _ (.inl rfl) e
 | ext φ=>obtain⟨p,⟨o,e⟩,st⟩:=x;exact⟨st _ _ p λo q=>k _ _ (.inl rfl) q,⟨o,k _ _ (.inl rfl) e⟩,st⟩
def HOk.lt(x:HOk P w H h)(e:H a=some o):a<h.objs.size:=(x a o e).lt
def HOk.fresh(x:HOk P w H h)(e:h.objs.size<=a):H a=none:=by
 cases q:H a with
 | none=>rfl
 | some u=>exact absurd (Oc (x.lt q) e) (Ox _)
def HOk.kept(x:HOk P w H h)(k:∀b u,h.get? b=some u->h'.get? b=some u):HOk P w H h':=λa o e=>
 (x a o e).stay (λb u _ q=>k b u q) (λ_ q=>q) λ_ _ q=>q
def HOk.laid(x:HOk P w H h)(k:∀b u,h.get? b=some u->h'.get? b=some u)(hp:h.objs.size<=a)(new:Av P w (upd H a o) h' a o):HOk P w (upd H a o) h':=λb u e=>by
 have hn:=x.fresh hp;by_cases hb:b=a
 ·subst hb;rw[Aa] at e;cases e;exact new
 ·rw[Ab hb] at e;exact(x b u e).stay (λc v _ q=>k c v q) (λc q=>by rw[Ab (Ao q hn)];exact q) λc xs q=>by rw[Ab (Ao q hn)];exact q
end
def Rd (H:Hp) (a:ae) (u:HO):Prop:=H a=some u \/ ∃o,H a=some (.frz o u)
def Rd.ok      (r:Rd H a u) (x:HOk P w H h):Av P w H h a u:=by
 rcases r with r | ⟨o,r⟩
 ·exact x a u r
 ·obtain⟨_,q⟩:=x a _ r;exact q
def Mut:Option HO->Prop
 | some (.lst _)=>True
 | some (.dK _)=>True
 | some (.dT _)=>True
 | some (.set _ _)=>True
 | some (.ins _ _ _)=>True
 | some (.ext _)=>True
 | _=>False
section
variable {P:ar}{w:aA}{H:Hp}{h h':ak}{x e:ae}{o':HO}
def HOk.write(ok:HOk P w H h)(mu:Mut (H x))(he:e=x\/H e=some (.own x))(k:∀b u,b≠e->h.get? b=some u->h'.get? b=some u)(qw:∃u,h'.get? e=some u)
  (new:Av P w (upd H x o') h' x o'):HOk P w (upd H x o') h':=λb u q=>by
 have r6:∀c y,H c=some (.own y)->c≠x:=λc y r z=>by subst z;rw[r] at mu;exact mu
 have ntup:∀c xs,H c=some (.tup xs)->c≠x:=λc xs r z=>by subst z;rw[r] at mu;exact mu
 by_cases hb:b=x
 ·subst hb;rw[Aa] at q;cases q;exact new
 ·rw[Ab hb] at q;by_cases kg:b=e
  ·have q':H b=some (.own x):=by
    rcases he with z | z
    ·exact absurd (kg.trans z) hb
    ·rw[kg];exact z
   rw[q] at q';cases q';obtain⟨v,hv⟩:=qw;exact⟨v,by rw[kg];exact hv⟩
  ·refine(ok b u q).stay (λc v hc r=>k c v ?_ r) (λc r=>by rw[Ab (r6 c b r)];exact r) λc xs r=>by rw[Ab (ntup c xs r)];exact r
   rcases hc with rfl | hc
   ·exact kg
   ·rintro rfl;rcases he with z | z
    ·exact r6 c b hc z
    ·rw[hc] at z;cases z;exact hb rfl
end
structure Un (fs ex:List ae) (H H':Hp) (h h':ak):Prop where
 keep:∀b o,h.get? b=some o->H b=none->b∉fs->b∉ex->h'.get? b=some o
 slot:∀b o,h.get? b=some o->H b=none->b∈fs->b∉ex->∃sl,h'.get? b=some {o with slots:=sl}
 free:∀b o,h.get? b=some o->H b=none->b∉ex->H' b=none
 there:∀b o,h.get? b=some o->b∉ex->∃o',h'.get? b=some o'
 tups:∀b xs,H b=some (.tup xs)->H' b=some (.tup xs)
 frzs:∀b o u,H b=some (.frz o u)->H' b=some (.frz o u)
 tbls:∀b ps,H b=some (.tbl ps)->∃bR,H' b=some (.tbl (ps++bR))
section
variable {fs gz ex yT:List ae}{H H1 H2:Hp}{h h1 h2 h':ak}{a x e:ae}{o:HO}
def Un.any(u:Un fs ex H H1 h h1)  (q:h.get? b=some ob)(n:H b=none)(hx:b∉ex):∃sl,h1.get? b=some {ob with slots:=sl}:=by
 by_cases hb:b∈fs
 ·exact u.slot b ob q n hb hx
 ·exact⟨ob.slots,u.keep b ob q n hb hx⟩
def Un.kept(k:∀b u,h.get? b=some u->h'.get? b=some u):Un fs ex H H h h':=
 ⟨λb ob q _ _ _=>k b ob q,λb ob q _ _ _=>⟨ob.slots,k b ob q⟩,λ_ _ _ n _=>n,λb ob q _=>⟨ob,k b ob q⟩,λ_ _ q=>q,λ_ _ _ q=>q,λ_ ps q=>⟨#[],by rw[q];simp⟩⟩
def Un.refl:Un fs ex H H h h:=Un.kept λ_ _ q=>q
def Un.laid(k:∀b u,h.get? b=some u->h'.get? b=some u)(hp:h.objs.size<=a)(hn:H a=none):Un fs ex H (upd H a o) h h' where
 keep:=λb u q _ _ _=>k b u q
 slot:=λb u q _ _ _=>⟨u.slots,k b u q⟩
 free:=λb u q n _=>by rw[Ab (Nz (Oc (S7 q) hp))];exact n
 there:=λb u q _=>⟨u,k b u q⟩
 tups:=λb xs q=>by rw[Ab (Ao q hn)];exact q
 frzs:=λb u xs q=>by rw[Ab (Ao q hn)];exact q
 tbls:=λb ps q=>⟨#[],by rw[Ab (Ao q hn),q];simp⟩
def Un.write(mu:Mut (H x))(he:e=x\/H e=some (.own x))(k:∀b u,b≠e->h.get? b=some u->h'.get? b=some u)(qw:∃u,h'.get? e=some u):Un fs ex H (upd H x o) h h':=by
 have hx:∀b,H b=none->b≠x:=λb n z=>by subst z;rw[n] at mu;exact mu
 have hb:∀b,H b=none->b≠e:=λb n z=>by
  subst z;rcases he with r | r
  ·exact hx b n r
  ·rw[n] at r;cases r
 have hm:∀b u,H b=some u->¬Mut (some u)->b≠x:=λb u q nm z=>by subst z;rw[q] at mu;exact nm mu
 refine⟨λb u q n _ _=>k b u (hb b n) q,λb u q n _ _=>⟨u.slots,k b u (hb b n) q⟩,λb u q n _=>by rw[Ab (hx b n)];exact n,λb u q _=>?_,
  λb xs q=>by rw[Ab (hm b _ q λz=>z)];exact q,λb u xs q=>by rw[Ab (hm b _ q λz=>z)];exact q,λb ps q=>⟨#[],by rw[Ab (hm b _ q λz=>z),q];simp⟩⟩
 by_cases kg:b=e
 ·subst kg;exact qw
 ·exact⟨u,k b u kg q⟩
end
def trk (h:ak) (H:Hp):List ae:=(List.range h.objs.size).filter λa=>(H a).isSome
def Dg (h:ak) (H:Hp):ak:=NZ h (trk h H)
def Xg3(h)(H):(Dg h H).objs.size=h.objs.size:=PySem.W.hideAll_size _ _
def Xg4    (e:h.get? b=some o) (n:H b=none):(Dg h H).get? b=some o:=
 OC _ e λhm=>by
  have q:(H b).isSome=true:=(N6.mp hm).2;rw[n] at q;simp at q
def Xg5    (e:(Dg h H).get? b=some o):h.get? b=some o/\H b=none:=by
 have e':h.get? b=some o:=OH (trk h H) e;refine⟨e',?_⟩;cases q:H b with
 | none=>rfl
 | some x=>
  have hm:b∈trk h H:=N6.mpr ⟨O6.mpr (S7 e'),by simp[q]⟩;have z:(Dg h H).get? b=none:=OJ (trk h H) hm;rw[z] at e;cases e
def Xg6 (g h:ak) (L:ae):List (ae×aM):=(List.range h.objs.size).filterMap λa=>if a=L\/(g.get? a).isSome=true then none else (h.get? a).map λo=>(a,o)
def rest (g h:ak) (L d:ae):List (ae×aM):=(Xg6 g h L).filter λp=>decide (p.1≠d)
structure Mod (K:NO) (mg:ao->Option aa) (base:ak):Prop where
 kin:K.In base
 glob:base.Ns aq mg
 blt:∃mb,base.Ns dg mb/\∀x:ao,x ≠ "__name__" -> mb x=bO x
 nolimit:base.NoLimit
structure Cx where
 prog:ar
 w:aA
 K:NO
 mg:ao->Option aa
 base:ak
 A:av
 N:Za
 s₀ : ah
 H₀ : Hp
 env:Env
 outer:List Env
 stack:List Env
 ex:List ae
 fn:ao->Bool
 calm:Bool
 pn:List (ae×aM)
 xe:Zb
def frs (l:List Env):List ae:=l.filterMap (·.frame)
abbrev Cx.fs (X:Cx):List ae:=frs X.outer
def Vis (sc:cw) (x:ao):Prop:=sc.names.lookup x=some .local\/sc.names.lookup x=some .cell\/sc.names.lookup x=some .free
def Loc (sc:cw) (x:ao):Prop:=sc.names.lookup x=some .local\/sc.names.lookup x=some .cell
def Look (env:Env) (h:ak) (m:ao->Option aa) (x:ao) (u:aa):Prop:=
 (env.kindOf x=some .local/\m x=some u)\/((env.kindOf x=some .cell\/env.kindOf x=some .free)/\∃c,env.cells.lookup x=some c/\h.IsCell c (some u))
structure Cx.Ok (X:Cx):Prop where
 mod:Mod X.K X.mg X.base
 kind:X.env.scope.kind = .function
 glob:X.env.globals=aq
 blt:X.env.builtins=dg
 above:X.s₀.heap.objs.size<=X.env.locals
 inj:∀x y c,X.env.cells.lookup x=some c->X.env.cells.lookup y=some c->x=y
 has:∀x,(X.env.kindOf x=some .cell\/X.env.kindOf x=some .free)->∃c,X.env.cells.lookup x=some c
 cab:∀x c,X.fn x=true->X.env.cells.lookup x=some c->X.s₀.heap.objs.size<=c
 hd:X.calm=true->X.A.handled=none
 frames:X.A.frames=some X.stack
 stk:X.stack=X.outer\/(X.stack=X.env::X.outer/\X.env.frame=some X.env.locals)
 exf:∀b∈X.ex,b≠X.env.locals/\∀x c,X.env.cells.lookup x=some c->c≠b
 bs:∀b o,X.base.get? b=some o->X.s₀.heap.get? b=some o/\X.H₀ b=none
 bsz:X.base.objs.size<=X.s₀.heap.objs.size
 noex:∀b o,X.base.get? b=some o->b∉X.ex
 exfs:∀b∈X.ex,b∉X.fs
 funs:X.s₀.heap.FunFrames X.base X.outer
 frf:∀b∈X.fs,X.H₀ b=none
structure Inv (X:Cx) (pins:List (ae×aM)) (Z:List (Option V)) (H:Hp) (s:ah):Prop where
 ok:X.Ok
 os:s.os=X.s₀.os
 bare:cE s.gens
 base:Un X.fs X.ex X.H₀ H X.s₀.heap s.heap
 loc:∃m,s.heap.Ns X.env.locals m/\∀(i:Nat) (x:ao) (v:V),X.N[i]? = some x -> Z[i]? = some (some v)->Vis X.env.scope x->∃u,Ae v u/\Look X.env s.heap m x u
 cell:∀x c,X.env.cells.lookup x=some c->∃v,s.heap.IsCell c v
 free:H X.env.locals=none
 freeC:∀x c,X.env.cells.lookup x=some c->H c=none
 pin:∀p∈X.pn++pins,s.heap.get? p.1=some p.2/\H p.1=none/\p.1≠X.env.locals/\p.1∉X.fs/\∀v,p.2.data ≠ .cell v
 hok:HOk X.prog X.w H s.heap
 len : Z.length=X.N.length
section
variable {X:Cx}{pins:List (ae×aM)}{Z:List (Option V)}{H H':Hp}{s:ah}{h':ak}
def Cx.Ok.nofr(ok:X.Ok)  (e:X.base.get? b=some o):b∉X.fs:=λhb=>by
 have:=(ok.funs.mem hb).1;rw[e] at this;cases this
def Inv.bs(I:Inv X pins Z H s):∀b o,X.base.get? b=some o->s.heap.get? b=some o/\H b=none:=λb o e=>
 ⟨I.base.keep b o (I.ok.bs b o e).1 (I.ok.bs b o e).2 (I.ok.nofr e) (I.ok.noex b o e),I.base.free b o (I.ok.bs b o e).1 (I.ok.bs b o e).2 (I.ok.noex b o e)⟩
def Inv.bk(I:Inv X pins Z H s):∀b o,X.base.get? b=some o->s.heap.get? b=some o:=λb o e=>(I.bs b o e).1
def Inv.mod(I:Inv X pins Z H s):Mod X.K X.mg X.base:=I.ok.mod
def Inv.kIn(I:Inv X pins Z H s):X.K.In s.heap:=I.ok.mod.kin.keeps I.bk
def Inv.lt(I:Inv X pins Z H s):X.env.locals<s.heap.objs.size:=let ⟨_,hn,_⟩:=I.loc;hn.lt
def Inv.sz(I:Inv X pins Z H s):X.s₀.heap.objs.size<=s.heap.objs.size:=Oq I.ok.above (Rb I.lt)
def Inv.nofs(I:Inv X pins Z H s)(h:s.heap.objs.size<=a):a∉X.fs:=λhb=>by
 obtain⟨_,o,ho,_⟩:=I.ok.funs.mem hb;exact absurd (Oc (S7 ho) (Oq I.sz h)) (Ox _)
def Inv.cne(I:Inv X pins Z H s):∀x c,X.env.cells.lookup x=some c->c≠X.env.locals:=λx c e z=>by
 obtain⟨v,o,ho,hd⟩:=I.cell x c e;obtain⟨m,⟨o',es,ep,eu,io,_⟩,_⟩:=I.loc;rw[z,eu] at ho;cases ho;rw[io] at hd;cases hd
def Inv.funs(I:Inv X pins Z H s):s.heap.FunFrames X.base X.outer:=by
 have all:∀(l:List Env),(∀b∈frs l,b∈X.fs)->X.s₀.heap.FunFrames X.base l->s.heap.FunFrames X.base l:=by
  intro l
  induction l with
  | nil=>intro _ _;trivial
  | cons env r ih=>
   intro hs hl;obtain⟨hk,⟨L,o,hf,hn,ho,hd⟩,hr⟩:=hl;have hL:L∈X.fs:=hs L (by unfold frs;rw[O1,hf];exact Ny);obtain⟨sl,e⟩:=I.base.slot L o ho (I.ok.frf L hL) hL λz=>I.ok.exfs L z hL;exact⟨hk,⟨L,_,hf,hn,e,hd⟩,ih (λb hb=>hs b (by unfold frs;rw[O1,hf];exact Nw _ hb)) hr⟩
 exact all X.outer (λ_ hb=>hb) I.ok.funs
def Inv.stack(I:Inv X pins Z H s):s.heap.FunFrames X.base X.stack:=by
 rcases I.ok.stk with e | ⟨e,hf⟩
 ·rw[e];exact I.funs
 ·rw[e];obtain⟨m,hn,_⟩:=I.loc;refine .cons (by rw[I.ok.kind];decide) hf hn ?_ I.funs;exact ak.get?_none_of_le (Oq I.ok.bsz I.ok.above)
def Inv.stkSub(I:Inv X pins Z H s):∀b∈frs X.stack,b∈X.env.locals::X.fs:=λb hb=>by
 rcases I.ok.stk with e | ⟨e,hf⟩
 ·rw[e] at hb;exact Nw _ hb
 ·rw[e] at hb;unfold frs at hb;rw[O1,hf] at hb;exact hb
def Inv.stkFree(I:Inv X pins Z H s):∀b∈frs X.stack,H b=none:=λb hb=>by
 rcases N4.mp (I.stkSub b hb) with e | hb
 ·rw[e];exact I.free
 ·obtain⟨_,o,ho,_⟩:=I.ok.funs.mem hb;exact I.base.free b o ho (I.ok.frf b hb) λz=>I.ok.exfs b z hb
def Inv.step{g'}{t'}{d'}{ch:List ae}(I:Inv X pins Z H s)
  (l6:∀b∈ch,(b∈X.ex\/X.s₀.heap.objs.size<=b)/\b≠X.env.locals/\(∀x c,X.env.cells.lookup x=some c->c≠b)/\∀p∈X.pn++pins,p.1≠b)
  (keep:∀b o,b≠X.env.locals->b∉X.fs->b∉ch->s.heap.get? b=some o->H b=none->h'.get? b=some o)
  (slot:∀b o,b≠X.env.locals->b∈X.fs->b∉ch->s.heap.get? b=some o->H b=none->∃sl,h'.get? b=some {o with slots:=sl}) (free:∀b o,b∉ch->s.heap.get? b=some o->H b=none->H' b=none)
  (there:∀b o,b∉ch->s.heap.get? b=some o->∃o',h'.get? b=some o')
  (tups:∀b xs,H b=some (.tup xs)->H' b=some (.tup xs)) (frzs:∀b o u,H b=some (.frz o u)->H' b=some (.frz o u)) (tbls:∀b ps,H b=some (.tbl ps)->∃bR,H' b=some (.tbl (ps++bR)))
  (ns:∀m,s.heap.Ns X.env.locals m->h'.Ns X.env.locals m) (hok:HOk X.prog X.w H' h') (hg:cE g'):
  Inv X pins Z H' {s with heap:=h',gens:=g',drawn:=d',toks:=t'}:=by
 have yU:∀b o,X.s₀.heap.get? b=some o->b≠X.env.locals:=λb o e=>Nz (Oc (S7 e) I.ok.above);have uy:∀b o,X.s₀.heap.get? b=some o->b∉X.ex->b∉ch:=λb o e hx hb=>by
  rcases (l6 b hb).1 with z | z
  ·exact hx z
  ·exact absurd (Oc (S7 e) z) (Ox _)
 have nK:∀x c,X.env.cells.lookup x=some c->∀v,s.heap.IsCell c v->h'.IsCell c v:=λx c e v ⟨o,ho,hd⟩=>by
  have r9:c∉ch:=λz=>(l6 c z).2.2.1 x c e rfl;by_cases hc:c∈X.fs
  ·obtain⟨sl,q⟩:=slot c o (I.cne x c e) hc r9 ho (I.freeC x c e);exact⟨_,q,hd⟩
  ·exact⟨o,keep c o (I.cne x c e) hc r9 ho (I.freeC x c e),hd⟩
 refine⟨I.ok,I.os,hg,⟨λb o e n hb hx=>?_,λb o e n hb hx=>?_,λb o e n hx=>?_,λb o e hx=>?_,λb xs e=>tups b xs (I.base.tups b xs e),λb o xs e=>frzs b o xs (I.base.frzs b o xs e),λb ps e=>?_⟩,?_,λx c e=>?_,?_,λx c e=>?_,λp hp=>?_,hok,I.len⟩
 ·exact keep b o (yU b o e) hb (uy b o e hx) (I.base.keep b o e n hb hx) (I.base.free b o e n hx)
 ·k_dec;obtain⟨e9,e2⟩:=slot b _ (yU b o e) hb (uy b o e hx) e1 (I.base.free b o e n hx);exact⟨e9,e2⟩
 ·obtain⟨o',e1⟩:=I.base.there b o e hx;exact free b o' (uy b o e hx) e1 (I.base.free b o e n hx)
 ·obtain⟨o',e1⟩:=I.base.there b o e hx;exact there b o' (uy b o e hx) e1
 ·obtain⟨m1,e1⟩:=I.base.tbls b ps e;obtain⟨m2,e2⟩:=tbls b _ e1;exact⟨m1++m2,by rw[e2,R7]⟩
 ·obtain⟨m,hn,hl⟩:=I.loc;refine⟨m,ns m hn,λi x v e1 e2 e3=>?_⟩;obtain⟨u,r,l⟩:=hl i x v e1 e2 e3;refine⟨u,r,?_⟩;rcases l with l | ⟨k,c,e,z⟩
  ·exact .inl l
  ·exact .inr ⟨k,c,e,nK x c e _ z⟩
 ·obtain⟨v,z⟩:=I.cell x c e;exact⟨v,nK x c e v z⟩
 ·obtain⟨m,⟨o,_,_,ho,_⟩,_⟩:=I.loc;exact free _ o (λz=>(l6 _ z).2.1 rfl) ho I.free
 ·obtain⟨v,o,ho,hd⟩:=I.cell x c e;exact free c o (λz=>(l6 c z).2.2.1 x c e rfl) ho (I.freeC x c e)
 ·obtain⟨e,n,ne,nf,d⟩:=I.pin p hp;have r9:p.1∉ch:=λz=>(l6 p.1 z).2.2.2 p hp rfl;exact⟨keep p.1 p.2 ne nf r9 e n,free p.1 p.2 r9 e n,ne,nf,d⟩
def Inv.un{t'}(I:Inv X pins Z H s)(u:Un X.fs [] H H' s.heap h')(hok:HOk X.prog X.w H' h'):Inv X pins Z H' {s with heap:=h',toks:=t'}:=by
 obtain⟨m,⟨o,es,ep,ho,r⟩,_⟩:=id I.loc;obtain⟨sl,hL⟩:=u.any ho I.free (by simp);exact I.step (g':=s.gens) (d':=s.drawn) (ch:=[]) (λ_ z=>nomatch z) (λb o _ hb _ e n=>u.keep b o e n hb (by simp)) (λb o _ hb _ e n=>u.slot b o e n hb (by simp)) (λb o _ e n=>u.free b o e n (by simp)) (λb o _ e=>u.there b o e (by simp)) u.tups u.frzs u.tbls (λm' hm=>by
  obtain⟨o',cN,l7,eu,r'⟩:=hm;rw[ho] at eu;cases eu;exact⟨_,cN,l7,hL,r'⟩) hok I.bare
def Inv.call{g'}{t'}{d'}{ch}(I:Inv X pins Z H s)(u:Un (frs X.stack) ch H H' s.heap h')(hok:HOk X.prog X.w H' h')(hg:cE g')
  (l6:∀b∈ch,(b∈X.ex\/X.s₀.heap.objs.size<=b)/\b≠X.env.locals/\(∀x c,X.env.cells.lookup x=some c->c≠b)/\∀p∈X.pn++pins,p.1≠b):
  Inv X pins Z H' {s with heap:=h',gens:=g',drawn:=d',toks:=t'}:=by
 obtain⟨m,⟨o,es,ep,ho,r⟩,_⟩:=id I.loc;obtain⟨sl,hL⟩:=u.any ho I.free λz=>(l6 _ z).2.1 rfl;exact I.step (ch:=ch) l6 (λb o hL hb hc e n=>u.keep b o e n (λz=>(N4.mp (I.stkSub b z)).elim hL hb) hc) (λb o _ _ hc e n=>u.any e n hc) (λb o hc e n=>u.free b o e n hc) (λb o hc e=>u.there b o e hc) u.tups u.frzs u.tbls (λm' hm=>by
  obtain⟨o',cN,l7,eu,r'⟩:=hm;rw[ho] at eu;cases eu;exact⟨_,cN,l7,hL,r'⟩) hok hg
def Inv.turned{t'}(I:Inv X pins Z H s)(k:∀b o,b≠it->s.heap.get? b=some o->h'.get? b=some o)(hn:H it=none)(hL:it≠X.env.locals)
  (h1:it∈X.ex\/X.s₀.heap.objs.size<=it) (h2:∀x c,X.env.cells.lookup x=some c->c≠it) (h3:∀p∈X.pn++pins,p.1≠it):Inv X pins Z H {s with heap:=h',toks:=t'}:=by
 have yV:∀b u,H b=some u->b≠it:=λb u e z=>by rw[z,hn] at e;cases e
 refine I.step (g':=s.gens) (d':=s.drawn) (ch:=[it]) (λb hb=>?_) (λb o _ _ hc e _=>k b o (λz=>hc (by simp[z])) e) (λb o _ _ hc e _=>⟨o.slots,k b o (λz=>hc (by simp[z])) e⟩) (λ_ _ _ _ n=>n)
  (λb o hc e=>⟨o,k b o (λz=>hc (by simp[z])) e⟩) (λ_ _ e=>e) (λ_ _ _ e=>e) (λb ps e=>⟨#[],by rw[e];simp⟩) (λm hm=>?_) (λb u e=>?_) I.bare
 ·have e:b=it:=by simpa using hb
  subst e;exact⟨h1,hL,h2,h3⟩
 ·obtain⟨o,es,ep,ho,r⟩:=hm;exact⟨o,es,ep,k _ o (Ne.symm hL) ho,r⟩
 ·refine(I.hok b u e).stay (λc v hc q=>k c v ?_ q) (λ_ q=>q) λ_ _ q=>q;rcases hc with z | z
  ·rw[z];exact yV b u e
  ·exact yV c _ z
def Inv.tok(I:Inv X pins Z H s)(t):Inv X pins Z H {s with toks:=t}:=I.un (h':=s.heap) (t':=t) Un.refl I.hok
def Inv.kept{t'}(I:Inv X pins Z H s)(k:∀b u,s.heap.get? b=some u->h'.get? b=some u):Inv X pins Z H {s with heap:=h',toks:=t'}:=I.un (Un.kept k) (I.hok.kept k)
def Inv.laid{a:ae}{o}{t'}(I:Inv X pins Z H s)(k:∀b u,s.heap.get? b=some u->h'.get? b=some u)(hp:s.heap.objs.size<=a)(new:Av X.prog X.w (upd H a o) h' a o):
  Inv X pins Z (upd H a o) {s with heap:=h',toks:=t'}:=I.un (Un.laid k hp (I.hok.fresh hp)) (I.hok.laid k hp new)
def Inv.write{x e}  (I:Inv X pins Z H s)(mu:Mut (H x))(he:e=x\/H e=some (.own x))(k:∀b u,b≠e->s.heap.get? b=some u->h'.get? b=some u)(qw:∃u,h'.get? e=some u)
  (new:Av X.prog X.w (upd H x o) h' x o):Inv X pins Z (upd H x o) {s with heap:=h',toks:=t'}:=I.un (Un.write mu he k qw) (I.hok.write mu he k qw new)
def Inv.pins_of(I:Inv X pins Z H s)(h:∀p∈pins',s.heap.get? p.1=some p.2/\H p.1=none/\p.1≠X.env.locals/\p.1∉X.fs/\∀v,p.2.data ≠ .cell v):Inv X pins' Z H s:=
 ⟨I.ok,I.os,I.bare,I.base,I.loc,I.cell,I.free,I.freeC,λp hp=>(N0.mp hp).elim (λz=>I.pin p (Pl _ z)) (h p),I.hok,I.len⟩
def Km{N:Za}(hN:N.Nodup){i j:Nat}(a:N[i]? = some x)(b:N[j]? = some x):i=j:=by
 obtain⟨h1,e1⟩:=N7.mp a;obtain⟨h2,e2⟩:=N7.mp b;exact(Ru hN).mp (e1.trans e2.symm)
def Kn        (I:Inv X pins Z H s) (hN:X.N.Nodup) (hi:X.N[i]? = some x) (hx:Loc X.env.scope x) (r:Ae v u)
  (h:∀s',Inv X pins (Z.set i (some v)) H s'->(∃a,ak.SameBut a s.heap s'.heap/\(a=X.env.locals\/X.env.cells.lookup x=some a))->Q () s') (hf:X.fn x=true\/X.env.scope.names.lookup x=some .local:=by first | exact .inl rfl | exact .inr rfl | assumption):af M A (LN X.env x u) Q E s:=by
 obtain⟨m,hn,hl⟩:=id I.loc;have dF:(X.env.scope.kind == .class||(X.env.scope.kind == .module&&X.env.locals != X.env.globals))=false:=by rw[I.ok.kind];rfl
 have uz:i < Z.length:=by rw[I.len];exact(N7.mp hi).1
 have cne:=I.cne;have iY:∀{a:ae} {h':ak},(∃o,s.heap.get? a=some o/\H a=none)->ak.SameBut a s.heap h'->HOk X.prog X.w H h':=λ{a h'} ha hs b ob e=>by
  obtain⟨_,_,nN⟩:=ha;refine(I.hok b ob e).stay (λc w' hc q=>(hs.2 c ?_).trans q) (λ_ q=>q) λ_ _ q=>q;rintro rfl;rcases hc with rfl | hc
  ·rw[nN] at e;cases e
  ·rw[nN] at hc;cases hc
 rcases hx with hk | hk
 ·refine wpAny_storeName_local hk hn (λh' qx hs=>?_) dF;obtain⟨oL,_,_,lZ,_⟩:=id hn;refine h _ ⟨I.ok,I.os,I.bare,⟨λb o e n hb hx=>?_,λb o e n hb hx=>?_,I.base.free,λb o e hx=>?_,I.base.tups,I.base.frzs,I.base.tbls⟩,⟨_,qx,λj y v' e1 e2 e3=>?_⟩,λy c e=>?_,I.free,I.freeC,λp hp=>?_,iY ⟨oL,lZ,I.free⟩ hs,by simpa using I.len⟩ ⟨_,hs,.inl rfl⟩
  ·exact(hs.2 b (Nz (Oc (S7 e) I.ok.above))).trans (I.base.keep b o e n hb hx)
  ·k_dec;exact⟨sl,(hs.2 b (Nz (Oc (S7 e) I.ok.above))).trans e1⟩
  ·obtain⟨o',e1⟩:=I.base.there b o e hx;exact⟨o',(hs.2 b (Nz (Oc (S7 e) I.ok.above))).trans e1⟩
  ·by_cases hj:j=i
   ·subst hj;rw[hi] at e1;cases e1;rw[Rk uz] at e2;cases e2;exact⟨u,r,.inl ⟨hk,by simp⟩⟩
   ·rw[Rw (Ne.symm hj)] at e2;obtain⟨u',r',q⟩:=hl j y v' e1 e2 e3;refine⟨u',r',?_⟩;rcases q with ⟨k,e⟩ | ⟨k,c,e,z⟩
    ·refine .inl ⟨k,?_⟩;have:y≠x:=λe=>hj (Km hN e1 (e ▸ hi));simp[this,e]
    ·exact .inr ⟨k,c,e,z.sameBut hs (cne y c e)⟩
  ·obtain⟨w',z⟩:=I.cell y c e;exact⟨w',z.sameBut hs (cne y c e)⟩
  ·obtain⟨e,n,ne,nf,d⟩:=I.pin p hp;exact⟨(hs.2 p.1 ne).trans e,n,ne,nf,d⟩
 ·have vk:X.fn x=true:=by
   rcases hf with z | z
   ·exact z
   ·rw[z] at hk;cases hk
  obtain⟨c,hc⟩:=I.ok.has x (.inl hk);obtain⟨w',z⟩:=I.cell x c hc;refine wpAny_storeName_cell I.ok.kind hk hc z (λh' u3 hs=>?_);obtain⟨oc,me,vm⟩:=id z;refine h {s with heap:=h'} ⟨I.ok,I.os,I.bare,⟨λb o e n hb hx=>?_,λb o e n hb hx=>?_,I.base.free,λb o e hx=>?_,I.base.tups,I.base.frzs,I.base.tbls⟩,⟨m,hn.sameBut hs (Ne.symm (cne x c hc)),λj y v' e1 e2 e3=>?_⟩,λy c' e=>?_,I.free,I.freeC,λp hp=>?_,iY ⟨oc,me,I.freeC x c hc⟩ hs,by simpa using I.len⟩ ⟨c,hs,.inr hc⟩
  ·exact(hs.2 b (Nz (Oc (S7 e) (I.ok.cab x c vk hc)))).trans (I.base.keep b o e n hb hx)
  ·k_dec;exact⟨sl,(hs.2 b (Nz (Oc (S7 e) (I.ok.cab x c vk hc)))).trans e1⟩
  ·obtain⟨o',e1⟩:=I.base.there b o e hx;exact⟨o',(hs.2 b (Nz (Oc (S7 e) (I.ok.cab x c vk hc)))).trans e1⟩
  ·by_cases hj:j=i
   ·subst hj;rw[hi] at e1;cases e1;rw[Rk uz] at e2;cases e2;exact⟨u,r,.inr ⟨.inl hk,c,hc,u3⟩⟩
   ·rw[Rw (Ne.symm hj)] at e2;obtain⟨u',r',q⟩:=hl j y v' e1 e2 e3;refine⟨u',r',?_⟩;rcases q with q | ⟨k,c',e,z'⟩
    ·exact .inl q
    ·refine .inr ⟨k,c',e,z'.sameBut hs ?_⟩;rintro rfl;exact hj (Km hN e1 (I.ok.inj _ _ _ e hc ▸ hi))
  ·by_cases yW:c'=c
   ·subst yW;exact⟨_,u3⟩
   ·obtain⟨w2,z2⟩:=I.cell y c' e;exact⟨w2,z2.sameBut hs yW⟩
  ·obtain⟨e,n,ne,nf,d⟩:=I.pin p hp;refine⟨(hs.2 p.1 ?_).trans e,n,ne,nf,d⟩;intro q;rw[q,me] at e;have q':oc=p.2:=N5 e;exact d w' (by rw[<-q'];exact vm)
def Xab        (I:Inv X pins Z H s) (hN:X.N.Nodup) (hi:X.N[i]? = some x) (hx:Loc X.env.scope x) (r:Ae v u)
  (h:∀s',Inv X pins (Z.set i (some v)) H s'->Q () s') (hf:X.fn x=true\/X.env.scope.names.lookup x=some .local:=by first | exact .inl rfl | exact .inr rfl | assumption):af M A (LN X.env x u) Q E s:=
 Kn I hN hi hx r (λs' I' _=>h s' I') hf
def Inv.call'{ch}(I:Inv X pins Z H s)(ho:s'.os=s.os)(u:Un (frs X.stack) ch H H' s.heap s'.heap)(hok:HOk X.prog X.w H' s'.heap)(hg:cE s'.gens)
  (l6:∀b∈ch,(b∈X.ex\/X.s₀.heap.objs.size<=b)/\b≠X.env.locals/\(∀x c,X.env.cells.lookup x=some c->c≠b)/\∀p∈X.pn++pins,p.1≠b):Inv X pins Z H' s':=by
 obtain⟨h',g',d',t',o'⟩:=s';have e:o'=s.os:=ho;subst e;exact I.call (g':=g') (t':=t') (d':=d') u hok hg l6
end
abbrev XK:=aa->Option ae->Hp->Prop
abbrev St:=List (Option V)
abbrev VK:=V->Hp->Prop
abbrev TE:=St->Hp->VK->Prop
abbrev TT:=St->Hp->(Bool->Hp->Prop)->Prop
abbrev TA:=St->Hp->(List V->Hp->Prop)->Prop
structure Ends where
 nx:St->Hp->Prop
 rt:VK
 bk:St->Hp->Prop:=λ_ _=>False
 ct:St->Hp->Prop:=λ_ _=>False
abbrev TS:=Ends->St->Hp->Prop
def EP (X:Cx) (pins:List (ae×aM)) (Z:St) (Q:VK) (u:aa) (s':ah):Prop:=∃v H',Inv X pins Z H' s'/\Ae v u/\Q v H'
def TP (X:Cx) (pins:List (ae×aM)) (Z:St) (Q:Bool->Hp->Prop) (b:Bool) (s':ah):Prop:=∃H',Inv X pins Z H' s'/\Q b H'
def AP (X:Cx) (pins:List (ae×aM)) (Z:St) (Q:List V->Hp->Prop) (us:List aa) (s':ah):Prop:=∃vs H',Inv X pins Z H' s'/\Vals vs us/\Q vs H'
def SP (X:Cx) (pins:List (ae×aM)) (D:Ends) (f:Flow) (s':ah):Prop:=
 match f with
 | .next=>∃Z' H',Inv X pins Z' H' s'/\D.nx Z' H'
 | .brk=>∃Z' H',Inv X pins Z' H' s'/\D.bk Z' H'
 | .cont=>∃Z' H',Inv X pins Z' H' s'/\D.ct Z' H'
 | .ret u=>∃v Z' H',Inv X pins Z' H' s'/\Ae v u/\D.rt v H'
def PE (X:Cx) (e:aL) (t:TE):Prop:=
 ∀pins s Z H (Q:VK),Inv X pins Z H s->t Z H Q->af (ag X.prog X.w) X.A (eval e X.env) (EP X pins Z Q) X.xe s
def PT (X:Cx) (e:aL) (t:TT):Prop:=
 ∀pins s Z H (Q:Bool->Hp->Prop),Inv X pins Z H s->t Z H Q->af (ag X.prog X.w) X.A (isTrue e X.env (eval e X.env)) (TP X pins Z Q) X.xe s
def PW (X:Cx) (e:aL) (t:TT):Prop:=
 ∀(iZ:fT aa) (pins:List (ae×aM)) (s:ah) (Z:St) (H:Hp) (Q:Bool->Hp->Prop),Inv X pins Z H s->t Z H Q->af (ag X.prog X.w) X.A (isTrue e X.env iZ) (TP X pins Z Q) X.xe s
def PW.pt   (h:PW X e t):PT X e t:=h _
def PA (X:Cx) (es:List aL) (t:TA):Prop:=
 ∀(pos:cF) (pins:List (ae×aM)) (s:ah) (Z:St) (H:Hp) (Q:List V->Hp->Prop),Inv X pins Z H s->t Z H Q->af (ag X.prog X.w) X.A (spliced (bq pos (az es X.env))) (AP X pins Z Q) X.xe s
def PS (X:Cx) (st:aP) (t:TS):Prop:=
 ∀pins s Z H (D:Ends),Inv X pins Z H s->t D Z H->af (ag X.prog X.w) X.A (exec st X.env) (SP X pins D) X.xe s
def PSs (X:Cx) (st:List aP) (t:TS):Prop:=
 ∀pins s Z H (D:Ends),Inv X pins Z H s->t D Z H->af (ag X.prog X.w) X.A (execs st X.env) (SP X pins D) X.xe s
def thn{α : Type}{t:fT α}{Q Q'}    (h:af M A t Q E s)(hQ:∀a s,Q a s->Q' a s):af M A t Q' E s:=aF h hQ λ_ _ x=>x
section
variable {X:Cx}
def Ct (i:Nat):TE:=fun Z H Q=>∃v, Z[i]? = some (some v)/\Q v H
def tC (v:V):TE:=λ_ H Q=>Q v H
def Xg7   (hN:X.N[i]? = some x) (hv:Vis X.env.scope x) (hd:(x==("__debug__" : ao))=false:=by decide) (eR:(x==("__classdict__" : ao))=false:=by decide):PE X (.Name x pos) (Ct i):=by
 k_ne;obtain⟨v,e,h⟩:=h;obtain⟨m,hn,hl⟩:=I.loc;obtain⟨u,r,l⟩:=hl i x v hN e hv;have fin:EP X pins Z Q u s:=⟨v,H,I,r,h⟩;rcases l with ⟨hk,hm⟩ | ⟨hk,c,hc,nO⟩
 ·exact mf (wpAny_loadName_local I.ok.kind hk hn hm fin) hd
 ·rcases hk with hk | hk
  ·exact mf (wpAny_loadName_cell I.ok.kind hk hc nO fin) hd
  ·exact mf (wpAny_loadName_free I.ok.kind hk hc nO fin eR) hd
def pe_int{i j pos}:PE X (.Constant (.int i) j pos) (tC (.int i)):=λ_ _ _ H _ I h=>wpAny_Constant_int ⟨.int i,H,I.tok _,⟨_,rfl⟩,h⟩
def Cu:PE X (.Constant (.bool b) j pos) (tC (.bl b)):=λ_ _ _ H _ I h=>Constant_bool ⟨.bl b,H,I,rfl,h⟩
def E2:PE X (.Constant .none j pos) (tC .non):=λ_ _ _ H _ I h=>Constant_none ⟨.non,H,I,rfl,h⟩
def Az:PE X (.Constant (.str x) j pos) (tC (.str x)):=λ_ _ _ H _ I h=>Calls.Constant_str ⟨.str x,H,I.tok _,⟨_,rfl⟩,h⟩
def Gl (X:Cx) (x:ao):Prop:=X.env.kindOf x=some .globalImplicit
def Fs         (I:Inv X pins Z H s) (hg:Gl X x) (hm:X.mg x=some u) (h:Q u s)
  (hd:(x==("__debug__" : ao))=false:=by decide):af (ag X.prog X.w) X.A (eval (.Name x pos) X.env) Q E s:=
 Calls.Name_function_global I.ok.kind hg (Calls.loadGlobal_global (by rw[I.ok.glob];exact I.mod.glob.keeps I.bk) hm h) hd
def Ft         (I:Inv X pins Z H s) (hg:Gl X x) (hm:X.mg x=none) (hv:bO x=some u) (h:Q u s)
  (hn:x ≠ "__name__" := by decide) (hd:(x==("__debug__" : ao))=false:=by decide):af (ag X.prog X.w) X.A (eval (.Name x pos) X.env) Q E s:=by
 obtain⟨mb,h1,h2⟩:=I.mod.blt;exact Calls.Name_function_global I.ok.kind hg (Calls.loadGlobal_builtin (by rw[I.ok.glob];exact I.mod.glob.keeps I.bk) hm (by rw[I.ok.blt];exact h1.keeps I.bk) ((h2 x hn).trans hv) h) hd
def Xac  {v:V}  (hg:Gl X x) (hm:X.mg x=some u) (r:Ae v u) (hd:(x==("__debug__" : ao))=false:=by decide):PE X (.Name x pos) (tC v):=
 λ_ _ _ H _ I h=>Fs I hg hm ⟨v,H,I,r,h⟩ hd
def pe_bltn  {v:V}  (hg:Gl X x) (hm:X.mg x=none) (hv:bO x=some u) (r:Ae v u) (hn:x ≠ "__name__" := by decide) (hd:(x==("__debug__" : ao))=false:=by decide):PE X (.Name x pos) (tC v):=
 λ_ _ _ H _ I h=>Ft I hg hm hv ⟨v,H,I,r,h⟩ hn hd
def t2I (ta tb:TE) (k:Int->Int->Hp->Prop):St->Hp->Prop:=fun Z H=>ta Z H λx H1=>tb Z H1 λy H2=>∃i j,x = .int i/\y = .int j/\k i j H2
def tMul (ta tb:TE):TE:=fun Z H Q=>t2I ta tb (λi j H2=>(-(2 ^ 64)<i/\i<2 ^ 64)/\Q (.int (i * j)) H2) Z H
variable {a b:aL}{ta tb:TE}{pos:cF}
def PC (X:Cx) (op:CmpOp) (a b:aL) (t:TE):Prop:=
 ∀pins s Z H (Q:VK),Inv X pins Z H s->t Z H Q ->
  af (ag X.prog X.w) X.A (eval a X.env) (λv s₁=>af (ag X.prog X.w) X.A (eval b X.env) (λu s₂=>af (ag X.prog X.w) X.A (aH op v u) (EP X pins Z Q) X.xe s₂) X.xe s₁) X.xe s
def tIsN (ta:TE):TE:=fun Z H Q=>ta Z H λx H1=>Q (.bl (decide (x = .non))) H1
def tB (t:TE):TT:=fun Z H Q=>t Z H λx H1=>∃c,x = .bl c/\Q c H1
def Xg8  (h:PC X op a b t) (h1:cy op b=false:=by first | exact kh _ (by decide) (by decide) | rfl):PE X (.Compare a [op] [b] pos) t:=λpins s Z H Q I hw=>rA (h pins s Z H Q I hw) h1
def Xad  (h:PC X op a b t) (h1:cy op b=false:=by first | exact kh _ (by decide) (by decide) | rfl):PT X (.Compare a [op] [b] pos) (tB t):=by
 intro pins s Z H Q I hw;refine jJ (thn (h pins s Z H _ I hw) λv s1 h1=>thn h1 λu s2 h2=>thn h2 λc s3 ⟨x,H1,I1,r1,q1⟩=>?_) h1;obtain⟨d,rfl,q⟩:=q1;cases r1;exact aN ⟨H1,I1,q⟩
def pt_val  (h:PE X e t) (he:∀iZ,isTrue e X.env iZ=(do       let v <-iZ;dh e.pos;holding [v] (truthy v)):=by intro _;rfl):PT X e (tB t):=by
 intro pins s Z H Q I hw;refine isTrue_plain (thn (h pins s Z H _ I hw) λv s1 ⟨x,H1,I1,r1,q1⟩=>?_) (he _);obtain⟨d,rfl,q⟩:=q1;cases r1;exact aN ⟨H1,I1,q⟩
variable {tA u4:TT}{rest:List aL}
def tAnd (t u:TT):TT:=fun Z H Q=>t Z H λc H1=>if c=true then u Z H1 Q else Q false H1
def tOr (t u:TT):TT:=fun Z H Q=>t Z H λc H1=>if c=true then Q true H1 else u Z H1 Q
def tNot (t:TT):TT:=fun Z H Q=>t Z H λc H1=>Q (!c) H1
def Dx(ha:PT X a tA):PW X (.BoolOp .And [a] pos) tA:=by
 intro wh pins s Z H Q I h;refine CA (thn (ha pins s Z H Q I h) λc s1 e=>?_);cases c with
 | true=>exact isTrue_and_nil e
 | false=>exact e
def Fu(ha:PT X a tA):PW X (.BoolOp .Or [a] pos) tA:=by
 intro wh pins s Z H Q I h;refine LO (thn (ha pins s Z H Q I h) λc s1 e=>?_);cases c with
 | false=>exact isTrue_or_nil e
 | true=>exact e
def Dy(ha:PT X a tA)(hb:PW X (.BoolOp .And (b::rest) pos) u4):PW X (.BoolOp .And (a::b::rest) pos) (tAnd tA u4):=by
 intro wh pins s Z H Q I h;refine CA (thn (ha pins s Z H _ I h) λc s1 ⟨H1,I1,q1⟩=>?_);cases c with
 | true=>exact hb wh pins s1 Z H1 Q I1 q1
 | false=>exact⟨H1,I1,q1⟩
def pw_or(ha:PT X a tA)(hb:PW X (.BoolOp .Or (b::rest) pos) u4):PW X (.BoolOp .Or (a::b::rest) pos) (tOr tA u4):=by
 intro wh pins s Z H Q I h;refine LO (thn (ha pins s Z H _ I h) λc s1 ⟨H1,I1,q1⟩=>?_);cases c with
 | true=>exact⟨H1,I1,q1⟩
 | false=>exact hb wh pins s1 Z H1 Q I1 q1
def pt_not(ha:PT X a tA):PT X (.UnaryOp .Not a pos) (tNot tA):=by
 k_ne;exact isTrue_not (ha pins s Z H (λc H1=>Q (!c) H1) I h)
def Xg9 (ta tb:TE):TE:=fun Z H Q=>ta Z H λx H1=>∃c,x = .bl c/\if c=true then tb Z H1 Q else Q (.bl false) H1
def tOrV (ta tb:TE):TE:=fun Z H Q=>ta Z H λx H1=>∃c,x = .bl c/\if c=true then Q (.bl true) H1 else tb Z H1 Q
def Xha (ta:TE):TE:=fun Z H Q=>ta Z H λx H1=>∃c,x = .bl c/\Q (.bl (!c)) H1
def Ko  (h:PE X a t):PE X (.BoolOp op [a] pos) t:=λpins s Z H Q I hw=>BoolOp_one (h pins s Z H Q I hw)
def Xae(ha:PE X a ta)(hb:PE X (.BoolOp .And (b::rest) pos) tb):PE X (.BoolOp .And (a::b::rest) pos) (Xg9 ta tb):=by
 k_ne;refine BoolOp_and (thn (ha pins s Z H _ I h) λv s1 ⟨x,H1,I1,r1,q1⟩=>?_);obtain⟨c,rfl,q1⟩:=q1;cases r1;refine aN ?_;cases c with
 | true=>exact hb pins s1 Z H1 Q I1 q1
 | false=>exact⟨.bl false,H1,I1,rfl,q1⟩
def Xhb(ha:PE X a ta)(hb:PE X (.BoolOp .Or (b::rest) pos) tb):PE X (.BoolOp .Or (a::b::rest) pos) (tOrV ta tb):=by
 k_ne;refine BoolOp_or (thn (ha pins s Z H _ I h) λv s1 ⟨x,H1,I1,r1,q1⟩=>?_);obtain⟨c,rfl,q1⟩:=q1;cases r1;refine aN ?_;cases c with
 | false=>exact hb pins s1 Z H1 Q I1 q1
 | true=>exact⟨.bl true,H1,I1,rfl,q1⟩
def Xhc(ha:PE X a ta):PE X (.UnaryOp .Not a pos) (Xha ta):=by
 k_ne;refine UnaryOp_ (thn (ha pins s Z H _ I h) λv s1 ⟨x,H1,I1,r1,q1⟩=>?_);obtain⟨c,rfl,q1⟩:=q1;cases r1;exact not_of (aN ⟨.bl (!c),H1,I1,rfl,q1⟩)
def tIf (t:TT) (ta tb:TE):TE:=fun Z H Q=>t Z H λc H1=>if c=true then ta Z H1 Q else tb Z H1 Q
def Gp(hc:PT X c tA)(ha:PE X a ta)(hb:PE X b tb):PE X (.IfExp c a b pos) (tIf tA ta tb):=by
 k_ne;refine wpAny_IfExp (thn (hc pins s Z H _ I h) λd s1 ⟨H1,I1,q1⟩=>?_);cases d with
 | true=>exact ha pins s1 Z H1 Q I1 q1
 | false=>exact hb pins s1 Z H1 Q I1 q1
end
def SqL (K:NO) (H:Hp) (a:ae) (xs:List V):Prop:=
 Rd H a (.lst xs) \/
  ∃(o:aM) (aB:Array aa) (n:Nat),K.lookup a=some o/\o.cls = .type "list" /\ o.dict=none/\o.data = .seq aB n/\aB.size<=sizeLine/\Vals xs aB.toList
def SqT (K:NO) (H:Hp) (a:ae) (xs:List V):Prop:=
 Rd H a (.tup xs) \/
  ∃(o:aM) (aB:Array aa) (n:Nat),K.lookup a=some o/\o.cls = .type "tuple" /\ o.data = .seq aB n/\aB.size<=sizeLine/\Vals xs aB.toList
def absV:aa->Option V
 | .none=>some .non
 | .bool b=>some (.bl b)
 | .int i _=>some (.int i)
 | .str x _=>some (.str x)
 | .bytes b _=>some (.byt b)
 | .float b _=>some (.flt b)
 | .ref a=>some (.ref a)
 | .type n=>some (.ty n)
 | _=>none
def Ae.abs  (r:Ae x u):absV u=some x:=by
 cases x with
 | non=>cases r;rfl
 | bl _=>cases r;rfl
 | int _=>obtain⟨t,rfl⟩:=r;rfl
 | str _=>obtain⟨t,rfl⟩:=r;rfl
 | byt _=>obtain⟨t,rfl⟩:=r;rfl
 | flt _=>obtain⟨t,rfl⟩:=r;rfl
 | ref _=>cases r;rfl
 | ty _=>cases r;rfl
def Ae.inj{x y}(r:Ae x u)(q:Ae y u):x=y:=N5 (r.abs.symm.trans q.abs)
theorem Vals.inj:∀{xs ys:List V} {us:List aa},Vals xs us->Vals ys us->xs=ys
 | _,_,_,.nil,.nil=>rfl
 | _,_,_,.cons r t,.cons r' t'=>by rw[r.inj r',Vals.inj t t']
section
variable {X:Cx}{pins:List (ae×aM)}{Z:St}{H:Hp}{s:ah}{a:ae}{xs ys:List V}
def SqL.of{K}(h:H a=some (.lst xs)):SqL K H a xs:=.inl (.inl h)
def SqT.of{K}(h:H a=some (.tup xs)):SqT K H a xs:=.inl (.inl h)
def Inv.list(I:Inv X pins Z H s)(h:SqL X.K H a xs):∃aB:List aa,Vals xs aB/\PlainL s.heap a aB.toArray/\xs.length<=sizeLine:=by
 rcases h with h | ⟨o,aB,n,hk,hc,hd,hs,hz,r⟩
 ·obtain⟨z,aB,n,r,e⟩:=h.ok I.hok;exact⟨aB,r,⟨_,n,e,rfl,rfl,rfl⟩,z⟩
 ·refine⟨aB.toList,r,⟨o,n,I.kIn a o hk,hc,hd,by simpa using hs⟩,?_⟩;have e:=r.length;simp only[N1] at e
  lia
def Inv.tuple(I:Inv X pins Z H s)(h:SqT X.K H a xs):∃aB:List aa,Vals xs aB/\dA s.heap a aB.toArray/\xs.length<=sizeLine:=by
 rcases h with h | ⟨o,aB,n,hk,hc,hs,hz,r⟩
 ·obtain⟨z,aB,r,p⟩:=h.ok I.hok;exact⟨aB,r,p,z⟩
 ·refine⟨aB.toList,r,⟨o,I.kIn a o hk,hc,n,by simpa using hs⟩,?_⟩;have e:=r.length;simp only[N1] at e
  lia
def Inv.list_inj(I:Inv X pins Z H s)(h:SqL X.K H a xs)(h':SqL X.K H a ys):xs=ys:=by
 obtain⟨aB,r,⟨o,n,e,_,_,d⟩,_⟩:=I.list h;obtain⟨its',r',⟨o',n',e',_,_,d'⟩,_⟩:=I.list h';rw[e] at e';cases e';rw[d] at d';injection d' with d1 _
 have:aB=its':=by simpa using congrArg Array.toList d1
 subst this;exact r.inj r'
def Inv.tuple_inj(I:Inv X pins Z H s)(h:SqT X.K H a xs)(h':SqT X.K H a ys):xs=ys:=by
 obtain⟨aB,r,⟨o,e,_,n,d⟩,_⟩:=I.tuple h;obtain⟨its',r',⟨o',e',_,n',d'⟩,_⟩:=I.tuple h';rw[e] at e';cases e';rw[d] at d';injection d' with d1 _
 have:aB=its':=by simpa using congrArg Array.toList d1
 subst this;exact r.inj r'
end
abbrev Cx.wish (X:Cx) (E:Zb):Cx:={X with xe:=E}
abbrev Cx.nox (X:Cx):Cx:=X.wish λ_ _=>False
def Cx.Ok.wish{X:Cx}(ok:X.Ok)(E):(X.wish E).Ok:=
 ⟨ok.mod,ok.kind,ok.glob,ok.blt,ok.above,ok.inj,ok.has,ok.cab,ok.hd,ok.frames,ok.stk,ok.exf,ok.bs,ok.bsz,ok.noex,ok.exfs,ok.funs,ok.frf⟩
def Cx.Ok.unwish{X:Cx}(ok:(X.wish E).Ok):X.Ok:=
 ⟨ok.mod,ok.kind,ok.glob,ok.blt,ok.above,ok.inj,ok.has,ok.cab,ok.hd,ok.frames,ok.stk,ok.exf,ok.bs,ok.bsz,ok.noex,ok.exfs,ok.funs,ok.frf⟩
section
variable {X:Cx}{pins:List (ae×aM)}{Z:St}{H:Hp}{s:ah}{E:Zb}
def Inv.wish(I:Inv X pins Z H s)(E):Inv (X.wish E) pins Z H s:=⟨I.ok.wish E,I.os,I.bare,I.base,I.loc,I.cell,I.free,I.freeC,I.pin,I.hok,I.len⟩
def Inv.unwish(I:Inv (X.wish E) pins Z H s):Inv X pins Z H s:=⟨I.ok.unwish,I.os,I.bare,I.base,I.loc,I.cell,I.free,I.freeC,I.pin,I.hok,I.len⟩
def SP.unwish   (h:SP (X.wish E) pins D f s'):SP X pins D f s':=by
 cases f with
 | next=>obtain⟨Z',H',I,q⟩:=h;exact⟨Z',H',I.unwish,q⟩
 | brk=>obtain⟨Z',H',I,q⟩:=h;exact⟨Z',H',I.unwish,q⟩
 | cont=>obtain⟨Z',H',I,q⟩:=h;exact⟨Z',H',I.unwish,q⟩
 | ret u=>obtain⟨v, Z',H',I,r,q⟩:=h;exact⟨v, Z',H',I.unwish,r,q⟩
def PSs.nox{st}(h:PSs X.nox st t):PSs X st t:=λpins s Z H D I hw=>
 aF (h pins s Z H D (I.wish _) hw) (λ_ _ q=>q.unwish) λ_ _ z=>False.elim z
end
section
variable {X:Cx}{st:aP}{rest:List aP}{t u:TS}{e:aL}{te:TE}{pos:cF}
def Kp:TS:=λD Z H=>D.nx Z H
def Gq (t u:TS):TS:=λD Z H=>t {D with nx:=u D} Z H
def A7:PSs X [] Kp:=λ_ _ Z H _ I h=>dB ⟨Z,H,I,h⟩
def Ac(h1:PS X st t)(h2:PSs X rest u):PSs X (st::rest) (Gq t u):=by
 k_mem;refine oE (thn (h1 pins s Z H {D with nx:=u D} I h) λf s1 q=>?_);cases f with
 | next=>
  obtain⟨Z',H',I',q⟩:=q;exact h2 pins s1 Z' H' D I' q
 | ret v=>exact q
 | brk=>exact q
 | cont=>exact q
def Ad(h1:PS X st t):PSs X [st] t:=by
 k_mem;refine oE (thn (h1 pins s Z H D I h) λf s1 q=>?_);cases f with
 | next=>exact dB q
 | ret v=>exact q
 | brk=>exact q
 | cont=>exact q
def Inv.quiet    (I:Inv X pins Z H s):interactive X.env=false:=by simp[interactive,I.ok.kind]
def Xaf (te:TE):TS:=λD Z H=>te Z H λ_ H1=>D.nx Z H1
def Dz(he:PE X e te)(hs:cV e none pos.line X.env=pure false:=by rfl):PS X (.Expr e pos) (Xaf te):=by
 k_mem;exact wpAny_Expr_any (thn (he pins s Z H _ I h) λv s1 ⟨x,H1,I1,r1,q1⟩=>⟨Z,H1,I1,q1⟩) I.quiet hs
def Xag (te:TE):TS:=λD Z H=>te Z H D.rt
def An(he:PE X e te):PS X (.Return (some e) pos) (Xag te):=by
 k_mem;exact wpAny_Return_some (thn (he pins s Z H _ I h) λv s1 ⟨x,H1,I1,r1,q1⟩=>⟨x, Z,H1,I1,r1,q1⟩)
def Xah (c:TT) (t u:TS):TS:=λD Z H=>c Z H λb H1=>if b=true then t D Z H1 else u D Z H1
def A4   (hc:PT X c tc) (ha:PSs X a t) (hb:PSs X b u):PS X (.If c a b pos) (Xah tc t u):=by
 k_mem;refine wpAny_If (thn (hc pins s Z H _ I h) λd s1 ⟨H1,I1,q1⟩=>?_);cases d with
 | true=>exact ha pins s1 Z H1 D I1 q1
 | false=>exact hb pins s1 Z H1 D I1 q1
def Xr9:TS:=λ_ _ _=>False
end
abbrev TG:=V->St->Hp->(St->Hp->Prop)->Prop
abbrev TGs:=List V->St->Hp->(St->Hp->Prop)->Prop
def PG (X:Cx) (oF:aL) (t:TG):Prop:=
 ∀pins s Z H (v:V) (u:aa) (Q:St->Hp->Prop),Inv X pins Z H s->Ae v u->t v Z H Q ->
  af (ag X.prog X.w) X.A (assign oF X.env u) (λ_ s'=>∃Z' H',Inv X pins Z' H' s'/\Q Z' H') X.xe s
def PGs (X:Cx) (ts:List aL) (t:TGs):Prop:=
 ∀pins s Z H (vs:List V) (us:List aa) (Q:St->Hp->Prop),Inv X pins Z H s->Vals vs us->t vs Z H Q ->
  af (ag X.prog X.w) X.A (assignInOrder ((bG ts X.env).map (·.2)) us) (λ_ s'=>∃Z' H',Inv X pins Z' H' s'/\Q Z' H') X.xe s
abbrev TSet:=V->V->V->Hp->(Hp->Prop)->Prop
def PSet (X:Cx) (t:TSet):Prop:=
 ∀pins s Z H (o i v:V) (ov iv u:aa) (Q:Hp->Prop),Inv X pins Z H s->Ae o ov->Ae i iv->Ae v u->t o i v H Q ->
  af (ag X.prog X.w) X.A (vn ov iv u) (λ_ s'=>∃H',Inv X pins Z H' s'/\Q H') X.xe s
abbrev TIp:=V->V->Hp->VK->Prop
section
variable {X:Cx}{pos:cF}
def A2 (i:Nat):TG:=λv Z H Q=>Q (Z.set i (some v)) H
def Aw{i:Nat}(hN:X.N.Nodup)(hi:X.N[i]? = some x)(hx:Loc X.env.scope x)(hf:X.fn x=true\/X.env.scope.names.lookup x=some .local:=by first | exact .inl rfl | exact .inr rfl | assumption):PG X (.Name x pos) (A2 i):=by
 intro pins s Z H v u Q I r h;exact nP (Xab I hN hi hx r (λs' I'=>⟨_,H,I',h⟩) hf)
def Xai:TGs:=λvs Z H Q=>vs=[]/\Q Z H
def Kq (t:TG) (u:TGs):TGs:=λvs Z H Q=>∃v r,vs=v::r/\t v Z H fun Z' H'=>u r Z' H' Q
def Gr:PGs X [] Xai:=by
 intro pins s Z H vs us Q I r h;obtain⟨e,h⟩:=h;subst e;cases r;exact assignInOrder_nil ⟨Z,H,I,h⟩
def C5    (h1:PG X e t) (h2:PGs X es u)
  (hs:(bG (e::es) X.env).map (·.2)=assign e X.env::(bG es X.env).map (·.2):=by rfl):PGs X (e::es) (Kq t u):=by
 intro pins s Z H vs us Q I r h;obtain⟨v,vr,e1,h⟩:=h;subst e1;cases r with
 | cons r rr=>
  rw[hs];refine assignInOrder_cons (thn (h1 pins s Z H _ _ _ I r h) λ_ s1 ⟨Z1,H1,I1,q1⟩=>?_);exact h2 pins s1 Z1 H1 _ _ Q I1 rr q1
def Kr (K:NO) (n:Nat) (t:TGs):TG:=λv Z H Q=>∃a xs,v = .ref a/\SqT K H a xs/\xs.length=n/\t xs Z H Q
def Xaj   {n:Nat} (hc:X.calm=true) (h:PGs X es t)
  (hn:(bG es X.env).length=n:=by rfl) (bH:(bG es X.env).findIdx? (·.1)=none:=by rfl):PG X (.Tuple es k pos) (Kr X.K n t):=by
 intro pins s Z H v u Q I r hw;obtain⟨a,xs,e1,hq,hl,hw⟩:=hw;subst e1;cases r;obtain⟨aB,rv,ht,hz⟩:=I.tuple hq;refine assign_Tuple_tuple (I.ok.hd hc) ht (by simp[hn,<-hl,rv.length]) bH λh' hx=>?_;have I1:Inv X pins Z H {s with heap:=h'}:=I.kept (t':=s.toks) λb o e=>hx b o (Nz (S7 e)) e;exact h pins _ Z H xs _ Q I1 (by simpa using rv) hw
def gSub (to ti:TE) (t:TSet):TG:=λv Z H Q=>to Z H λo H1=>ti Z H1 λi H2=>t o i v H2 λH3=>Q Z H3
def E3   (ho:PE X o to) (hi:PE X i ti) (hs:PSet X t)
  (ha:∀v,assign (.Subscript o i pos) X.env v=(do
   let ov <-holding [v] (eval o X.env)
   let iv <-holding [v,ov] (eval i X.env)
   dh pos
   holding [v,ov,iv] (vn ov iv v)
   release [v,ov,iv] []):=by intro _;rfl):PG X (.Subscript o i pos) (gSub to ti t):=by
 intro pins s Z H v u Q I r h;rw[ha];refine Sr (aw (thn (ho pins s Z H _ I h) λov s1 ⟨x,H1,I1,r1,q1⟩=>?_));refine Sr (aw (thn (hi pins s1 Z H1 _ I1 q1) λiv s2 ⟨y,H2,I2,r2,q2⟩=>?_));refine Sr (aU (Sr (aw (thn (hs pins s2 Z H2 x y v ov iv u _ I2 r1 r2 r q2) λ_ s3 ⟨H3,I3,q3⟩=>?_))));exact wpAny_release ⟨Z,H3,I3,q3⟩
def Ks (te:TE) (g:TG):TS:=λD Z H=>te Z H λx H1=>g x Z H1 D.nx
def Eg   (he:PE X e te) (hg:PG X tg g) (hs:swapsWithSole [tg] e pos.line X.env=pure false:=by rfl) (hw:swappedStores [tg] e X.env=pure none:=by rfl)
  (h1:(bG [tg] X.env).map (·.2)=[assign tg X.env]:=by rfl):PS X (.Assign [tg] e pos) (Ks te g):=by
 k_mem;refine wpAny_Assign_stores (thn (he pins s Z H _ I h) λv s1 ⟨x,H1,I1,r1,q1⟩=>?_) hs hw;rw[h1];exact thn (hg pins s1 Z H1 x v _ I1 r1 q1) λ_ s2 q=>q
def Ak{i:Nat}    (hN:X.N.Nodup)(hi:X.N[i]? = some x)(hx:Loc X.env.scope x)(he:PE X e te)(hs:cV e (some (.Name x iz)) pos.line X.env=pure false:=by rfl)(hf:X.fn x=true\/X.env.scope.names.lookup x=some .local:=by first | exact .inl rfl | exact .inr rfl | assumption):
  PS X (.Assign [.Name x iz] e pos) (Ks te (A2 i)):=by
 k_mem;refine wpAny_Assign_Name (thn (he pins s Z H _ I h) λv s1 ⟨y,H1,I1,r1,q1⟩=>?_) hs;exact Xab I1 hN hi hx r1 (λs2 I2=>⟨_,H1,I2,q1⟩) hf
def tPar (i j:Nat) (ta:TA):TS:=λD Z H=>ta Z H λvs H1=>∃v w,vs=[v,w]/\D.nx ((Z.set i (some v)).set j (some w)) H1
def tAug (i:Nat) (te:TE) (ti:TIp):TS:=λD Z H=>∃x, Z[i]? = some (some x)/\te Z H λy H1=>ti x y H1 λz H2=>D.nx (Z.set i (some z)) H2
def tAugS (to ti te:TE) (vo:V->V->Hp->VK->Prop) (CB:TIp) (vp:TSet):TS:=λD Z H=>to Z H λo H1=>ti Z H1 λi H2=>vo o i H2 λx H3=>te Z H3 λy H4=>CB x y H4 λz H5=>vp o i z H5 λH6=>D.nx Z H6
def PGet (X:Cx) (t:V->V->Hp->VK->Prop):Prop:=
 ∀pins s Z H (o i:V) (ov iv:aa) (Q:VK),Inv X pins Z H s->Ae o ov->Ae i iv->t o i H Q ->
  af (ag X.prog X.w) X.A (cf ov iv) (EP X pins Z Q) X.xe s
def ipI (f:Int->Int->Int):TIp:=λx y H Q=>∃i j,x = .int i/\y = .int j/\Q (.int (f i j)) H
end
section
variable {X:Cx}{pos:cF}
def Xsa (c:TT) (tb:TS):TS:=λD Z H=>∃W:Nat->St->Hp->Prop,(∃m,W m Z H)/\∀m Z H,W m Z H ->
 c Z H λb H1=>if b=true then ∃N:St->Hp->Prop,(∀Z' H',N Z' H'->∃m',m'<m/\W m' Z' H')/\tb {D with nx:=N,ct:=N,bk:=D.nx} Z H1 else D.nx Z H1
end
structure It where
 go:Nat->Hp->Prop
 yld:Nat->Hp->V->Hp->Prop
 stop:Nat->Hp->Prop
def FpOk (X:Cx) (pins:List (ae×aM)) (H:Hp) (b:ae):Prop:=
 H b=none/\b≠X.env.locals/\b∉X.fs/\(b∈X.ex\/X.s₀.heap.objs.size<=b)/\(∀x c,X.env.cells.lookup x=some c->c≠b)/\∀p∈X.pn++pins,p.1≠b
def Inv.fpOk      (I:Inv X pins Z H s) (hb:s.heap.objs.size<=b) (hn:H' b=none):FpOk X pins H' b:=by
 refine⟨hn,Qw (Oc I.lt hb),I.nofs hb,.inr (Oq I.sz hb),λx c e z=>?_,λp hp z=>?_⟩
 ·obtain⟨v,q⟩:=I.cell x c e;exact absurd (Oc q.lt (by rw[z];exact hb)) (Ox _)
 ·exact absurd (Oc (S7 (I.pin p hp).1) (by rw[z];exact hb)) (Ox _)
structure Turn (P:ar) (w:aA) (K:NO) (tg:aL) (J:It) (fp:List ae) (it:ae) (tn:Nat->ak->Prop):Prop where
 mem:it∈fp
 obj:∀i h,tn i h->∀b∈fp,∃o,h.get? b=some o/\∀v,o.data ≠ .cell v
 keep:∀i h h',tn i h->(∀b∈fp,∀o,h.get? b=some o->h'.get? b=some o)->tn i h'
 item:∀(X:Cx),X.prog=P->X.w=w->X.K=K->X.calm=true->∀(i:Nat) (pins:List (ae×aM)) (s:ah) (Z:St) (H:Hp) (E:Zb),Inv X pins Z H s->(∀b∈fp,FpOk X pins H b)->tn i s.heap->J.go i H ->
  af (ag P w) X.A (dm (.ref it)) (λr s1=>∃u,r=some u /\
   af (ag P w) X.A (c8 tg (.ref it) u) (λ_ s2=>∃x H',Inv X pins Z H' s2/\Ae x u/\J.yld i H x H'/\tn (i+1) s2.heap/\∀b∈fp,H' b=none) E s1) E s
 done:∀(X:Cx),X.prog=P->X.w=w->X.K=K->X.calm=true->∀(i:Nat) (pins:List (ae×aM)) (s:ah) (Z:St) (H:Hp) (E:Zb),Inv X pins Z H s->(∀b∈fp,FpOk X pins H b)->tn i s.heap->J.stop i H ->
  af (ag P w) X.A (dm (.ref it)) (λr s1=>r=none/\Inv X pins Z H s1) E s
 self:∀(A:av) (i:Nat) (s:ah) (Q:Zb) (E:Zb),tn i s.heap->Q (.ref it) s->af (ag P w) A (g7 (.ref it)) Q E s
abbrev TI:=St->Hp->(It->Hp->Prop)->Prop
def PIE (X:Cx) (pins:List (ae×aM)) (Z:St) (tg:aL) (R:It->Hp->Prop) (nQ:aa) (s2:ah):Prop:=
 ∃(it:ae) (fp:List ae) (tn:Nat->ak->Prop) (J:It) (H':Hp),nQ = .ref it/\Inv X pins Z H' s2/\Turn X.prog X.w X.K tg J fp it tn/\tn 0 s2.heap/\(∀b∈fp,FpOk X pins H' b)/\R J H'
def PI (X:Cx) (tg iter:aL) (wi:TI):Prop:=
 ∀pins s Z H (R:It->Hp->Prop),Inv X pins Z H s->wi Z H R ->
  af (ag X.prog X.w) X.A (eval iter X.env) (λv s1=>af (ag X.prog X.w) X.A (g7 v) (PIE X pins Z tg R) X.xe s1) X.xe s
def Hz    {s}     {n}  (ho:s.heap.get? it=some o) (hc:o.cls = .type n) (hd:o.data = .fields vs)
    (hn:["enumerate", "zip", "dict_itemiterator", "dict_reverseitemiterator", "odict_iterator", "itertools.zip_longest", "itertools.pairwise"].contains n=false) (hQ:Q () s):af M A (c8 tg (.ref it) u) Q E s:=by
  unfold c8;cases tg<;>first
    | exact Ss hQ
    | (cases u<;>first
        | exact Ss hQ
        | (refine Sr (mh ho ?_)
           rw[hc,hd];show af M A (if (["enumerate", "zip", "dict_itemiterator", "dict_reverseitemiterator", "odict_iterator", "itertools.zip_longest", "itertools.pairwise"].contains n&&vs[0]? == some (aO _))=true then _ else _) Q E s;rw[Sx (by intro h;rw[hn,Pf] at h;cases h)];exact Ss hQ))
def Itl (K:NO) (a:ae):It:=
 ⟨λi H=>∃xs x,SqL K H a xs/\xs[i]? = some x,λi H x H'=>H'=H/\∀xs,SqL K H a xs->xs[i]? = some x,λi H=>∃xs,SqL K H a xs/\xs.length<=i⟩
def Itt (K:NO) (a:ae):It:=
 ⟨λi H=>∃xs x,SqT K H a xs/\xs[i]? = some x,λi H x H'=>H'=H/\∀xs,SqT K H a xs->xs[i]? = some x,λi H=>∃xs,SqT K H a xs/\xs.length<=i⟩
def Itr (lo:Int) (n:Nat):It:=⟨λi _=>i<n,λi H x H'=>H'=H/\x = .int (lo+i),λi _=>n<=i⟩
def Xhd{P:ar}{w:aA}{K:NO}{tg:aL}(a it:ae):Turn P w K tg (Itl K a) [it] it (λi h=>h.IsListIter it a i) where
 mem:=by simp
 obj:=λi h st b hb=>by
  have e:b=it:=by simpa using hb
  subst e;obtain⟨o,e,c,d⟩:=st;exact⟨o,e,λv z=>by rw[d] at z;cases z⟩
 keep:=λi h h' st k=>st.at λo e=>k it (by simp) o e
 item:=by
  kd_p;obtain⟨xs,x,hq,hx⟩:=hg;obtain⟨aB,rv,p,hz⟩:=I.list hq;obtain⟨u,hu,ru⟩:=rv.get hx;f_are;refine wpAny_pyNext_list_item st p.isList (x:=u) (by simpa using hu) λh' aD sb=>?_;k_one;obtain⟨o,e,c,d⟩:=id aD;exact⟨u,rfl,Hz (s:={s with heap:=h'}) e c d (by decide) ⟨x,H,I1,ru,⟨rfl,λys hy=>by rw[I.list_inj hy hq];exact hx⟩,aD,λb hb=>(hf b hb).1⟩⟩
 done:=by
  kd_p;obtain⟨xs,hq,hx⟩:=hg;obtain⟨aB,rv,p,hz⟩:=I.list hq;f_are;have hl:=rv.length;exact wpAny_pyNext_list_end (I.ok.hd hc) st p.isList (by simp;lia) λh' eb=>⟨rfl,I.turned (t':=s.toks) (λb o hb e=>eb b o hb e) f0 f1 f3 f4 f5⟩
 self:=λ_ _ _ _ _ st h=>wpAny_pyIter_listiter st h
def Xhe{P:ar}{w:aA}{K:NO}{tg:aL}(a it:ae):Turn P w K tg (Itt K a) [it] it (λi h=>h.IsTupleIter it a i) where
 mem:=by simp
 obj:=λi h st b hb=>by
  have e:b=it:=by simpa using hb
  subst e;obtain⟨o,e,c,d⟩:=st;exact⟨o,e,λv z=>by rw[d] at z;cases z⟩
 keep:=λi h h' st k=>st.at λo e=>k it (by simp) o e
 item:=by
  kd_p;obtain⟨xs,x,hq,hx⟩:=hg;obtain⟨aB,rv,p,hz⟩:=I.tuple hq;obtain⟨u,hu,ru⟩:=rv.get hx;f_are;refine wpAny_pyNext_tuple_item st (show s.heap.IsTuple a aB.toArray from p) (x:=u) (by simpa using hu) λh' aD sb=>?_;k_one;obtain⟨o,e,c,d⟩:=id aD;exact⟨u,rfl,Hz (s:={s with heap:=h'}) e c d (by decide) ⟨x,H,I1,ru,⟨rfl,λys hy=>by rw[I.tuple_inj hy hq];exact hx⟩,aD,λb hb=>(hf b hb).1⟩⟩
 done:=by
  kd_p;obtain⟨xs,hq,hx⟩:=hg;obtain⟨aB,rv,p,hz⟩:=I.tuple hq;f_are;have hl:=rv.length;exact wpAny_pyNext_tuple_end (I.ok.hd hc) st (show s.heap.IsTuple a aB.toArray from p) (by simp;lia) λh' eb=>⟨rfl,I.turned (t':=s.toks) (λb o hb e=>eb b o hb e) f0 f1 f3 f4 f5⟩
 self:=λ_ _ _ _ _ st h=>wpAny_pyIter_tupleiter st h
def Xhf{P:ar}{w:aA}{K:NO}{tg:aL}(it:ae)(lo:Int)(n:Nat):Turn P w K tg (Itr lo n) [it] it (λi h=>yX h it (lo+(i:Nat) * 1) ((n:Int) - (i:Nat)) 1) where
 mem:=by simp
 obj:=λi h st b hb=>by
  have e:b=it:=by simpa using hb
  subst e;exact⟨_,st,λv z=>by
   have z':rB.fields _=rB.cell v:=z;cases z'⟩
 keep:=λi h h' st k=>k it (by simp) _ st
 item:=by
  kd_p;f_are;have W:=ki.range (prog:=X.prog) (w:=X.w) (I.ok.hd hc) it lo 1 n;refine W.item i s _ _ hg st λv h' tk hv aD kk=>?_;obtain⟨t,rfl⟩:=hv;have I1:Inv X pins Z H {s with heap:=h',toks:=tk}:=I.turned (λb o hb e=>kk b o (by simpa using hb) e) f0 f1 f3 f4 f5;refine⟨_,rfl,Hz (s:={s with heap:=h',toks:=tk}) (n := "range_iterator") aD rfl rfl (by decide) ⟨.int (lo+i),H,I1,⟨t,?_⟩,⟨rfl,rfl⟩,aD,λb hb=>(hf b hb).1⟩⟩;rw[Int.mul_one]
 done:=by
  kd_p;f_are;exact wpAny_pyNext_range_end (I.ok.hd hc) st (by have:n<=i:=hg;lia) λh' eb=>⟨rfl,I.turned (t':=s.toks) (λb o hb e=>eb b o hb e) f0 f1 f3 f4 f5⟩
 self:=λ_ _ _ _ _ st h=>wpAny_pyIter_rangeiter st h
section
variable {X:Cx}{tg:aL}
def Xhg (K:NO) (tl:TE):TI:=fun Z H R=>tl Z H λx H1=>∃a,x = .ref a/\(∃xs,SqL K H1 a xs)/\R (Itl K a) H1
def iTup (K:NO) (tl:TE):TI:=fun Z H R=>tl Z H λx H1=>∃a,x = .ref a/\(∃xs,SqT K H1 a xs)/\R (Itt K a) H1
def Bt  (hl:PE X l tl):PI X tg l (Xhg X.K tl):=by
 k_cls;obtain⟨a,e,⟨xs,hq⟩,q⟩:=q1;subst e;cases r1;obtain⟨aB,rv,p,hz⟩:=I1.list hq;refine cg p.isList ?_;refine⟨s1.heap.objs.size,[s1.heap.objs.size],_,_,H1,rfl,I1.kept (t':=s1.toks) λb o e=>S8 _ e,Xhd a _,⟨_,ak.get?_push_size _ rfl,rfl,rfl⟩,λb hb=>?_,q⟩;have e:b=s1.heap.objs.size:=by simpa using hb
 subst e;exact I1.fpOk (Nr _) (I1.hok.fresh (Nr _))
def Ia  (hl:PE X l tl):PI X tg l (iTup X.K tl):=by
 k_cls;obtain⟨a,e,⟨xs,hq⟩,q⟩:=q1;subst e;cases r1;obtain⟨aB,rv,p,hz⟩:=I1.tuple hq;refine mi (show s1.heap.IsTuple a aB.toArray from p) ?_;refine⟨s1.heap.objs.size,[s1.heap.objs.size],_,_,H1,rfl,I1.kept (t':=s1.toks) λb o e=>S8 _ e,Xhe a _,⟨_,ak.get?_push_size _ rfl,rfl,rfl⟩,λb hb=>?_,q⟩;have e:b=s1.heap.objs.size:=by simpa using hb
 subst e;exact I1.fpOk (Nr _) (I1.hok.fresh (Nr _))
def Xhh       {lo hi}  (I:Inv X pins Z H s) (h1 : -(2 ^ 62)<=lo) (h2:lo<2 ^ 62) (h3 : -(2 ^ 62)<=hi) (h4:hi<2 ^ 62)
  (q:R (Itr lo (hi - lo).toNat) H):af (ag X.prog X.w) X.A (g7 (.ref s.heap.objs.size)) (PIE X pins Z tg R) E {s with heap:=s.heap.push {cls:=.type "range",data:=.fields #[.int lo t,.int hi u,.int 1 v]},toks:=tk}:=by
 refine wpAny_pyIter_range (IsRange.new ..) (small_one h1 h2 h3 h4) ?_;have I1:Inv X pins Z H {s with heap:=s.heap.push {cls:=.type "range",data:=.fields #[.int lo t,.int hi u,.int 1 v]},toks:=tk}:=I.kept λb o e=>S8 _ e;refine⟨(s.heap.push {cls:=.type "range",data:=.fields #[.int lo t,.int hi u,.int 1 v]}).objs.size,[(s.heap.push {cls:=.type "range",data:=.fields #[.int lo t,.int hi u,.int 1 v]}).objs.size],_,_,H,rfl,
  I1.kept (t':=tk) λb o e=>S8 _ e,Xhf _ lo (hi - lo).toNat,?_,λb hb=>?_,q⟩
 ·have e1:lo+((0:Nat):Int) * 1=lo:=by simp
  have e2:(((hi - lo).toNat:Nat):Int) - ((0:Nat):Int)=aj.Range.rangeSize lo hi 1:=by rw[rangeSize_one];split<;>lia
  show yX _ _ (lo+((0:Nat):Int) * 1) ((((hi - lo).toNat:Nat):Int) - ((0:Nat):Int)) 1;rw[e1,e2];exact ak.get?_push_size _ rfl
 ·have e:b=(s.heap.push {cls:=.type "range",data:=.fields #[.int lo t,.int hi u,.int 1 v]}).objs.size:=by simpa using hb
  subst e;exact I1.fpOk (Nr _) (I1.hok.fresh (Nr _))
def Xhi (ta:TA):TI:=fun Z H R=>ta Z H λvs H1=>∃j:Int,vs=[.int j] /\ -(2 ^ 62)<=j/\j<2 ^ 62/\R (Itr 0 j.toNat) H1
def Ib   (hg:Gl X "range") (hm:X.mg "range" = none) (ha:PA X [a] ta) (hs:az [a] X.env=[(false,eval a X.env)]:=by rfl):PI X tg (.Call (.Name "range" p) [a] [] pos) (Xhi ta):=by
 intro pins s Z H R I h;refine Call_ (Ft I hg hm boot_range (PyProof.Rows.callWith_type1 (thn (ha pos pins s Z H _ I h) λus s1 ⟨vs,H1,I1,r1,q1⟩=>?_) hs rfl));obtain⟨j,e,q1,q2,q⟩:=q1;subst e;cases r1 with
 | cons r rr=>
  cases rr;obtain⟨t,rfl⟩:=r;exact call_range_1 (Xhh I1 (by lia) (by lia) q1 q2 (by simpa using q))
def tFor (wi:TI) (g:TG) (tb:TS):TS:=λD Z H=>wi Z H λJ H1=>∃W:Nat->Nat->St->Hp->Prop,(∃m,W 0 m Z H1)/\∀i m Z H,W i m Z H ->
 (J.stop i H/\D.nx Z H)\/(J.go i H/\∃N:St->Hp->Prop,(∀Z' H',N Z' H'->∃m',m'<m/\W (i+1) m' Z' H')/\∀x H',J.yld i H x H'->g x Z H' fun Z2 H2=>tb {D with nx:=N,ct:=N,bk:=D.nx} Z2 H2)
def Gs (fp:List ae) (h:ak):List (ae×aM):=fp.filterMap λb=>(h.get? b).map λo=>(b,o)
def Ie    (hb:b∈fp) (e:h.get? b=some o):(b,o)∈Gs fp h:=Qt.mpr ⟨b,hb,by rw[e];rfl⟩
def Xhj   (hp:p∈Gs fp h):p.1∈fp/\h.get? p.1=some p.2:=by
 obtain⟨b,hb,e⟩:=Qt.mp hp;cases q:h.get? b with
 | none=>rw[q] at e;cases e
 | some o=>
  rw[q] at e;have e':(b,o)=p:=N5 e;subst e';exact⟨hb,q⟩
def Inv.pinned     (I:Inv X pins Z H s) (hf:∀b∈fp,FpOk X pins H b) (ho:∀b∈fp,∃o,s.heap.get? b=some o/\∀v,o.data ≠ .cell v):Inv X (pins++Gs fp s.heap) Z H s:=
 I.pins_of λp hp=>(N0.mp hp).elim (λz=>I.pin p (Oo _ z)) λz=>by
  obtain⟨hb,e⟩:=Xhj z;obtain⟨f0,f1,f2,_⟩:=hf p.1 hb;obtain⟨o,e',d⟩:=ho p.1 hb;rw[e] at e';cases e';exact⟨e,f0,f1,f2,d⟩
def Inv.unpinned    (I:Inv X (pins++pl) Z H s):Inv X pins Z H s:=I.pins_of λp hp=>I.pin p (Oo _ (Pl _ hp))
def Ce      (hp:bj (ag X.prog X.w) X.A X.env X.xe) (hc:X.calm=true) (hi:PI X tg iter wi) (hg:PG X tg g) (hb:PSs X body tb)
  (hs:∀x,aI iter X.env x=pure x:=by intro _;rfl):PS X (.For tg iter body [] pos) (tFor wi g tb):=by
 k_mem;refine wpAny_For (thn (hi pins s Z H _ I h) λv s1 h1=>thn h1 λnQ s2 h2=>?_) hs;obtain⟨it,fp,tn,J,H2,e,I2,T,eE,f2,W,⟨m0,w0⟩,turn⟩:=h2;subst e;have i4:∀{H':Hp},(∀b∈fp,H' b=none)->∀b∈fp,FpOk X pins H' b:=λhn b hb=>⟨hn b hb,(f2 b hb).2⟩;refine codeAny_forLoop_any (λn s'=>∃i Z' H',Inv X pins Z' H' s'/\tn i s'.heap/\(∀b∈fp,H' b=none)/\W i n Z' H') ?_ m0 ⟨0, Z,H2,I2,eE,λb hb=>(f2 b hb).1,w0⟩;rintro n s3 ⟨i, Z3,H3,I3,qy,yY,w3⟩;rcases turn i n Z3 H3 w3 with ⟨stop,qn⟩ | ⟨go,N,hN,step⟩
 ·refine c9 hp (thn (T.done X rfl rfl rfl hc i pins s3 Z3 H3 X.xe I3 (i4 yY) qy stop) λr s4 ⟨hr,I4⟩=>?_);subst hr;exact dB ⟨Z3,H3,I4,qn⟩
 ·refine c9 hp (thn (T.item X rfl rfl rfl hc i pins s3 Z3 H3 X.xe I3 (i4 yY) qy go) λr s4 ⟨u,hr,h4⟩=>?_);subst hr;refine c9 hp (thn h4 λ_ s5 ⟨x,H5,I5,r5,y5,oG,vq⟩=>?_);have vt:=I5.pinned (i4 vq) (T.obj _ _ oG);refine c9 hp (thn (hg _ s5 Z3 H5 x u _ vt r5 (step x H5 y5)) λ_ s6 ⟨Z6,H6,I6,q6⟩=>?_);refine c9 hp (thn (hb _ s6 Z6 H6 _ I6 q6) λf s7 q7=>?_);have again:∀{Z7:St} {H7:Hp},Inv X (pins++Gs fp s5.heap) Z7 H7 s7->N Z7 H7->∃m,m<n/\∃i Z' H',Inv X pins Z' H' s7/\tn i s7.heap/\(∀b∈fp,H' b=none)/\W i m Z' H':=λ{Z7 H7} I7 n7=>by
   obtain⟨m',hm,w7⟩:=hN Z7 H7 n7;refine⟨m',hm,i+1, Z7,H7,I7.unpinned,T.keep _ _ _ oG λb hb o e=>(I7.pin (b,o) (Oo _ (Oo _ (Ie hb e)))).1,λb hb=>?_,w7⟩;obtain⟨o,e,d⟩:=T.obj _ _ oG b hb;exact(I7.pin (b,o) (Oo _ (Oo _ (Ie hb e)))).2.1
  cases f with
  | next=>obtain⟨Z7,H7,I7,n7⟩:=q7;exact again I7 n7
  | cont=>obtain⟨Z7,H7,I7,n7⟩:=q7;exact again I7 n7
  | brk=>obtain⟨Z7,H7,I7,q7⟩:=q7;exact⟨Z7,H7,I7.unpinned,q7⟩
  | ret v=>obtain⟨x7, Z7,H7,I7,r7,q7⟩:=q7;exact⟨x7, Z7,H7,I7.unpinned,r7,q7⟩
end
def Dh{K}{a}{xs}{g:TG}{tb:TS}{D:Ends}  (Pv:Nat->St->Hp->Prop)(h0:Pv 0 Z H)(hl:∀i Z H,i<=xs.length->Pv i Z H->SqL K H a xs)
  (hs:∀i x Z H,xs[i]? = some x->Pv i Z H->g x Z H fun Z2 H2=>tb {D with nx:=Pv (i+1),ct:=Pv (i+1),bk:=D.nx} Z2 H2) (hd:∀Z H,Pv xs.length Z H->D.nx Z H):
  ∃W:Nat->Nat->St->Hp->Prop,(∃m,W 0 m Z H)/\∀i m Z H,W i m Z H ->
   ((Itl K a).stop i H/\D.nx Z H)\/((Itl K a).go i H/\∃N:St->Hp->Prop,(∀Z' H',N Z' H'->∃m',m'<m/\W (i+1) m' Z' H')/\∀x H',(Itl K a).yld i H x H'->g x Z H' fun Z2 H2=>tb {D with nx:=N,ct:=N,bk:=D.nx} Z2 H2):=by
 refine⟨λi m Z H=>m=xs.length - i/\i<=xs.length/\Pv i Z H,⟨xs.length,by simp,Ou _,h0⟩,?_⟩;rintro i m Z H ⟨rfl,hi,p⟩;have q:=hl i Z H hi p;by_cases b7:i<xs.length
 ·refine .inr ⟨⟨xs,xs[i],q,by simp[b7]⟩,Pv (i+1),fun Z' H' p'=>⟨xs.length - (i+1),by lia,rfl,b7,p'⟩,λx H' y=>?_⟩;obtain⟨e,y⟩:=y;subst e;exact hs i x Z _ (y xs q) p
 ·have e:i=xs.length:=by lia
  subst e;exact .inl ⟨⟨xs,q,Nr _⟩,hd Z H p⟩
def Ig{lo}{n}{g:TG}{tb:TS}{D:Ends}  (Pv:Nat->St->Hp->Prop)(h0:Pv 0 Z H)
  (hs:∀i Z H,i<n->Pv i Z H->g (.int (lo+i)) Z H fun Z2 H2=>tb {D with nx:=Pv (i+1),ct:=Pv (i+1),bk:=D.nx} Z2 H2) (hd:∀Z H,Pv n Z H->D.nx Z H):
  ∃W:Nat->Nat->St->Hp->Prop,(∃m,W 0 m Z H)/\∀i m Z H,W i m Z H ->
   ((Itr lo n).stop i H/\D.nx Z H)\/((Itr lo n).go i H/\∃N:St->Hp->Prop,(∀Z' H',N Z' H'->∃m',m'<m/\W (i+1) m' Z' H')/\∀x H',(Itr lo n).yld i H x H'->g x Z H' fun Z2 H2=>tb {D with nx:=N,ct:=N,bk:=D.nx} Z2 H2):=by
 refine⟨λi m Z H=>m=n - i/\i<=n/\Pv i Z H,⟨n,by simp,Ou _,h0⟩,?_⟩;rintro i m Z H ⟨rfl,hi,p⟩;by_cases b7:i<n
 ·refine .inr ⟨b7,Pv (i+1),fun Z' H' p'=>⟨n - (i+1),by lia,rfl,b7,p'⟩,λx H' y=>?_⟩;obtain⟨e,y⟩:=y;subst e y;exact hs i Z _ b7 p
 ·have e:i=n:=by lia
  subst e;exact .inl ⟨Nr _,hd Z H p⟩
abbrev R2:=V->V->Hp->VK->Prop
def OpR (X:Cx) (f:aa->aa->fT aa) (r:R2):Prop:=
 ∀pins s Z H (x y:V) (v u:aa) (Q:VK),Inv X pins Z H s->Ae x v->Ae y u->r x y H Q ->
  af (ag X.prog X.w) X.A (f v u) (EP X pins Z Q) X.xe s
def UnR (X:Cx) (f:aa->fT aa) (r:V->Hp->VK->Prop):Prop:=
 ∀pins s Z H (x:V) (v:aa) (Q:VK),Inv X pins Z H s->Ae x v->r x H Q ->
  af (ag X.prog X.w) X.A (f v) (EP X pins Z Q) X.xe s
def Bh (X:Cx) (f:aa) (r:List V->Hp->VK->Prop):Prop:=
 ∀pins s Z H (xs:List V) (us:List aa) (Q:VK),Inv X pins Z H s->Vals xs us->r xs H Q ->
  af (ag X.prog X.w) X.A (call f us) (EP X pins Z Q) X.xe s
def TruR (X:Cx) (r:V->Hp->(Bool->Hp->Prop)->Prop):Prop:=
 ∀pins s Z H (x:V) (v:aa) (Q:Bool->Hp->Prop),Inv X pins Z H s->Ae x v->r x H Q ->
  af (ag X.prog X.w) X.A (truthy v) (TP X pins Z Q) X.xe s
def tOp (r:R2) (ta tb:TE):TE:=fun Z H Q=>ta Z H λx H1=>tb Z H1 λy H2=>r x y H2 Q
def tUn (r:V->Hp->VK->Prop) (ta:TE):TE:=fun Z H Q=>ta Z H λx H1=>r x H1 Q
def rI (C:Int->Int->Prop) (g:Int->Int->V):R2:=λx y H Q=>∃i j,x = .int i/\y = .int j/\C i j/\Q (g i j) H
def rI0 (g:Int->Int->V):R2:=λx y H Q=>∃i j,x = .int i/\y = .int j/\Q (g i j) H
def rU (g:Int->V):V->Hp->VK->Prop:=λx H Q=>∃i,x = .int i/\Q (g i) H
section
variable {X:Cx}{a b c:aL}{ta tb tc:TE}{pos:cF}
def binT(ha:PE X a ta)(hb:PE X b tb)     {R:V->V->Hp->Prop}(I:Inv X pins Z H s)
  (h:ta Z H λx H1=>tb Z H1 λy H2=>R x y H2) {f:aa->aa->fT aa}
  (hf:∀v u s2 x y H2,Inv X pins Z H2 s2->Ae x v->Ae y u->R x y H2->af (ag X.prog X.w) X.A (f v u) Q X.xe s2):
  af (ag X.prog X.w) X.A (eval a X.env) (λv s₁=>af (ag X.prog X.w) X.A (eval b X.env) (λu s₂=>af (ag X.prog X.w) X.A (f v u) Q X.xe s₂) X.xe s₁) X.xe s:=by
 refine thn (ha pins s Z H _ I h) λv s1 ⟨x,H1,I1,r1,q1⟩=>?_;refine thn (hb pins s1 Z H1 _ I1 q1) λu s2 ⟨y,H2,I2,r2,q2⟩=>?_;exact hf v u s2 x y H2 I2 r1 r2 q2
def Am  (ho:OpR X (bv op) r) (ha:PE X a ta) (hb:PE X b tb):PE X (.BinOp a op b pos) (tOp r ta tb):=by
 k_ne;exact wpAny_BinOp (binT ha hb I h λv u s2 x y H2 I2 rx ry q=>ho pins s2 Z H2 x y v u Q I2 rx ry q)
def Xak  (ho:UnR X (unaryOp op) r) (ha:PE X a ta):PE X (.UnaryOp op a pos) (tUn r ta):=by
 k_ne;exact UnaryOp_ (thn (ha pins s Z H _ I h) λv s1 ⟨x,H1,I1,r1,q1⟩=>ho pins s1 Z H1 x v Q I1 r1 q1)
def opI  {g:Int->Int->Int}
  (rule:∀(i j:Int) (t u:vw) (s:ah) (Q:Zb) (E:Zb),C i j->Q (.int (g i j) s.toks) {s with toks:=s.toks+1}->af (ag X.prog X.w) X.A (f (.int i t) (.int j u)) Q E s):
  OpR X f (rI C λi j=>.int (g i j)):=by
 k_go;obtain⟨i,j,rfl,rfl,hc,q⟩:=h;k_end;exact rule i j t t' s _ _ hc ⟨.int (g i j),H,I.tok _,⟨_,rfl⟩,q⟩
def Xal{g:Int->Int->Int}
  (rule:∀(i j:Int) (t u:vw) (s:ah) (Q:Zb) (E:Zb),Q (.int (g i j) s.toks) {s with toks:=s.toks+1}->af (ag X.prog X.w) X.A (f (.int i t) (.int j u)) Q E s):
  OpR X f (rI0 λi j=>.int (g i j)):=by
 k_go;obtain⟨i,j,rfl,rfl,q⟩:=h;k_end;exact rule i j t t' s _ _ ⟨.int (g i j),H,I.tok _,⟨_,rfl⟩,q⟩
def Kt{g:Int->Int->Bool}
  (rule:∀(i j:Int) (t u:vw) (s:ah) (Q:Zb) (E:Zb),Q (.bool (g i j)) s->af (ag X.prog X.w) X.A (f (.int i t) (.int j u)) Q E s):
  OpR X f (rI0 λi j=>.bl (g i j)):=by
 k_go;obtain⟨i,j,rfl,rfl,q⟩:=h;k_end;exact rule i j t t' s _ _ ⟨.bl (g i j),H,I,rfl,q⟩
def CDiv (i j:Int):Prop:=0<j/\j<1073741824
def CPow (i j:Int):Prop:=0<=j/\j<=1000000/\i.natAbs<2 ^ 64
def CMul (i j:Int):Prop:=(-(2 ^ 64)<i/\i<2 ^ 64)\/(-(2 ^ 64)<j/\j<2 ^ 64)
def CMul.ok(h:CMul i j):IntMulOk i j:=by
 rcases h with ⟨h1,h2⟩ | ⟨h1,h2⟩
 ·exact .of_left (u5 h1 h2)
 ·exact .of_right (u5 h1 h2)
def B5:OpR X (bv .Add) (rI0 λi j=>.int (i+j)):=Xal λ_ _ _ _ _ _ _ q=>add_int q
def Xhk:OpR X (bv .Sub) (rI0 λi j=>.int (i - j)):=Xal λ_ _ _ _ _ _ _ q=>sub_int q
def Xam:OpR X (bv .Mult) (rI CMul λi j=>.int (i * j)):=opI λ_ _ _ _ _ _ _ hc q=>mul_int q hc.ok
def Xan:OpR X (bv .FloorDiv) (rI CDiv λi j=>.int (i / j)):=opI λi j _ _ _ _ _ hc q=>by
 have h1:(0:Int)<j:=hc.1;have h2:j<1073741824:=hc.2;exact floordiv_int (by lia) (by rw[Int.fdiv_eq_ediv_of_nonneg i (by lia)];exact q) (.inl (PyProof.noPylong_small (by lia)))
def Fv:OpR X (bv .Mod) (rI (λ_ j=>0<j) λi j=>.int (i % j)):=opI λi j _ _ _ _ _ hc q=>by
 have h1:(0:Int)<j:=hc;exact mod_int' (by lia) (by rw[Int.fmod_eq_emod_of_nonneg i (by lia)];exact q)
def Xao:OpR X (bv .Pow) (rI CPow λi j=>.int (i ^ j.toNat)):=opI λ_ _ _ _ _ _ _ hc q=>pow_int_small hc.1 hc.2.1 hc.2.2 q
def unI{g:Int->Int}
  (rule:∀(i:Int) (t:vw) (s:ah) (Q:Zb) (E:Zb),Q (.int (g i) s.toks) {s with toks:=s.toks+1}->af (ag X.prog X.w) X.A (f (.int i t)) Q E s):
  UnR X f (rU λi=>.int (g i)):=by
 intro pins s Z H x v Q I rx h;obtain⟨i,rfl,q⟩:=h;obtain⟨t,rfl⟩:=rx;exact rule i t s _ _ ⟨.int (g i),H,I.tok _,⟨_,rfl⟩,q⟩
def Xap:UnR X (unaryOp .USub) (rU λi=>.int (-i)):=unI λ_ _ _ _ _ q=>neg_int q
end
def scal:V->V->Bool
 | .non,.non=>true | .non,.int _=>true | .int _,.non=>true | .non,.bl _=>true | .bl _,.non=>true | .non,.str _=>true | .str _,.non=>true
 | .int _,.int _=>true | .bl _,.bl _=>true | .str _,.str _=>true | .byt _,.byt _=>true
 | .int _,.str _=>true | .str _,.int _=>true | .bl _,.str _=>true | .str _,.bl _=>true
 | _,_=>false
def rEq:R2:=λx y H Q=>scal x y=true/\Q (.bl (decide (x=y))) H
def rNe:R2:=λx y H Q=>scal x y=true/\Q (.bl (!decide (x=y))) H
def Xaq:decide (V.int i=V.int j)=(i==j):=by
 rw[Pu];simp
def Ku:decide (V.bl i=V.bl j)=(i==j):=by
 rw[Pu];simp
def Xar:decide (V.str i=V.str j)=(i==j):=by
 rw[Pu];simp
def Xas:decide (V.byt i=V.byt j)=(i.toList==j.toList):=by
 rw[Pu];cases i;cases j;simp
section
variable {X:Cx}{a b c:aL}{ta tb tc:TE}{pos:cF}
def A6      (I:Inv X pins Z H s) (q:Q (.bl k) H) (e:k=k'):EP X pins Z Q (.bool k') s:=by
 subst e;exact⟨.bl k,H,I,rfl,q⟩
def Bu:OpR X (aH .Eq) rEq:=by
 k_go;obtain⟨hs,q⟩:=h;cases x with
 | non=>
  cases rx;cases y with
  | non=>cases ry;exact PySem.EqNone.eq_none_none (A6 I q (by simp))
  | bl j=>cases ry;exact PySem.EqNone.eq_none_bool (A6 I q (by simp))
  | int j=>obtain⟨t',rfl⟩:=ry;exact PySem.EqNone.eq_none_int (A6 I q (by simp))
  | str j=>obtain⟨t',rfl⟩:=ry;exact PySem.EqNone.eq_none_str (A6 I q (by simp))
  | _=>exact absurd (show false=true from hs) N9
 | bl i=>
  cases rx;cases y with
  | non=>cases ry;exact PySem.EqNone.eq_bool_none (A6 I q (by simp))
  | bl j=>cases ry;exact eq_bool (A6 I q Ku)
  | str j=>obtain⟨t',rfl⟩:=ry;exact PySem.EqMixed.eq_bool_str (A6 I q (by simp))
  | _=>exact absurd (show false=true from hs) N9
 | int i=>
  obtain⟨t,rfl⟩:=rx;cases y with
  | non=>cases ry;exact PySem.EqNone.eq_int_none (A6 I q (by simp))
  | int j=>obtain⟨t',rfl⟩:=ry;exact eq_int (A6 I q Xaq)
  | str j=>obtain⟨t',rfl⟩:=ry;exact PySem.EqMixed.eq_int_str (A6 I q (by simp))
  | _=>exact absurd (show false=true from hs) N9
 | str i=>
  obtain⟨t,rfl⟩:=rx;cases y with
  | non=>cases ry;exact PySem.EqNone.eq_str_none (A6 I q (by simp))
  | bl j=>cases ry;exact PySem.EqMixed.eq_str_bool (A6 I q (by simp))
  | int j=>obtain⟨t',rfl⟩:=ry;exact PySem.EqMixed.eq_str_int (A6 I q (by simp))
  | str j=>obtain⟨t',rfl⟩:=ry;exact eq_str (A6 I q Xar)
  | _=>exact absurd (show false=true from hs) N9
 | byt i=>
  obtain⟨t,rfl⟩:=rx;cases y with
  | byt j=>obtain⟨t',rfl⟩:=ry;exact PySem.W.eq_bytes (A6 I q Xas)
  | _=>exact absurd (show false=true from hs) N9
 | _=>cases y<;>exact absurd (show false=true from hs) N9
def Ih:OpR X (aH .NotEq) rNe:=by
 k_go;obtain⟨hs,q⟩:=h;cases x with
 | non=>
  cases rx;cases y with
  | non=>cases ry;exact PySem.EqNone.ne_none_none (A6 I q (by simp))
  | bl j=>cases ry;exact PySem.EqNone.ne_none_bool (A6 I q (by simp))
  | int j=>obtain⟨t',rfl⟩:=ry;exact PySem.EqNone.ne_none_int (A6 I q (by simp))
  | str j=>obtain⟨t',rfl⟩:=ry;exact PySem.EqNone.ne_none_str (A6 I q (by simp))
  | _=>exact absurd (show false=true from hs) N9
 | bl i=>
  cases rx;cases y with
  | non=>cases ry;exact PySem.EqNone.ne_bool_none (A6 I q (by simp))
  | bl j=>cases ry;exact ne_bool (A6 I q (congrArg not Ku))
  | str j=>obtain⟨t',rfl⟩:=ry;exact PySem.EqMixed.ne_bool_str (A6 I q (by simp))
  | _=>exact absurd (show false=true from hs) N9
 | int i=>
  obtain⟨t,rfl⟩:=rx;cases y with
  | non=>cases ry;exact PySem.EqNone.ne_int_none (A6 I q (by simp))
  | int j=>obtain⟨t',rfl⟩:=ry;exact ne_int (A6 I q (congrArg not Xaq))
  | str j=>obtain⟨t',rfl⟩:=ry;exact PySem.EqMixed.ne_int_str (A6 I q (by simp))
  | _=>exact absurd (show false=true from hs) N9
 | str i=>
  obtain⟨t,rfl⟩:=rx;cases y with
  | non=>cases ry;exact PySem.EqNone.ne_str_none (A6 I q (by simp))
  | bl j=>cases ry;exact PySem.EqMixed.ne_str_bool (A6 I q (by simp))
  | int j=>obtain⟨t',rfl⟩:=ry;exact PySem.EqMixed.ne_str_int (A6 I q (by simp))
  | str j=>obtain⟨t',rfl⟩:=ry;exact ne_str (A6 I q (congrArg not Xar))
  | _=>exact absurd (show false=true from hs) N9
 | byt i=>
  obtain⟨t,rfl⟩:=rx;cases y with
  | byt j=>obtain⟨t',rfl⟩:=ry;exact PySem.W.ne_bytes (A6 I q (congrArg not Xas))
  | _=>exact absurd (show false=true from hs) N9
 | _=>cases y<;>exact absurd (show false=true from hs) N9
def Cv:OpR X (aH .Lt) (rI0 λi j=>.bl (decide (i<j))):=Kt λ_ _ _ _ _ _ _ q=>lt_int q
def Xhl:OpR X (aH .Gt) (rI0 λi j=>.bl (decide (j<i))):=Kt λ_ _ _ _ _ _ _ q=>gt_int q
def Xat:OpR X (aH .GtE) (rI0 λi j=>.bl (decide (j<=i))):=Kt λ_ _ _ _ _ _ _ q=>ge_int q
def Xau:OpR X (aH .Lt) (λx y H Q=>∃i j,x = .str i/\y = .str j/\Q (.bl (decide (i.cps.toList<j.cps.toList))) H):=by
 k_go;obtain⟨i,j,rfl,rfl,q⟩:=h;k_end;exact lt_str (A6 I q rfl)
def Xhm:OpR X (aH .Is) (λx y H Q=>y = .non/\Q (.bl (decide (x = .non))) H):=by
 k_go;obtain⟨rfl,q⟩:=h;cases ry;refine is_none_gen (A6 I q ?_);cases x<;>first
  | (cases rx;rfl)
  | (obtain⟨t,rfl⟩:=rx;rfl)
def isObj:HO->Bool
 | .lst _=>true
 | .ins _ _ _=>true
 | _=>false
def Ar(b:aL)(h:op ≠ .In:=by decide)(h2:op ≠ .NotIn:=by decide):cy op b=false:=by
 have e1:(op==CmpOp.In)=false:=by cases op<;>first | rfl | exact absurd rfl h
 have e2:(op==CmpOp.NotIn)=false:=by cases op<;>first | rfl | exact absurd rfl h2
 cases b<;>simp[cy,e1,e2]
def D0  (ho:OpR X (aH op) r) (ha:PE X a ta) (hb:PE X b tb) (hm:cy op b=false):PE X (.Compare a [op] [b] pos) (tOp r ta tb):=by
 k_ne;exact rA (binT ha hb I h λv u s2 x y H2 I2 rx ry q=>ho pins s2 Z H2 x y v u Q I2 rx ry q) hm
def Kv (t:TE):TT:=fun Z H Q=>t Z H λx H'=>∃k,x = .bl k/\Q k H'
def Aq  (ho:OpR X (aH op) r) (ha:PE X a ta) (hb:PE X b tb) (hm:cy op b=false):PT X (.Compare a [op] [b] pos) (Kv (tOp r ta tb)):=by
 k_ne;refine jJ (thn (ha pins s Z H _ I h) λv s1 ⟨x,H1,I1,r1,q1⟩=>thn (hb pins s1 Z H1 _ I1 q1) λu s2 ⟨y,H2,I2,r2,q2⟩=>
  thn (ho pins s2 Z H2 x y v u _ I2 r1 r2 q2) λc s3 ⟨z,H3,I3,r3,k,e,q3⟩=>?_) hm
 subst e;cases r3;exact aN ⟨H3,I3,q3⟩
def Kw (r r':R2) (ta tb tc:TE):TE:=fun Z H Q=>ta Z H λx H1=>tb Z H1 λy H2=>r x y H2 λz H3=>∃k,z = .bl k /\
 (if k=true then tc Z H3 λw' H4=>r' y w' H4 Q else Q (.bl false) H3)
def Xav  (ho:OpR X (aH op) r) (eu:OpR X (aH rC) r') (ha:PE X a ta) (hb:PE X b tb) (hc:PE X c tc)
  (hm:LP [op,rC] [b,c]=false:=by with_unfolding_all rfl):PE X (.Compare a [op,rC] [b,c] pos) (Kw r r' ta tb tc):=by
 k_ne;refine Compare_chain (thn (ha pins s Z H _ I h) λv s1 ⟨x,H1,I1,r1,q1⟩=>chain_link (thn (hb pins s1 Z H1 _ I1 q1) λu s2 ⟨y,H2,I2,r2,q2⟩=>
  thn (ho pins s2 Z H2 x y v u _ I2 r1 r2 q2) λd s3 ⟨z,H3,I3,r3,k,e,q3⟩=>?_)) hm
 subst e;cases r3;refine aN ?_;cases k with
 | false=>exact ite_ff ⟨.bl false,H3,I3,rfl,q3⟩
 | true=>exact ite_tt (chain_last (thn (hc pins s3 Z H3 _ I3 q3) λw' s4 ⟨z',H4,I4,r4,q4⟩=>eu pins s4 Z H4 y z' u w' Q I4 r2 r4 q4))
def Xhn  (ho:OpR X (aH op) r) (eu:OpR X (aH rC) r') (ha:PE X a ta) (hb:PE X b tb) (hc:PE X c tc)
  (hm:LP [op,rC] [b,c]=false:=by with_unfolding_all rfl):PT X (.Compare a [op,rC] [b,c] pos) (Kv (Kw r r' ta tb tc)):=by
 k_ne;refine isTrue_chain (thn (ha pins s Z H _ I h) λv s1 ⟨x,H1,I1,r1,q1⟩=>test_link (thn (hb pins s1 Z H1 _ I1 q1) λu s2 ⟨y,H2,I2,r2,q2⟩=>
  thn (ho pins s2 Z H2 x y v u _ I2 r1 r2 q2) λd s3 ⟨z,H3,I3,r3,k,e,q3⟩=>?_)) hm
 subst e;cases r3;refine aN ?_;cases k with
 | false=>
  obtain⟨k',e',q'⟩:=q3;cases e';exact ite_ff ⟨H3,I3,q'⟩
 | true=>
  refine ite_tt (test_last (thn (hc pins s3 Z H3 _ I3 q3) λw' s4 ⟨z',H4,I4,r4,q4⟩=>thn (eu pins s4 Z H4 y z' u w' _ I4 r2 r4 q4) λd' s5 ⟨z2,H5,I5,r5,k2,e2,q5⟩=>?_));subst e2;cases r5;exact aN ⟨H5,I5,q5⟩
def TruV (K:NO) (x:V) (H:Hp) (k:Bool):Prop:=
 match x with
 | .non=>k=false
 | .bl b=>k=b
 | .int i=>k=(i != 0)
 | .str y=>y.length<=sizeLine/\k=((y.length:Int) != 0)
 | .byt y=>y.size<=sizeLine/\k=((y.size:Int) != 0)
 | .ref p=>(∃xs,SqL K H p xs/\k = !xs.isEmpty)\/(∃xs,SqT K H p xs/\k = !xs.isEmpty) \/ ∃kvs,H p=some (.dK kvs)/\k = !kvs.isEmpty
 | _=>False
def line63:(sizeLine:Nat)<2 ^ 63:=by rw[Sw];decide
def Ii:OpR X (bv .Add) (λx y H Q=>∃i j,x = .str i/\y = .str j/\i.length+j.length<=sizeLine/\Q (.str (i++j)) H):=by
 k_go;obtain⟨i,j,rfl,rfl,hz,q⟩:=h;k_end;exact add_str (λt' tk=>⟨.str (i++j),H,I.tok _,⟨_,rfl⟩,q⟩) hz
def B0  (r:Vals [x] us):∃u,us=[u]/\Ae x u:=by
 cases r with
 | cons r1 r2=>cases r2;exact⟨_,rfl,r1⟩
def vals2  (r:Vals [x,y] us):∃u w',us=[u,w']/\Ae x u/\Ae y w':=by
 cases r with
 | cons r1 r2=>
  cases r2 with
  | cons r3 r4=>cases r4;exact⟨_,_,rfl,r1,r3⟩
def Xho(hc:X.calm=true):Bh X (.builtin "min") (λxs H Q=>∃i j,xs=[.int i,.int j]/\Q (.int (if j<i then j else i)) H):=by
 k_asm;obtain⟨i,j,rfl,q⟩:=h;obtain⟨u,w',rfl,⟨t,rfl⟩,⟨t',rfl⟩⟩:=vals2 r;refine min_two_ints (I.ok.hd hc) λh' tk k=>⟨_,H,I.kept k,?_,q⟩;by_cases hj:j<i
 ·rw[Sy hj,Sy hj];exact⟨_,rfl⟩
 ·rw[Sx hj,Sx hj];exact⟨_,rfl⟩
def Xaw:Bh X (.type "int") (λxs H Q=>(∃i,xs=[.int i]/\Q (.int i) H) \/ ∃k,xs=[.bl k]/\Q (.int (if k then 1 else 0)) H):=by
 k_asm;rcases h with ⟨i,rfl,q⟩ | ⟨k,rfl,q⟩
 ·obtain⟨u,rfl,t,rfl⟩:=B0 r;exact call_int_int ⟨.int i,H,I,⟨_,rfl⟩,q⟩
 ·obtain⟨u,rfl,r1⟩:=B0 r;cases r1;exact call_int_bool ⟨.int (if k then 1 else 0),H,I.tok _,⟨_,rfl⟩,q⟩
def LenV (K:NO) (x:V) (H:Hp) (n:Nat):Prop:=
 match x with
 | .str y=>y.length<=sizeLine/\n=y.length
 | .byt y=>y.size<=sizeLine/\n=y.size
 | .ref p=>(∃xs,SqL K H p xs/\n=xs.length) \/ ∃xs,SqT K H p xs/\n=xs.length
 | _=>False
end
structure ObjM (h:ak) (x dx C:ae) (mA:ao->Option aa):Prop where
 obj:h.get? x=some (ON C dx)
 ns:h.Ns1 dx mA
 ne:dx≠x
def Xax{h:ak}  (n:h.Ns1 dx mA):∃od,h.get? dx=some od/\∀name,OR name od=some (mA name):=by
 obtain⟨o,es,ep,ho,hd,hk,_,hm⟩:=n;refine⟨o,ho,λname=>?_⟩;have e:=hm name;unfold nsFind findBy at e;rw[<-Array.find?_toList] at e;unfold OR;rw[hd];k_in;split
 ·rename_i y q;rw[q] at e;exact congrArg some e
 ·rename_i q;rw[q] at e;have a:es.toList.any (·.refKey)=false:=by
   rw[List.any_eq_false];intro y hy;obtain⟨z,t,g9⟩:=hk y (Array.mem_toList_iff.mp hy);simp[oH.refKey,g9]
  have a':¬es.toList.any (·.refKey)=true:=by rw[a];exact N9
  rw[Sx a'];exact congrArg some e
def ObjM.look  {x dx C} (I:ObjM h x dx C mA):∃od,OY h x (ON C dx) C (some od)/\∀name,OR name od=some (mA name):=
 let ⟨od,ho,hl⟩:=Xax I.ns
 ⟨od,⟨I.obj,rfl,rfl,ho⟩,hl⟩
section
variable {prog:ar}{w:aA}{A:av}{E:Zb}{s:ah}{K:NO}{x dx C f:ae}{mA:ao->Option aa}{name:ao}{v:aa}
end
def Kx (f:ao) (v:V):List (ao×V)->List (ao×V)
 | []=>[(f,v)]
 | (g,x)::r=>if g=f then (g,v)::r else (g,x)::Kx f v r
def Bz.some_of{v}{o}(r:Bz (some v) o):∃u,o=some u/\Ae v u:=by
 cases o with
 | none=>exact(show False from r).elim
 | some u=>exact⟨u,rfl,r⟩
def Xhp  (r:Ae v u):PySem.W.handedIn u=true:=by
 cases v with
 | non=>cases (show u=aa.none from r);rfl
 | bl b=>cases (show u=aa.bool b from r);rfl
 | int i=>obtain⟨t,e⟩:=(show ∃t,u=aa.int i t from r);cases e;rfl
 | str x=>obtain⟨t,e⟩:=(show ∃t,u=aa.str x t from r);cases e;rfl
 | byt b=>obtain⟨t,e⟩:=(show ∃t,u=aa.bytes b t from r);cases e;rfl
 | flt b=>obtain⟨t,e⟩:=(show ∃t,u=aa.float b t from r);cases e;rfl
 | ref a=>cases (show u=aa.ref a from r);rfl
 | ty n=>cases (show u=aa.type n from r);rfl
section
variable {P:ar}{w:aA}{H H':Hp}{h h':ak}{a C dx:ae}{fs gz:List (ao×V)}
def Xhq(hok:HOk P w H h)(e:H a=some (.ins C dx fs)):∃mA,ObjM h a dx C mA/\(∀f,Bz (fs.lookup f) (mA f))/\PySem.Within mA (fs.map (·.1))/\fs.length<=1000/\H dx=some (.own a):=by
 obtain⟨d,z,ne,ob,mA,n,r,q⟩:=(show Av P w H h a (.ins C dx fs) from hok a _ e);exact⟨mA,⟨ob,n,ne⟩,r,q,z,d⟩
end
structure Cls (K:NO) (C:ae):Prop where
 pg:OW K C ao.empty=true
 hd:OS K C=true
 po:PySem.W.plainOver K C=true
 sa:NR K (.ref C) "__setattr__" = some (some (.builtin "object.__setattr__"))
def Cls.get{K}(c:Cls K C)(f):OW K C f=true:=c.pg
def Ky (K:NO) (C:ae) (f:ao):Prop:=NR K (.ref C) f=some none
structure Con (K:NO) (C:ae) (f:ao) (v:V) (u:aa):Prop where
 at_:NR K (.ref C) f=some (some u)
 cT:Ae v u
 get:OT K u "__get__" = some none
 cp:PySem.W.copiedNames.contains f=false
structure Meth (K:NO) (C:ae) (m:ao) (f:ae):Prop where
 at_:NR K (.ref C) m=some (some (.ref f))
 fn:PD K (.ref f)=true
 kp:NW K (.ref f)=true
section
variable {X:Cx}{pins:List (ae×aM)}{Z:St}{H:Hp}{s:ah}{a C dx:ae}{fs:List (ao×V)}{f:ao}{v:V}{A:av}{E:Zb}
def Xhr        (hb:cz e f env (eval e env)=eval e env)
  (h:af (ag prog w) A (eval e env) (λo s₁=>af (ag prog w) A (vy o f true) Q E s₁) E s):af (ag prog w) A (eval (.Attribute e f pos) env) Q E s:=
 Attribute_any_ h (by rw[arm_eval_Attribute,hb])
end
def tFld (K:NO) (ta:TE) (f:ao):TE:=fun Z H Q=>ta Z H λx H1=>∃a C dx fs v,x = .ref a/\H1 a=some (.ins C dx fs)/\Cls K C/\Ky K C f/\fs.lookup f=some v/\Q v H1
def tCon (K:NO) (ta:TE) (f:ao):TE:=fun Z H Q=>ta Z H λx H1=>∃a C dx fs v u,x = .ref a/\H1 a=some (.ins C dx fs)/\Cls K C/\Con K C f v u/\fs.lookup f=none/\Q v H1
def sFld (K:NO) (ta tv:TE) (f:ao):TS:=λD Z H=>tv Z H λy H1=>ta Z H1 λx H2=>∃a C dx fs,x = .ref a/\H2 a=some (.ins C dx fs)/\Cls K C/\Ky K C f/\fs.length<1000 /\
 D.nx Z (upd H2 a (.ins C dx (Kx f y fs)))
def InOp (X:Cx) (op:Operator) (rd:V->V->Hp->VK->Prop):Prop:=
 ∀pins s Z H (x y:V) (u v:aa) (Q:VK),Inv X pins Z H s->Ae x u->Ae y v->rd x y H Q->af (ag X.prog X.w) X.A (inplaceOp op u v) (EP X pins Z Q) X.xe s
def Xsb (K:NO) (ta tv:TE) (rd:V->V->Hp->VK->Prop) (f:ao):TS:=λD Z H=>ta Z H λx H1=>∃a C dx fs v,x = .ref a/\H1 a=some (.ins C dx fs)/\Cls K C/\Ky K C f/\fs.lookup f=some v /\
 tv Z H1 λy H2=>rd v y H2 λz H3=>∃yZ gz,H3 a=some (.ins C yZ gz)/\gz.length<1000/\D.nx Z (upd H3 a (.ins C yZ (Kx f z gz)))
section
variable {X:Cx}{o e value:aL}{f:ao}{pos iz vz:cF}{ta tv:TE}
end
section
variable {X:Cx}{pins:List (ae×aM)}{Z:St}{H:Hp}{s:ah}{A:av}{E:Zb}{Q:Zb}{c:aa}{b:Bool}
inductive TyOf (K:NO) (H:Hp):V->aa->Prop where
 | non:TyOf K H .non (.type "NoneType")
 | bl (x:Bool):TyOf K H (.bl x) (.type "bool")
 | int (i:Int):TyOf K H (.int i) (.type "int")
 | str (x:ao):TyOf K H (.str x) (.type "str")
 | flt (x:UInt64):TyOf K H (.flt x) (.type "float")
 | lst {a:ae} {xs:List V} (e:H a=some (.lst xs)):TyOf K H (.ref a) (.type "list")
 | frz {a:ae} {o:aM} {xs:List V} (e:H a=some (.frz o (.lst xs))):TyOf K H (.ref a) (.type "list")
 | tup {a:ae} {xs:List V} (e:H a=some (.tup xs)):TyOf K H (.ref a) (.type "tuple")
 | dK {a:ae} {kvs:List (Key×V)} (e:H a=some (.dK kvs)):TyOf K H (.ref a) (.type "dict")
 | dT {a:ae} {kvs:List (List Key×V)} (e:H a=some (.dT kvs)):TyOf K H (.ref a) (.type "dict")
 | ins {a C dx:ae} {fs:List (ao×V)} (e:H a=some (.ins C dx fs)) (cl:Cls K C) (ha:NR K (.ref C) "__class__" = some (some (.builtin "object.__class__")))
   (hn:OT K (.builtin "object.__class__") "__get__" = some (some (.builtin "getset_descriptor.__get__"))) (jK:PySem.W.takesIn K (.builtin "object.__class__")=some true)
   (hm:PySem.W.mroIn K C (.type "object")=some true):TyOf K H (.ref a) (.ref C)
def Xhs  (I:Inv X pins Z H s) (rx:Ae x u) (ty:TyOf X.K H x t) (e:NS X.K t c=some b) (h:∀tk,Q (.bool b) {s with toks:=tk}):
  af (ag X.prog X.w) A (call (.builtin "isinstance") [u,c]) Q E s:=by
 cases ty with
 | non=>cases (show u=aa.none from rx);exact NX PySem.W.kitx_none I.kIn True.intro e (λz=>nomatch z) h
 | bl y=>cases (show u=aa.bool y from rx);exact NX PySem.W.kitx_bool I.kIn True.intro e (λz=>nomatch z) h
 | int i=>obtain⟨t,q⟩:=(show ∃t,u=aa.int i t from rx);cases q;exact NX PySem.W.kitx_int I.kIn True.intro e (λz=>nomatch z) h
 | str y=>obtain⟨t,q⟩:=(show ∃t,u=aa.str y t from rx);cases q;exact NX PySem.W.kitx_str I.kIn True.intro e (λz=>nomatch z) h
 | flt y=>obtain⟨t,q⟩:=(show ∃t,u=aa.float y t from rx);cases q;exact NX PySem.W.kitx_float I.kIn True.intro e (λz=>nomatch z) h
 | @lst a xs ea=>
  cases (show u=aa.ref a from rx);obtain⟨_,_,n,_,h1⟩:=(show Av X.prog X.w H s.heap a (.lst xs) from I.hok a _ ea);exact NX OU I.kIn ⟨_,h1,rfl⟩ e (λz=>nomatch z) h
 | @frz a ob xs ea=>
  cases (show u=aa.ref a from rx);obtain⟨_,_,_,n,_,h1⟩:=(show Av X.prog X.w H s.heap a (.frz ob (.lst xs)) from I.hok a _ ea);exact NX OU I.kIn ⟨_,h1,rfl⟩ e (λz=>nomatch z) h
 | @tup a xs ea=>
  cases (show u=aa.ref a from rx);obtain⟨_,_,_,p⟩:=(show Av X.prog X.w H s.heap a (.tup xs) from I.hok a _ ea);obtain⟨o,h1,h2,_⟩:=p;exact NX PySem.W.kitx_tuple I.kIn ⟨o,h1,h2⟩ e (λz=>nomatch z) h
 | @dK a kvs ea=>
  cases (show u=aa.ref a from rx);obtain⟨_,_,vs,_,p⟩:=(show Av X.prog X.w H s.heap a (.dK kvs) from I.hok a _ ea);obtain⟨o,es,ep,h1,h2,_⟩:=p;exact NX OV I.kIn ⟨o,h1,h2.1⟩ e (λz=>nomatch z) h
 | @dT a kvs ea=>
  cases (show u=aa.ref a from rx);obtain⟨_,_,xs,_,o,es,ep,h1,h2,_⟩:=(show Av X.prog X.w H s.heap a (.dT kvs) from I.hok a _ ea);exact NX OV I.kIn ⟨o,h1,h2.1⟩ e (λz=>nomatch z) h
 | @ins a C dx fs ea cl ha hn jK hm=>
  cases (show u=aa.ref a from rx);obtain⟨mA,O,_⟩:=Xhq I.hok ea;obtain⟨od,J,_⟩:=O.look;exact NX (PySem.W.kitx_own (cl.get _) cl.hd ha hn jK hm) I.kIn J e (λz=>nomatch z) h
end
structure Room (k:Nat) (A:av):Prop where
 hd:A.handled=none
 dp:A.depth+3 * k+5<rD
 un:A.units+16 * k+200<bA
 gd:A.guards=some []
def Room.mono  (r:Room k A) (h:j<=k):Room j A:=⟨r.hd,by have:=r.dp;lia,by have:=r.un;lia,r.gd⟩
def Room.deeper  (r:Room (k+1) A) (env):Room k (A.deeper env):=
 ⟨r.hd,by have:=r.dp;show A.depth+1+3 * k+5<_;lia,by have:=r.un;show A.units+3+16 * k+200<_;lia,r.gd⟩
def Room.in1{k}{A}(r:Room (k+1) A):Room k A.in1:=
 ⟨r.hd,by have:=r.dp;show A.depth+3 * k+5<_;lia,by have:=r.un;show A.units+1+16 * k+200<_;lia,r.gd⟩
def Xht{A:av}   : (A.under (.builtin "type.__call__" ⟨.ref C::us,kw⟩)).depth=A.depth+1:=by
 first | rfl | simp[av.under,eZ.weight,eZ.isCreation,eZ.isGuard,eZ.isCaller,eZ.frames,eZ.isFrame,guardIds]
def Xhu{A:av}   : (A.under (.builtin "type.__call__" ⟨.ref C::us,kw⟩)).units=A.units+1:=by
 first | rfl | simp[av.under,eZ.cUnits,eZ.frames,eZ.isFrame]
def Room.make  (r:Room (k+1) A) (C) (us) (kw):Room k (A.under (.builtin "type.__call__" ⟨.ref C::us,kw⟩)):=
 ⟨r.hd,by have:=r.dp;rw[Xht];lia,by have:=r.un;rw[Xhu];lia,by first | exact r.gd | (have:=r.gd;simp[av.under,eZ.isGuard,guardIds,pushGuards,this])⟩
def Room.depth  (r:Room k A):A.depth<rD:=by have:=r.dp;lia
def Room.units  (r:Room k A):A.units+64<bA:=by have:=r.un;lia
def Room.units0  (r:Room k A):A.units<bA:=by have:=r.un;lia
def Fw:TA:=λ_ H Q=>Q [] H
def Eh (ta:TE) (tr:TA):TA:=fun Z H Q=>ta Z H λx H1=>tr Z H1 λxs H2=>Q (x::xs) H2
section
variable {X:Cx}{e:aL}{es:List aL}{te:TE}{t:TA}{pos:cF}
def pa_nil:PA X [] Fw:=λ_ _ _ _ H Q I h=>Calls.spliced_nil ⟨[],H,I,.nil,h⟩
def pa_cons(ha:PE X e te)(hr:PA X es t)(hs:az (e::es) X.env=(false,eval e X.env)::az es X.env:=by rfl):PA X (e::es) (Eh te t):=by
 intro pos pins s Z H Q I h;rw[hs];show af _ _ (spliced ((false,eval e X.env)::bq pos (az es X.env))) _ _ s;refine Calls.spliced_cons (thn (ha pins s Z H _ I h) λu s1 ⟨x,H1,I1,r1,q1⟩=>?_);exact thn (hr pos pins s1 Z H1 _ I1 q1) λus s2 ⟨xs,H2,I2,r2,q2⟩=>⟨x::xs,H2,I2,.cons r1 r2,q2⟩
def Kz (t:TA):TE:=fun Z H Q=>t Z H λxs H1=>xs.length<=sizeLine/\∀p,H1 p=none->Q (.ref p) (upd H1 p (.tup xs))
def tLst (t:TA):TE:=fun Z H Q=>t Z H λxs H1=>xs.length<=sizeLine/\∀p,H1 p=none->Q (.ref p) (upd H1 p (.lst xs))
def Bb(h:PA X es t):PE X (.Tuple es x1 pos) (Kz t):=by
 intro pins s Z H Q I hq;refine wpAny_Tuple_spliced (thn (h pos pins s Z H _ I hq) λus s1 ⟨xs,H1,I1,r,z,q⟩=>⟨by rw[<-r.length];exact z,?_⟩);have hf:H1 s1.heap.objs.size=none:=I1.hok.fresh (Nr _);refine⟨.ref s1.heap.objs.size,upd H1 s1.heap.objs.size (.tup xs),I1.laid (t':=s1.toks) (λb u e=>S8 _ e) (Nr _) ?_,rfl,q _ hf⟩;exact⟨z,us,r,⟨_,ak.get?_push_size _ rfl,rfl,_,rfl⟩⟩
def Bi(h:PA X es t):PE X (.List es pos) (tLst t):=by
 intro pins s Z H Q I hq;refine wpAny_List_spliced (thn (h pos pins s Z H _ I hq) λus s1 ⟨xs,H1,I1,r,z,q⟩=>⟨by rw[<-r.length];exact z,?_⟩);have hf:H1 s1.heap.objs.size=none:=I1.hok.fresh (Nr _);refine⟨.ref s1.heap.objs.size,upd H1 s1.heap.objs.size (.lst xs),I1.laid (t':=s1.toks) (λb u e=>S8 _ e) (Nr _) ?_,rfl,q _ hf⟩;exact⟨z,us,0,r,ak.get?_push_size _ rfl⟩
end
abbrev Sp:=List V->Hp->VK->XK->Prop
abbrev CXT:=List Env->Hp->ah->XK->aa->ah->Prop
structure Env0 (P:ar) (w:aA) (K:NO) (mg:ao->Option aa) (base:ak) (A:av) (outer:List Env) (s:ah) (H:Hp):Prop where
 frames:A.frames=some outer
 mod:Mod K mg base
 bs:∀b o,base.get? b=some o->s.heap.get? b=some o/\H b=none
 bsz:base.objs.size<=s.heap.objs.size
 funs:s.heap.FunFrames base outer
 frf:∀b∈frs outer,H b=none
 hok:HOk P w H s.heap
 bare:cE s.gens
def CE (outer:List Env) (P:ar) (w:aA) (H:Hp) (s:ah) (Q:VK) (u:aa) (s':ah):Prop:=
 ∃v H',s'.os=s.os/\cE s'.gens/\Un (frs outer) [] H H' s.heap s'.heap/\HOk P w H' s'.heap/\Ae v u/\Q v H'
def CR (CX:CXT) (outer:List Env) (P:ar) (w:aA) (H:Hp) (s:ah) (Q:VK) (E:XK) (r:gA) (s':ah):Prop:=
 match r with
 | .ok (.ret u)=>CE outer P w H s Q u s'
 | .ok _=>False
 | .error e=>CX outer H s E e s'
structure FnOk (P:ar) (w:aA) (K:NO) (mg:ao->Option aa) (base:ak) (CX:CXT) (k:Nat) (f:ae) (fd:bJ) (ps:Za) (sp:Sp):Prop where
 len:∀vs H Q E,sp vs H Q E->vs.length=ps.length
 run:∀(A:av) (outer:List Env) (s:ah) (H:Hp) (args:Args) (us:List aa) (vs:List V) (Q:VK) (E:XK),Room k A->Env0 P w K mg base A outer s H->fc s fd args (ps.zip us)->Vals vs us->sp vs H Q E ->
  bc (ag P w) A (.call (.ref f) args) (CR CX outer P w H s Q E) s
def Env0.make   {K}      (e:Env0 P w K mg base A outer s H) (C) (us) (kw):
  Env0 P w K mg base (A.under (.builtin "type.__call__" ⟨.ref C::us,kw⟩)) outer s H:=⟨by first | exact e.frames | (simpa [av.under,eZ.envs,eZ.isFrame,pushEnvs] using e.frames),e.mod,e.bs,e.bsz,e.funs,e.frf,e.hok,e.bare⟩
def Env0.in1   {K}   {A}  {s} (e:Env0 P w K mg base A outer s H):
  Env0 P w K mg base A.in1 outer s H:=⟨e.frames,e.mod,e.bs,e.bsz,e.funs,e.frf,e.hok,e.bare⟩
section
variable {X:Cx}{pins:List (ae×aM)}{Z:St}{H:Hp}{s s':ah}
def Inv.env0(I:Inv X pins Z H s):Env0 X.prog X.w X.K X.mg X.base X.A X.stack s H:=
 ⟨I.ok.frames,I.ok.mod,I.bs,Oq I.ok.bsz I.sz,I.stack,I.stkFree,I.hok,I.bare⟩
def Inv.after  (I:Inv X pins Z H s) (h:CE X.stack X.prog X.w H s Q u s'):EP X pins Z Q u s':=by
 obtain⟨v,H',os,bare,un,hok,r,q⟩:=h;obtain⟨hh,g,d,t,CC⟩:=s';obtain rfl:CC=s.os:=os;exact⟨v,H',I.call (h':=hh) (g':=g) (d':=d) (t':=t) (ch:=[]) un hok bare (λb z=>absurd z (by simp)),r,q⟩
end
def K0 (sp:Sp) (fO:List V) (E:XK) (t:TA):TE:=fun Z H Q=>t Z H λvs H1=>sp (vs++fO) H1 Q E
def tMeth (C:ae) (m:ao) (sp:Sp) (fO:List V) (E:XK) (ta:TE) (t:TA):TE:=fun Z H Q=>ta Z H λx H1=>∃a dx fs,x = .ref a/\H1 a=some (.ins C dx fs)/\fs.lookup m=none /\
 t Z H1 λvs H2=>sp (x::(vs++fO)) H2 Q E
def tMake (C:ae) (sp:Sp) (fO:List V) (E:XK) (t:TA):TE:=fun Z H Q=>t Z H λvs H1=>∀x dx,H1 x=none->H1 dx=none->dx≠x ->
 sp (.ref x::(vs++fO)) (upd (upd H1 dx (.own x)) x (.ins C dx [])) (λv H2=>v = .non/\Q (.ref x) H2) E
def Binds (K:NO) (fd:bJ) (ps:Za) (ds:List aa):Prop:=
 ∀(s:ah) (us:List aa),K.In s.heap->(us++ds).length=ps.length->fc s fd ⟨us,[]⟩ (ps.zip (us++ds))
def Binds.all{K}  (h:∀us:List aa,us.length=ps.length->fe fd ⟨us,[]⟩=pure (ps.zip us)):Binds K fd ps []:=λs us _ hl=>by
 rw[Oy] at hl ⊢;exact .of_eq (h us hl)
def Passes (CX:CXT) (X:Cx) (E:XK):Prop:=∀(pins:List (ae×aM)) (Z:St) (H:Hp) (s:ah) (e:aa) (s':ah),Inv X pins Z H s->CX X.stack H s E e s'->X.xe e s'
section
variable {X:Cx}{CX:CXT}{k:Nat}{f C:ae}{fd:bJ}{ps:Za}{sp:Sp}{fO:List V}{ds:List aa}{E:XK}{x m:ao}{p pos dL:cF}{e o:aL}{es:List aL}{ta:TE}{t:TA}
def Xhv       (F:FnOk X.prog X.w X.K X.mg X.base CX k f fd ps sp) (hr:Room k X.A) (hb:Binds X.K fd ps ds) (hd:Vals fO ds) (hx:Passes CX X E)
  (I:Inv X pins Z H s) (r:Vals vs us) (h:sp (vs++fO) H Q E):af (ag X.prog X.w) X.A (call (.ref f) us) (EP X pins Z Q) X.xe s:=by
 have r2:Vals (vs++fO) (us++ds):=r.append hd;have hl:(us++ds).length=ps.length:=by rw[<-r2.length];exact F.len _ _ _ _ h
 refine dq (bw (F.run X.A X.stack s H ⟨us,[]⟩ (us++ds) (vs++fO) Q E hr I.env0 (hb s us I.kIn hl) r2 h) λr s' hq=>?_);cases r with
 | error e=>exact hx pins Z H s e s' I hq
 | ok fl=>
  cases fl with
  | ret u=>exact I.after hq
  | next=>exact False.elim hq
  | brk=>exact False.elim hq
  | cont=>exact False.elim hq
def Xhw(F:FnOk X.prog X.w X.K X.mg X.base CX k f fd ps sp)(hr:Room k X.A)(hg:Gl X x)(hm:X.mg x=some (.ref f))(hk:NW X.K (.ref f)=true)(hb:Binds X.K fd ps ds)(hd:Vals fO ds)(hx:Passes CX X E)
  (ha:PA X (e::es) t) (fU:(x==("__debug__" : ao))=false:=by decide) (he:az (e::es) X.env=(false,eval e X.env)::az es X.env:=by rfl) (bN:(bq pos (az es X.env)).any (·.1)=false:=by rfl):
  PE X (.Call (.Name x p) (e::es) [] pos) (K0 sp fO E t):=by
 k_ne;refine bV (Fs I hg hm ?_ fU);refine OO (h₀:=X.base) I.ok.mod.kin hk (thn (ha pos pins s Z H _ I h) λus s1 ⟨vs,H1,I1,r,q⟩=>⟨I1.kIn,?_⟩) he bN;exact Xhv F hr hb hd hx I1 r q
structure Mk (K:NO) (C f:ae):Prop where
 makes:PySem.W.makesIn K C=true
 init:NR K (.ref C) "__init__" = some (some (.ref f))
 fn:PD K (.ref f)=true
 kp:NW K (.ref C)=true
end
def PK (X:Cx) (l8:List cQ) (t:TA):Prop:=
 ∀(pos:cF) (pins:List (ae×aM)) (s:ah) (Z:St) (H:Hp) (Q:List V->Hp->Prop),Inv X pins Z H s->t Z H Q->af (ag X.prog X.w) X.A (evalAll ((cI pos (bK l8 X.env)).map (·.2))) (AP X pins Z Q) X.xe s
section
variable {X:Cx}{CX:CXT}{k:Nat}{f C:ae}{fd:bJ}{ps ks:Za}{sp:Sp}{E:XK}{x m:ao}{p pos dL vA:cF}{e o:aL}{es:List aL}{l8:List cQ}{te ta:TE}{t tk:TA}{nm:Option ao}
def Xhx:PK X [] Fw:=λ_ _ _ _ H Q I h=>wpAny_evalAll_nil ⟨[],H,I,.nil,h⟩
def Xhy(ha:PE X e te)(hr:PK X l8 t):PK X (⟨nm,e,vA⟩::l8) (Eh te t):=by
 intro pos pins s Z H Q I h
 show af _ _ (evalAll ((do    let v <-eval e X.env;dh pos;pure v)::(cI pos (bK l8 X.env)).map (·.2))) _ _ s;refine wpAny_evalAll_cons (Sr (thn (ha pins s Z H _ I h) λu s1 ⟨x,H1,I1,r1,q1⟩=>Sr (aU (Ss ?_))));exact thn (hr pos pins s1 Z H1 _ I1 q1) λus s2 ⟨xs,H2,I2,r2,q2⟩=>⟨x::xs,H2,I2,.cons r1 r2,q2⟩
structure KBinds (K:NO) (fd:bJ) (ps ks:Za) (g:List aa->List aa->List aa) (gV:List V->List V->List V):Prop where
 to:∀(s:ah) (us ws:List aa),K.In s.heap->(g us ws).length=ps.length->fc s fd ⟨us,ks.zip ws⟩ (ps.zip (g us ws))
 cT:∀{vs:List V} {us:List aa} {zs:List V} {ws:List aa},Vals vs us->Vals zs ws->Vals (gV vs zs) (g us ws)
variable {g:List aa->List aa->List aa}{gV:List V->List V->List V}
end
structure FnScope (N P:Za) (sc:cw):Prop where
 kind:sc.kind = .function
 co:sc.isCoroutine=false
 gen:sc.isGenerator=false
 nd:N.Nodup
 pre:N.take P.length=P
 par:∀x∈P,sc.names.lookup x=some .local\/sc.names.lookup x=some .cell
 nofree:∀y∈sc.names,y.2 ≠ .free
theorem Xay{kindOf}:∀{binds:List (ao×aa)} {m:ao->Option aa},(∀v,(x,v)∉binds)->ja kindOf binds m x=m x
 | [],_,_=>rfl
 | (n,v)::r,m,h=>by
  unfold ja;rw[Xay λw hw=>h w (Nw _ hw)];split
  ·have:x≠n:=by rintro rfl;exact h v Ny
   simp[this]
  ·rfl
theorem Xaz{kindOf}:∀{binds:List (ao×aa)} {m:ao->Option aa},(∀v,(x,v)∉binds)->jb kindOf binds m x=m x
 | [],_,_=>rfl
 | (n,v)::r,m,h=>by
  unfold jb;rw[Xaz λw hw=>h w (Nw _ hw)];split
  ·rfl
  ·have:x≠n:=by rintro rfl;exact h v Ny
   simp[this]
theorem Xa0{kindOf}  : ∀{P:Za} {vs:List aa} {i:Nat} {m:ao->Option aa},P.Nodup->P[i]? = some x->vs[i]? = some v->kindOf x=some .local ->
  ja kindOf (P.zip vs) m x=some v
 | [],_,_,_,_,h,_,_=>by simp at h
 | _::_,[],_,_,_,_,h,_=>by simp at h
 | p::P,w::vs,0,m,nd,h1,h2,hk=>by
  simp at h1 h2;subst h1;subst h2;show ja kindOf ((p,w)::P.zip vs) m p=_;unfold ja;rw[Xay λv hv=>(Pd.mp nd).1 (R0 hv).1,Sy hk];simp
 | p::P,w::vs,i+1,m,nd,h1,h2,hk=>by
  show ja kindOf ((p,w)::P.zip vs) m x=_;unfold ja;exact Xa0 (i:=i) (Pd.mp nd).2 (by simpa using h1) (by simpa using h2) hk
theorem Xa1{kindOf}  : ∀{P:Za} {vs:List aa} {i:Nat} {m:ao->Option aa},P.Nodup->P[i]? = some x->vs[i]? = some v->kindOf x≠some .local ->
  jb kindOf (P.zip vs) m x=some v
 | [],_,_,_,_,h,_,_=>by simp at h
 | _::_,[],_,_,_,_,h,_=>by simp at h
 | p::P,w::vs,0,m,nd,h1,h2,hk=>by
  simp at h1 h2;subst h1;subst h2;show jb kindOf ((p,w)::P.zip vs) m p=_;unfold jb;rw[Xaz λv hv=>(Pd.mp nd).1 (R0 hv).1,Sx hk];simp
 | p::P,w::vs,i+1,m,nd,h1,h2,hk=>by
  show jb kindOf ((p,w)::P.zip vs) m x=_;unfold jb;exact Xa1 (i:=i) (Pd.mp nd).2 (by simpa using h1) (by simpa using h2) hk
def start (N:Za) (vs:List V):St:=vs.map some++List.replicate (N.length - vs.length) none
def Bj (CX:CXT) (P:ar) (w:aA) (K:NO) (mg:ao->Option aa) (base:ak) (N:Za) (qual:ao) (scope:cw) (f:ae) (cd:aa) (A:av) (outer:List Env) (s:ah) (H:Hp) (E:XK):Cx where
 prog:=P
 w:=w
 K:=K
 mg:=mg
 base:=base
 A:=A.deeper (au qual scope s.heap.objs.size f cd)
 N:=N
 s₀:=s
 H₀:=H
 env:=au qual scope s.heap.objs.size f cd
 outer:=outer
 stack:=au qual scope s.heap.objs.size f cd::outer
 ex:=[]
 calm:=true
 fn:=λ_=>true
 pn:=[]
 xe:=λe s'=>af (ag P w) (A.deeper (au qual scope s.heap.objs.size f cd)) (leaving (au qual scope s.heap.objs.size f cd) e) (λ_ mj=>CX outer H s E e mj) (λe' mj=>CX outer H s E e' mj) s'
def Xa2{sc:cw}{n}(h:sc.names.lookup x=some .cell):∃c,(bP n sc.names []).lookup x=some c:=by
 have q:=NY sc.names n [] (.inl h);exact P5.mp q
def Xa3    {K}              (S:FnScope N ps scope) (hd:A.handled=none) (e0:Env0 P w K mg base A outer s H) (hl:vs.length=ps.length) (r:Vals vs us)
  (x:InCallC s s.heap.objs.size (ja (au qual scope s.heap.objs.size f cd).kindOf (ps.zip us) λ_=>none) (bP (s.heap.objs.size+1) scope.names []) (jb (au qual scope s.heap.objs.size f cd).kindOf (ps.zip us) λ_=>none) s1):
  Inv (Bj CX P w K mg base N qual scope f cd A outer s H E) [] (start N vs) H s1:=by
 have bN:ps.length<=N.length:=by have:=congrArg List.length S.pre;rw[N8] at this;lia
 obtain⟨h1,tk,rfl,hk⟩:=x.done;have rE:∀b:ae,b∉(Bj CX P w K mg base N qual scope f cd A outer s H E).ex:=λb z=>absurd (show b∈([]:List ae) from z) (by simp);refine⟨⟨e0.mod,S.kind,rfl,rfl,Nr _,λy z c h1 h2=>?_,λy hy=>?_,λy c _ h=>?_,λ_=>hd,av.frames_deeper e0.frames,.inr ⟨rfl,rfl⟩,λb z=>absurd z (rE b),e0.bs,e0.bsz,λb _ _=>rE b,λb z=>absurd z (rE b),e0.funs,e0.frf⟩,
  rfl,e0.bare,Un.kept hk,⟨_,x.toInCall.ns,λi y v h1 h2 h3=>?_⟩,λy c h=>⟨_,x.cell y c h⟩,e0.hok.fresh (Nr _),λy c h=>?_,λp hp=>absurd (show p∈([]:List (ae×aM)) from hp) (by simp),e0.hok.kept hk,?_⟩
 ·exact name_of_addr x.apart (PySem.mem_of_lookup h1) (PySem.mem_of_lookup h2)
 ·have hy:scope.names.lookup y=some .cell\/scope.names.lookup y=some .free:=hy;rcases hy with hy | hy
  ·exact Xa2 hy
  ·exact absurd rfl (S.nofree _ (PySem.mem_of_lookup hy))
 ·exact Rb (x.above y c (PySem.mem_of_lookup h))
 ·have hi:i<vs.length:=by
   unfold start at h2;by_cases hi:i<vs.length
   ·exact hi
   ·rw[Ph (by simpa using hi)] at h2;rw[List.getElem?_replicate] at h2;split at h2<;>cases h2
  have ha:vs[i]? = some v:=by
   unfold start at h2;rw[Pj (by simpa using hi),Oa] at h2;cases e:vs[i]? with
   | none=>rw[e] at h2;cases h2
   | some a=>rw[e] at h2;cases h2;rfl
  obtain⟨u,hu,rv⟩:=r.get ha;have hp:ps[i]? = some y:=by
   rw[<-S.pre,List.getElem?_take_of_lt (by lia)];exact h1
  have za:ps.Nodup:=by rw[<-S.pre];exact S.nd.sublist (Pe _ _)
  refine⟨u,rv,?_⟩;rcases S.par y (Pr hp) with k | k
  ·exact .inl ⟨k,Xa0 za hp hu k⟩
  ·obtain⟨c,e⟩:=Xa2 (n:=s.heap.objs.size+1) k;refine .inr ⟨.inl k,c,e,?_⟩;have q:=x.cell y c e;rw[Xa1 za hp hu (by show scope.names.lookup y≠_;rw[k];decide)] at q;exact q
 ·exact e0.hok.fresh (Rb (x.above y c (PySem.mem_of_lookup h)))
 ·unfold start;show _=N.length;rw[Nx,Np,List.length_replicate]
  lia
def Ij    {K}         {dV kV cW pm cdv ct oc}    (lk:K.lookup f=some ⟨oc,od,.func (OA name qual params body scope dV kV cW pm an cdv ct),gr⟩) (eR:OD K cdv qual=true) (S:FnScope N ps scope)
  (len:∀vs H Q E,sp vs H Q E->vs.length=ps.length)
  (dM:∀(A:av) (outer:List Env) (s:ah) (H:Hp) (vs:List V) (Q:VK) (E:XK),Room k (A.deeper (au qual scope s.heap.objs.size f cdv))->sp vs H Q E ->
   ∃t,PSs (Bj CX P w K mg base N qual scope f cdv A outer s H E) body t/\t {nx:=λ_ H'=>Q .non H',rt:=Q} (start N vs) H):
  FnOk P w K mg base CX (k+1) f (OA name qual params body scope dV kV cW pm an cdv ct) ps sp:=by
 refine⟨len,λA outer s H args us vs Q E hr e0 hb r gt=>?_⟩;have hl:=len _ _ _ _ gt;have KX:K.In s.heap:=e0.mod.kin.keeps λb o e=>(e0.bs b o e).1;have vB:s.heap.NoLimit:=e0.mod.nolimit.keeps λb o e=>(e0.bs b o e).1;have fP:∀y∈ps.zip us,scope.names.lookup y.1=some .local\/(scope.names.lookup y.1=some .cell/\((bP (s.heap.objs.size+1) scope.names []).lookup y.1).isSome=true):=λ⟨n,v⟩ hy=>by
  rcases S.par n (R0 hy).1 with q | q
  ·exact .inl q
  ·exact .inr ⟨q,NY _ _ _ (.inl q)⟩
 refine codeAny_call_function hr.depth (KX _ _ lk) rfl S.co S.gen rfl (PySem.W.codeRec_of KX eR) (hb _ _ _ _ ?_);refine gB S.kind fP λenv he s1 x=>?_;subst he;refine⟨vB.keeps x.toInCall.keep,codeAny_func ?_⟩;obtain⟨t,ht,hq⟩:=dM A outer s H vs Q E (hr.deeper _) gt;have I:Inv (Bj CX P w K mg base N qual scope f cdv A outer s H E) [] (start N vs) H s1:=Xa3 S hr.hd e0 hl r x;refine aF (ht [] s1 (start N vs) H _ I hq) (λfl s' hs=>?_) λe s' hs=>hs;have fin:∀{Z':St} {H':Hp} {v:V} {u:aa},Inv (Bj CX P w K mg base N qual scope f cdv A outer s H E) [] Z' H' s'->Ae v u->Q v H'->CE outer P w H s Q u s':=
  λ{Z' H' v u} J rv q=>⟨v,H',J.os,J.bare,J.base,J.hok,rv,q⟩
 cases fl with
 | ret u=>
  obtain⟨v, Z',H',J,rv,q⟩:=hs;exact fin J rv q
 | next=>
  obtain⟨Z',H',J,q⟩:=hs;exact fin (v:=V.non) (u:=aa.none) J rfl q
 | brk=>
  obtain⟨_,_,_,q⟩:=hs;exact False.elim q
 | cont=>
  obtain⟨_,_,_,q⟩:=hs;exact False.elim q
section
variable {X:Cx}{x:ao}{p pos:cF}{e:aL}{es:List aL}{t:TA}{id T:String}{r:List V->Hp->VK->Prop}
def tCB (r:List V->Hp->VK->Prop) (t:TA):TE:=fun Z H Q=>t Z H λvs H1=>r vs H1 Q
def pe_callB(hc:Bh X (.builtin id) r)(hg:Gl X x)(hm:X.mg x=none)(hv:bO x=some (.builtin id))(ha:PA X (e::es) t)(hn:x ≠ "__name__" := by decide)(fU:(x==("__debug__" : ao))=false:=by decide)
  (he:az (e::es) X.env=(false,eval e X.env)::az es X.env:=by rfl) (bN:(bq pos (az es X.env)).any (·.1)=false:=by rfl):PE X (.Call (.Name x p) (e::es) [] pos) (tCB r t):=by
 k_ne;refine bV (Ft I hg hm hv ?_ hn fU);exact PyProof.Rows.callWith_builtin1 (thn (ha pos pins s Z H _ I h) λus s1 ⟨vs,H1,I1,r1,q1⟩=>hc pins s1 Z H1 vs us Q I1 r1 q1) he bN
def Bq(hc:Bh X (.type T) r)(hg:Gl X x)(hm:X.mg x=none)(hv:bO x=some (.type T))(ha:PA X (e::es) t)(hn:x ≠ "__name__" := by decide)(fU:(x==("__debug__" : ao))=false:=by decide)
  (he:az (e::es) X.env=(false,eval e X.env)::az es X.env:=by rfl) (bN:(bq pos (az es X.env)).any (·.1)=false:=by rfl):PE X (.Call (.Name x p) (e::es) [] pos) (tCB r t):=by
 k_ne;refine bV (Ft I hg hm hv ?_ hn fU);exact PyProof.Rows.callWith_type1 (thn (ha pos pins s Z H _ I h) λus s1 ⟨vs,H1,I1,r1,q1⟩=>hc pins s1 Z H1 vs us Q I1 r1 q1) he bN
end
end L2
namespace HT
open PySem PyProof.Rows
def Xhz:List Int->List Int->Bool
 | [],[]=>false
 | [],_::_=>true
 | _::_,[]=>false
 | x::xs,y::ys=>if x=y then Xhz xs ys else decide (x<y)
section
open PySem.SeqAt
open PySem.AutoSeq1 (wpAny_loadPart')
open PySem.MeetsSeq PySem.MeetsSeq2 PySem.MeetsSeq3
end
section
variable {prog:ar}{w:aA}{A:av}{E:Zb}{s:ah}
def cat_tup   (ht:dA s.heap t vs.toArray) (hb:dA s.heap b ws.toArray) (hv:vs≠[])
  (h1:ws=[]->Q (.ref t) s) (h2:ws≠[]->Q (.ref s.heap.objs.size) {s with heap:=s.heap.push {cls:=.type "tuple",data:=.seq (vs++ws).toArray} })
  (hsz:vs.length+ws.length<=sizeLine):af (ag prog w) A (bv .Add (.ref t) (.ref b)) Q E s:=by
 obtain⟨⟨cls,dd,data,sl⟩,ho,hc,n,hd⟩:=id ht;obtain⟨⟨rF,l9,data2,nR⟩,jL,gC,n2,du⟩:=id hb;simp only at hc hd gC du;subst hc hd gC du;have e:vs.toArray++ws.toArray=(vs++ws).toArray:=by simp
 by_cases hw:ws=[]
 ·exact jo ⟨_,ho,rfl⟩ ⟨_,jL,rfl⟩ f9 i5 PySem.F.slot_tuple_add PySem.F.entry_tuple_add (PySem.F.args_tuple_add_2 _ _)
   (tuple_addW1 t b vs.toArray ws.toArray n n2 dd l9 sl nR (by simpa using hv) (by simp[hw])) ⟨ho,jL,h1 hw⟩
 ·refine jo ⟨_,ho,rfl⟩ ⟨_,jL,rfl⟩ f9 i5 PySem.F.slot_tuple_add PySem.F.entry_tuple_add (PySem.F.args_tuple_add_2 _ _)
   (tuple_addW2 t b vs.toArray ws.toArray n n2 dd l9 sl nR (by simpa using hv) (by simpa using hw) (by rw[Nt,Nt];exact hsz)) ⟨ho,jL,?_⟩
  rw[e];exact h2 hw
def sIx (n d:Nat):Option Int->Nat
 | none=>d
 | some v=>if v<0 then (v+(n:Int)).toNat else min v.toNat n
def sIx_none(n d):sIx n d none=d:=rfl
def sIx_nat(n d k:Nat):sIx n d (some (k:Int))=min k n:=by
 show (if (k:Int)<0 then ((k:Int)+(n:Int)).toNat else min (k:Int).toNat n)=min k n;rw[Sx (by lia),Q4]
def Xh0(n d)(hd:d<=n)(o):sIx n d o<=n:=by
 cases o with
 | none=>exact hd
 | some v=>
  show (if v<0 then (v+(n:Int)).toNat else min v.toNat n)<=n;by_cases hv:v<0
  ·rw[Sy hv];lia
  ·rw[Sx hv];exact Nat.min_le_right _ _
def Xa4(v)(n d:Nat):(if v<0 then max (v+(n:Int)) 0 else min v (n:Int))=((sIx n d (some v):Nat):Int):=by
 show (if v<0 then max (v+(n:Int)) 0 else min v (n:Int))=(((if v<0 then (v+(n:Int)).toNat else min v.toNat n):Nat):Int);by_cases hv:v<0
 ·simp only[Sy hv];lia
 ·simp only[Sx hv];lia
def Xh1(lo hi)(n:Nat):aj.Slice.sliceAdjust lo hi 1 (n:Int)=(((sIx n 0 lo:Nat):Int),((sIx n n hi:Nat):Int)):=by
 have h1:¬((1:Int)<0):=by lia
 unfold aj.Slice.sliceAdjust;simp only[h1,if_false];refine Prod.ext ?_ ?_
 ·cases lo with
  | none=>rfl
  | some v=>exact Xa4 v n 0
 ·cases hi with
  | none=>rfl
  | some v=>exact Xa4 v n n
def Xh2(i j:Nat):aj.Slice.slicePlaces (i:Int) (j:Int) 1=j - i:=by
 unfold aj.Slice.slicePlaces;have h1:(1:Int) > 0:=by lia
 simp only[h1,if_true,Int.ediv_one];split<;>lia
def Xa5   (p:dO v o) (h:Q o s):af (ag prog w) A (aj.Slice.slicePartIndex v) Q E s:=by
 cases p with
 | none=>exact dP h
 | int i t=>exact u6 h
def Xa6   {lo hi} {n:Nat} (hs:s.heap.IsSliceOf sl vl vu .none) (pl:dO vl lo) (pu:dO vu hi)
  (h:Q (((sIx n 0 lo:Nat):Int),1,sIx n n hi - sIx n 0 lo) s):af (ag prog w) A (aj.Slice.sliceApplied (.ref sl) (pure (n:Int))) Q E s:=by
 obtain⟨os,fu,oJ,lA⟩:=id hs;unfold aj.Slice.sliceApplied aj.Slice.sliceFields;refine Sr (Sr (aZ fu lA (x:=vl) rfl (Sr (aZ fu lA (x:=vu) rfl (Sr (aZ fu lA (x:=.none) rfl (Ss ?_)))))));refine Sr (dP ?_);show af _ _ (if ((1:Int)==0)=true then _ else _) _ _ s;gn_on;refine Sr (Xa5 pl (Sr (Xa5 pu (Sr (Ss ?_)))));show af _ _ (match aj.Slice.sliceAdjust lo hi 1 (n:Int) with | (lo,hi)=>pure (lo,(1:Int),aj.Slice.slicePlaces lo hi 1)) _ _ s;rw[Xh1 lo hi n];show af _ _ (pure (((sIx n 0 lo:Nat):Int),(1:Int),aj.Slice.slicePlaces ((sIx n 0 lo:Nat):Int) ((sIx n n hi:Nat):Int) 1)) _ _ s;rw[Xh2];exact Ss h
def Xh3(xs:Array aa)(i k:Nat):((List.range k).filterMap λ(m:Nat)=>xs[((i:Int)+(m:Int) * 1).toNat]?).toArray=((xs.toList.drop i).take k).toArray:=by
 have e:(λ(m:Nat)=>xs[((i:Int)+(m:Int) * 1).toNat]?)=λm=>xs[i+m]?:=by
  funext m;have:((i:Int)+(m:Int) * 1).toNat=i+m:=by lia
  rw[this]
 rw[e];have:=pick_run xs i k;rw[R8] at this;have e2:((λx=>xs[x]?) ∘ λx=>i+x)=λm=>xs[i+m]?:=rfl;rw[e2] at this;rw[this]
def getItem_tuple_cut    {lo hi} (ht:dA s.heap t ax) (hs:s.heap.IsSliceOf sl vl vu .none) (pl:dO vl lo) (pu:dO vu hi)
  (hw:¬(sIx ax.size 0 lo=0/\sIx ax.size ax.size hi=ax.size))
  (h:Q (.ref s.heap.objs.size) {s with heap:=s.heap.push {cls:=.type "tuple",data:=.seq ((ax.toList.drop (sIx ax.size 0 lo)).take (sIx ax.size ax.size hi - sIx ax.size 0 lo)).toArray} })
  (hsz:ax.size<=sizeLine):af (ag prog w) A (cf (.ref t) (.ref sl)) Q E s:=by
 have dQ:sizeOk (.seq ((ax.toList.drop (sIx ax.size 0 lo)).take (sIx ax.size ax.size hi - sIx ax.size 0 lo)).toArray):=by
  show ((ax.toList.drop (sIx ax.size 0 lo)).take (sIx ax.size ax.size hi - sIx ax.size 0 lo)).toArray.size<=sizeLine;rw[Nt,N8,O4,N1]
  lia
 have hj:sIx ax.size ax.size hi<=ax.size:=Xh0 _ _ (Nr _) hi;obtain⟨os,fu,oJ,lA⟩:=id hs;have lB:s.TypeIs (.ref sl) "slice" := ⟨os,fu,oJ⟩;unfold cf
 try with_reducible refine aw ?_
 first | refine Sr (Ss ?_) | skip
 refine Sr (fg ht.typeIs (by decide) ?_);refine Sr (bC (name:=ao.ofString "__getitem__") ht.typeIs PyProof.Rows.slot_tuple_getitem
  (aR PyProof.Rows.slot_tuple_getitem ht.typeIs eA ?_ (eK _ _)))
 k_get;refine Sr (Xa6 hs pl pu ?_);have dZ:¬((((sIx ax.size 0 lo:Nat):Int)==0&&(1:Int)==1&&(sIx ax.size ax.size hi - sIx ax.size 0 lo)==ax.size)=true):=by
  intro q;rw[N3,N3] at q;have q1:((sIx ax.size 0 lo:Nat):Int)=0:=eq_of_beq q.1.1;have q2:sIx ax.size ax.size hi - sIx ax.size 0 lo=ax.size:=eq_of_beq q.2;exact hw ⟨by lia,by lia⟩
 show af _ _ (if (((sIx ax.size 0 lo:Nat):Int)==0&&(1:Int)==1&&(sIx ax.size ax.size hi - sIx ax.size 0 lo)==ax.size)=true then _ else _) _ _ s;rw[Sx dZ,Xh3]
 first
  | exact Sr (m:=aj.Tuple.tupleExact _) (aC (Ss ⟨_,rfl,Ss h⟩) dQ)
  | exact Sr (m:=aj.Tuple.tupleExact _) (aC (Sr (Ss (Ss ⟨_,rfl,Ss h⟩))) dQ)
  | exact Sr (Sr (m:=aj.Tuple.tupleExact _) (aC (Ss (Ss ⟨_,rfl,Ss h⟩)) dQ))
  | exact Sr (Sr (m:=aj.Tuple.tupleExact _) (aC (Ss ⟨_,rfl,Ss h⟩) dQ))
end
end HT
namespace L2
abbrev TO:=St->Hp->(Option Int->Hp->Prop)->Prop
def PO (X:Cx) (e:Option aL) (t:TO):Prop:=
 ∀pins s Z H (Q:Option Int->Hp->Prop),Inv X pins Z H s->t Z H Q ->
  af (ag X.prog X.w) X.A (evalPart e X.env) (λu s'=>∃o H',Inv X pins Z H' s'/\dO u o/\Q o H') X.xe s
def K1:TO:=λ_ H Q=>Q none H
def K2 (t:TE):TO:=fun Z H Q=>t Z H λx H1=>∃i,x = .int i/\Q (some i) H1
section
variable {X:Cx}{e:aL}{te:TE}{lo hi:Option aL}{tl th:TO}{pos p2:cF}
def Cf:PO X none K1:=by
 k_ne;rw[eF];exact Ss ⟨none,H,I,.none,h⟩
def B1(h:PE X e te):PO X (some e) (K2 te):=by
 intro pins s Z H Q I hw;rw[i7];refine thn (h pins s Z H _ I hw) λu s1 ⟨x,H1,I1,r1,q1⟩=>?_;obtain⟨i,rfl,q⟩:=q1;obtain⟨t,rfl⟩:=r1;exact⟨some i,H1,I1,.int i t,q⟩
def SlR (X:Cx) (r:V->Option Int->Option Int->Hp->VK->Prop):Prop:=
 ∀pins s Z H (x:V) (v vl vu:aa) (lo hi:Option Int) (sl:ae) (Q:VK),Inv X pins Z H s->Ae x v->s.heap.IsSliceOf sl vl vu .none->dO vl lo->dO vu hi->r x lo hi H Q ->
  ∃T id,eL (.type T) "__getitem__" = pure (some (.builtin id))/\s.TypeIs v T/\af (ag X.prog X.w) X.A (cf v (.ref sl)) (EP X pins Z Q) X.xe s
def tSl (r:V->Option Int->Option Int->Hp->VK->Prop) (te:TE) (tl th:TO):TE:=fun Z H Q=>te Z H λx H1=>tl Z H1 λl H2=>th Z H2 λu H3=>r x l u H3 Q
def B6(hr:SlR X r)(he:PE X e te)(hl:PO X lo tl)(hu:PO X hi th):PE X (.Subscript e (.Slice lo hi none p2) pos) (tSl r te tl th):=by
 k_ne;refine eM (thn (he pins s Z H _ I h) λv s1 ⟨x,H1,I1,r1,q1⟩=>?_);refine kj (thn (hl pins s1 Z H1 _ I1 q1) λvl s2 ⟨l,H2,I2,pl,q2⟩=>thn (hu pins s2 Z H2 _ I2 q2) λvu s3 ⟨u,H3,I3,pu,q3⟩=>?_);rw[eF];refine Ss ?_;have I4:Inv X pins Z H3 {s3 with heap:=s3.heap.push {cls:=.type "slice",data:=.fields #[vl,vu,.none]} }:=I3.kept (t':=s3.toks) λb ob q=>S8 _ q;obtain⟨T,id,hT,ht,hg⟩:=hr pins {s3 with heap:=s3.heap.push {cls:=.type "slice",data:=.fields #[vl,vu,.none]} } Z H3 x v vl vu l u s3.heap.objs.size Q I4 r1 (ak.IsSliceOf.new ..) pl pu q3;show af (ag X.prog X.w) X.A (i8 e (.Slice lo hi none p2) v (.ref s3.heap.objs.size)) (EP X pins Z Q) X.xe {s3 with heap:=s3.heap.push {cls:=.type "slice",data:=.fields #[vl,vu,.none]} };exact km (ops:=[.ref s3.heap.objs.size,v]) ht hT hg (by with_unfolding_all rfl)
def Br (xs:List V) (lo hi:Option Int):List V:=(xs.drop (HT.sIx xs.length 0 lo)).take (HT.sIx xs.length xs.length hi - HT.sIx xs.length 0 lo)
def Xa7(xs)(lo hi):(Br xs lo hi).length<=xs.length:=by
 unfold Br;rw[N8,O4]
 lia
def rSlT (K:NO):V->Option Int->Option Int->Hp->VK->Prop:=λx lo hi H Q=>∃a xs,x = .ref a/\SqT K H a xs /\
 ¬(HT.sIx xs.length 0 lo=0/\HT.sIx xs.length xs.length hi=xs.length)/\∀p,H p=none->Q (.ref p) (upd H p (.tup (Br xs lo hi)))
def Xh4:SlR X (rSlT X.K):=by
 intro pins s Z H x v vl vu lo hi sl Q I rx hs pl pu h;obtain⟨a,xs,rfl,hx,hw,q⟩:=h;cases rx;obtain⟨aB,r,ht,hz⟩:=I.tuple hx;have aV:aB.toArray.size=xs.length:=by rw[Nt];exact r.length.symm
 refine⟨"tuple",_,PyProof.Rows.slot_tuple_getitem.lookup,ht.typeIs,?_⟩;refine HT.getItem_tuple_cut ht hs pl pu (by rw[aV];exact hw) ?_ (by rw[aV];exact hz);rw[aV];refine⟨.ref s.heap.objs.size,_,I.laid (t':=s.toks) (o:=.tup (Br xs lo hi)) (λb ob q=>S8 _ q) (Nr _) ?_,rfl,q _ (I.hok.fresh (Nr _))⟩;exact⟨Oq (Xa7 xs lo hi) hz,_,(r.drop (HT.sIx xs.length 0 lo)).take (HT.sIx xs.length xs.length hi - HT.sIx xs.length 0 lo),dA.new _ _⟩
def Xh5 (K:NO):R2:=λx y H Q=>∃a b xs ys,x = .ref a/\y = .ref b/\SqT K H a xs/\SqT K H b ys/\xs≠[]/\xs.length+ys.length<=sizeLine /\
 (ys=[]->Q (.ref a) H)/\(ys≠[]->∀p,H p=none->Q (.ref p) (upd H p (.tup (xs++ys))))
def Vals.nil_iff  (r:Vals xs us):us=[]↔xs=[]:=by
 cases r with
 | nil=>simp
 | cons _ _=>simp
def Xh6:OpR X (bv .Add) (Xh5 X.K):=by
 k_go;obtain⟨a,b,xs,ys,rfl,rfl,ha,hb,hx,hz,q1,q2⟩:=h;cases rx;cases ry;obtain⟨aB,r1,p1,_⟩:=I.tuple ha;obtain⟨gD,r2,p2,_⟩:=I.tuple hb;refine HT.cat_tup p1 p2 (λz=>hx (r1.nil_iff.mp z)) (λz=>⟨.ref a,H,I,rfl,q1 (r2.nil_iff.mp z)⟩) (λz=>?_) (by rw[<-r1.length,<-r2.length];exact hz);refine⟨.ref s.heap.objs.size,_,I.laid (t':=s.toks) (o:=.tup (xs++ys)) (λb ob q=>S8 _ q) (Nr _) ?_,rfl,q2 (λw=>z (r2.nil_iff.mpr w)) _ (I.hok.fresh (Nr _))⟩;exact⟨by rw[Nx];exact hz,_,r1.append r2,dA.new _ _⟩
end
def ixN (n:Nat) (i:Int):Option Nat:=if 0<=i then (if i<n then some i.toNat else none) else if -(n:Int)<=i then some (i+n).toNat else none
def atI {α : Type} (xs:List α) (i:Int):Option α:=(ixN xs.length i).bind λj=>xs[j]?
def Xa8   (h:ixN n i=some j):LQ i n=some j/\j<n /\ -(n:Int)<=i/\i<n:=by
 unfold ixN at h;by_cases h0:0<=i
 ·rw[Sy h0] at h;by_cases h1:i<n
  ·rw[Sy h1] at h;have e:i.toNat=j:=N5 h;exact⟨by rw[ko h0 h1,e],by lia,by lia,h1⟩
  ·rw[Sx h1] at h;cases h
 ·rw[Sx h0] at h;by_cases h1 : -(n:Int)<=i
  ·rw[Sy h1] at h;have e:(i+n).toNat=j:=N5 h;exact⟨by rw[seqIndex_neg (by lia) h1,e],by lia,h1,by lia⟩
  ·rw[Sx h1] at h;cases h
def K3{α : Type}{xs}{v : α}(h:atI xs i=some v):∃j,LQ i xs.length=some j/\xs[j]? = some v/\j<xs.length /\ -(xs.length:Int)<=i/\i<xs.length:=by
 unfold atI at h;cases e:ixN xs.length i with
 | none=>rw[e] at h;cases h
 | some j=>
  rw[e] at h;obtain⟨h1,h2,h3,h4⟩:=Xa8 e;exact⟨j,h1,h,h2,h3,h4⟩
def D1{α : Type}{xs}{j:Nat}{v : α}(h:xs[j]? = some v):atI xs (j:Int)=some v:=by
 have hj:j<xs.length:=(N7.mp h).1;have e:ixN xs.length (j:Int)=some j:=by
  unfold ixN;rw[Sy (by lia),Sy (by lia)];simp
 unfold atI;rw[e];exact h
def Xh7 (b:aL):Prop:=∀o i,subscripted b false o i=operate [o,i] (cf o i)
def IxR (X:Cx) (r:R2):Prop:=
 ∀(value slice:aL) (pins:List (ae×aM)) (s:ah) (Z:St) (H:Hp) (x y:V) (v u:aa) (Q:VK),Inv X pins Z H s->Ae x v->Ae y u->r x y H Q ->
  subscripted slice false v u=operate [v,u] (cf v u)->af (ag X.prog X.w) X.A (i8 value slice v u) (EP X pins Z Q) X.xe s
def MtR (X:Cx) (id:String) (r:V->List V->Hp->VK->Prop):Prop:=
 ∀pins s Z H (x:V) (xs:List V) (v:aa) (us:List aa) (Q:VK),Inv X pins Z H s->Ae x v->Vals xs us->r x xs H Q ->
  af (ag X.prog X.w) X.A (call (.builtin id) (v::us)) (EP X pins Z Q) X.xe s
section
variable {X:Cx}{a b:aL}{ta tb:TE}{pos:cF}
def pe_ix(hr:IxR X r)(ha:PE X a ta)(hb:PE X b tb)(hs:Xh7 b):PE X (.Subscript a b pos) (tOp r ta tb):=by
 k_ne;exact eM (binT ha hb I h λv u s2 x y H2 I2 rx ry q=>hr a b pins s2 Z H2 x y v u Q I2 rx ry q (hs _ _))
def Xa9 (K:NO):R2:=λx y H Q=>∃p xs i v,x = .ref p/\y = .int i/\SqL K H p xs/\atI xs i=some v/\Q v H
def K4 (K:NO):R2:=λx y H Q=>∃p xs i v,x = .ref p/\y = .int i/\SqT K H p xs/\atI xs i=some v/\Q v H
def Xba:R2:=λx y H Q=>∃z i c,x = .str z/\y = .int i/\z.length<=sizeLine/\atI z.cps.toList i=some c/\Q (.str ⟨#[c]⟩) H
def Bf:IxR X (Xa9 X.K):=by
 intro value slice pins s Z H x y v u Q I rx ry h hs;obtain⟨p,xs,i,z,rfl,rfl,hq,he,q⟩:=h;cases rx;obtain⟨t,rfl⟩:=ry;obtain⟨aB,r,pl,hz⟩:=I.list hq;obtain⟨j,h1,h2,h3,h4,h5⟩:=K3 he;obtain⟨w,ew,kr⟩:=r.get h2;have hl:=r.length;have hn:=line63;have fin:EP X pins Z Q w s:=⟨z,H,I,kr,q⟩;by_cases h0:0<=i
 ·have hj:i.toNat=j:=by
   rw[ko h0 h5] at h1;exact N5 h1
  exact item_listR pl.isList h0 (by lia) (by rw[hj];simpa using ew) fin hs
 ·have hj:(i+(aB.toArray.size:Int)).toNat=j:=by
   rw[seqIndex_neg (by lia) h4] at h1;rw[Nt,<-hl];exact N5 h1
  exact jp (x:=w) pl.isList.typeIs fh.lookup
   (wpAny_getItem_list_neg (Q:=λr s'=>r=w/\EP X pins Z Q r s') pl.isList (by lia) (by rw[Nt]<;>lia) (by lia) (by rw[hj];simpa using ew) ⟨rfl,fin⟩) hs
def ix_tup:IxR X (K4 X.K):=by
 intro value slice pins s Z H x y v u Q I rx ry h hs;obtain⟨p,xs,i,z,rfl,rfl,hq,he,q⟩:=h;cases rx;obtain⟨t,rfl⟩:=ry;obtain⟨aB,r,pl,hz⟩:=I.tuple hq;obtain⟨j,h1,h2,h3,h4,h5⟩:=K3 he;obtain⟨w,ew,kr⟩:=r.get h2;have hl:=r.length;have hn:=line63;have fin:EP X pins Z Q w s:=⟨z,H,I,kr,q⟩;exact jp (x:=w) pl.typeIs slot_tuple_getitem.lookup
  (getItem_tuple (j:=j) (Q:=λr s'=>r=w/\EP X pins Z Q r s') pl (by lia) (by lia) (by rw[Nt,<-hl];exact h1) (by simpa using ew) ⟨rfl,fin⟩) hs
def Xh8:IxR X Xba:=by
 intro value slice pins s Z H x y v u Q I rx ry h hs;obtain⟨z,i,c,rfl,rfl,hz,he,q⟩:=h;k_end;obtain⟨j,h1,h2,h3,h4,h5⟩:=K3 he;have hl:z.cps.toList.length=z.length:=by simp[ao.length]
 rw[hl] at h1 h4 h5;have hn:=line63;exact km (ml s z t) slot_str_getitem.lookup (getItem_str (c:=c) (by
  have e1:decide (i < -(2 ^ 63:Int))=false:=S0 (by lia);have e2:decide (i ≥ 2 ^ 63)=false:=S0 (by lia);rw[e1,e2,Sn]) (by rw[h1];simpa using h2) ⟨.str ⟨#[c]⟩,H,I.tok _,⟨_,rfl⟩,q⟩) hs
def rIx (K:NO):R2:=λx y H Q=>Xa9 K x y H Q\/K4 K x y H Q\/Xba x y H Q
def Xh9(aB:List aa)(n j)(u):aM.mapSeq (·.setIfInBounds j u) {cls:=.type "list",data:=.seq aB.toArray n} = {cls:=.type "list",data:=.seq (aB.set j u).toArray n}:=by
 simp[aM.mapSeq]
def Inv.lst{pins}{Z:St}{H}{s}{p}{xs}(I:Inv X pins Z H s)(h:H p=some (.lst xs)):
  ∃(aB:List aa) (n:Nat),Vals xs aB/\s.heap.get? p=some {cls:=.type "list",data:=.seq aB.toArray n}/\xs.length<=sizeLine:=by
 obtain⟨z,aB,n,r,e⟩:=I.hok p _ h;exact⟨aB,n,r,e,z⟩
def Inv.lstUpd       {aB its':List aa}  (I:Inv X pins Z H s) (h:H p=some (.lst xs))
  (ho:s.heap.get? p=some {cls:=.type "list",data:=.seq aB.toArray n}) (hf:f {cls:=.type "list",data:=.seq aB.toArray n} = {cls:=.type "list",data:=.seq its'.toArray n'}) (r:Vals ys its') (hz:ys.length<=sizeLine) (t):
  Inv X pins Z (upd H p (.lst ys)) {s with heap:=s.heap.update p f,toks:=t}:=by
 have e:(s.heap.update p f).get? p=some {cls:=.type "list",data:=.seq its'.toArray n'}:=by
  rw[ak.get?_update_self f ho (by rw[hf]<;>rfl),hf]
 refine I.write (x:=p) (e:=p) (by rw[h];trivial) (.inl rfl) (λb u hb q=>(ak.get?_update_other _ _ (Ne.symm hb)).trans q) ⟨_,e⟩ ?_;exact⟨hz,its',n',r,e⟩
def Xia:V->V->V->Hp->(Hp->Prop)->Prop:=λo i v H Q=>∃p xs k j,o = .ref p/\i = .int k/\H p=some (.lst xs)/\ixN xs.length k=some j/\Q (upd H p (.lst (xs.set j v)))
def E4:PSet X Xia:=by
 intro pins s Z H o i v ov iv u Q I ro ri rv h;obtain⟨p,xs,k,j,rfl,rfl,hp,hj,q⟩:=h;cases ro;obtain⟨t,rfl⟩:=ri;obtain⟨aB,n,r,ho,hz⟩:=I.lst hp;obtain⟨h1,h2,h3,h4⟩:=Xa8 hj;have hl:=r.length;have hn:=line63;have I':Inv X pins Z (upd H p (.lst (xs.set j v))) {s with heap:=s.heap.update p (aM.mapSeq (·.setIfInBounds j u))}:=
  I.lstUpd hp ho (Xh9 aB n j u) (r.set rv j) (by rw[List.length_set];exact hz) s.toks
 by_cases h0:0<=k
 ·have hk:k.toNat=j:=by
   rw[ko h0 h4] at h1;exact N5 h1
  exact PySem.W.ki_setAt ho h0 (by lia) (by rw[Nt,<-hl];exact h4) (by rw[hk];exact⟨_,I',q⟩)
 ·have hk:(k+(aB.toArray.size:Int)).toNat=j:=by
   rw[seqIndex_neg (by lia) h3] at h1;rw[Nt,<-hl];exact N5 h1
  exact PySem.W.ki_setBack ho (by lia) (by rw[Nt,<-hl];exact h3) (by lia) (by rw[hk];exact⟨_,I',q⟩)
def Xib(lo hi)(n):(c5 lo hi none n).1=((HT.sIx n 0 lo:Nat):Int)/\(c5 lo hi none n).2.1=((HT.sIx n n hi:Nat):Int)/\(c5 lo hi none n).2.2=1:=by
 refine⟨?_,?_,rfl⟩
 ·cases lo with
  | none=>simp[c5,HT.sIx]
  | some i=>
   simp only[c5,HT.sIx,Option.getD_none,show (1:Int) > 0 by decide,if_true];by_cases h:i<0
   ·simp only[h,if_true]<;>lia
   ·simp only[h,if_false]<;>lia
 ·cases hi with
  | none=>simp[c5,HT.sIx]
  | some i=>
   simp only[c5,HT.sIx,Option.getD_none,show (1:Int) > 0 by decide,if_true];by_cases h:i<0
   ·simp only[h,if_true]<;>lia
   ·simp only[h,if_false]<;>lia
def Xic(aB:List aa)(lo hi):LS aB.toArray lo hi none=((aB.drop (HT.sIx aB.length 0 lo)).take (HT.sIx aB.length aB.length hi - HT.sIx aB.length 0 lo)).toArray:=by
 obtain⟨h1,h2,h3⟩:=Xib lo hi aB.toArray.size;unfold LS;rw[h1,h2,h3];simp only[sliceRange_one,pick_run,Nt]<;>rfl
def rSlL (K:NO):V->Option Int->Option Int->Hp->VK->Prop:=λx lo hi H Q=>∃a xs,x = .ref a/\SqL K H a xs/\∀p,H p=none->Q (.ref p) (upd H p (.lst (Br xs lo hi)))
def D3:SlR X (rSlL X.K):=by
 intro pins s Z H x v vl vu lo hi sl Q I rx hs pl pu h;obtain⟨a,xs,rfl,hx,q⟩:=h;cases rx;obtain⟨aB,r,ht,hz⟩:=I.list hx;have aV:=r.length;refine⟨"list",_,fh.lookup,ht.isList.typeIs,?_⟩;refine i9 ht.isList hs pl pu .none (by simp) ?_ (by rw[Nt]<;>lia);rw[Xic,<-aV];refine⟨.ref s.heap.objs.size,_,I.laid (t':=s.toks) (o:=.lst (Br xs lo hi)) (λb ob q=>S8 _ q) (Nr _) ?_,rfl,q _ (I.hok.fresh (Nr _))⟩;exact⟨Oq (Xa7 xs lo hi) hz,_,0,(r.drop (HT.sIx xs.length 0 lo)).take (HT.sIx xs.length xs.length hi - HT.sIx xs.length 0 lo),ak.get?_push_size _ rfl⟩
def Bk:V->Bool
 | .non=>true
 | .bl _=>true
 | .int _=>true
 | .str _=>true
 | _=>false
def eqV:V->V->Bool
 | .non,.non=>true
 | .bl a,.bl b=>a==b
 | .bl a,.int b=>(if a then 1 else 0)==b
 | .int a,.bl b=>a==(if b then 1 else 0)
 | .int a,.int b=>a==b
 | .str a,.str b=>a==b
 | _,_=>false
def Xbb    (ry:Ae y u) (rx:Ae x v) (fy:Bk y=true) (fx:Bk x=true):SeqAt.EqAt A s u v (eqV y x):=by
 cases y with
 | non=>
  cases ry;cases x with
  | non=>cases rx;exact SeqAt.EqAt.same _
  | bl b=>cases rx;exact SeqAt.EqAt.none_bool b
  | int b=>obtain⟨t,rfl⟩:=rx;exact SeqAt.EqAt.none_int b t
  | str b=>obtain⟨t,rfl⟩:=rx;exact SeqAt.EqAt.none_str b t
  | _=>exact absurd (show false=true from fx) N9
 | bl a=>
  cases ry;cases x with
  | non=>cases rx;exact SeqAt.EqAt.bool_none a
  | bl b=>cases rx;exact SeqAt.EqAt.bool_bool a b
  | int b=>obtain⟨t,rfl⟩:=rx;exact SeqAt.EqAt.bool_int a b t
  | str b=>obtain⟨t,rfl⟩:=rx;exact SeqAt.EqAt.bool_str a b t
  | _=>exact absurd (show false=true from fx) N9
 | int a=>
  obtain⟨t',rfl⟩:=ry;cases x with
  | non=>cases rx;exact SeqAt.EqAt.int_none a t'
  | bl b=>cases rx;exact SeqAt.EqAt.int_bool a t' b
  | int b=>obtain⟨t,rfl⟩:=rx;exact SeqAt.EqAt.int_int a t' b t
  | str b=>obtain⟨t,rfl⟩:=rx;exact SeqAt.EqAt.int_str a t' b t
  | _=>exact absurd (show false=true from fx) N9
 | str a=>
  obtain⟨t',rfl⟩:=ry;cases x with
  | non=>cases rx;exact SeqAt.EqAt.str_none a t'
  | bl b=>cases rx;exact SeqAt.EqAt.str_bool a t' b
  | int b=>obtain⟨t,rfl⟩:=rx;exact SeqAt.EqAt.str_int a t' b t
  | str b=>obtain⟨t,rfl⟩:=rx;exact SeqAt.EqAt.str_str a t' b t
  | _=>exact absurd (show false=true from fx) N9
 | _=>exact absurd (show false=true from fy) N9
def eqU (x:V) (u:aa):Bool:=match u with
 | .none=>eqV .non x
 | .bool b=>eqV (.bl b) x
 | .int i _=>eqV (.int i) x
 | .str z _=>eqV (.str z) x
 | _=>false
def Ik  (r:Ae y u) (f:Bk y=true):eqU x u=eqV y x:=by
 cases y with
 | non=>cases r;rfl
 | bl b=>cases r;rfl
 | int i=>obtain⟨t,rfl⟩:=r;rfl
 | str z=>obtain⟨t,rfl⟩:=r;rfl
 | _=>exact absurd (show false=true from f) N9
theorem Gu:∀{xs:List V} {us:List aa},Vals xs us->xs.all Bk=true->us.any (eqU x)=xs.any λy=>eqV y x
 | _,_,.nil,_=>rfl
 | y::xs,u::us,.cons r t,f=>by
  rw[So,N3] at f;rw[Rz,Rz,Ik r f.1,Gu t f.2]
theorem E5    (rx:Ae x v) (fx:Bk x=true):∀{xs:List V} {us:List aa},Vals xs us->xs.all Bk=true->∀u∈us,SeqAt.EqAt A s u v (eqU x u)
 | _,_,.nil,_=>λu hu=>by cases hu
 | y::xs,u::us,.cons r t,f=>λu' hu=>by
  rw[So,N3] at f;rcases N4.mp hu with rfl | hu
  ·rw[Ik r f.1];exact Xbb r rx f.1 fx
  ·exact E5 rx fx t f.2 u' hu
def inV (x:V) (xs:List V):Bool:=xs.any λy=>eqV y x
def rIn (K:NO) (CD:Bool):R2:=λx y H Q=>∃p xs,y = .ref p/\(SqL K H p xs\/SqT K H p xs)/\Bk x=true/\xs.all Bk=true/\Q (.bl (if CD then !inV x xs else inV x xs)) H
def K5:OpR X (aH .In) (rIn X.K false):=by
 k_go;obtain⟨p,xs,rfl,hq,fx,fs,q⟩:=h;cases ry;rcases hq with hq | hq
 ·obtain⟨aB,r,pl,hz⟩:=I.list hq;refine SeqAt.in_listAt (eqU x) pl.isList (λw hw=>E5 rx fx r fs w (by simpa using hw)) ⟨.bl _,H,I,rfl,?_⟩;rw[show aB.toArray.any (eqU x)=aB.any (eqU x) by simp,Gu r fs];exact q
 ·obtain⟨aB,r,pl,hz⟩:=I.tuple hq;refine SeqAt.in_tupleAt (eqU x) pl (λw hw=>E5 rx fx r fs w (by simpa using hw)) ⟨.bl _,H,I,rfl,?_⟩;rw[show aB.toArray.any (eqU x)=aB.any (eqU x) by simp,Gu r fs];exact q
def Il:OpR X (aH .NotIn) (rIn X.K true):=by
 k_go;obtain⟨p,xs,rfl,hq,fx,fs,q⟩:=h;cases ry;rcases hq with hq | hq
 ·obtain⟨aB,r,pl,hz⟩:=I.list hq;refine SeqAt.notIn_listAt (eqU x) pl.isList (λw hw=>E5 rx fx r fs w (by simpa using hw)) ⟨.bl _,H,I,rfl,?_⟩;rw[show aB.toArray.any (eqU x)=aB.any (eqU x) by simp,Gu r fs];exact q
 ·obtain⟨aB,r,pl,hz⟩:=I.tuple hq;refine SeqAt.notIn_tupleAt (eqU x) pl (λw hw=>E5 rx fx r fs w (by simpa using hw)) ⟨.bl _,H,I,rfl,?_⟩;rw[show aB.toArray.any (eqU x)=aB.any (eqU x) by simp,Gu r fs];exact q
def Ci:Bh X (.builtin "len") (λxs H Q=>∃p ys,xs=[.ref p]/\(SqL X.K H p ys\/SqT X.K H p ys)/\Q (.int ys.length) H):=by
 k_asm;obtain⟨p,ys,rfl,hq,q⟩:=h;f_int;have hn:=line63;rcases hq with hq | hq
 ·obtain⟨aB,r',pl,hz⟩:=I.list hq;have aV:=r'.length;exact Calls.call_len_list pl.isList (by simp only[Nt]<;>lia) ⟨.int ys.length,H,I.tok _,⟨s.toks+1,by rw[Nt,aV]⟩,q⟩
 ·obtain⟨aB,r',pl,hz⟩:=I.tuple hq;have aV:=r'.length;exact len_tuple pl (by simp only[Nt]<;>lia) ⟨.int ys.length,H,I.tok _,⟨s.toks+1,by rw[Nt,aV]⟩,q⟩
def Im:Bh X (.type "list") (λxs H Q=>∃p ys,xs=[.ref p]/\(SqL X.K H p ys\/SqT X.K H p ys)/\∀l,H l=none->Q (.ref l) (upd H l (.lst ys))):=by
 k_asm;obtain⟨p,ys,rfl,hq,q⟩:=h;f_int;have fin:∀(aB:List aa),Vals ys aB->ys.length<=sizeLine->∀(h':ak) (c':Nat),(∀b o',s.heap.get? b=some o'->h'.get? b=some o') ->
   h'.get? s.heap.objs.size=some {cls:=.type "list",dict:=none,data:=.seq aB.toArray c',slots := #[]}->EP X pins Z Q (.ref s.heap.objs.size) {s with heap:=h'}:=λaB r' hz h' c' kp e=>
  ⟨.ref s.heap.objs.size,_,I.laid (t':=s.toks) kp (Nr _) (show Av X.prog X.w _ h' _ (.lst ys) from ⟨hz,aB,c',r',e⟩),rfl,q _ (I.hok.fresh (Nr _))⟩
 rcases hq with hq | hq
 ·obtain⟨aB,r',pl,hz⟩:=I.list hq;have aV:=r'.length;obtain⟨o,ho,hc,n,hd⟩:=pl.isList;exact u7 p (.inl rfl) ho hc hd (λh' c' kp e=>fin aB r' hz h' c' kp e) (by simp only[Nt]<;>lia)
 ·obtain⟨aB,r',pl,hz⟩:=I.tuple hq;have aV:=r'.length;obtain⟨o,ho,hc,n,hd⟩:=pl;exact u7 p (.inr rfl) ho hc hd (λh' c' kp e=>fin aB r' hz h' c' kp e) (by simp only[Nt]<;>lia)
def Gv:Bh X (.type "tuple") (λxs H Q=>∃p ys,xs=[.ref p]/\((SqL X.K H p ys/\∀l,H l=none->Q (.ref l) (upd H l (.tup ys)))\/(SqT X.K H p ys/\Q (.ref p) H))):=by
 k_asm;obtain⟨p,ys,rfl,h⟩:=h;f_int;rcases h with ⟨hq,q⟩ | ⟨hq,q⟩
 ·obtain⟨aB,r',pl,hz⟩:=I.list hq;have aV:=r'.length;refine call_tuple_list pl.isList (λh' kp=>?_) (by simp only[Nt]<;>lia);have I1:Inv X pins Z H {s with heap:=h'}:=I.kept (t':=s.toks) kp;have I2:Inv X pins Z (upd H h'.objs.size (.tup ys)) {s with heap:=h'.push {cls:=.type "tuple",data:=.seq aB.toArray} }:=
   I1.laid (t':=s.toks) (λb o e=>S8 _ e) (Nr _) (show Av X.prog X.w _ _ _ (.tup ys) from ⟨hz,aB,r',dA.new _ _⟩)
  exact⟨.ref h'.objs.size,_,I2,rfl,q _ (I1.hok.fresh (Nr _))⟩
 ·obtain⟨aB,r',pl,hz⟩:=I.tuple hq;exact call_tuple_same pl ⟨.ref p,H,I,rfl,q⟩
def tyV (K:NO) (T:String) (x:V) (H:Hp):Prop:=match x with
 | .str _=>T = "str"
 | .int _=>T = "int"
 | .ref p=>(T = "list" /\ ∃xs,SqL K H p xs)\/(T = "tuple" /\ ∃o,K.lookup p=some o/\o.cls = .type "tuple" /\ o.dict=none) \/
   (T = "dict" /\ ((∃kvs,H p=some (.dK kvs)) \/ ∃kvs,H p=some (.dT kvs)))\/(T = "set" /\ ∃S n,H p=some (.set S n))
 | _=>False
def Xid       (I:Inv X pins Z H s) (r:Ae x v) (ty:tyV X.K T x H):
  s.TypeIs v T/\∀a,v = .ref a->∃ob,s.heap.get? a=some ob/\ob.dict=none:=by
 cases x with
 | str z=>
  obtain⟨t,rfl⟩:=r;cases (show T = "str" from ty);exact⟨ml s z t,λ_ e=>nomatch e⟩
 | int i=>
  obtain⟨t,rfl⟩:=r;cases (show T = "int" from ty);exact⟨mo s i t,λ_ e=>nomatch e⟩
 | ref p=>
  cases r;rcases ty with ⟨rfl,xs,hq⟩ | ⟨rfl,o,hk,hc,hd⟩ | ⟨rfl,hk⟩ | ⟨rfl,S,n,hk⟩
  ·obtain⟨aB,_,pl,_⟩:=I.list hq;refine⟨pl.isList.typeIs,λa e=>?_⟩;cases e;obtain⟨o,n,e,c,hd,_⟩:=pl;exact⟨o,e,hd⟩
  ·refine⟨⟨o,I.kIn p o hk,hc⟩,λa e=>?_⟩;cases e;exact⟨o,I.kIn _ o hk,hd⟩
  ·have z:∃o,s.heap.get? p=some o/\o.ExactDict:=by
    rcases hk with ⟨kvs,hk⟩ | ⟨kvs,hk⟩
    ·obtain⟨_,_,_,_,o,_,_,e,ex,_⟩:=I.hok p _ hk;exact⟨o,e,ex⟩
    ·obtain⟨_,_,_,_,o,_,_,e,ex,_⟩:=I.hok p _ hk;exact⟨o,e,ex⟩
   obtain⟨o,e,ex⟩:=z;refine⟨⟨o,e,ex.1⟩,λa e2=>?_⟩;cases e2;exact⟨o,e,ex.2.1⟩
  ·obtain⟨o,_,_,_,e,ex,_⟩:=I.hok p _ hk;refine⟨⟨o,e,ex.1⟩,λa e2=>?_⟩;cases e2;exact⟨o,e,ex.2.1⟩
 | _=>exact False.elim ty
def tBM (K:NO) (T:String) (r:V->List V->Hp->VK->Prop) (to:TE) (t:TA):TE:=fun Z H Q=>to Z H λx H1=>tyV K T x H1/\t Z H1 λxs H2=>r x xs H2 Q
variable {o e:aL}{es:List aL}{to:TE}{t:TA}{name:ao}{dL bD:cF}{T id:String}{r:V->List V->Hp->VK->Prop}
def Gw(pa:CF T)(slot:CG T name id)(vC:rG (.builtin id)=pure (.type "method_descriptor"))(hm:MtR X id r)(ho:PE X o to)(ha:PA X (e::es) t)
  (cX:cz o name X.env (eval o X.env)=eval o X.env:=by rfl)
  (oK:((bq bD (az (e::es) X.env)).all (λx => !x.1)&&(cI bD (bK [] X.env)).all (λx=>x.1.isSome)
   && decide ((e::es).length+([]:List cQ).length+(if ([]:List cQ).isEmpty then 0 else 1)<30))=true:=by rfl)
  (k9:(dL.endLine==bD.line)=true:=by rfl) (hs:az (e::es) X.env=(false,eval e X.env)::az es X.env:=by rfl) (dG:(bq bD (az es X.env)).any (·.1)=false:=by rfl):
  PE X (.Call (.Attribute o name dL) (e::es) [] bD) (tBM X.K T r to t):=by
 k_ne;refine wpAny_Call_method_late cX oK k9 rfl (thn (ho pins s Z H _ I h) λv s1 ⟨x,H1,I1,r1,ty,q1⟩=>?_);obtain⟨h1,h2⟩:=Xid I1 r1 ty;refine⟨T,id,pa,slot,vC,h1,h2,?_⟩;have hA:=ha bD pins s1 Z H1 _ I1 q1;rw[hs] at hA ⊢;refine Calls.callWith_builtin (by show (false||(bq bD (az es X.env)).any (·.1))=false;rw[dG]<;>rfl) (Calls.evalArgs_plain ?_);exact thn hA λus s2 ⟨vs,H2,I2,r2,q2⟩=>hm pins s2 Z H2 x vs v us Q I2 r1 r2 q2
end
def MtM (X:Cx) (id:String) (r:V->List V->Hp->VK->Prop):Prop:=
 ∀pins s Z H (x:V) (xs:List V) (v:aa) (us:List aa) (Q:VK),Inv X pins Z H s->Ae x v->Vals xs us->r x xs H Q ->
  af (ag X.prog X.w) X.A (call (.builtin id) (v::us)) (EP X pins Z Q) X.xe s
theorem Vals.one:∀{x:V} {us:List aa},Vals [x] us->∃u,us=[u]/\Ae x u
 | _,_,.cons r .nil=>⟨_,rfl,r⟩
def Vals.two  (h:Vals [x,y] us):∃u v,us=[u,v]/\Ae x u/\Ae y v:=by
 cases h with
 | cons r t=>
  cases t with
  | cons q z=>cases z;exact⟨_,_,rfl,r,q⟩
def Vals.reverse  (h:Vals xs us):Vals xs.reverse us.reverse:=by
 induction h with
 | nil=>exact .nil
 | cons r t ih=>rw[Si,Si];exact Vals.append ih (.cons r .nil)
theorem Vals.rep  (h:Vals xs us):∀k:Nat,Vals (List.replicate k xs).flatten (List.replicate k us).flatten
 | 0=>.nil
 | k+1=>by
  rw[P2,P2,Rm,Rm];exact Vals.append h (Vals.rep h k)
theorem Xbc(aB):∀(k:Nat) (acc:List aa),
  List.foldl (λx1 x2=>x1++x2) acc.toArray (List.replicate k aB.toArray)=(acc++(List.replicate k aB).flatten).toArray
 | 0,acc=>by simp
 | k+1,acc=>by
  have e:acc.toArray++aB.toArray=(acc++aB).toArray:=by simp
  have e2:(acc++aB)++(List.replicate k aB).flatten=acc++(List.replicate (k+1) aB).flatten:=by
   rw[P2,Rm,Oi]
  rw[<-e2,<-Xbc aB k (acc++aB),<-e,P2,Qx]
section
variable {X:Cx}{pins:List (ae×aM)}{Z:St}{H:Hp}{s:ah}{l b:ae}{xs ys zs:List V}
def Inv.lset{aB its':List aa}{f}{t'}(I:Inv X pins Z H s)(hH:H l=some (.lst xs))
  (e:s.heap.get? l=some {cls:=.type "list",data:=.seq aB.toArray n}) (hf:f aB.toArray=its'.toArray) (hv:Vals ys its') (hz:ys.length<=sizeLine):
  Inv X pins Z (upd H l (.lst ys)) {s with heap:=s.heap.update l (aM.mapSeq f),toks:=t'}:=by
 have q:=PySem.IsL.update e f;rw[hf] at q;refine I.write (x:=l) (e:=l) (by rw[hH];exact trivial) (.inl rfl) (λb' u hb hu=>(ak.get?_update_other s.heap (aM.mapSeq f) (Ne.symm hb)).trans hu) ⟨_,q⟩ ?_;exact⟨hz,its',_,hv,q⟩
def Inv.lnew{t'}(I:Inv X pins Z H s)(hv:Vals ys aB)(hz:ys.length<=sizeLine):
  Inv X pins Z (upd H s.heap.objs.size (.lst ys)) {s with heap:=s.heap.push {cls:=.type "list",data:=.seq aB.toArray},toks:=t'}:=
 I.laid (λ_ _ q=>S8 _ q) (Nr _) ⟨hz,aB,0,hv,ak.get?_push_size _ rfl⟩
def Inv.fresh(I:Inv X pins Z H s):H s.heap.objs.size=none:=I.hok.fresh (Nr _)
def Inv.lstM(I:Inv X pins Z H s)(hH:H l=some (.lst xs)):xs.length<=sizeLine/\∃(aB:List aa) (n:Nat),Vals xs aB/\xs.length=aB.length/\s.heap.get? l=some {cls:=.type "list",data:=.seq aB.toArray n}:=by
 obtain⟨z,aB,n,r,e⟩:=I.hok l _ hH;exact⟨z,aB,n,r,r.length,e⟩
def Xie(h:n<=sizeLine):aj.List.listTooLong n=false:=by
 unfold aj.List.listTooLong;exact S0 (by lia)
end
section
variable {X:Cx}
def K6:V->List V->Hp->VK->Prop:=λx vs H Q=>∃l xs y,x = .ref l/\vs=[y]/\H l=some (.lst xs)/\xs.length<sizeLine/\Q .non (upd H l (.lst (xs++[y])))
def Gx:MtM X "list.append" K6:=by
 intro pins s Z H x vs v us Q I rx rv h;obtain⟨l,xs,y,rfl,rfl,hH,hz,q⟩:=h;cases rx;obtain⟨u,rfl,ru⟩:=rv.one;obtain⟨z,aB,n,r,hl,e⟩:=I.lstM hH;refine dw F.slot_list_append ⟨_,e,rfl⟩ F.entry_list_append (F.args_list_append_2 _ _) (PySem.list_append l aB.toArray n u (by rw[Nt];lia)) ⟨e,?_⟩;refine⟨.non,_,I.lset (its':=aB++[u]) hH e (by simp) (r.append (.cons ru .nil)) ?_,rfl,q⟩;rw[Nx,Oz]
 lia
def rCat:R2:=λx y H Q=>∃l b xs zs,x = .ref l/\y = .ref b/\H l=some (.lst xs)/\H b=some (.lst zs)/\xs.length+zs.length<=sizeLine/\∀p,H p=none->Q (.ref p) (upd H p (.lst (xs++zs)))
def Bv:OpR X (bv .Add) rCat:=by
 k_go;obtain⟨l,b,xs,zs,rfl,rfl,hH,hB,hz,q⟩:=h;cases rx;cases ry;obtain⟨z,aB,n,r,hl,e⟩:=I.lstM hH;obtain⟨z2,gD,n2,r2,iA,e2⟩:=I.lstM hB;refine PySem.P.add_list e e2 ?_ (by rw[Nt,Nt];lia);have ea:aB.toArray++gD.toArray=(aB++gD).toArray:=by simp
 rw[ea];exact⟨.ref _,_,I.lnew (t':=s.toks) (r.append r2) (by rw[Nx];lia),rfl,q _ I.fresh⟩
def Xbd:R2:=λx y H Q=>∃l k xs,x = .ref l/\y = .int k/\H l=some (.lst xs) /\ -(2 ^ 63)<=k/\k<2 ^ 63/\xs.length * k.toNat<=sizeLine /\
 ∀p,H p=none->Q (.ref p) (upd H p (.lst (List.replicate k.toNat xs).flatten))
def Xif{α : Type}(xs:List α)(k):(List.replicate k xs).flatten.length=k * xs.length:=by
 induction k with
 | zero=>simp
 | succ k ih=>rw[P2,Rm,Nx,ih,Nat.succ_mul,Nat.add_comm]
def Xbe:OpR X (bv .Mult) Xbd:=by
 k_go;obtain⟨l,k,xs,rfl,rfl,hH,h1,h2,hz,q⟩:=h;cases rx;obtain⟨t,rfl⟩:=ry;obtain⟨z,aB,n,r,hl,e⟩:=I.lstM hH;have aV:aB.toArray.size * k.toNat<=sizeLine:=by rw[Nt,<-hl];exact hz
 have vD:¬aB.toArray.size * k.toNat > (2 ^ 63 - 1) / 8:=by
  have:(sizeLine:Nat)<=(2 ^ 63 - 1) / 8:=by decide
  lia
 have oM:¬(!aj.List.listFitsIndex k)=true:=by
  rw[fitsIndex_both h1 h2];exact N9
 have rH:¬aj.List.listTooLong (aB.toArray.size * k.toNat)=true:=by
  rw[Xie aV];exact N9
 have fV:List.foldl (λx1 x2=>x1++x2) #[] (List.replicate (if aB.toArray.isEmpty=true then 0 else k.toNat) aB.toArray)=(List.replicate k.toNat aB).flatten.toArray:=by
  have f0:∀m:Nat,List.foldl (λx1 x2=>x1++x2) #[] (List.replicate m aB.toArray)=(List.replicate m aB).flatten.toArray:=λm=>by
   have:=Xbc aB m [];rw[Qj] at this;exact this
  rw[f0];cases aB with
  | nil=>simp
  | cons a r'=>rw[Sx (by simp)]
 refine wpAny_binaryOp_repeat_ref (T := "list") (U := "int") (by decide) ⟨_,e,rfl⟩ (λs'=>mo s' k t) noFill_list_mul F.fills_int_mul F.slot_int_rmul repeat_list F.slot_int_index.lookup
  (dw F.slot_int_rmul (mo s k t) F.entry_int_rmul (F.args_int_rmul_2 _ _) (int___rmul___int_list k t l aB.toArray n)
   ⟨e,rfl,⟨_,e,rfl⟩,dw F.slot_list_mul ⟨_,e,rfl⟩ F.entry_list_mul (F.args_list_mul_2 _ _) (AutoListH.list___mul___list_int_3 l aB.toArray n k t oM vD rH) ⟨e,?_⟩⟩)
 rw[fV];exact⟨.ref _,_,I.lnew (t':=s.toks) (r.rep k.toNat) (by rw[Xif,Nat.mul_comm];exact hz),rfl,q _ I.fresh⟩
end
section
variable {prog:ar}{w:aA}{A:av}{E:Zb}{s:ah}
end
section
variable {X:Cx}
end
section
variable {κ : Type} [DecidableEq κ]
def Ap (kvs:List (κ × V)) (k : κ):Option V:=(kvs.find? λkv=>decide (kv.1=k)).map (·.2)
def A8 (kvs:List (κ × V)) (k : κ) (v:V):List (κ × V):=
 if (kvs.any λkv=>decide (kv.1=k))=true then kvs.map (λkv=>if kv.1=k then (kv.1,v) else kv) else kvs++[(k,v)]
def Xbf (kvs:List (κ × V)) (k : κ):List (κ × V):=kvs.filter λkv=>decide (kv.1≠k)
def C6{p}{k : κ}(e:p.1=k):Ap (p::r) k=some p.2:=by simp[Ap,Qk,e]
def C7{p}{k : κ}(e:¬p.1=k):Ap (p::r) k=Ap r k:=by simp[Ap,Qk,e]
theorem Ei(k):∀kvs:List (κ × V),(kvs.any λkv=>decide (kv.1=k))=(Ap kvs k).isSome
 | []=>rfl
 | p::r=>by
  rw[Rz];by_cases e:p.1=k
  ·simp only[C6 e,Sz e,Bool.true_or,R9]
  ·rw[C7 e,S0 e,Bool.false_or];exact Ei k r
theorem Xbg(k j)(y):∀kvs:List (κ × V),Ap (kvs.map λkv=>if kv.1=k then (kv.1,y) else kv) j=(Ap kvs j).map λx=>if j=k then y else x
 | []=>rfl
 | p::r=>by
  have ih:=Xbg k j y r;rw[Op];by_cases h:p.1=k
  ·rw[Sy h];by_cases e:p.1=j
   ·rw[C6 (p:=(p.1,y)) e,C6 e,P7,Sy (e.symm.trans h)]
   ·rw[C7 (p:=(p.1,y)) e,C7 e,ih]
  ·rw[Sx h];by_cases e:p.1=j
   ·rw[C6 (p:=p) e,C6 e,P7,Sx (λz=>h (e.trans z))]
   ·rw[C7 (p:=p) e,C7 e,ih]
theorem Xbh(k j)(y):∀kvs:List (κ × V),Ap kvs k=none->Ap (kvs++[(k,y)]) j=if j=k then some y else Ap kvs j
 | [],_=>by
  by_cases e:k=j
  ·rw[Sy e.symm];exact C6 (p:=(k,y)) e
  ·rw[Sx (λz=>e z.symm)];exact C7 (p:=(k,y)) e
 | p::r,hn=>by
  rw[Rv];have hk:¬p.1=k:=λz=>by rw[C6 z] at hn;cases hn
  rw[C7 hk] at hn;have ih:=Xbh k j y r hn;by_cases e:p.1=j
  ·rw[C6 e,C6 e,Sx (λz=>hk (e.trans z))]
  ·rw[C7 e,C7 e,ih]
def Io(kvs)(k j : κ)(y):Ap (A8 kvs k y) j=if j=k then some y else Ap kvs j:=by
 unfold A8;by_cases a:(kvs.any λkv=>decide (kv.1=k))=true
 ·rw[Sy a,Xbg];rw[Ei] at a;by_cases e:j=k
  ·obtain⟨x,hx⟩:=P5.mp a;rw[Sy e,e,hx,P7,Sy rfl]
  ·rw[Sx e];cases Ap kvs j with
   | none=>rfl
   | some x=>rw[P7,Sx e]
 ·rw[Sx a];refine Xbh k j y kvs ?_;rw[Ei] at a;cases q:Ap kvs k with
  | none=>rfl
  | some x=>rw[q] at a;exact(a rfl).elim
def Gy(kvs)(k : κ)(v):(A8 kvs k v).length<=kvs.length+1:=by
 unfold A8;split
 ·rw[Np];lia
 ·rw[Nx,Oe,Pw];lia
def Ip{k : κ}(v)(h:Ap kvs k=none):A8 kvs k v=kvs++[(k,v)]:=by
 unfold A8;rw[Ei,h];exact Sx (by decide)
def Bz.isSome_eq  (r:Bz o u):o.isSome=u.isSome:=by
 cases o with
 | none=>cases u with
  | none=>rfl
  | some _=>exact(show False from r).elim
 | some _=>cases u with
  | none=>exact(show False from r).elim
  | some _=>rfl
def Bz.getD{o}   (r:Bz o u)(rd:Ae d d'):Ae (o.getD d) (u.getD d'):=by
 cases o with
 | none=>cases u with
  | none=>exact rd
  | some _=>exact(show False from r).elim
 | some _=>cases u with
  | none=>exact(show False from r).elim
  | some _=>exact r
def KV.val  (r:KV kvs vs) (k : κ):Bz (Ap kvs k) (fi vs k):=by
 unfold KV at r
 induction r with
 | nil=>exact True.intro
 | @cons p q ps qs h t ih=>
  obtain⟨h1,h2⟩:=h;by_cases e:p.1=k
  ·have e':q.1=k:=h1.symm.trans e;have b:fi (q::qs) k=some q.2:=by simp[fi,Qk,e']
   rw[C6 e,b];exact h2
  ·have e':¬q.1=k:=λz=>e (h1.trans z);have b:fi (q::qs) k=fi qs k:=by simp[fi,Qk,e']
   rw[C7 e,b];exact ih
def KV.any  (r:KV kvs vs) (k : κ):(kvs.any λkv=>decide (kv.1=k))=vs.any λkv=>decide (kv.1=k):=by
 unfold KV at r
 induction r with
 | nil=>rfl
 | cons h t ih=>rw[Rz,Rz,ih,h.1]
def KV.repl   (r:KV kvs vs) (k : κ)  (ry:Ae y u):
  KV (kvs.map λkv=>if kv.1=k then (kv.1,y) else kv) (vs.map λkv=>if kv.1=k then (kv.1,u) else kv):=by
 unfold KV at r ⊢
 induction r with
 | nil=>exact .nil
 | @cons p q ps qs h t ih=>
  rw[Op,Op];refine .cons ?_ ih;obtain⟨h1,h2⟩:=h;by_cases e:p.1=k
  ·rw[Sy e,Sy (h1.symm.trans e)];exact⟨h1,ry⟩
  ·rw[Sx e,Sx (λz=>e (h1.trans z))];exact⟨h1,h2⟩
def KV.put   (r:KV kvs vs) (k : κ)  (ry:Ae y u):KV (A8 kvs k y) (stored vs k u):=by
 unfold A8 stored;rw[r.any k];by_cases e:(vs.any λkv=>decide (kv.1=k))=true
 ·rw[Sy e,Sy e];exact r.repl k ry
 ·rw[Sx e,Sx e];exact Paired.snoc r ⟨rfl,ry⟩
def KV.keys{kvs:List (κ × V)}(r:KV kvs vs):kvs.map (·.1)=vs.map (·.1):=by
 unfold KV at r
 induction r with
 | nil=>rfl
 | cons h t ih=>rw[Op,Op,ih,h.1]
def KV.length{kvs:List (κ × V)}(r:KV kvs vs):kvs.length=vs.length:=Paired.length r
end
def Ej    (r:Ae (kV k) u):(A5 P w).is k u=true:=by
 cases k with
 | inl i=>obtain⟨t,e⟩:=(show ∃t,u=aa.int i t from r);subst e;exact Xg1 P w i t
 | inr x=>obtain⟨t,e⟩:=(show ∃t,u=aa.str x t from r);subst e;exact Xg2 P w x t
theorem Xbi  : ∀{ks:List Key} {us:List aa},Vals (ks.map kV) us->ItemsAre (A5 P w) ks us
 | [],_,r=>by rw[Sa] at r;cases r;exact .nil
 | k::ks,_,r=>by
  rw[Op] at r;cases r with
  | cons h t=>exact .cons (Ej h) (Xbi t)
abbrev KT (H:Hp):List (List Key×V)->List (List Key×ae×aa)->Prop:=Paired λp q=>p.1=q.1/\H q.2.1=some (.tup (p.1.map kV))/\Ae p.2 q.2.2
def KT.val   (r:KT H kvs xs) (k):Bz (Ap kvs k) ((gE xs k).map (·.2)):=by
 induction r with
 | nil=>exact True.intro
 | @cons p q ps qs h t ih=>
  obtain⟨h1,_,h2⟩:=h;by_cases e:p.1=k
  ·have e':q.1=k:=h1.symm.trans e;have b:gE (q::qs) k=some q.2:=by simp[gE,Qk,e']
   rw[C6 e,b];exact h2
  ·have e':¬q.1=k:=λz=>e (h1.trans z);have b:gE (q::qs) k=gE qs k:=by simp[gE,Qk,e']
   rw[C7 e,b];exact ih
def KT.repl    (r:KT H kvs xs) (k)  (ry:Ae y u):
  KT H (kvs.map λkv=>if kv.1=k then (kv.1,y) else kv) (xs.map (putAt k u)):=by
 induction r with
 | nil=>exact .nil
 | @cons p q ps qs h t ih=>
  rw[Op,Op];refine .cons ?_ ih;obtain⟨h1,h2,h3⟩:=h;unfold putAt;by_cases e:p.1=k
  ·rw[Sy e,Sy (h1.symm.trans e)];exact⟨h1,h2,ry⟩
  ·rw[Sx e,Sx (λz=>e (h1.trans z))];exact⟨h1,h2,h3⟩
def KT.put    (r:KT H kvs xs) (k)   (hb:H b=some (.tup (k.map kV))) (ry:Ae y u):
  KT H (A8 kvs k y) (storedH xs k b u):=by
 have e:(kvs.any λkv=>decide (kv.1=k))=(gE xs k).isSome:=by
  rw[Ei,(r.val k).isSome_eq,Sj]
 unfold A8 storedH;rw[e];by_cases q:(gE xs k).isSome=true
 ·rw[Sy q,Sy q];exact r.repl k ry
 ·rw[Sx q,Sx q];exact Paired.snoc r ⟨rfl,hb,ry⟩
def KT.keeps   (r:KT H kvs xs) (ht:∀b ys,H b=some (.tup ys)->H' b=some (.tup ys)):KT H' kvs xs:=
 Paired.mapP r λ_ _ z=>⟨z.1,ht _ _ z.2.1,z.2.2⟩
section
variable {P:ar}{w:aA}{H:Hp}{h:ak}{a:ae}
def Xbj(ok:HOk P w H h)(e:Rd H a u):Av P w H h a u:=e.ok ok
def Ek(ok:HOk P w H h)(e:Rd H a (.dK kvs)):kvs.length<=sizeLine/\(a==bF)=false/\∃vs,KV kvs vs/\h.DictOf (A5 P w) a vs:=
 show Av P w H h a (.dK kvs) from Xbj ok e
def Xbk(ok:HOk P w H h)(e:H a=some (.dK kvs)):kvs.length<=sizeLine/\(a==bF)=false/\∃vs,KV kvs vs/\h.DictOf (A5 P w) a vs:=Ek ok (.inl e)
def Fx(ok:HOk P w H h)(e:H a=some (.tup (ks.map kV))):(dY (A5 P w)).is h ks a:=by
 obtain⟨_,aB,r,o,h1,h2,n,h3⟩:=(show Av P w H h a (.tup (ks.map kV)) from ok a _ e);exact⟨o,aB.toArray,n,h1,h2,h3,by simpa using Xbi r⟩
def E6(ok:HOk P w H h)(e:Rd H a (.dT kvs)):kvs.length<=sizeLine/\(a==bF)=false /\
  ∃xs,KT H kvs xs/\h.DictOfH (dY (A5 P w)) a xs:=by
 obtain⟨z,y,xs,r,o,es,ep,h1,h2,h3,h4,h5⟩:=(show Av P w H h a (.dT kvs) from Xbj ok e);refine⟨z,y,xs,r,o,es,ep,h1,h2,h3,h4,λx hx=>?_,h5⟩;have all:∀{l:List (List Key×V)} {m:List (List Key×ae×aa)},KT H l m->∀x∈m,(dY (A5 P w)).is h x.1 x.2.1:=by
  intro l m q
  induction q with
  | nil=>intro x hx;exact nomatch hx
  | @cons p q ps qs hq t ih=>
   intro x hx;rcases N4.mp hx with e | hx
   ·subst e;exact Fx ok (by rw[<-hq.1];exact hq.2.1)
   ·exact ih x hx
 exact all r x hx
def Xig(ok:HOk P w H h)(e:H a=some (.dT kvs)):kvs.length<=sizeLine/\(a==bF)=false /\
  ∃xs,KT H kvs xs/\h.DictOfH (dY (A5 P w)) a xs:=E6 ok (.inl e)
end
def DGet (H:Hp) (a:ae) (y:V) (r:Option V):Prop:=
 (∃kvs k,Rd H a (.dK kvs)/\y=kV k/\r=Ap kvs k) \/ ∃kvs k b,Rd H a (.dT kvs)/\y = .ref b/\H b=some (.tup (k.map kV))/\r=Ap kvs k
def DPut (H:Hp) (a:ae) (y v:V) (H':Hp):Prop:=
 (∃kvs k,H a=some (.dK kvs)/\y=kV k/\kvs.length<sizeLine/\H'=upd H a (.dK (A8 kvs k v))) \/
 ∃kvs k b,H a=some (.dT kvs)/\y = .ref b/\H b=some (.tup (k.map kV))/\kvs.length<sizeLine/\H'=upd H a (.dT (A8 kvs k v))
def DGet.k   {k} (e:H a=some (.dK kvs)):DGet H a (kV k) (Ap kvs k):=.inl ⟨kvs,k,.inl e,rfl,rfl⟩
def DPut.k   {k} {v} (e:H a=some (.dK kvs)) (hl:kvs.length<sizeLine):DPut H a (kV k) v (upd H a (.dK (A8 kvs k v))):=.inl ⟨kvs,k,e,rfl,hl,rfl⟩
section
variable {X:Cx}{pins:List (ae×aM)}{Z:St}{H:Hp}{s:ah}{a:ae}{y v:V}{u r:aa}{o:Option V}{A:av}{E:Zb}
def Inv.big(I:Inv X pins Z H s):bF<s.heap.objs.size:=by
 have h:aq<s.heap.objs.size:=(I.mod.glob.keeps I.bk).lt;exact Qe (by decide) h
def d_getItem(hu:A.units+1<bA)(I:Inv X pins Z H s)(g:DGet H a y (some v))(ry:Ae y u)(h:∀w' s',Inv X pins Z H s'->Ae v w'->Q w' s'):
  af (ag X.prog X.w) A (cf (.ref a) u) Q E s:=by
 rcases g with ⟨kvs,k,e,ey,l⟩ | ⟨kvs,k,b,e,ey,eb,l⟩
 ·subst ey;obtain⟨z,hd,vs,cT,dd⟩:=Ek I.hok e;obtain⟨w',hw,kr⟩:=Bz.some_of (v:=v) (o:=fi vs k) (by rw[l];exact cT.val k);exact wpAny_getItem_of (Ej ry) dd.mapOf hw (h w' _ (I.tok _) kr)
 ·k_not;obtain⟨w',hw,kr⟩:=Bz.some_of (v:=v) (o:=(gE xs k).map (·.2)) (by rw[l];exact cT.val k);obtain⟨p,hp,mq⟩:=Rl.mp hw;refine wpAny_getItem_heap (bW hu) (Fx I.hok eb) dd hp ?_;rw[mq];exact h w' _ (I.tok _) kr
def d_in(hu:A.units+1<bA)(I:Inv X pins Z H s)(g:DGet H a y o)(ry:Ae y u)(h:∀s',Inv X pins Z H s'->Q (.bool o.isSome) s'):
  af (ag X.prog X.w) A (aH .In u (.ref a)) Q E s:=by
 rcases g with ⟨kvs,k,e,ey,l⟩ | ⟨kvs,k,b,e,ey,eb,l⟩
 ·subst ey;obtain⟨z,hd,vs,cT,dd⟩:=Ek I.hok e;refine wpAny_in_of (Ej ry) hd dd.mapOf ?_;rw[<-(cT.val k).isSome_eq,<-l];exact h _ (I.tok _)
 ·k_not;refine wpAny_in_heap (bW hu) (Fx I.hok eb) hd dd ?_;have q:=(cT.val k).isSome_eq;rw[Sj] at q;rw[<-q,<-l];exact h _ (I.tok _)
def Xih(hu:A.units+1<bA)(I:Inv X pins Z H s)(g:DGet H a y o)(ry:Ae y u)(h:∀s',Inv X pins Z H s'->Q (.bool (!o.isSome)) s'):
  af (ag X.prog X.w) A (aH .NotIn u (.ref a)) Q E s:=by
 rcases g with ⟨kvs,k,e,ey,l⟩ | ⟨kvs,k,b,e,ey,eb,l⟩
 ·subst ey;obtain⟨z,hd,vs,cT,dd⟩:=Ek I.hok e;refine wpAny_notIn_of (Ej ry) hd dd.mapOf ?_;rw[<-(cT.val k).isSome_eq,<-l];exact h _ (I.tok _)
 ·k_not;refine wpAny_notIn_heap (bW hu) (Fx I.hok eb) hd dd ?_;have q:=(cT.val k).isSome_eq;rw[Sj] at q;rw[<-q,<-l];exact h _ (I.tok _)
def K7   (I:Inv X pins Z H s) (mu:Mut (H a)) (hs:ak.SameBut a s.heap h') (he:∃q,h'.get? a=some q) (new:Av X.prog X.w (upd H a ob) h' a ob):
  Inv X pins Z (upd H a ob) {s with heap:=h',toks:=t'}:=
 I.write (x:=a) (e:=a) mu (.inl rfl) (λb q hb z=>(hs.2 b hb).trans z) he new
def Xbl      (z:kvs.length<=sizeLine) (hd:(a==bF)=false) (cT:KV kvs vs) (dd:h'.DictOf (A5 P w) a vs):
  Av P w H' h' a (.dK kvs):=⟨z,hd,vs,cT,dd⟩
def Xii  (hu:A.units+1<bA) (I:Inv X pins Z H s) (g:DPut H a y v H') (ry:Ae y u) (rv:Ae v r) (h:∀s',Inv X pins Z H' s'->Q () s'):
  af (ag X.prog X.w) A (vn (.ref a) u r) Q E s:=by
 rcases g with ⟨kvs,k,e,ey,l,eH⟩ | ⟨kvs,k,b,e,ey,eb,l,eH⟩
 ·subst ey eH;obtain⟨z,hd,vs,cT,dd⟩:=Xbk I.hok e;have hz:vs.length<=sizeLine:=by rw[<-cT.length];exact z
  have hl:(A8 kvs k v).length<=sizeLine:=by have:=Gy kvs k v;lia
  refine wpAny_setItem_pairs (hsz:=hz) (Ej ry) dd λh' mw hs=>h _ ?_;have he:∃q,h'.get? a=some q:=let ⟨q,_,_,hq,_⟩:=mw; ⟨q,hq⟩;exact K7 I (by rw[e];exact True.intro) hs he (Xbl hl hd (cT.put k rv) mw)
 ·subst ey eH;cases (show u=aa.ref b from ry);obtain⟨z,hd,xs,cT,dd⟩:=Xig I.hok e;have hz:xs.length<=sizeLine:=by rw[<-Paired.length cT];exact z
  have hl:(A8 kvs k v).length<=sizeLine:=by have:=Gy kvs k v;lia
  refine wpAny_setItem_heap (hsz:=hz) (bW hu) (Fx I.hok eb) dd λh' mw hs=>h _ ?_;obtain⟨q,es,ep,hq,h2,h3,h4,_,h5⟩:=mw;refine K7 I (by rw[e];exact True.intro) hs ⟨q,hq⟩ ⟨hl,hd,_,(cT.put k eb rv).keeps λc ys ec=>?_,q,es,ep,hq,h2,h3,h4,h5⟩;rw[Ab (Xaa ec e (λz=>nomatch z))];exact ec
end
section
variable {X:Cx}{pins:List (ae×aM)}{Z:St}{H:Hp}{s:ah}{a:ae}{kvs:List (Key×V)}{k:Key}{u:aa}{A:av}{E:Zb}
end
def Xbm (i:aL):Prop:=∀ov iv,subscripted i false ov iv=operate [ov,iv] (cf ov iv)
def Xij         {T id} (hl:eL (.type T) "__getitem__" = pure (some (.builtin id))) (hs:Xbm slice)
  (h:af (ag prog w) A (eval value env) (λo s₁=>af (ag prog w) A (eval slice env) (λi s₂=>s₂.TypeIs o T/\af (ag prog w) A (cf o i) Q E s₂) E s₁) E s):
  af (ag prog w) A (eval (.Subscript value slice pos) env) Q E s:=by
 refine eM (aF h (λo s₁ h₁=>aF h₁ (λi s₂ h₂=>?_) λ_ _ x=>x) λ_ _ x=>x);obtain⟨hT,h₂⟩:=h₂;unfold i8;refine Sr ?_;rw[getitemInPython_of_ne hT.not_modules];refine Sr (qz hT hl ?_);have fin:af (ag prog w) A (subscripted slice false o i) (λr s₃=>af (ag prog w) A (letTemporaryGo value o r >>= λ_=>pure r) Q E s₃) E s₂:=by
  rw[hs o i];exact wpAny_operating (aF h₂ (λr s₃ h₃=>Sr (wpAny_letTemporaryGo (Ss h₃))) λ_ _ x=>x)
 first
  | exact Ss (Sr fin)
  | exact Sr (Ss (Sr fin))
  | exact Sr fin
def Xik        (I:Inv X pins Z H s) (g:DGet H a y o):s.TypeIs (.ref a) "dict" := by
 rcases g with ⟨kvs,k,e,_,_⟩ | ⟨kvs,k,b,e,_,_,_⟩
 ·obtain⟨_,_,vs,_,dd⟩:=Ek I.hok e;exact dd.typeIs
 ·obtain⟨_,_,xs,_,dd⟩:=E6 I.hok e;exact dd.typeIs
def Xil (td ty:TE):TE:=fun Z H Q=>td Z H λx H1=>ty Z H1 λy H2=>∃a v,x = .ref a/\DGet H2 a y (some v)/\Q v H2
def tDIn (ty td:TE):TE:=fun Z H Q=>ty Z H λy H1=>td Z H1 λx H2=>∃a o,x = .ref a/\DGet H2 a y o/\Q (.bl o.isSome) H2
def Xim (ty td:TE):TE:=fun Z H Q=>ty Z H λy H1=>td Z H1 λx H2=>∃a o,x = .ref a/\DGet H2 a y o/\Q (.bl (!o.isSome)) H2
def Xin (td ty tv:TE):TS:=λD Z H=>tv Z H λv H1=>td Z H1 λx H2=>ty Z H2 λy H3=>∃a H4,x = .ref a/\DPut H3 a y v H4/\D.nx Z H4
def sDAug (td ty tv:TE) (rd:V->V->Hp->VK->Prop):TS:=λD Z H=>td Z H λx H1=>ty Z H1 λy H2=>∃a v,x = .ref a/\DGet H2 a y (some v) /\
 tv Z H2 λy2 H3=>rd v y2 H3 λz H4=>∃H5,DPut H4 a y z H5/\D.nx Z H5
def sDDel (td ty:TE):TS:=λD Z H=>td Z H λx H1=>ty Z H1 λy H2=>∃a kvs k,x = .ref a/\H2 a=some (.dK kvs)/\y=kV k/\(Ap kvs k).isSome=true/\D.nx Z (upd H2 a (.dK (Xbf kvs k)))
section
variable {X:Cx}{o i e value:aL}{pos iz vz:cF}{td ty tv:TE}
def B7(hu:X.A.units+1<bA)(ho:PE X o td)(hi:PE X i ty)(hs:Xbm i):PE X (.Subscript o i pos) (Xil td ty):=by
 k_ne;refine Xij PySem.F.slot_dict_getitem.lookup hs (thn (ho pins s Z H _ I h) λu s1 ⟨x,H1,I1,rx,q1⟩=>thn (hi pins s1 Z H1 _ I1 q1) λiv s2 ⟨y,H2,I2,ry,a,v,ex,g,q2⟩=>?_);subst ex;obtain rfl:u=aa.ref a:=rx;exact⟨Xik I2 g,d_getItem hu I2 g ry λw' s3 I3 kr=>⟨v,H2,I3,kr,q2⟩⟩
def Xbn(hu:X.A.units+1<bA)(hi:PE X i ty)(ho:PE X o td):PC X .In i o (tDIn ty td):=by
 k_ne;refine thn (hi pins s Z H _ I h) λiv s1 ⟨y,H1,I1,ry,q1⟩=>thn (ho pins s1 Z H1 _ I1 q1) λu s2 ⟨x,H2,I2,rx,a,ov,ex,g,q2⟩=>?_;subst ex;obtain rfl:u=aa.ref a:=rx;exact d_in hu I2 g ry λs3 I3=>⟨.bl ov.isSome,H2,I3,rfl,q2⟩
def Xio(hu:X.A.units+1<bA)(hi:PE X i ty)(ho:PE X o td):PC X .NotIn i o (Xim ty td):=by
 k_ne;refine thn (hi pins s Z H _ I h) λiv s1 ⟨y,H1,I1,ry,q1⟩=>thn (ho pins s1 Z H1 _ I1 q1) λu s2 ⟨x,H2,I2,rx,a,ov,ex,g,q2⟩=>?_;subst ex;obtain rfl:u=aa.ref a:=rx;exact Xih hu I2 g ry λs3 I3=>⟨.bl (!ov.isSome),H2,I3,rfl,q2⟩
def Xip(hu:X.A.units+1<bA)(ho:PE X o td)(hi:PE X i ty)(hv:PE X value tv)(hs:cV value (some (.Subscript o i iz)) pos.line X.env=pure false):
  PS X (.Assign [.Subscript o i iz] value pos) (Xin td ty tv):=by
 k_mem;refine wpAny_Assign_Subscript (thn (hv pins s Z H _ I h) λr s1 ⟨v,H1,I1,rv,q1⟩=>thn (ho pins s1 Z H1 _ I1 q1) λu s2 ⟨x,H2,I2,rx,q2⟩=>thn (hi pins s2 Z H2 _ I2 q2) λiv s3 ⟨y,H3,I3,ry,a,H4,ex,g,q3⟩=>?_) hs;subst ex;obtain rfl:u=aa.ref a:=rx;exact Xii hu I3 g ry rv λs4 I4=>⟨Z,H4,I4,q3⟩
end
def Xbo   (h:ak) (hb:bF<h.objs.size):Av P w H (h.push {cls:=.type "dict",data:=.dict #[]}) h.objs.size (.dK []):=
 ⟨Ou _,beq_eq_false_iff_ne.mpr (Ne.symm (Nz hb)),[],.nil,ak.DictOf.new h⟩
def Xiq:TE:=λ_ H Q=>∀p,H p=none->Q (.ref p) (upd H p (.dK []))
section
variable {X:Cx}{pos:cF}
def Xir:PE X (.Dict [] [] pos) Xiq:=λpins s Z H Q I h=>
 wpAny_Dict_empty ⟨.ref s.heap.objs.size,_,I.laid (a:=s.heap.objs.size) (o:=.dK []) (t':=s.toks) (λ_ _ q=>S8 _ q) (Nr _) (Xbo s.heap I.big),rfl,h _ (I.hok.fresh (Nr _))⟩
end
def Xbp:List (TE×TE)->St->Hp->(List (V×V)->Hp->Prop)->Prop
 | [],_,H,Q=>Q [] H
 | (tk,tv)::r, Z,H,Q=>tk Z H λx H1=>tv Z H1 λy H2=>Xbp r Z H2 λps H3=>Q ((x,y)::ps) H3
def Xis (kvs bR:List (Key×V)):List (Key×V):=bR.foldl (λacc kv=>A8 acc kv.1 kv.2) kvs
def tDisp (CH:List (TE×TE)):TE:=fun Z H Q=>∀p,H p=none->Xbp CH Z (upd H p (.dK [])) λps H2=>H2 p=some (.dK [])/\∃kvs:List (Key×V),ps=kvs.map (λkv=>(kV kv.1,kv.2))/\kvs.length<=15/\Q (.ref p) (upd H2 p (.dK (Xis [] kvs)))
structure M1 (X:Cx) (o:aL) (m:ao) (dL:cF) (e:aL) (bD:cF):Prop where
 base:cz o m X.env (eval o X.env)=eval o X.env
 few:((bq bD (az [e] X.env)).all (λx => !x.1)&&(cI bD (bK [] X.env)).all (λx=>x.1.isSome)
  && decide (([e]:List aL).length+([]:List cQ).length+(if ([]:List cQ).isEmpty then 0 else 1)<30))=true
 line:(dL.endLine==bD.line)=true
 trees:bq bD (az [e] X.env)=[(false,eval e X.env)]
structure M2 (X:Cx) (o:aL) (m:ao) (dL:cF) (e f:aL) (bD:cF):Prop where
 base:cz o m X.env (eval o X.env)=eval o X.env
 few:((bq bD (az [e,f] X.env)).all (λx => !x.1)&&(cI bD (bK [] X.env)).all (λx=>x.1.isSome)
  && decide (([e,f]:List aL).length+([]:List cQ).length+(if ([]:List cQ).isEmpty then 0 else 1)<30))=true
 line:(dL.endLine==bD.line)=true
 trees:bq bD (az [e,f] X.env)=[(false,eval e X.env),(false,eval f X.env)]
def IsD (H:Hp) (a:ae):Prop:=(∃kvs,Rd H a (.dK kvs)) \/ ∃kvs,Rd H a (.dT kvs)
def Xit      (I:Inv X pins Z H s) (d:IsD H a):
  s.TypeIs (.ref a) "dict" /\ (∀b,aa.ref a = .ref b->∃ob,s.heap.get? b=some ob/\ob.dict=none)/\(a==bF)=false:=by
 rcases d with ⟨kvs,e⟩ | ⟨kvs,e⟩
 ·obtain⟨_,hd,vs,_,dd⟩:=Ek I.hok e;refine⟨dd.typeIs,λb q=>?_,hd⟩;cases q;obtain⟨ob,_,_,h1,h2,_⟩:=dd;exact⟨ob,h1,h2.2.1⟩
 ·obtain⟨_,hd,xs,_,dd⟩:=E6 I.hok e;refine⟨dd.typeIs,λb q=>?_,hd⟩;cases q;obtain⟨ob,_,_,h1,h2,_⟩:=dd;exact⟨ob,h1,h2.2.1⟩
section
variable {X:Cx}{pins:List (ae×aM)}{Z:St}{H:Hp}{s:ah}{a:ae}{y d:V}{u r:aa}{o:Option V}{A:av}{E:Zb}
def Xiu(hu:A.units+1<bA)(I:Inv X pins Z H s)(g:DGet H a y o)(ry:Ae y u)(rd:Ae d r)(h:∀w' s',Inv X pins Z H s'->Ae (o.getD d) w'->Q w' s'):
  af (ag X.prog X.w) A (call (.builtin "dict.get") [.ref a,u,r]) Q E s:=by
 rcases g with ⟨kvs,k,e,ey,l⟩ | ⟨kvs,k,b,e,ey,eb,l⟩
 ·subst ey;obtain⟨z,hd,vs,cT,dd⟩:=Ek I.hok e;refine vE PySem.F.slot_dict_get dd.typeIs PySem.F.entry_dict_get (PySem.F.args_dict_get_3 _ _ _) (meets_dict_get_default (A5 X.prog X.w) a (Ej ry) hd r) ⟨_,dd.mapOf,h _ _ (I.tok _) ?_⟩;rw[l];exact(cT.val k).getD rd
 ·k_not;refine vE PySem.F.slot_dict_get dd.typeIs PySem.F.entry_dict_get (PySem.F.args_dict_get_3 _ _ _) (meetsH_dict_get_default (dY (A5 X.prog X.w)) a b hd r) ⟨bW hu,k,xs,Fx I.hok eb,dd,h _ _ (I.tok _) ?_⟩;rw[l];exact(cT.val k).getD rd
end
def Xiv (td ty tx:TE):TE:=fun Z H Q=>td Z H λx H1=>∃a,x = .ref a/\IsD H1 a/\ty Z H1 λy H2=>tx Z H2 λz H3=>∃o,DGet H3 a y o/\Q (o.getD z) H3
def Xsc (td ty:TE):TE:=fun Z H Q=>td Z H λx H1=>∃a,x = .ref a/\IsD H1 a/\ty Z H1 λy H2=>∃kvs k v,H2 a=some (.dK kvs)/\y=kV k/\Ap kvs k=some v/\Q v (upd H2 a (.dK (Xbf kvs k)))
section
variable {X:Cx}{o e f:aL}{dL bD:cF}{td ty tx:TE}
def Xiw(hu:X.A.units+1<bA)(ho:PE X o td)(he:PE X e ty)(hf:PE X f tx)(m:M2 X o "get" dL e f bD):PE X (.Call (.Attribute o "get" dL) [e,f] [] bD) (Xiv td ty tx):=by
 k_ne;refine wpAny_Call_method m.base m.few m.line PySem.F.plainAttrs_dict PySem.F.slot_dict_get PySem.F.type_dict_get (thn (ho pins s Z H _ I h) λu s1 ⟨x,H1,I1,rx,a,ex,d,q1⟩=>?_);subst ex;obtain rfl:u=aa.ref a:=rx;obtain⟨t1,t2,_⟩:=Xit I1 d;refine⟨t1,t2,?_⟩;rw[m.trees];refine Calls.callWith_builtin rfl (Calls.evalArgs_plain (Calls.spliced_cons (thn (he pins s1 Z H1 _ I1 q1) λiv s2 ⟨y,H2,I2,ry,q2⟩=>
  Calls.spliced_cons (thn (hf pins s2 Z H2 _ I2 q2) λfv s3 ⟨z,H3,I3,rz,ov,g,q3⟩=>Calls.spliced_nil ?_))))
 exact Xiu hu I3 g ry rz λw' s4 I4 kr=>⟨_,H3,I4,kr,q3⟩
end
section
variable {X:Cx}{pins:List (ae×aM)}{Z:St}{H:Hp}{s:ah}{a:ae}{kvs:List (Key×V)}{A:av}{E:Zb}
end
section
variable {X:Cx}{pins:List (ae×aM)}{Z:St}{H:Hp}{s:ah}{a:ae}{y:V}{u:aa}{A:av}{E:Zb}
end
end L2
namespace Att
open PySem PySem.W PySem.Calls PyProof.Rows
def Xix  : ∀ns vs,WellAll P h vs (ns.map WData.int)->jq vs ns:=by
 intro ns
 induction ns with
 | nil=>
  intro vs w;rw[Sa] at w;cases w;exact .nil
 | cons n ns ih=>
  intro vs w;rw[Op] at w;cases w with
  | cons a b=>
   cases a;exact .cons _ _ (ih _ b)
def Xiy{l:OpenLaw}  (hn:l.most=some n)    (m4:l.row.toRowW.claim.pre args=true)(rJ:WellAll P h rK args):
  ∃a vs ns,rK=[aa.ref a]/\args=[WData.list (ns.map WData.int)]/\h.get? a=some {cls:=.type "list",data:=.seq vs.toArray}/\jq vs ns/\ns.length<=n:=by
 have CI:WShape.hasAll [] args [.list .int]=true:=(pre_splitW m4).1;have hc:l.pre.holds [] {args:=args}=true:=(pre_splitW m4).2;obtain⟨d,r,rfl,h1,h2⟩:=hasAllW_cons CI;obtain rfl:=hasAllW_nil h2;obtain⟨xs,rfl,h3⟩:=hasW_list h1;obtain⟨ns,rfl⟩:=items_int h3;have aV:ns.length<=n:=by
  unfold OpenLaw.pre at hc;have h4:(WTm.not (.lt (.lit (.int (n:Int))) (.len (.arg 0)))).holds [] {args:=[.list (ns.map .int)]}=true:=by
   have h4:=(holds_andW hc).1;rw[hn] at h4;exact h4
  have h5:=condW_of h4 (w_not (w_lt w_lit (w_len_list (w_arg rfl))));rw[Np] at h5;refine Nat.le_of_not_lt λq=>?_;have q':(n:Int)<((ns.length:Nat):Int):=by lia
  first
   | (rw[Sz q'] at h5;exact absurd h5 (by decide))
   | (simp at h5;lia)
 cases rJ with
 | cons w1 w2=>
  cases w2;cases w1 with
  | list ho cG=>exact⟨_,_,ns,rfl,rfl,ho,Xix ns _ cG,aV⟩
def Xiz(l:OpenLaw)(args):l.row.toRowW.claim.post args (.bool true) args=true:=
 postW_of (r:=l.row.toRowW) (X:=(true==true))
  (show WShape.has [] (.bool true) .bool=true by first | rfl | decide | simp[WShape.has,WShape.arms,WShape.armsAll])
  (show (WTm.eq .res (.lit (.bool true))).value [] {args:=args,res:=some (.bool true),after:=args}=some (.bool (true==true)) from w_eq_bool (w_res rfl) w_lit) rfl
def attach_call{l:OpenLaw}      (hn:l.most=some n)(rL:d.params.defaults=[])
  (call:∀(w:aA) (s₀ s₁ : ah) (mg mb:ao->Option aa) (fa:ae) (o:aM) (pm cd cW:aa) (a:ae) (vs:List aa) (ns:List Int),
   Ground q loose [] XP w s₀ mg mb s₁.heap->YP w s₁.heap ->
   s₁.heap.get? fa=some o->o.data = .func (docDef d.name d.params d.body d.scope pm cd cW)->s₁.heap.CodeRec cd d.name->mg d.name=some (.ref fa) ->
   s₁.heap.get? a=some {cls:=.type "list",data:=.seq vs.toArray}->jq vs ns->ns.length<=n->s₁.gens = #[] ->
   bc (ag l.prog w) fj (.call (.ref fa) ⟨[.ref a],[]⟩) (λr s'=>r = .ok (.ret (.bool true))/\CJ s₁.heap s'.heap/\s'.os=s₁.os/\cE s'.gens) s₁):
  WalkO q loose XP YP l.row.toRowW d [] (λf vs=>PySem.call f vs):=by
 intro w s₀ s₁ mg mb G Y fa o pm cd cW dV kV ho hd eR hD hmg hg args rK as m4 rM LU rJ jc;obtain rfl:dV = .none:=Dflts.none hD rL;obtain rfl:kV = .none:=Dflts.noKw hD;obtain⟨a,vs,ns,rfl,rfl,oN,kD,aV⟩:=Xiy hn m4 rJ;refine enter_call (bw (call w s₀ s₁ mg mb fa o pm cd cW a vs ns G Y ho (fd_plain hd) eR hmg oN kD aV hg) λr s' hq=>?_);obtain⟨rfl,h2,h3,h4⟩:=hq;exact⟨.inl ⟨.bool true,.bool true,[],rfl,λ_=>rfl,.bool true,Xiz l _,λ_=>⟨List.Pairwise.nil,λ_ hm=>(nomatch hm)⟩⟩,h2,h3,h4⟩
section
variable {prog:ar}{w:aA}{A:av}{E:Zb}{s:ah}{K:Frag}
def ledger (h:ak) (L d:ae):List (ae×aM):=(List.range h.objs.size).filterMap λa=>if a=L\/a=d then none else (h.get? a).map λo=>(a,o)
end
end Att
namespace L2
theorem Xbq:∀{vs:List aa} {ns:List Int},jq vs ns->Vals (ns.map V.int) vs
 | _,_,.nil=>.nil
 | _,_,.cons n t h=>.cons ⟨t,rfl⟩ (Xbq h)
def Only (H:Hp):Prop:=∀b,H b=none \/ ∃o xs,H b=some (.frz o (.lst xs))
abbrev KOf {K:NO} {h:ak} (_:K.In h):NO:=K
def Xsd (s:aP) (j:Nat):aP:=match s with
 | .ClassDef _ _ _ body _ _ _ _ _ _ _=>body.getD j (.Pass ⟨0,0,0,0⟩)
 | _=>.Pass ⟨0,0,0,0⟩
def Di (s:aP):oO:=match s with
 | .FunctionDef _ a _ _ _ _ _ _ _ _=>a
 | _=>{posonlyargs:=[],args:=[],vararg:=none,kwonlyargs:=[],kw_defaults:=[],kwarg:=none,defaults:=[]}
def B8 (s:aP):List aP:=match s with
 | .FunctionDef _ _ b _ _ _ _ _ _ _=>b
 | _=>[]
def defScope (s:aP):cw:=match s with
 | .FunctionDef _ _ _ _ _ _ sc _ _ _=>sc
 | _=>{kind:=.function,names:=[],isGenerator:=false,isCoroutine:=false}
abbrev CX0:CXT:=λ_ _ _ _ _ _=>False
abbrev E0:XK:=λ_ _ _=>False
def Ah:Passes CX0 X E0:=λ_ _ _ _ _ _ _ h=>h.elim
structure Fun (K:NO) (x qual:ao) (st:aP) (f:ae) (fd:bJ):Prop where
 ex:∃(oc:aa) (od:Option ae) (kV cW pm:aa) (an:Option ae) (cdv ct:aa) (gr:Array (Option aa)),
  fd=OA x qual (Di st) (B8 st) (defScope st) .none kV cW pm an cdv ct/\K.lookup f=some ⟨oc,od,.func fd,gr⟩/\OD K cdv qual=true
 kp:NW K (.ref f)=true
section
variable {P:ar}{w:aA}{K:NO}{mg:ao->Option aa}{base:ak}
def Fun.ok{x qual}{st}  {fd}   (F:Fun K x qual st f fd)(S:FnScope N ps (defScope st))(len:∀vs H Q E,sp vs H Q E->vs.length=ps.length)
  (dM:∀(cdv:aa) (A:av) (outer:List Env) (s:ah) (H:Hp) (vs:List V) (Q:VK) (E:XK),Room k (A.deeper (au qual (defScope st) s.heap.objs.size f cdv))->sp vs H Q E ->
   ∃t,PSs (Bj CX0 P w K mg base N qual (defScope st) f cdv A outer s H E).nox (B8 st) t/\t {nx:=λ_ H'=>Q .non H',rt:=Q} (start N vs) H):FnOk P w K mg base CX0 (k+1) f fd ps sp:=by
 obtain⟨oc,od,kV,cW,pm,an,cdv,ct,gr,rfl,lk,eR⟩:=F.ex;refine Ij lk eR S len λA outer s H vs Q E hr gt=>?_;obtain⟨t,h,q⟩:=dM cdv A outer s H vs Q E hr gt;exact⟨t,h.nox,q⟩
def Fun.binds  {st}   (F:Fun K x qual st f fd)
  (h:∀(kV cW pm:aa) (an:Option ae) (cdv ct:aa) (us:List aa),us.length=ps.length->fe (OA x qual (Di st) (B8 st) (defScope st) .none kV cW pm an cdv ct) ⟨us,[]⟩=pure (ps.zip us)):Binds K fd ps []:=by
 obtain⟨oc,od,kV,cW,pm,an,cdv,ct,gr,rfl,lk,eR⟩:=F.ex;exact .all (h kV cW pm an cdv ct)
def K8  {st}    {kV cW pm cdv ct} (l:K.lookup f=some ⟨oc,od,.func (OA x qual (Di st) (B8 st) (defScope st) .none kV cW pm an cdv ct),gr⟩)
  (c:OD K cdv qual=true) (k:NW K (.ref f)=true):Fun K x qual st f (OA x qual (Di st) (B8 st) (defScope st) .none kV cW pm an cdv ct):=⟨⟨oc,od,kV,cW,pm,an,cdv,ct,gr,rfl,l,c⟩,k⟩
end
def Dj  (hr:Room k A):A.units+1<bA:=Sb (Nat.add_le_add_left (by decide:1<=64) _) hr.units
section
variable {X:Cx}
def pv(i:Nat)  (hN:X.N[i]? = some x:=by rfl)(hv:Vis X.env.scope x:=by first | exact Or.inl rfl | exact Or.inr (.inl rfl) | exact Or.inr (.inr rfl))(hd:(x==("__debug__" : ao))=false:=by decide)
  (eR:(x==("__classdict__" : ao))=false:=by decide):PE X (.Name x pos) (Ct i):=Xg7 hN hv hd eR
end
def Bd{A B:Prop}(h:B):if false=true then A else B:=by
 rw[Sx N9];exact h
def iteT{A B:Prop}(h:A):if true=true then A else B:=by
 rw[Sy rfl];exact h
def Xbr{c A B:Prop}[Decidable c](hc:c)(h:B):if (!decide c)=true then A else B:=by
 rw[Sz hc];exact Bd h
def Same (H H':Hp):Prop:=∀b o,H b=some o->H' b=some o
def Same.refl(H):Same H H:=λ_ _ h=>h
def Same.trans(a:Same H H1)(b:Same H1 H2):Same H H2:=λc o h=>b c o (a c o h)
def Same.free  (e:Same H H') (h:H' l=Option.none):H l=Option.none:=by
 cases q:H l with
 | none=>rfl
 | some o=>
  rw[e l o q] at h;cases h
def Same.seq{K}   (e:Same H H')(h:SqL K H a xs):SqL K H' a xs:=by
 rcases h with (h | ⟨o,h⟩) | h
 ·exact .inl (.inl (e _ _ h))
 ·exact .inl (.inr ⟨o,e _ _ h⟩)
 ·exact .inr h
section
variable {X:Cx}
end
section
variable {κ : Type} [DecidableEq κ]
def Xi0{k : κ}(h:Ap kvs k=none):¬k∈kvs.map (·.1):=by
 intro m;obtain⟨p,hp,e⟩:=Oj.mp m;have q:(kvs.any λkv=>decide (kv.1=k))=true:=P6.mpr ⟨p,hp,Sz e⟩;rw[Ei,h] at q;exact absurd q (by simp)
def Gz  {k : κ} (h:Ap kvs k=some v):k∈kvs.map (·.1):=by
 have q:(kvs.any λkv=>decide (kv.1=k))=true:=by
  rw[Ei,h]
  all_goals rfl
 obtain⟨p,hp,e⟩:=P6.mp q;exact Oj.mpr ⟨p,hp,S5 e⟩
theorem nd_snoc:∀{l:List κ} {k : κ},l.Nodup->¬k∈l->(l++[k]).Nodup
 | [],k,_,_=>by simp
 | a::r,k,h,hk=>by
  obtain⟨h1,h2⟩:=Pd.mp h;show (a::(r++[k])).Nodup;refine Pd.mpr ⟨λm=>?_,nd_snoc h2 λm=>hk (N4.mpr (Or.inr m))⟩;rcases N0.mp m with q | q
  ·exact h1 q
  ·exact hk (N4.mpr (Or.inl (Nv.mp q).symm))
def Xi1{k : κ}(v)(hn:(kvs.map (·.1)).Nodup)(h:Ap kvs k=none):((A8 kvs k v).map (·.1)).Nodup:=by
 rw[Ip v h,N2];exact nd_snoc hn (Xi0 h)
end
def B9 (env:Env):List (ao×aJ)->List (ao×ae)->List (ao×ae)
 | [],cs=>cs
 | (n,k)::r,cs=>if k == .free then B9 env r ((n,(env.cells.lookup n).getD 0)::cs) else B9 env r cs
theorem K9:∀names cs,(∀x∈names,x.2 = .free->∃c,env.cells.lookup x.1=some c) ->
  (forIn names cs fun (x : ao × aJ) r => (if (x.2 == .free) = true then do        let c <- rN env x.1; pure (ForInStep.yield ((x.1, c) :: r)) else pure (ForInStep.yield r) : fT (ForInStep (List (ao × ae))))) = pure (B9 env names cs)
 | [],cs,_=>rfl
 | (n,k)::r,cs,h=>by
  rw[R1];cases hk:(k==aJ.free) with
  | true=>
   have iB:k = .free:=by simpa using hk
   obtain⟨c,hc⟩:=h (n,k) Ny iB;have e1:rN env n=pure c:=by unfold rN;rw[hc]
   simp only[hk,if_true,e1,pure_bind];rw[K9 r _ λx hx=>h x (Nw _ hx)];show _=pure (if (k==aJ.free)=true then _ else _);rw[hk,Sy rfl,hc];rfl
  | false=>
   simp only[hk,Os,if_false,pure_bind];rw[K9 r _ λx hx=>h x (Nw _ hx)];show _=pure (if (k==aJ.free)=true then _ else _);rw[hk,Sx N9]
def Xbs  (h:∀x∈scope.names,x.2 = .free->∃c,env.cells.lookup x.1=some c):m5 scope env=pure (B9 env scope.names []):=by
 have e:=K9 scope.names [] h
 have q : m5 scope env = (forIn scope.names [] fun (x : ao × aJ) r => (if (x.2 == .free) = true then do                let c <- rN env x.1; pure (ForInStep.yield ((x.1, c) :: r)) else pure (ForInStep.yield r) : fT (ForInStep (List (ao × ae))))) >>= fun cs => pure cs := rfl
 rw[q,e];rfl
theorem La   : ∀names cs,(∀x∈names,x.2 = .free->∃c,env.cells.lookup x.1=some c) ->
  (B9 env names cs).lookup x=some c->cs.lookup x=some c\/env.cells.lookup x=some c
 | [],cs,_,h=>.inl h
 | (n,k)::r,cs,hf,h=>by
  unfold B9 at h;split at h
  ·rename_i hk;rcases La r _ (λx hx=>hf x (Nw _ hx)) h with q | q
   ·rw[O8] at q;split at q
    ·rename_i e;have e':x=n:=by simpa using e
     subst e';obtain⟨c',hc⟩:=hf (x,k) Ny (by simpa using hk);have u3:env.cells.lookup x=some c':=hc;rw[u3] at q ⊢;exact .inr q
    ·exact .inl q
   ·exact .inr q
  ·exact La r _ (λx hx=>hf x (Nw _ hx)) h
theorem Lb  : ∀names cs,((cs.lookup x).isSome=true\/(x,aJ.free)∈names)->((B9 env names cs).lookup x).isSome=true
 | [],cs,h=>by
  rcases h with h | h
  ·exact h
  ·cases h
 | (n,k)::r,cs,h=>by
  unfold B9;split
  ·refine Lb r _ ?_;rw[O8];rcases h with h | h
   ·left;split
    ·rfl
    ·exact h
   ·rcases N4.mp h with e | h
    ·left;cases e;simp
    ·exact .inr h
  ·rename_i hk;refine Lb r _ ?_;rcases h with h | h
   ·exact .inl h
   ·rcases N4.mp h with e | h
    ·cases e;exact absurd rfl hk
    ·exact .inr h
theorem Xbt{env:Env}{x:ao}{k':aJ}:∀{names:List (ao×aJ)},
  (names.map λ(n,k)=>if (k==aJ.free&&env.scope.kind == .function&&env.kindOf n==some .cell) then (n,aJ.cell) else (n,k)).lookup x=some k'->∃k,names.lookup x=some k/\(k'=k\/k = .free)
 | [],h=>by simp at h
 | (n,k)::r,h=>by
  have ih := @Xbt env x k' r;have h':List.lookup x ((if (k==aJ.free&&env.scope.kind == .function&&env.kindOf n==some .cell)=true then (n,aJ.cell) else (n,k))::_)=_:=h;rw[O8];by_cases hc:(k==aJ.free&&env.scope.kind == .function&&env.kindOf n==some .cell)=true
  ·rw[Sy hc,O8] at h';cases hx:x==n with
   | true=>
    have hk:k = .free:=by
     simp only[N3,beq_iff_eq] at hc;exact hc.1.1
    exact⟨k,rfl,.inr hk⟩
   | false=>
    rw[hx] at h';exact ih h'
  ·rw[Sx hc,O8] at h';cases hx:x==n with
   | true=>
    rw[hx] at h';exact⟨k,rfl,.inl (N5 h').symm⟩
   | false=>
    rw[hx] at h';exact ih h'
theorem Lc:∀(names:List (ao×aJ)) (h:ak) (acc:List (ao×ae)) (x:ao) (c:ae),(bP h.objs.size names acc).lookup x=some c ->
  (h.objs.size<=c/\(x,aJ.cell)∈names/\(bZ h names).IsCell c none)\/acc.lookup x=some c
 | [],_,_,_,_,e=>.inr e
 | (name,kind)::r,h,acc,x,c,e=>by
  unfold bP at e;unfold bZ;by_cases hk:(kind==aJ.cell)=true
  ·rw[Sy hk] at e ⊢;have iB:kind = .cell:=by simpa using hk
   have sz:(h.push {cls:=.type "cell",data:=.cell none}).objs.size=h.objs.size+1:=ak.size_push ..;rw[<-sz] at e;rcases Lc r _ _ x c e with ⟨a1,a2,a3⟩ | a
   ·exact .inl ⟨by lia,Nw _ a2,a3⟩
   ·rw[O8] at a;cases hx:x==name with
    | true=>
     rw[hx] at a;cases a;have:x=name:=by simpa using hx
     subst this;refine .inl ⟨Nr _,by rw[iB];exact Ny,?_⟩;exact⟨_,dC r _ _ _ (ak.get?_push_size _ rfl),rfl⟩
    | false=>rw[hx] at a;exact .inr a
  ·rw[Sx hk] at e ⊢;rcases Lc r h acc x c e with ⟨a1,a2,a3⟩ | a
   ·exact .inl ⟨a1,Nw _ a2,a3⟩
   ·exact .inr a
theorem Ld:∀(names:List (ao×aJ)) (n:Nat) (acc:List (ao×ae)),(∀x y c,acc.lookup x=some c->acc.lookup y=some c->x=y)->(∀x c,acc.lookup x=some c->c<n) ->
  ∀x y c,(bP n names acc).lookup x=some c->(bP n names acc).lookup y=some c->x=y
 | [],_,_,h,_=>h
 | (name,kind)::r,n,acc,h,hb=>by
  unfold bP;by_cases hk:(kind==aJ.cell)=true
  ·rw[Sy hk];refine Ld r (n+1) _ (λx y c e1 e2=>?_) (λx c e=>?_)
   ·rw[O8] at e1 e2;cases hx:x==name with
    | true=>
     cases hy:y==name with
     | true=>rw[beq_iff_eq.mp hx,beq_iff_eq.mp hy]
     | false=>
      rw[hx] at e1;rw[hy] at e2;cases e1;exact absurd (hb y _ e2) (Ox _)
    | false=>
     cases hy:y==name with
     | true=>
      rw[hx] at e1;rw[hy] at e2;cases e2;exact absurd (hb x _ e1) (Ox _)
     | false=>rw[hx] at e1;rw[hy] at e2;exact h x y c e1 e2
   ·rw[O8] at e;cases hx:x==name with
    | true=>rw[hx] at e;cases e;exact Nat.lt_succ_self _
    | false=>rw[hx] at e;exact Po (hb x c e)
  ·rw[Sx hk];exact Ld r n acc h hb
theorem Lf   : ∀names cs,(B9 env names cs).lookup x=some c->cs.lookup x=some c\/(x,aJ.free)∈names
 | [],cs,h=>.inl h
 | (n,k)::r,cs,h=>by
  unfold B9 at h;split at h
  ·rename_i hk;have iB:k = .free:=by simpa using hk
   rcases Lf r _ h with q | q
   ·rw[O8] at q;cases hx:x==n with
    | true=>
     have:x=n:=by simpa using hx
     subst this;exact .inr (by rw[iB];exact Ny)
    | false=>rw[hx] at q;exact .inl q
   ·exact .inr (Nw _ q)
  ·rcases Lf r _ h with q | q
   ·exact .inl q
   ·exact .inr (Nw _ q)
def Xi2          (h:Q (newEnv scope s.heap.objs.size globals (bP (s.heap.objs.size+1) scope.names m6) qual none .none (some outer) dg) {s with heap:=bZ (s.heap.push {cls:=.type "dict",data:=.dict #[]}) scope.names}):
  af M A (gF scope globals m6 [] qual none .none (some outer)) Q E s:=by
 simp only[gF,R9,if_true];refine Sr (kF ?_);refine Sr (wpAny_layCells _ (λname kind cells=>by cases CK:kind==aJ.cell<;>simp[CK]) _ _ _ _ ?_);rw[show ({s with heap:=s.heap.push {cls:=.type "dict",data:=.dict #[]} }:ah).heap.objs.size=s.heap.objs.size+1 from ak.size_push ..];refine Sr ?_;rw[Sg];exact Ss (Ss h)
def G0 (X:Cx) (scope:cw) (s0:ah):List (ao×ae):=bP (s0.heap.objs.size+1) scope.names (B9 X.env scope.names [])
def Cx.comp (X:Cx) (N:Za) (scope:cw) (s0:ah) (H0:Hp) (ex:List ae):Cx where
 prog:=X.prog
 w:=X.w
 K:=X.K
 mg:=X.mg
 base:=X.base
 A:=X.A
 N:=N
 s₀:=s0
 H₀:=H0
 env:=rO scope (G0 X scope s0) s0.heap.objs.size X.env
 outer:=X.stack
 stack:=X.stack
 ex:=ex
 fn:=λx=>decide (scope.names.lookup x=some .cell)
 calm:=X.calm
 pn:=[]
 xe:=λ_ _=>False
def Bw (cap:List (Option Nat)) (Z:St):St:=cap.map λo=>o.bind λj=>(Z[j]?).join
structure CompScope (X:Cx) (N:Za) (cap:List (Option Nat)) (scope:cw):Prop where
 kind:scope.kind = .function
 uniq:∀y∈scope.names,scope.names.lookup y.1=some y.2
 free:∀y∈scope.names,y.2 = .free->X.env.kindOf y.1=some .cell\/X.env.kindOf y.1=some .free
 len:cap.length=N.length
 cap:∀(i:Nat) (x:ao) (j:Nat),N[i]? = some x->cap[i]? = some (some j)->X.N[j]? = some x/\scope.names.lookup x=some .free
def PIfs (X:Cx) (cA:List aL) (t:TT):Prop:=
 ∀pins s Z H (Q:Bool->Hp->Prop),Inv X pins Z H s->t Z H Q ->
  af (ag X.prog X.w) X.A (forIn cA true fun c r => if r = true then do        let ok <- isTrue c X.env (eval c X.env); pure (ForInStep.yield ok) else pure (ForInStep.yield r)) (TP X pins Z Q) X.xe s
def El:TT:=λ_ H Q=>Q true H
def C8:PIfs X [] El:=λ_ _ _ H _ I h=>wpAny_tests_nil ⟨H,I,h⟩
def Em   (h:PT X c t):PIfs X [c] t:=λpins s Z H Q I hw=>wpAny_tests_one (h pins s Z H Q I hw)
def E7 (cap:List (Option Nat)) (g:TG) (tt:TT) (te:TE) (J:It) (Z:St) (H1:Hp) (F:ae->Hp->Prop):Prop:=
 ∀D,H1 D=none->∃W:Nat->Nat->St->Hp->Prop,(∃m,W 0 m (Bw cap Z) (upd H1 D (.lst [])))/\∀i m Z1 H2,W i m Z1 H2 ->
  (J.stop i H2/\F D H2)\/(J.go i H2/\∀x H3,J.yld i H2 x H3->g x Z1 H3 fun Z2 H4=>tt Z2 H4 λb H5=>
   if b=true then te Z2 H5 λy H6=>∃ys,H6 D=some (.lst ys)/\ys.length<sizeLine/\∃m',m'<m/\W (i+1) m' Z2 (upd H6 D (.lst (ys++[y])))
   else ∃m',m'<m/\W (i+1) m' Z2 H5)
theorem Xbu{env:Env}{x:ao}:∀{names:List (ao×aJ)} {k:aJ},names.lookup x=some k ->
  (names.map λ(n,k)=>if (k==aJ.free&&env.scope.kind == .function&&env.kindOf n==some .cell) then (n,aJ.cell) else (n,k)).lookup x=some (if (k==aJ.free&&env.scope.kind == .function&&env.kindOf x==some .cell) then aJ.cell else k)
 | [],_,h=>by simp at h
 | (n,q)::r,k,h=>by
  have ih := @Xbu env x r k;show List.lookup x ((if (q==aJ.free&&env.scope.kind == .function&&env.kindOf n==some .cell)=true then (n,aJ.cell) else (n,q))::_)=_;rw[O8] at h;cases hx:x==n with
  | true=>
   rw[hx] at h;cases h;have:x=n:=by simpa using hx
   subst this;by_cases hc:(q==aJ.free&&env.scope.kind == .function&&env.kindOf x==some .cell)=true
   ·rw[Sy hc,Sy hc,O8,hx]
   ·rw[Sx hc,Sx hc,O8,hx]
  | false=>
   rw[hx] at h;by_cases hc:(q==aJ.free&&env.scope.kind == .function&&env.kindOf n==some .cell)=true
   ·rw[Sy hc,O8,hx];exact ih h
   ·rw[Sx hc,O8,hx];exact ih h
section
variable {X:Cx}{N:Za}{cap:List (Option Nat)}{scope:cw}{pins:List (ae×aM)}{Z:St}{H H':Hp}{s s':ah}{fp:List ae}
def Lg(C:CompScope X N cap scope)(ok:X.Ok):∀x∈scope.names,x.2 = .free->∃c,X.env.cells.lookup x.1=some c:=λx hx hf=>ok.has x.1 (C.free x hx hf)
def Iq(C:CompScope X N cap scope)(ok:X.Ok)  (h:(B9 X.env scope.names []).lookup x=some c):X.env.cells.lookup x=some c:=by
 rcases La scope.names [] (Lg C ok) h with q | q
 ·simp at q
 ·exact q
def Xbv(C:CompScope X N cap scope)(ok:X.Ok)(h:scope.names.lookup x=some .free):∃c,(B9 X.env scope.names []).lookup x=some c:=
 P5.mp (Lb scope.names [] (.inr (PySem.mem_of_lookup h)))
def Xbw(C:CompScope X N cap scope)(ok:X.Ok)  (hz:h.objs.size=s.heap.objs.size+1)  (e:(G0 X scope s).lookup x=some c):
  (s.heap.objs.size<c/\scope.names.lookup x=some .cell/\(bZ h scope.names).IsCell c none)\/(scope.names.lookup x=some .free/\X.env.cells.lookup x=some c):=by
 unfold G0 at e;rw[<-hz] at e;rcases Lc scope.names h _ x c e with ⟨a1,a2,a3⟩ | a
 ·exact .inl ⟨by lia,C.uniq _ a2,a3⟩
 ·refine .inr ⟨?_,Iq C ok a⟩;rcases Lf scope.names [] a with q | q
  ·simp at q
  ·exact C.uniq _ q
def Xi3(C:CompScope X N cap scope)(I:Inv X pins Z H s)(hf:∀b∈fp,FpOk X pins H b)(jd:∀b∈fp,b<s.heap.objs.size){tk}:
  Inv (X.comp N scope s H fp) [] (Bw cap Z) H {s with heap:=bZ (s.heap.push {cls:=.type "dict",data:=.dict #[]}) scope.names,toks:=tk}:=by
 have hC:H s.heap.objs.size=none:=I.hok.fresh (Nr _);have hz:(s.heap.push {cls:=.type "dict",data:=.dict #[]}).objs.size=s.heap.objs.size+1:=ak.size_push ..;have q0:(bZ (s.heap.push {cls:=.type "dict",data:=.dict #[]}) scope.names).Ns s.heap.objs.size λ_=>none:=(ak.Ns.new s.heap (.type "dict")).keeps (dC _ _);have hk:∀b o,s.heap.get? b=some o->(bZ (s.heap.push {cls:=.type "dict",data:=.dict #[]}) scope.names).get? b=some o:=λb o e=>dC _ _ b o (S8 _ e);have look:∀{x c},(X.comp N scope s H fp).env.cells.lookup x=some c->_:=λ{x c} h=>Xbw (s:=s) C I.ok hz h;have CL:∀x c,X.env.cells.lookup x=some c->c<s.heap.objs.size:=λx c h=>by
  obtain⟨v,q⟩:=I.cell x c h;exact q.lt
 have kind:∀x k,(relabel scope X.env).names.lookup x=some k->k = .cell\/k = .free->scope.names.lookup x=some .cell\/scope.names.lookup x=some .free:=λx k e hk=>by
  obtain⟨k0,e0,z⟩:=Xbt e;rcases z with z | z
  ·rw[<-z] at e0;rcases hk with q | q
   ·rw[q] at e0;exact .inl e0
   ·rw[q] at e0;exact .inr e0
  ·rw[z] at e0;exact .inr e0
 refine⟨⟨I.ok.mod,C.kind,I.ok.glob,I.ok.blt,Nr _,?inj,λx hx=>?has,λx c h e=>?cab,I.ok.hd,I.ok.frames,.inl rfl,λb hb=>⟨Nz (jd b hb),λx c h=>?exf⟩,
   I.bs,Oq I.ok.bsz I.sz,λb o e hb=>?noex,λb hb hs=>?exfs,I.stack,I.stkFree⟩,
  rfl,I.bare,Un.kept hk,⟨_,q0,λi x v CM h2 h3=>?loc⟩,λx c h=>?cell,hC,λx c h=>?freeC,λp hp=>absurd (show p∈([]:List (ae×aM)) from hp) (by simp),I.hok.kept hk,?len⟩
 case inj=>
  refine Ld scope.names _ _ (λx y c e1 e2=>I.ok.inj x y c (Iq C I.ok e1) (Iq C I.ok e2)) λx c e=>Po (CL x c (Iq C I.ok e))
 case has=>
  have iC:(relabel scope X.env).names.lookup x=some .cell\/(relabel scope X.env).names.lookup x=some .free:=hx;refine P5.mp (NY scope.names _ _ ?_);rcases (iC.elim (λq=>kind x _ q (.inl rfl)) λq=>kind x _ q (.inr rfl)) with q | q
  ·exact .inl q
  ·obtain⟨c,hc⟩:=Xbv C I.ok q;exact .inr (by rw[hc];rfl)
 case cab=>
  have h:scope.names.lookup x=some .cell:=S5 h;rcases look e with ⟨a,_⟩ | ⟨a,_⟩
  ·exact Rb a
  ·rw[h] at a;cases a
 case exf=>
  rcases look h with ⟨a,_⟩ | ⟨_,a⟩
  ·exact λz=>Ox _ (Qe a (by rw[z];exact jd b hb))
  ·exact(hf b hb).2.2.2.2.1 x c a
 case noex=>
  obtain⟨_,_,_,z,_⟩:=hf b hb;rcases z with z | z
  ·exact I.ok.noex b o e z
  ·exact absurd (Oc (S7 e) (Oq I.ok.bsz z)) (Ox _)
 case exfs=>
  obtain⟨_,f1,f2,_⟩:=hf b hb;rcases N4.mp (I.stkSub b hs) with e | e
  ·exact f1 e
  ·exact f2 e
 case loc=>
  have iD:(cap.map λo=>o.bind λj=>(Z[j]?).join)[i]? = some (some v):=h2;rw[Oa] at iD;cases hc:cap[i]? with
  | none=>rw[hc] at iD;cases iD
  | some o=>
   rw[hc] at iD;cases o with
   | none=>cases iD
   | some j=>
    have m7:(Z[j]?).join=some v:=N5 iD;have hZ : Z[j]? = some (some v):=by
     cases hj : Z[j]? with
     | none=>rw[hj] at m7;cases m7
     | some o=>rw[hj] at m7;exact congrArg some m7
    obtain⟨hN,dI⟩:=C.cap i x j CM hc;obtain⟨m,hn,hl⟩:=I.loc;have fP:X.env.kindOf x=some .cell\/X.env.kindOf x=some .free:=C.free (x,.free) (PySem.mem_of_lookup dI) rfl;obtain⟨u,r,l⟩:=hl j x v hN hZ (by rcases fP with q | q;exact .inr (.inl q);exact .inr (.inr q));refine⟨u,r,.inr ⟨?_,?_⟩⟩
    ·show (relabel scope X.env).names.lookup x=some .cell\/(relabel scope X.env).names.lookup x=some .free;have:=Xbu (env:=X.env) dI;have e:(relabel scope X.env).names.lookup x=_:=this;rw[e];split
     ·exact .inl rfl
     ·exact .inr rfl
    ·obtain⟨c,ip⟩:=Xbv C I.ok dI;obtain⟨c2,gC⟩:=P5.mp (NY scope.names (s.heap.objs.size+1) (B9 X.env scope.names []) (x:=x) (.inr (by rw[ip];rfl)));rcases look (x:=x) (c:=c2) gC with ⟨_,a,_⟩ | ⟨_,a⟩
     ·rw[dI] at a;cases a
     ·rcases l with ⟨k,_⟩ | ⟨_,c',e,z⟩
      ·rcases fP with q | q
       ·rw[k] at q;cases q
       ·rw[k] at q;cases q
      ·rw[a] at e;cases e;obtain⟨o,ho,hd⟩:=z;exact⟨c2,gC,o,hk c2 o ho,hd⟩
 case cell=>
  rcases look h with ⟨_,_,a⟩ | ⟨_,a⟩
  ·exact⟨none,a⟩
  ·obtain⟨v,o,ho,hd⟩:=I.cell x c a;exact⟨v,o,hk c o ho,hd⟩
 case freeC=>
  rcases look h with ⟨a,_⟩ | ⟨_,a⟩
  ·exact I.hok.fresh (Rb a)
  ·exact I.freeC x c a
 case len=>
  show (cap.map _).length=N.length;rw[Np,C.len]
end
def Xi4 (cap:List (Option Nat)) (wi:TI) (g:TG) (tt:TT) (te:TE):TE:=fun Z H Q=>wi Z H λJ H1=>E7 cap g tt te J Z H1 λD H2=>Q (.ref D) H2
def Xi5 (i:Nat) (cap:List (Option Nat)) (wi:TI) (g:TG) (tt:TT) (te:TE):TS:=λD Z H=>wi Z H λJ H1=>E7 cap g tt te J Z H1 λl H2=>D.nx (Z.set i (some (.ref l))) H2
def Av.there      (x:Av P w H h a o):∃u,h.get? a=some u:=by
 cases o with
 | lst xs=>obtain⟨_,_,_,_,e⟩:=x;exact⟨_,e⟩
 | tup xs=>obtain⟨_,_,_,o,e,_⟩:=x;exact⟨_,e⟩
 | dK kvs=>obtain⟨_,_,_,_,o,_,_,e,_⟩:=x;exact⟨_,e⟩
 | dT kvs=>obtain⟨_,_,_,_,o,_,_,e,_⟩:=x;exact⟨_,e⟩
 | set S n=>obtain⟨o,_,_,_,e,_⟩:=x;exact⟨_,e⟩
 | ins C dx fs=>obtain⟨_,_,_,e,_⟩:=x;exact⟨_,e⟩
 | own y=>exact x
 | xd fs=>obtain⟨_,⟨_,_,_,e,_⟩,_⟩:=x;exact⟨_,e⟩
 | rng lo hi=>obtain⟨_,_,_,e⟩:=x;exact⟨_,e⟩
 | frz ob u=>obtain⟨e,_⟩:=x;exact⟨_,e⟩
 | tbl ps=>exact⟨_,(show h.get? a=some _ from x)⟩
 | met f y=>exact⟨_,(show h.get? a=some _ from x)⟩
 | ext φ=>obtain⟨_,e,_⟩:=x;exact e
structure Flown (P:ar) (w:aA) (outer:List Env) (H:Hp) (hc:ak) (H':Hp) (ex C:ae) (B:ak) (a0:aa) (h:ak):Prop where
 un:Un (frs outer) [] H H' hc h
 hok:HOk P w H' h
 fly:ak.FlyingW B outer ex (.ref C) a0 h
 inB:∀b o,h.get? b=some o->b∉frs outer->((∃o',hc.get? b=some o')\/H' b≠none)->B.get? b=some o
 frf:∀b∈frs outer,H' b=none
def Flown.move       (F:Flown P w outer H hc H' ex C B a0 h) (st:B.StaysIn h') (up:h.UpToSlots h'):
  Un (frs outer) [] H H' hc h'/\HOk P w H' h'/\∀b o,h'.get? b=some o->b∉frs outer->((∃o',hc.get? b=some o')\/H' b≠none)->B.get? b=some o:=by
 have nf:∀b∈frs outer,∀o,h.get? b=some o->∀vs,o.data ≠ .fields vs:=λb hb o e=>by
  obtain⟨_,o',e',d⟩:=F.fly.2.2.1.mem hb;rw[e] at e';cases e';exact d
 have tr:∀b o,H' b=some o->b∉frs outer:=λb o e hb=>by rw[F.frf b hb] at e;cases e
 have eG:∀b,(∃o',hc.get? b=some o')\/H' b≠none->∃o,h.get? b=some o:=λb hb=>by
  rcases hb with ⟨o',e⟩ | hb
  ·obtain⟨o,e'⟩:=F.un.there b o' e (by simp);exact⟨o,e'⟩
  ·cases q:H' b with
   | none=>exact absurd q hb
   | some u=>exact(F.hok b u q).there
 refine⟨⟨λb o e n hb hx=>?_,λb o e n hb hx=>?_,F.un.free,λb o e hx=>?_,F.un.tups,F.un.frzs,F.un.tbls⟩,λa o e=>?_,λb o e hb hw=>?_⟩
 ·exact st b o (F.inB b o (F.un.keep b o e n hb hx) hb (.inl ⟨o,e⟩))
 ·obtain⟨sl,e1⟩:=F.un.slot b o e n hb hx;obtain⟨e9,e2⟩:=up b _ e1 (nf b hb _ e1);exact⟨e9,e2⟩
 ·obtain⟨o1,e1⟩:=F.un.there b o e hx;by_cases hb:b∈frs outer
  ·obtain⟨e9,e2⟩:=up b _ e1 (nf b hb _ e1);exact⟨_,e2⟩
  ·exact⟨o1,st b o1 (F.inB b o1 e1 hb (.inl ⟨o,e⟩))⟩
 ·refine(F.hok a o e).stay (λb u hb q=>?_) (λ_ q=>q) λ_ _ q=>q;have hn:H' b≠none:=by
   rcases hb with z | z
   ·rw[z,e];simp
   ·rw[z];simp
  have dJ:b∉frs outer:=λz=>hn (F.frf b z);exact st b u (F.inB b u q dJ (.inr hn))
 ·obtain⟨o1,e1⟩:=eG b hw;have e2:=F.inB b o1 e1 hb hw;have e3:=st b o1 e2;rw[e] at e3;cases e3;exact e2
def CX1 (P:ar) (w:aA):CXT:=λouter H s E e s'=>
 ∃ex C H' B a0,e = .ref ex/\s'.os=s.os/\cE s'.gens/\Flown P w outer H s.heap H' ex C B a0 s'.heap/\E (.ref C) none H'
section
variable {P:ar}{w:aA}{K:NO}{mg:ao->Option aa}{base:ak}{N:Za}{qual:ao}{scope:cw}{f:ae}{cd:aa}{A:av}{outer:List Env}{s:ah}{H:Hp}{E:XK}
def Leaves (X:Cx) (E:XK):Prop:=∀(pins:List (ae×aM)) (Z:St) (H:Hp) (s:ah) (h':ak) (ex C:ae) (args:List aa),
 Inv X pins Z H s->ak.MadeExcOf s.heap h' ex (.ref C) args->E (.ref C) none H->X.xe (.ref ex) {s with heap:=h'}
def leaves1:Leaves (Bj (CX1 P w) P w K mg base N qual scope f cd A outer s H E) E:=by
 intro pins Z H1 s1 h' ex C args I hm hE;show af (ag P w) (A.deeper (au qual scope s.heap.objs.size f cd)) (leaving (au qual scope s.heap.objs.size f cd) (.ref ex)) _ _ {s1 with heap:=h'};have bH:(Bj (CX1 P w) P w K mg base N qual scope f cd A outer s H E).stack=au qual scope s.heap.objs.size f cd::outer:=rfl;fin2;have je:∀b,b∈frs outer->b∈frs (au qual scope s.heap.objs.size f cd::outer):=λb hb=>by
  unfold frs at hb ⊢;rw[O1];split
  ·exact hb
  ·exact Nw _ hb
 have cr:∀b,b∈frs (au qual scope s.heap.objs.size f cd::outer)->H1 b=none:=λb hb=>I.stkFree b hb;refine wpAny_leaves_madeW (A:=A.deeper (au qual scope s.heap.objs.size f cd)) (L:=s.heap.objs.size) I.ok.frames rfl hB (OE gG dy) hm λrP t f1 _ _ up=>?_;have eG:∀b o,s.heap.get? b=some o->b∉frs outer->b∉frs (au qual scope s.heap.objs.size f cd::outer):=λb o e nb hb=>by
  rcases sub b hb with z | z
  ·exact absurd (S7 e) (by rw[z];exact Ox _)
  ·exact nb z
 have nf:∀b∈frs (au qual scope s.heap.objs.size f cd::outer),∀o,s1.heap.get? b=some o->∀vs,o.data ≠ .fields vs:=λb hb o e=>by
  obtain⟨_,o',e',d⟩:=gG.mem hb;rw[e] at e';cases e';exact d
 refine⟨ex,C,H1,_,_,rfl,I.os,I.bare,⟨⟨λb o e n hb hx=>?_,λb o e n hb hx=>?_,I.base.free,λb o e hx=>?_,I.base.tups,I.base.frzs,I.base.tbls⟩,λa o e=>?_,f1,λb o e hb hw=>?_,λb hb=>cr b (je b hb)⟩,hE⟩
 ·exact f1.1 b o (dR b o (I.base.keep b o e n hb hx) (eG b o e hb))
 ·k_dec;obtain⟨e9,e2⟩:=up b _ (hm.keeps _ _ e1) (nf b (je b hb) _ e1);exact⟨e9,e2⟩
 ·obtain⟨o1,e1⟩:=I.base.there b o e hx;by_cases hb:b∈frs (au qual scope s.heap.objs.size f cd::outer)
  ·obtain⟨e9,e2⟩:=up b _ (hm.keeps _ _ e1) (nf b hb _ e1);exact⟨_,e2⟩
  ·exact⟨o1,f1.1 b o1 (dR b o1 e1 hb)⟩
 ·refine(I.hok a o e).stay (λb u hb q=>?_) (λ_ q=>q) λ_ _ q=>q;have hn:H1 b≠none:=by
   rcases hb with z | z
   ·rw[z,e];simp
   ·rw[z];simp
  exact f1.1 b u (dR b u q λz=>hn (cr b z))
 ·have:∃o1,s1.heap.get? b=some o1/\b∉frs (au qual scope s.heap.objs.size f cd::outer):=by
   rcases hw with ⟨o',e'⟩ | hw
   ·obtain⟨o1,e1⟩:=I.base.there b o' e' (λz=>absurd (show b∈([]:List ae) from z) (by simp));exact⟨o1,e1,eG b o' e' hb⟩
   ·cases q:H1 b with
    | none=>exact absurd q hw
    | some u=>
     obtain⟨o1,e1⟩:=(I.hok b u q).there;exact⟨o1,e1,λz=>hw (cr b z)⟩
  obtain⟨o1,e1,nb⟩:=this;have e2:=dR b o1 e1 nb;have e3:=f1.1 b o1 e2;rw[e] at e3;cases e3;exact e2
def pass1:Passes (CX1 P w) (Bj (CX1 P w) P w K mg base N qual scope f cd A outer s H E) E:=by
 intro pins Z H1 s1 e s' I h;obtain⟨ex,C,H',B,a0,rfl,fu,gH,F,hE⟩:=h;gp_on;have je:∀b,b∈frs outer->b∈frs (au qual scope s.heap.objs.size f cd::outer):=λb hb=>by
  unfold frs at hb ⊢;rw[O1];split
  ·exact hb
  ·exact Nw _ hb
 have eG:∀b o,s.heap.get? b=some o->b∉frs outer->b∉frs (au qual scope s.heap.objs.size f cd::outer):=λb o e nb hb=>by
  rcases sub b hb with z | z
  ·exact absurd (S7 e) (by rw[z];exact Ox _)
  ·exact nb z
 have F':Flown P w (au qual scope s.heap.objs.size f cd::outer) H1 s1.heap H' ex C B a0 s'.heap:=F;refine wpAny_leaves_onW (A:=A.deeper (au qual scope s.heap.objs.size f cd)) (L:=s.heap.objs.size) I.ok.frames rfl F'.fly λrP f1 up=>?_;obtain⟨un,hok,inB⟩:=F'.move f1.1 up;refine⟨ex,C,H',B,a0,rfl,fu.trans I.os,gH,⟨?_,hok,f1,λb o e hb hw=>?_,λb hb=>F'.frf b (je b hb)⟩,hE⟩
 ·k_few
  ·exact un.keep b o (fA.keep b o e n hb hx) (fA.free b o e n hx) (eG b o e hb) hx
  ·obtain⟨sl,e1⟩:=fA.slot b o e n hb hx;obtain⟨e9,e2⟩:=un.slot b _ e1 (fA.free b o e n hx) (je b hb) hx;exact⟨e9,e2⟩
  ·obtain⟨o1,e1⟩:=fA.there b o e hx;exact un.free b o1 e1 (fA.free b o e n hx) hx
  ·obtain⟨o1,e1⟩:=fA.there b o e hx;exact un.there b o1 e1 hx
  ·obtain⟨m1,e1⟩:=fA.tbls b ps e;obtain⟨m2,e2⟩:=un.tbls b _ e1;exact⟨m1++m2,by rw[e2,R7]⟩
 ·refine inB b o e ?_ ?_
  ·rcases hw with ⟨o',e'⟩ | hw
   ·exact eG b o' e' hb
   ·intro z;exact hw (F'.frf b z)
  ·rcases hw with ⟨o',e'⟩ | hw
   ·obtain⟨o1,e1⟩:=(show Un (frs outer) [] H H1 s.heap s1.heap from I.base).there b o' e' (by simp);exact .inl ⟨o1,e1⟩
   ·exact .inr hw
end
abbrev bmV:List aa:=[.type "ValueError",.type "Exception",.type "BaseException",.type "object"]
def Xi6{K}  {C}  (X:K.In h)(q:OI K C m8 newId=true):
  ∃bm N nm q bs hdct sn sub ab col dd k0 k1 k2 k3 k5 mN,h.get? C=some (c6 nm q C N bs bm hdct sn sub ab col dd k0 k1 k2 k3 k5 newId)/\h.Ns N mN/\mN "__init__" = none/\jr h m8 bm:=by
 unfold OI at q;split at q
 ·rename_i dd cd sl ho;split at q
  ·rename_i C' bm k0 k1 k2 k3 n k5 hm hs;simp only[N3,beq_iff_eq,Ro] at q;obtain⟨⟨⟨⟨⟨rfl,rfl⟩,kG⟩,ht⟩,hok⟩,m9⟩:=q;obtain⟨nm,bs,mro,ns,qn,hd,sn,sub,ab,col,CN⟩:=cd;dsimp only at hm kG hok m9;subst hm kG;have kH:sl = #[k0,k1,k2,k3,some (.builtin n),k5]:=by
    obtain⟨l⟩:=sl;simp only at hs;rw[hs]
   subst kH;exact⟨bm,ns,nm,qn,bs,hd,sn,sub,ab,col,dd,k0,k1,k2,k3,k5,_,X _ _ ho,.of_isNs (OP X hok),PySem.W.nsMap_none_of_in X hok m9,OQ X ht⟩
  ·cases q
 ·cases q
def Xbx (C:ae) (E:XK) (t:TA):TS:=λ_ Z H=>t Z H λvs H1=>vs.length<=sizeLine/\E (.ref C) none H1
def Xby  {C:ae} {E:XK}     (hc:OI X.K C bmV "ValueError.__new__" = true) (bd:X.calm=true) (hx:Leaves X E) (hg:Gl X x) (hm:X.mg x=some (.ref C))
  (ha:PA X (e::es) t) (fU:(x==("__debug__" : ao))=false:=by decide) (he:az (e::es) X.env=(false,eval e X.env)::az es X.env:=by rfl) (bN:(bq bD (az es X.env)).any (·.1)=false:=by rfl):
  PS X (.Raise (some (.Call (.Name x np) (e::es) [] bD)) none pos) (Xbx C E t):=by
 k_mem;obtain⟨tl,N,nm,q,bs,hdct,sn,sub,ab,col,dd,k0,k1,k2,k3,k5,mN,hC,hN,m9,T⟩:=Xi6 I.mod.kin hc;refine wpAny_Raise_call_subT (C:=C) (nm:=nm) (q:=q) (N:=N) (bs:=bs) (bm:=tl) (hdct:=hdct) (sn:=sn) (sub:=sub) (ab:=ab) (col:=col) (dd:=dd) (k0:=k0) (k1:=k1) (k2:=k2) (k3:=k3) (k5:=k5)
  PySem.F.excBase_ValueError (mN:=mN) (T.hasType PySem.F.excBase_ValueError.hasBase) (I.ok.hd bd) (by rw[he];show (false||(bq bD (az es X.env)).any (·.1))=false;rw[bN];rfl) m9 (Fs I hg hm ⟨rfl,?_⟩ fU)
 have hh:=thn (ha bD pins s Z H _ I h) (Q':=λvs s₂=>vs.length<=sizeLine/\(∀b o,X.base.get? b=some o->s₂.heap.get? b=some o)/\∀h' e,ak.MadeExcOf s₂.heap h' e (.ref C) vs->X.xe (.ref e) {s₂ with heap:=h'})
  (λus s2 ⟨vs,H2,I2,r2,hl,hE⟩=>⟨by rw[<-r2.length];exact hl,I2.bk,λh' ex oP=>hx pins Z H2 s2 h' ex C us I2 oP hE⟩)
 rw[he] at hh ⊢;exact Calls.evalArgs_plain (aF hh (λvs s₂ h₂=>⟨rfl,h₂.1,h₂.2.1 _ _ hC,hN.keeps h₂.2.1,T.keeps h₂.2.1,h₂.2.2⟩) λ_ _ y=>y)
def Fun.ok1   {K}    {st}     (F:Fun K x qual st f fd) (S:FnScope N ps (defScope st)) (len:∀vs H Q E,sp vs H Q E->vs.length=ps.length)
  (dM:∀(cdv:aa) (A:av) (outer:List Env) (s:ah) (H:Hp) (vs:List V) (Q:VK) (E:XK),Room k (A.deeper (au qual (defScope st) s.heap.objs.size f cdv))->sp vs H Q E ->
   ∃t,PSs (Bj (CX1 P w) P w K mg base N qual (defScope st) f cdv A outer s H E) (B8 st) t/\t {nx:=λ_ H'=>Q .non H',rt:=Q} (start N vs) H):FnOk P w K mg base (CX1 P w) (k+1) f fd ps sp:=by
 obtain⟨oc,od,kV,cW,pm,an,cdv,ct,gr,rfl,lk,eR⟩:=F.ex;exact Ij lk eR S len λA outer s H vs Q E hr gt=>dM cdv A outer s H vs Q E hr gt
abbrev Cx.re (X:Cx) (pn:List (ae×aM)) (A:av) (c:Bool) (E:Zb):Cx:={X with pn:=pn,A:=A,calm:=c,xe:=E}
section
variable {X:Cx}{pins pins' pn:List (ae×aM)}{Z:St}{H:Hp}{s:ah}{A:av}{c:Bool}{E:Zb}
def Inv.as(I:Inv X pins Z H s)(hd:c=true->A.handled=none)(hf:A.frames=some X.stack)(hp:∀p∈pn++pins',p∈X.pn++pins):Inv (X.re pn A c E) pins' Z H s:=
 ⟨⟨I.ok.mod,I.ok.kind,I.ok.glob,I.ok.blt,I.ok.above,I.ok.inj,I.ok.has,I.ok.cab,hd,hf,I.ok.stk,I.ok.exf,I.ok.bs,I.ok.bsz,I.ok.noex,I.ok.exfs,I.ok.funs,I.ok.frf⟩,
  I.os,I.bare,I.base,I.loc,I.cell,I.free,I.freeC,λp jM=>I.pin p (hp p jM),I.hok,I.len⟩
def Inv.back(I:Inv (X.re pn A c E) pins' Z H s)(ok:X.Ok)(hp:∀p∈X.pn++pins,p∈pn++pins'):Inv X pins Z H s:=
 ⟨ok,I.os,I.bare,I.base,I.loc,I.cell,I.free,I.freeC,λp jM=>I.pin p (hp p jM),I.hok,I.len⟩
def Inv.unbind      (I:Inv X pins Z H s) (hN:X.N.Nodup) (hi:X.N[i]? = some n) (hl:X.env.scope.names.lookup n=some .local)
  (hm:∀(j:Nat) (x:ao) (v:V),X.N[j]? = some x -> Z[j]? = some (some v)->Vis X.env.scope x->∃u,Ae v u/\Look X.env s.heap m x u)
  (hn:h'.Ns X.env.locals (λx=>if x=n then v else m x)) (hs:ak.SameBut X.env.locals s.heap h'):Inv X pins (Z.set i none) H {s with heap:=h',toks:=tk}:=by
 have uz:i < Z.length:=by rw[I.len];exact(N7.mp hi).1
 have cne:=I.cne;refine⟨I.ok,I.os,I.bare,⟨λb o e n hb hx=>?_,λb o e n hb hx=>?_,I.base.free,λb o e hx=>?_,I.base.tups,I.base.frzs,I.base.tbls⟩,⟨_,hn,λj y v' e1 e2 e3=>?_⟩,λy c e=>?_,I.free,I.freeC,λp hp=>?_,λb ob e=>?_,by simpa using I.len⟩
 ·exact(hs.2 b (Nz (Oc (S7 e) I.ok.above))).trans (I.base.keep b o e n hb hx)
 ·k_dec;exact⟨sl,(hs.2 b (Nz (Oc (S7 e) I.ok.above))).trans e1⟩
 ·obtain⟨o',e1⟩:=I.base.there b o e hx;exact⟨o',(hs.2 b (Nz (Oc (S7 e) I.ok.above))).trans e1⟩
 ·have hj:j≠i:=by
   intro z;subst z;rw[Rk uz] at e2;cases e2
  rw[Rw (Ne.symm hj)] at e2;obtain⟨u,r,l⟩:=hm j y v' e1 e2 e3;refine⟨u,r,?_⟩;rcases l with ⟨k,e⟩ | ⟨k,c,e,z⟩
  ·refine .inl ⟨k,?_⟩;have:y≠n:=λe=>hj (Km hN e1 (e ▸ hi));simp[this,e]
  ·exact .inr ⟨k,c,e,z.sameBut hs (cne y c e)⟩
 ·obtain⟨w',z⟩:=I.cell y c e;exact⟨w',z.sameBut hs (cne y c e)⟩
 ·obtain⟨e,n,ne,nf,d⟩:=I.pin p hp;exact⟨(hs.2 p.1 ne).trans e,n,ne,nf,d⟩
 ·refine(I.hok b ob e).stay (λc' w' hc q=>(hs.2 c' ?_).trans q) (λ_ q=>q) λ_ _ q=>q;rintro rfl;rcases hc with z | z
  ·rw[<-z,I.free] at e;cases e
  ·rw[I.free] at z;cases z
def Inv.track{a}(I:Inv X pins Z H s)(hn:H a=none)(h0:X.s₀.heap.get? a=none)(hL:a≠X.env.locals)(hc:∀x c,X.env.cells.lookup x=some c->c≠a)(hp:∀p∈X.pn++pins,p.1≠a)
  (h1 : φ s.heap) (h2:∃o,s.heap.get? a=some o) (h3:∀h1 h2:ak, φ h1->(∀o,h1.get? a=some o->h2.get? a=some o) -> φ h2):Inv X pins Z (upd H a (.ext φ)) s:=by
 refine⟨I.ok,I.os,I.bare,⟨I.base.keep,I.base.slot,λb o e n hx=>?_,I.base.there,λb xs e=>?_,λb o u e=>?_,λb ps e=>?_⟩,I.loc,I.cell,?_,λx c e=>?_,λp jM=>?_,λb ob e=>?_,I.len⟩
 ·rw[Ab (λz=>by rw[z,h0] at e;cases e)];exact I.base.free b o e n hx
 ·have q:=I.base.tups b xs e;rw[Ab (Ao q hn)];exact q
 ·have q:=I.base.frzs b o u e;rw[Ab (Ao q hn)];exact q
 ·obtain⟨bR,q⟩:=I.base.tbls b ps e;exact⟨bR,by rw[Ab (Ao q hn)];exact q⟩
 ·rw[Ab (Ne.symm hL)];exact I.free
 ·rw[Ab (hc x c e)];exact I.freeC x c e
 ·obtain⟨e,n,r⟩:=I.pin p jM;exact⟨e,by rw[Ab (hp p jM)];exact n,r⟩
 ·by_cases hb:b=a
  ·subst hb;rw[Aa] at e;cases e;exact⟨h1,h2,h3⟩
  ·rw[Ab hb] at e;exact(I.hok b ob e).stay (λ_ _ _ q=>q) (λc q=>by rw[Ab (Ao q hn)];exact q) λc xs q=>by rw[Ab (Ao q hn)];exact q
end
def D4 (ex C:ae) (h:ak):Prop:=∃o vs,h.get? ex=some o/\o.cls = .ref C/\o.data = .fields vs
def ExcO (ex C:ae):HO:=.ext (D4 ex C)
def Cx.tryC (X:Cx) (pn:List (ae×aM)) (R:ae->St->Hp->Prop):Cx:=X.re pn X.A X.calm λe s1=>
 ∃Z Hc sc,Inv (X.re pn X.A X.calm λ_ _=>True) [] Z Hc sc/\CX1 X.prog X.w X.stack Hc sc (λc _ H1=>∃C,c = .ref C/\R C Z H1) e s1
def Cx.suite (X:Cx) (pn:List (ae×aM)) (ex:ae):Cx:=X.re pn (X.A.mark (some (.ref ex))) false λ_ _=>False
section
variable {X:Cx}{pn:List (ae×aM)}{R:ae->St->Hp->Prop}{k:Nat}{f:ae}{fd:bJ}{ps:Za}{sp:Sp}{fO:List V}{ds:List aa}{x:ao}{p pos:cF}{e:aL}{es:List aL}{t:TA}
end
section
variable {X:Cx}{pos np js:cF}{body:List aP}{b0:aP}{suite:List aP}{n x:ao}{i:Nat}{Cc:ae}{tb:(ae->St->Hp->Prop)->TS}{th:TS}
def tTry (K:NO) (i:Nat) (Cc:ae) (tb:(ae->St->Hp->Prop)->TS) (th:TS):TS:=λD Z H=>∃R:ae->St->Hp->Prop,tb R D Z H/\∀C Z1 H1,R C Z1 H1->NV K (.ref C) (.ref Cc)=some true /\
 ∀ex,H1 ex=none->th {nx:=fun Z2 H2=>D.nx (Z2.set i none) H2,rt:=D.rt,bk:=fun Z2 H2=>D.bk (Z2.set i none) H2,ct:=fun Z2 H2=>D.ct (Z2.set i none) H2} (Z1.set i (some (.ref ex))) (upd H1 ex (ExcO ex C))
end
section
variable {X:Cx}{pos p2:cF}{e:aL}{te:TE}
def tRev (K:NO) (te:TE):TE:=fun Z H Q=>te Z H λx H1=>∃a xs,x = .ref a/\SqL K H1 a xs/\∀p,H1 p=none->Q (.ref p) (upd H1 p (.lst xs.reverse))
def Xbz  (he:PE X e te):PE X (.Subscript e (.Slice none none (some (.UnaryOp .USub (.Constant (.int 1) k p3) p4)) p2) pos) (tRev X.K te):=by
 k_ne;by_in;obtain⟨t,rfl⟩:=r2;obtain⟨a,xs,ex,hx,q⟩:=q1;subst ex;cases r1;obtain⟨aB,r,ht,hz⟩:=I2.list hx;have I4:Inv X pins Z H2 {s2 with heap:=s2.heap.push {cls:=.type "slice",data:=.fields #[.none,.none,.int (-1) t]} }:=I2.kept (t':=s2.toks) λb ob q=>S8 _ q;obtain⟨vF,r4,kK,qA⟩:=I4.list hx;have aV:=r4.length;refine km (ops:=[.ref a,.ref s2.heap.objs.size]) kK.isList.typeIs fh.lookup (i9 kK.isList (ak.IsSliceOf.new ..) .none .none (.int (-1) t) (by simp) ?_ (by rw[Nt]<;>lia)) (by with_unfolding_all rfl);rw[PySem.W.krv_pick];refine⟨.ref _,_,I4.laid (t':=s2.toks) (o:=.lst xs.reverse) (λb ob q=>S8 _ q) (Nr _) ?_,rfl,q _ (I4.hok.fresh (Nr _))⟩;exact⟨by rw[Ra];exact qA,_,0,Vals.reverse r4,ak.get?_push_size _ rfl⟩
def Bx (xs ys:List V):Bool:=(xs.length==ys.length)&&(List.range xs.length).all λj=>eqV (xs.getD j .non) (ys.getD j .non)
def Lh:∀(xs ys:Za),Bx (xs.map V.str) (ys.map V.str)=decide (xs=ys):=by
 intro xs ys;unfold Bx;rw[Np,Np];by_cases e:xs=ys
 ·subst e;simp only[beq_self_eq_true,Pi,decide_true];rw[Oh];intro j hj;have gu:j<xs.length:=O6.mp hj;simp[List.getD,gu,eqV]
 ·rw[S0 e];by_cases hl:xs.length=ys.length
  ·cases hb:((xs.length==ys.length)&&(List.range xs.length).all λj=>eqV ((xs.map V.str).getD j .non) ((ys.map V.str).getD j .non)) with
   | false=>rfl
   | true=>
    exfalso;refine e (Q7 hl λj h1 h2=>?_);rw[N3,Oh] at hb;have q:=hb.2 j (O6.mpr h1);simp[List.getD,h1,h2,eqV] at q;exact q
  ·have:(xs.length==ys.length)=false:=by simpa using hl
   rw[this,Pf]
def Xb0 (K:NO) (g:Bool->Bool):R2:=λx y H Q=>∃a b xs ys,x = .ref a/\y = .ref b/\SqL K H a xs/\SqL K H b ys/\(∀v∈xs,Bk v=true)/\(∀v∈ys,Bk v=true)/\Q (.bl (g (Bx xs ys))) H
def Xb1    (rx:Vals xs us) (ry:Vals ys vs) (fx:∀v∈xs,Bk v=true) (fy:∀v∈ys,Bk v=true) (j) (h1:j<us.toArray.size) (h2:j<vs.toArray.size):
  SeqAt.EqAt A s us.toArray[j] vs.toArray[j] (eqV (xs.getD j .non) (ys.getD j .non)):=by
 have l1:=rx.length;have l2:=ry.length;rw[Nt] at h1 h2;have g1:xs[j]? = some (xs[j]'(by lia)):=Nq (by lia);have g2:ys[j]? = some (ys[j]'(by lia)):=Nq (by lia);obtain⟨u,hu,ru⟩:=rx.get g1;obtain⟨v,hv,rv⟩:=ry.get g2;have e1:us.toArray[j]=u:=by
  rw[Rx];rw[Nq h1] at hu;exact N5 hu
 have e2:vs.toArray[j]=v:=by
  rw[Rx];rw[Nq h2] at hv;exact N5 hv
 rw[e1,e2];have d1:xs.getD j .non=xs[j]'(by lia):=by simp[List.getD,g1]
 have d2:ys.getD j .non=ys[j]'(by lia):=by simp[List.getD,g2]
 rw[d1,d2];exact Xbb ru rv (fx _ (Ov _)) (fy _ (Ov _))
def Xi7(hu:X.A.units<bA):OpR X (aH .Eq) (Xb0 X.K id):=by
 k_go;obtain⟨a,b,xs,ys,rfl,rfl,hx,hy,fx,fy,q⟩:=h;cases rx;cases ry;obtain⟨us,r1,p1,z1⟩:=I.list hx;obtain⟨vs,r2,p2,z2⟩:=I.list hy;have l1:=r1.length;have l2:=r2.length;by_cases hl:xs.length=ys.length
 ·refine SeqAt.eq_listAt (e:=λj=>eqV (xs.getD j .non) (ys.getD j .non)) p1.isList p2.isList (by rw[Nt,Nt];lia) hu (λj h1 h2=>Xb1 r1 r2 fx fy j h1 h2) ?_;refine⟨.bl (Bx xs ys),H,I,?_,q⟩;show aa.bool _=aa.bool (Bx xs ys);unfold Bx;rw[Nt,<-l1,hl,beq_self_eq_true,Pi]
 ·refine SeqAt.eq_list_lengthsAt p1.isList p2.isList (by rw[Nt,Nt];simpa using (by lia:us.length≠vs.length)) hu ?_;refine⟨.bl (Bx xs ys),H,I,?_,q⟩;show aa.bool _=aa.bool (Bx xs ys);unfold Bx;have:(xs.length==ys.length)=false:=by simpa using hl
  rw[this,Pf]
def Xb2(hu:X.A.units<bA):OpR X (aH .NotEq) (Xb0 X.K not):=by
 k_go;obtain⟨a,b,xs,ys,rfl,rfl,hx,hy,fx,fy,q⟩:=h;cases rx;cases ry;obtain⟨us,r1,p1,z1⟩:=I.list hx;obtain⟨vs,r2,p2,z2⟩:=I.list hy;have l1:=r1.length;have l2:=r2.length;by_cases hl:xs.length=ys.length
 ·refine SeqAt.RcNeAt.lists (e:=λj=>eqV (xs.getD j .non) (ys.getD j .non)) p1.isList p2.isList (by rw[Nt,Nt];lia) hu (λj h1 h2=>Xb1 r1 r2 fx fy j h1 h2) _ _ _ _ ?_;refine⟨.bl (!Bx xs ys),H,I,?_,q⟩;show aa.bool _=aa.bool (!Bx xs ys);unfold Bx;rw[Nt,<-l1,hl,beq_self_eq_true,Pi]
 ·refine SeqAt.RcNeAt.lists_lengths p1.isList p2.isList (by rw[Nt,Nt];simpa using (by lia:us.length≠vs.length)) hu _ _ _ _ ?_;refine⟨.bl (!Bx xs ys),H,I,?_,q⟩;show aa.bool _=aa.bool (!Bx xs ys);unfold Bx;have:(xs.length==ys.length)=false:=by simpa using hl
  rw[this,Pf,Bool.not_false]
def Xi8 (K:NO) (n:Nat) (t:TGs):TG:=λv Z H Q=>∃a xs,v = .ref a/\SqL K H a xs/\xs.length=n/\t xs Z H Q
def Xi9    (hc:X.calm=true) (h:PGs X es t)
  (hn:(bG es X.env).length=n:=by rfl) (bH:(bG es X.env).findIdx? (·.1)=none:=by rfl):PG X (.Tuple es k pos) (Xi8 X.K n t):=by
 intro pins s Z H v u Q I r hw;obtain⟨a,xs,e1,hq,hl,hw⟩:=hw;subst e1;cases r;obtain⟨aB,rv,ht,hz⟩:=I.list hq;rw[assign_Tuple];refine Sr (aU ?_);unfold unpack;have aV:(bG es X.env).length=aB.toArray.size:=by rw[hn,<-hl,Nt];exact rv.length
 rw[aV,bH];refine Sr (aw (PySem.W.kun_itemsOf (I.ok.hd hc) ht.isList λh' hx=>?_));have I1:Inv X pins Z H {s with heap:=h'}:=I.kept (t':=s.toks) λb o e=>hx b o (Nz (S7 e)) e;exact h pins _ Z H xs _ Q I1 (by simpa using rv) hw
def repS (z:ao) (n:Nat):ao:=⟨(List.replicate n z.cps).foldl (· ++ ·) #[]⟩
def Xja(z):repS z 1=z:=by
 obtain⟨c⟩:=z;show (⟨(#[]:Array Nat)++c⟩:ao)=⟨c⟩;rw[Array.empty_append]
theorem Xb3(z):∀(n:Nat) (a:Array Nat),((List.replicate n z).foldl (· ++ ·) a).size=a.size+n * z.size
 | 0,a=>by simp
 | n+1,a=>by
  rw[P2,Qx,Xb3 z n,Array.size_append,Nat.succ_mul]
  lia
def Li(z)(n):(repS z n).length=n * z.length:=by
 have e:=Xb3 z.cps n #[];show ((List.replicate n z.cps).foldl (· ++ ·) #[]).size=n * z.cps.size;simpa using e
def Xjb(h:z.length=0)(n):repS z n=z:=by
 have e:=Li z n;rw[h,Nat.mul_zero] at e;generalize repS z n=y at e;obtain⟨c⟩:=z;obtain⟨d⟩:=y;have h':c.size=0:=h;have e':d.size=0:=e;rw[Array.size_eq_zero_iff] at h' e';rw[h',e']
def Xjc:OpR X (bv .Mult) (λx y H Q=>∃z n,x = .str z/\y = .int n/\0<=n/\n<=1000/\z.length<=1000/\Q (.str (repS z n.toNat)) H):=by
 k_go;obtain⟨z,n,rfl,rfl,h0,h1,hz,q⟩:=h;k_end;have hle:z.length * n.toNat<=1000 * 1000:=Nat.mul_le_mul hz (by lia);refine PySem.P.mul_str ?_ (λhn zb=>?_) (λhn zb=>?_) ?_
 ·have h2:¬n < -(2 ^ 63:Int):=by lia
  have h3:¬n ≥ 2 ^ 63:=by lia
  rw[S0 h2,S0 h3];rfl
 ·have h4:(1000:Int)<=(2 ^ 63 - 1) / n:=by
   refine(Int.le_ediv_iff_mul_le (by lia)).mpr ?_;have:(1000:Int) * n<=1000 * 1000:=by lia
   lia
  lia
 ·show aj.Str.tooLong _=false;unfold aj.Str.tooLong
  first
   | (refine S0 ?_;have:=hle;rw[Sw];lia)
   | (simp;lia)
 ·by_cases hn:n<1
  ·rw[Sy hn];have:n=0:=by lia
   subst this;exact⟨by decide,.str ao.empty,H,I.tok _,⟨_,rfl⟩,q⟩
  ·rw[Sx hn];by_cases hc:(n==1||z.length==0)=true
   ·rw[Sy hc];have e:repS z n.toNat=z:=by
     rcases R4.mp hc with e | e
     ·have e':n=1:=by simpa using e
      subst e';exact Xja z
     ·exact Xjb (by simpa using e) _
    rw[e] at q;exact⟨.str z,H,I,⟨_,rfl⟩,q⟩
   ·rw[Sx hc];refine⟨?_,.str (repS z n.toNat),H,I.tok _,⟨_,rfl⟩,q⟩;show (repS z n.toNat).length<=sizeLine;rw[Li,Nat.mul_comm,Sw]
    lia
def Lj:X.calm=true->Bh X (.builtin "all") (λxs H Q=>∃(a:ae) (bs:List Bool),xs=[.ref a]/\H a=some (.lst (bs.map V.bl))/\Q (.bl (bs.all id)) H):=by
 intro hc pins s Z H xs us Q I r h;obtain⟨a,bs,rfl,ha,q⟩:=h;obtain⟨u,rfl,ru⟩:=B0 r;cases ru;obtain⟨aB,rv,p,hz⟩:=I.list (SqL.of ha);have hl:=rv.length;rw[Np] at hl;refine call_all_walk (cg p.isList ?_);have b7:a≠s.heap.objs.size:=by
  obtain⟨o,ho,_⟩:=p.isList;exact Nz (S7 ho)
 k_all
 ·have hv:aB[i]? = some v:=by simpa using hP
  have hi:i<aB.length:=(N7.mp hv).1;have g:(bs.map V.bl)[i]? = some (.bl (bs[i]'(by lia))):=by
   rw[Oa,Nq (by lia)];rfl
  obtain⟨u,hu,ru⟩:=rv.get g;rw[hv] at hu;cases hu;cases ru;have e:bs.getD i false=bs[i]'(by lia):=by simp[List.getD,(by lia:i<bs.length)]
  have rQ:Q' (bs.getD i false) s':=hQ;rw[e] at rQ;exact aN rQ
 ·refine⟨.bl (bs.all id),H,I.kept (t':=tk) λb o e=>k b o (λz=>?_) (S8 _ e),?_,q⟩
  ·have z':b=s.heap.objs.size:=by simpa using z
   exact absurd (S7 e) (by rw[z'];exact Ox _)
  ·show aa.bool _=aa.bool _;congr 1;rw[Nt,<-hl];rw[Pu,Oh,Oh];constructor
   ·intro hx b hb;obtain⟨j,hj,rfl⟩:=Pm.mp hb;have:=hx j (O6.mpr hj);simpa [List.getD,hj] using this
   ·intro hx j hj;have gu:=O6.mp hj;have:=hx _ (Ov gu);simpa [List.getD,gu] using this
end
def Itd (d:ae) (o:aM) (kvs:List (Key×V)):It:=
 ⟨λi H=>H d=some (.frz o (.dK kvs))/\i<kvs.length,λi H x H'=>H'=H/\∃p,kvs[i]? = some p/\x=kV p.1,λi H=>H d=some (.frz o (.dK kvs))/\kvs.length<=i⟩
def Xjd    (h:(A5 P w).is k u=true):Ae (kV k) u:=by
 rcases Df (show Dw k u=true from h) with ⟨i,t,rfl,rfl⟩ | ⟨x,t,rfl,rfl⟩
 ·exact⟨t,rfl⟩
 ·exact⟨t,rfl⟩
theorem Xb4:∀{kvs:List (Key×V)} {vs:List (Key×aa)} {i:Nat} {p:Key×V},KV kvs vs->kvs[i]? = some p->∃u,vs[i]? = some (p.1,u)
 | _,_,_,_,.nil,e=>by simp at e
 | _,_,0,p,.cons (b:=b) r _,e=>by
  simp at e;subst e;obtain⟨k,u⟩:=b;obtain⟨r1,r2⟩:=r;exact⟨u,by simp only[List.getElem?_cons_zero,Option.some.injEq,Prod.mk.injEq];exact⟨r1.symm,trivial⟩⟩
 | _,_,i+1,p,.cons _ t,e=>by
  obtain⟨u,h⟩:=Xb4 (i:=i) t (by simpa using e);exact⟨u,by simpa using h⟩
def Lk{P:ar}{w:aA}{K:NO}{tg:aL}(d it:ae)(o:aM)(es:Array oH)(ep:Nat)(hd:o.data = .dict es ep)(kvs:List (Key×V))(fB:d≠it):
  Turn P w K tg (Itd d o kvs) [it] it (λi h=>h.IsKeyIter it d i kvs.length ep) where
 mem:=by simp
 obj:=λi h st b hb=>by
  have e:b=it:=by simpa using hb
  subst e;obtain⟨o,e,c,d⟩:=st;exact⟨o,e,λv z=>by rw[d] at z;cases z⟩
 keep:=λi h h' st k=>by
  obtain⟨o,e,r⟩:=st;exact⟨o,k it (by simp) o e,r⟩
 item:=by
  kd_p;obtain⟨hH,hi⟩:=hg;obtain⟨ho,hz,hm,vs,rv,o',cN,l7,eu,hex,io,r'⟩:=I.hok d _ hH;rw[ho] at eu;cases eu;rw[hd] at io;cases io;have aV:kvs.length=vs.length:=Paired.length rv;f_are;have hp:kvs[i]? = some (kvs[i]'hi):=Nq hi;obtain⟨u,hu⟩:=Xb4 rv hp;rw[aV] at st;refine wpAny_pyNext_dict_item (knd:=A5 X.prog X.w) st ⟨o,es,ho,hex,hd,r'⟩ hu λeg h' hk aD sb=>?_;k_one;obtain⟨o2,e2,c2,d2⟩:=id aD;refine⟨eg,rfl,Hz (s:={s with heap:=h'}) e2 c2 d2 (by decide) ⟨_,H,I1,Xjd hk,⟨rfl,_,hp,rfl⟩,?_,λb hb=>(hf b hb).1⟩⟩;rw[aV];exact aD
 done:=by
  kd_p;obtain⟨hH,hi⟩:=hg;obtain⟨ho,hz,hm,vs,rv,o',cN,l7,eu,hex,io,r'⟩:=I.hok d _ hH;rw[ho] at eu;cases eu;rw[hd] at io;cases io;have aV:kvs.length=vs.length:=Paired.length rv;f_are;rw[aV] at st;exact wpAny_pyNext_dict_end (knd:=A5 X.prog X.w) (I.ok.hd hc) st ⟨o,es,ho,hex,hd,r'⟩ (Qy (by lia)) λh' eb=>⟨rfl,I.turned (t':=s.toks) (λb o hb e=>eb b o hb e) f0 f1 f3 f4 f5⟩
 self:=λA i s Q E st h=>by
  refine fk st.typeIs PySem.F.slot_dict_keyiterator_iter (aR PySem.F.slot_dict_keyiterator_iter st.typeIs PySem.F.entry_dict_keyiterator_iter ?_ (PySem.F.args_dict_keyiterator_iter_1 _));show af _ _ (ret (.ref it)) _ _ s;exact Ss ⟨_,rfl, "dict_keyiterator",_,st.typeIs,PySem.F.slot_dict_keyiterator_next.lookup,h⟩
section
variable {X:Cx}{tg:aL}
def Inv.freeze       (I:Inv X pins Z H s) (hH:H d=some (.dK kvs)) (ho:s.heap.get? d=some o):Inv X pins Z (upd H d (.frz o (.dK kvs))) s:=by
 have ne:∀{b:ae} {u:HO},H b=some u->(HO.dK kvs≠u)->b≠d:=λ{b u} e n=>Xaa e hH (λz=>n z.symm);refine⟨I.ok,I.os,I.bare,⟨I.base.keep,I.base.slot,λb ob e n hx=>?_,I.base.there,λb xs e=>?_,λb ob u e=>?_,λb ps e=>?_⟩,I.loc,I.cell,?_,λx c e=>?_,λp jM=>?_,λb ob e=>?_,I.len⟩
 ·have q:=I.base.free b ob e n hx;rw[Ab (λz=>by rw[z,hH] at q;cases q)];exact q
 ·have q:=I.base.tups b xs e;rw[Ab (ne q (by simp))];exact q
 ·have q:=I.base.frzs b ob u e;rw[Ab (ne q (by simp))];exact q
 ·obtain⟨bR,q⟩:=I.base.tbls b ps e;exact⟨bR,by rw[Ab (ne q (by simp))];exact q⟩
 ·rw[Ab (λz=>by have:=I.free;rw[z,hH] at this;cases this)];exact I.free
 ·have q:=I.freeC x c e;rw[Ab (λz=>by rw[z,hH] at q;cases q)];exact q
 ·obtain⟨e,n,r⟩:=I.pin p jM;exact⟨e,by rw[Ab (λz=>by rw[z,hH] at n;cases n)];exact n,r⟩
 ·by_cases hb:b=d
  ·subst hb;rw[Aa] at e;cases e;exact⟨ho,(I.hok b _ hH).stay (λ_ _ _ q=>q) (λc q=>by rw[Ab (ne q (by simp))];exact q) λc xs q=>by rw[Ab (ne q (by simp))];exact q⟩
  ·rw[Ab hb] at e;exact(I.hok b ob e).stay (λ_ _ _ q=>q) (λc q=>by rw[Ab (ne q (by simp))];exact q) λc xs q=>by rw[Ab (ne q (by simp))];exact q
def Xje (tl:TE):TI:=fun Z H R=>tl Z H λx H1=>∃d kvs,x = .ref d/\H1 d=some (.dK kvs)/\∀o,R (Itd d o kvs) (upd H1 d (.frz o (.dK kvs)))
def Xjf  (hl:PE X l tl):PI X tg l (Xje tl):=by
 k_cls;obtain⟨d,kvs,e,hH,q⟩:=q1;subst e;cases r1;kt_k
 subst e;exact I2.fpOk (Nr _) (I2.hok.fresh (Nr _))
end
def PJ (X:Cx) (es:List aL) (t:St->Hp->(Hp->Prop)->Prop):Prop:=
 ∀(out:ao) (pins:List (ae×aM)) (s:ah) (Z:St) (H:Hp) (Q:Hp->Prop),Inv X pins Z H s->t Z H Q->out.length+5000 * es.length<=sizeLine ->
  af (ag X.prog X.w) X.A (joinParts out (cJ es X.env)) (λu s'=>∃z tk H',u = .str z tk/\Inv X pins Z H' s'/\Q H') X.xe s
def Xjg:St->Hp->(Hp->Prop)->Prop:=λ_ H Q=>Q H
def Xjh (t:St->Hp->(Hp->Prop)->Prop):St->Hp->(Hp->Prop)->Prop:=t
section
variable {X:Cx}{es:List aL}{t:St->Hp->(Hp->Prop)->Prop}{e:aL}{te:TE}{pos:cF}
def Ll:PJ X [] Xjg:=λout pins s Z H Q I h hz=>joinParts_nil ⟨out,_,H,rfl,I.tok _,h⟩ (by simpa using hz)
def E8(a b:ao):(a++b).length=a.length+b.length:=iE a b
def Fy   (hz:z.length<=5000) (h:PJ X es t) (he:cJ (.Constant (.str z) k p::es) X.env=eval (.Constant (.str z) k p) X.env::cJ es X.env:=by rfl):PJ X (.Constant (.str z) k p::es) (Xjh t):=by
 intro out pins s Z H Q I hw hl;rw[he];rw[Oe] at hl;refine gI (Calls.Constant_str ⟨by rw[E8];lia,?_⟩);exact h (out++z) pins _ Z H Q (I.tok _) hw (by rw[E8];lia)
def Xji (t:St->Hp->(Hp->Prop)->Prop):TE:=fun Z H Q=>t Z H λH1=>∀z,Q (.str z) H1
def Lm(h:PJ X (a::b::es) t)(hz:5000 * (a::b::es).length<=sizeLine:=by decide)(he:cJ (a::b::es) X.env=eval a X.env::eval b X.env::cJ es X.env:=by rfl):PE X (.JoinedStr (a::b::es) pos) (Xji t):=by
 intro pins s Z H Q I hw;refine JoinedStr_many ?_;rw[<-he];refine thn (h ao.empty pins s Z H _ I hw (by rw[show ao.empty.length=0 from rfl];lia)) λu s' ⟨z,tk,H',e,I',q⟩=>?_;subst e;exact⟨.str z,H',I',⟨tk,rfl⟩,q z⟩
end
end L2
namespace L2
open PySem.Calls Builtin Builtin.ObjectAttr Builtin.Getset_descriptor
structure ExcF (K:NO) (C:ae):Prop where
 ga:NR K (.ref C) "__getattribute__" = some (some (.builtin "BaseException.__getattribute__"))
 gn:NR K (.ref C) "__getattr__" = some none
 cl:NR K (.ref C) "__class__" = some (some (.builtin "object.__class__"))
 sb:NT K (.ref C) (.type "BaseException")=some true
 so:NT K (.ref C) (.type "object")=some true
 ic:(OK K C).isSome=true
section
variable {prog:ar}{w:aA}{A:av}{E:Zb}{K:NO}{C a:ae}{h:ak}{g:Array rR}{d:rS}{t:Nat}{os:vG}
open PySem.W in
def G1{M:nU}(p:D4 a C h):Looks M h (rG (.ref a)) (.ref C):=by
 obtain⟨o,vs,h1,h2,h3⟩:=p;exact h2 ▸ (Looks.ld h1).andThen .now
open PySem.W in
def Xjj{R:gA->ah->Prop}(X:K.In h)(F:ExcF K C)(p:D4 a C h)(hq:R (.ok (.ret (.ref C))) ⟨h,g,d,t,os⟩):
  bc (ag prog w) A (.call (.builtin "getset_descriptor.__get__") ⟨[.builtin "object.__class__",.ref a,.ref C],[]⟩) R ⟨h,g,d,t,os⟩:=by
 have L0:=G1 (M:=ag prog w) p;have L1:Looks (ag prog w) h (jf (.ref C) (.type "object")) true:=looks_subIn X F.so;refine bL KF.slot_gs.plain KF.entry_gs (KF.slot_gs.check _ _ _ _ _ _ _ _ KF.type_class (KF.args_gs _ _ _) ?_);unfold aj.«getset_descriptor.__get__» descrGet;rw[dga_obj];refine Sr (Ss ?_);unfold descrGetter descrCheckInstance descrNameAndClass cK;simp only[KF.owner_class]
 repeat lk
 refine⟨eZ.quiet_builtin _ (by decide +kernel),bg KF.entry_class ?_⟩;unfold aj.«object.__class__» shownTypeOf
 repeat lk
 exact hq
open PySem.W in
def Xjk{tk:vw}{Q:Fin->ah->Prop}(X:K.In h)(F:ExcF K C)(p:D4 a C h)(hq:Q (.done (.ret (.ref C))) ⟨h,g,d,t,os⟩):
  af (ag prog w) A (aj.«object.__getattribute__» ⟨[.ref a,.str "__class__" tk],[]⟩) Q E ⟨h,g,d,t,os⟩:=by
 have L0:=G1 (M:=ag prog w) p;have L1:=looks_findIn (M:=ag prog w) X F.cl;have LV:(⟨h,g,d,t,os⟩:ah).TypeIs (.builtin "object.__class__") "getset_descriptor" := PySem.F.typeOf_object_class;have f5:=PySem.F.typeOf_object_class;have f6:=PySem.F.slot_gs_get.lookup;have f7:=PySem.F.slot_gs_set.lookup
 repeat (any_goals (first | assumption | (refine Sr (L0.at ?_)) | (refine Sr (L1.at ?_)) | wp_step))
 refine Xjj X F p ?_
 repeat (any_goals (first | assumption | wp_step))
open PySem.W in
def Xb5{M:nU}{nV:aa}{Q:Unit->ah->Prop}(X:K.In h)(F:ExcF K C)(p:D4 a C h)(hq:Q () ⟨h,g,d,t,os⟩):af M A (fC "BaseException.__getattribute__" ⟨[.ref a,nV],[]⟩) Q E ⟨h,g,d,t,os⟩:=by
 have hk:builtinKind "BaseException.__getattribute__" = some .slot:=by decide +kernel
 have oQ:splitId "BaseException.__getattribute__" = some ("BaseException", "__getattribute__"):=by decide +kernel
 have L0:=G1 (M:=M) p;have L1:Looks M h (jf (.ref C) (.type "BaseException")) true:=looks_subIn X F.sb;have LI:Looks M h (cK (.ref a) (.type "BaseException")) true:=L0.andThen L1;have ha:=PySem.F.args_bexc_ga (.ref a) nV;simp only[fC,hk,oQ];refine Sr (LI.at ?_)
 repeat (first | assumption | wp_step)
open PySem.W in
def Xjl{tk:vw}{R:gA->ah->Prop}(X:K.In h)(F:ExcF K C)(p:D4 a C h)(hq:R (.ok (.ret (.ref C))) ⟨h,g,d,t,os⟩):
  bc (ag prog w) A (.call (.builtin "BaseException.__getattribute__") ⟨[.ref a,.str "__class__" tk],[]⟩) R ⟨h,g,d,t,os⟩:=
 bL (by decide +kernel) PySem.F.entry_bexc_ga (Xb5 X F p (Xjk X F p hq))
open PySem.W in
def Xjm{tk:vw}{Q:Zb}(X:K.In h)(F:ExcF K C)(p:D4 a C h)(hq:Q (.ref C) ⟨h,g,d,t,os⟩):
  af (ag prog w) A (oR (.ref a) (.str "__class__" tk) false) Q E ⟨h,g,d,t,os⟩:=by
 have L0:=G1 (M:=ag prog w) p;x_go
 have lC:(jg (aa.ref C)&&aa.builtin "BaseException.__getattribute__" == aa.builtin "object.__getattribute__")=false:=by rw[jN];rfl
 repeat (any_goals (first | assumption | (refine Sr (L0.at ?_)) | (refine Sr (L1.at ?_)) | (refine Sr (L2.at ?_)) | wp_step))
 refine Xjl X F p ?_
 repeat (any_goals (first | assumption | wp_step))
open PySem.W in
def Xjn{Q:Option aa->ah->Prop}(X:K.In h)(F:ExcF K C)(p:D4 a C h)(hq:Q (some (.ref C)) ⟨h,g,d,t+1,os⟩):af (ag prog w) A (kM (.ref a) "__class__") Q E ⟨h,g,d,t,os⟩:=by
 unfold kM CO
 repeat (any_goals (first | assumption | with_reducible apply Xjm X F p | wp_step))
end
end L2
namespace L2
def Xjo{K:NO}{C a:ae}(F:ExcF K C):PySem.W.KitX K (.ref a) (.ref C) (D4 a C) where
 ty:=λM h X p=>G1 p
 it:=λM h X p=>by
  have z:=F.ic;unfold OK at z;split at z
  ·rename_i c' d' CP e9 ho;intro A' Q' E' s' k q;unfold isType loadHead;exact Sr (rT (k _ _ (X _ _ ho)) (Ss q))
  ·cases z
 ne:=λh tp dd aB n sl X lD=>by
  refine Ql.mpr λq=>?_;have e:C=tp:=aa.ref.inj (beq_iff_eq.mp q);subst e;have z:=F.ic;unfold OK at z;split at z
  ·rename_i c' d' CP e9 ho;have z:=(X _ _ ho).symm.trans lD;cases z
  ·cases z
 ca:=λ{prog w A E Q s} X p k=>by
  obtain⟨h,g,d,t,os⟩:=s;exact Xjn X F p k
def Ir:V->Option aa
 | .ty n=>some (.type n)
 | .ref a=>some (.ref a)
 | _=>none
def Xb6  (r:Ae c u) (h:Ir c=some v):u=v:=by
 cases c with
 | ty n=>cases r;exact N5 h
 | ref a=>cases r;exact N5 h
 | _=>cases h
section
variable {X:Cx}
def call_isinst:Bh X (.builtin "isinstance") (λxs H Q=>∃x c t cv b,xs=[x,c]/\TyOf X.K H x t/\Ir c=some cv/\NS X.K t cv=some b/\Q (.bl b) H):=by
 k_asm;obtain⟨x,c,t,cv,b,rfl,ty,hc,e,q⟩:=h;obtain⟨u,v,rfl,ru,rv⟩:=r.two;have:=Xb6 rv hc;subst this;exact Xhs I ru ty e λtk=>⟨.bl b,H,I.tok _,rfl,q⟩
end
def wN (n:Nat) (Pv:Nat->St->Hp->Prop):Nat->Nat->St->Hp->Prop:=λi m Z H=>m=n - i/\i<=n/\Pv i Z H
def wput       (hi:i<n) (hD:H D=some (.lst ys)) (hl:ys.length<sizeLine) (p:Pv (i+1) Z (upd H D (.lst (ys++[y])))):
  ∃ys,H D=some (.lst ys)/\ys.length<sizeLine/\∃m',m'<n - i/\wN n Pv (i+1) m' Z (upd H D (.lst (ys++[y]))):=⟨ys,hD,hl,n - (i+1),by lia,rfl,hi,p⟩
def wskip    (hi:i<n) (p:Pv (i+1) Z H):∃m',m'<n - i/\wN n Pv (i+1) m' Z H:=⟨n - (i+1),by lia,rfl,hi,p⟩
def Iu        (n:Nat) (vs:Nat->V) (Pv:ae->Nat->St->Hp->Prop)
  (h0:∀D,H1 D=none->Pv D 0 (Bw cap Z) (upd H1 D (.lst [])))
  (iF:∀D i Z2 H2,H1 D=none->i<n->Pv D i Z2 H2->J.go i H2/\∀x H3,J.yld i H2 x H3->H3=H2/\x=vs i)
  (bH:∀D Z2 H2,H1 D=none->Pv D n Z2 H2->J.stop n H2)
  (step:∀D i Z1 H2,H1 D=none->i<n->Pv D i Z1 H2->g (vs i) Z1 H2 fun Z2 H4=>tt Z2 H4 λb H5=>
   if b=true then te Z2 H5 λy H6=>∃ys,H6 D=some (.lst ys)/\ys.length<sizeLine/\∃m',m'<n - i/\wN n (Pv D) (i+1) m' Z2 (upd H6 D (.lst (ys++[y])))
   else ∃m',m'<n - i/\wN n (Pv D) (i+1) m' Z2 H5)
  (hd:∀D Z2 H2,H1 D=none->Pv D n Z2 H2->F D H2):E7 cap g tt te J Z H1 F:=by
 intro D hD;refine⟨wN n (Pv D),⟨n,by simp,Ou _,h0 D hD⟩,?_⟩;rintro i m Z1 H2 ⟨rfl,hi,p⟩;by_cases b7:i<n
 ·obtain⟨h1,h2⟩:=iF D i Z1 H2 hD b7 p;refine .inr ⟨h1,λx H3 y=>?_⟩;obtain⟨e1,e2⟩:=h2 x H3 y;subst e1 e2;exact step D i Z1 _ hD b7 p
 ·have e:i=n:=by lia
  subst e;exact .inl ⟨bH D Z1 H2 hD p,hd D Z1 H2 hD p⟩
def E9{K}    (h:SqL K H a xs)(hi:i<xs.length):(Itl K a).go i H/\∀x H3,(Itl K a).yld i H x H3->H3=H/\x=xs.getD i .non:=
 ⟨⟨xs,xs[i],h,by simp[hi]⟩,λx H3 ⟨e,y⟩=>⟨e,by have:=y xs h;simp[List.getD,this]⟩⟩
def Fa{K}   (h:SqL K H a xs):(Itl K a).stop xs.length H:=⟨xs,h,Nr _⟩
def Iv{K}    (h:SqT K H a xs)(hi:i<xs.length):(Itt K a).go i H/\∀x H3,(Itt K a).yld i H x H3->H3=H/\x=xs.getD i .non:=
 ⟨⟨xs,xs[i],h,by simp[hi]⟩,λx H3 ⟨e,y⟩=>⟨e,by have:=y xs h;simp[List.getD,this]⟩⟩
def Iw{K}   (h:SqT K H a xs):(Itt K a).stop xs.length H:=⟨xs,h,Nr _⟩
def G2   {kvs}  (h:H d=some (.frz o (.dK kvs))) (hi:i<kvs.length):(Itd d o kvs).go i H/\∀x H3,(Itd d o kvs).yld i H x H3->H3=H/\x=(kvs.map λp=>kV p.1).getD i .non:=
 ⟨⟨h,hi⟩,λx H3 ⟨e,p,hp,y⟩=>⟨e,by rw[y];simp[List.getD,hp]⟩⟩
def G3   {kvs} (h:H d=some (.frz o (.dK kvs))):(Itd d o kvs).stop kvs.length H:=⟨h,Nr _⟩
end L2
namespace L2
open PySem.Calls
def Xjp(t:ai)(n):(t.orStandIn n).led=t.led:=by
 unfold ai.orStandIn;split
 ·rfl
 ·rfl
def Xjq(t)(es)(k)(x):(CQ t es k x).2.1.led=t.led:=by
 unfold CQ;split
 ·exact Xjp _ _
 ·rfl
def Xjr  {led plain}   (h:ai.laid mask finger moves led plain hs=some (t,o)):t.led=led/\t.plain=plain:=by
 unfold ai.laid at h;cases q:ai.layClean mask hs with
 | none=>rw[q] at h;cases h
 | some ow=>
  rw[q] at h;cases h;exact⟨rfl,rfl⟩
def Xjs(t)(es)(n)(hp:t.plain=false):(dS t es n).2.1.led=t.led/\(dS t es n).2.1.plain=false:=by
 unfold dS;split
 ·rename_i t' o e;obtain⟨e1,e2⟩:=Xjr e;k_in;split
  ·exact⟨e1,e2.trans hp⟩
  ·exact⟨rfl,rfl⟩
 ·exact⟨rfl,rfl⟩
def A3 (w:aA):Bool:=w.params.followText "set-order"
def SSet (P:ar) (w:aA) (h:ak) (a:ae) (ks:Za):Prop:=
 ∃o es ep t ls,h.get? a=some o/\o.ExactSet/\o.data = .set es ep t/\fo (PySem.strKind P w) es.toList/\aG (es.toList.map (·.2)) ls/\ls.Perm ks/\es.size<aW/\t.fits es.size=true/\t.led = !A3 w/\(t.plain=true->es.size=0)
def Ix{l1 l2:List (Int×aa)}(p:l1.Perm l2)(h:aG (l2.map (·.2)) ls):∃qB,aG (l1.map (·.2)) qB/\qB.Perm ls:=by
 refine⟨(l1.map (·.2)).map nW,zc _ (λv hv=>?_),?_⟩
 ·exact h.all v ((p.map (·.2)).mem_iff.mp hv)
 ·rw[<-h.strs];exact(p.map (·.2)).map nW
def Xjt    (h:aG vs ls):aG (vs++[.str x t]) (ls++[x]):=by
 induction h with
 | nil=>exact .cons x t .nil
 | cons y u _ ih=>exact .cons y u ih
section
variable {P:ar}{w:aA}{A:av}{E:Zb}{s:ah}{a:ae}{ks:Za}
def SSet.stay(S:SSet P w h a ks)(k:∀o,h.get? a=some o->h'.get? a=some o):SSet P w h' a ks:=by
 obtain⟨o,es,ep,t,ls,ho,r⟩:=S;exact⟨o,es,ep,t,ls,k o ho,r⟩
def Xb7{vs:List (Int×aa)}  (h:aG (vs.map (·.2)) ls):x∈ls ↔ ∃e∈vs,(PySem.strKind P w).is x e.2=true:=by
 rw[<-h.strs];constructor
 ·intro hx;obtain⟨v,hv,rfl⟩:=Oj.mp hx;obtain⟨e,he,rfl⟩:=Oj.mp hv;obtain⟨y,t,q⟩:=h.all e.2 hv;refine⟨e,he,?_⟩;rw[q];exact gJ P w y t
 ·rintro ⟨e,he,q⟩;obtain⟨t,e2⟩:=aa.isStrOf_shape q;exact Oj.mpr ⟨e.2,Oj.mpr ⟨e,he,rfl⟩,by rw[e2];rfl⟩
def Xb8     {h:ak} (ho:h.get? a=some o) (hex:o.ExactSet) (hd:o.data = .set es ep t)   (eS:fo (PySem.strKind P w) cN.toList) (hs:aG (cN.toList.map (·.2)) ls) (hp:ls.Perm ks) (hb:cN.size<aW) (hf:t'.fits cN.size=true) (hl:t'.led = !A3 w) (bN:t'.plain=false):
  (h.update a (aM.putSet cN t')).get? a=some {o with data:=.set cN (ep+1) t'}/\SSet P w (h.update a (aM.putSet cN t')) a ks:=by
 have g:=ak.get?_update_self (aM.putSet cN t') ho (by rw[cb cN t' hd];rfl);rw[cb cN t' hd] at g;exact⟨g,_,cN,ep+1,t',ls,g,hex,rfl,eS,hs,hp,hb,hf,hl,λz=>by rw[bN] at z;cases z⟩
def Xb9{g:Bool->fT Unit}(hg:∀(b:Bool) (s1:ah) (Q':Unit->ah->Prop),Q' () s1->af (ag P w) A (g b) Q' E s1)     (ho:s.heap.get? a=some o)(hex:o.ExactSet)(hd:o.data = .set es ep t)
    (eS:fo (PySem.strKind P w) fw.toList) (hs:aG (fw.toList.map (·.2)) ls) (hp:ls.Perm ks) (hb:fw.size<aW) (hf:t2.fits fw.size=true) (hl:t2.led = !A3 w) (bN:t2.plain=false)  (h:∀h',ak.SameBut a s.heap h'->SSet P w h' a ks->R (some true) {s with heap:=h'}):
    af (ag P w) A (do
        gK a fw t2
        if (!wd && t2.tooFull) = true then do g (dS t2 fw (ai.grown fw.size)).2.2
                                              gK a (dS t2 fw (ai.grown fw.size)).1 (dS t2 fw (ai.grown fw.size)).2.1
                                              pure (some true)
        else pure (some true)) R E s:=by
  refine Sr (bx ho hd ?_ (be hb));obtain⟨g1,S1⟩:=Xb8 (P:=P) (w:=w) ho hex hd eS hs hp hb hf hl bN;have sb:=S9 s.heap a (aM.putSet fw t2);split
  . have pp:=relayAll_perm t2 fw (ai.grown fw.size);have ff:=relayAll_fits t2 fw (ai.grown fw.size);obtain⟨vH,rV⟩:=Xjs t2 fw (ai.grown fw.size) bN;generalize dS t2 fw (ai.grown fw.size)=R3 at pp ff vH rV ⊢;obtain⟨u8,t3,gv⟩:=R3;dsimp only at pp ff vH rV ⊢;obtain⟨LW,s3,p3⟩:=Ix pp hs;have z:u8.size=fw.size:=by rw[<-N1,pp.length_eq,N1]
    refine Sr (hg _ _ _ ?_);refine Sr (bx g1 rfl ?_ (be (by rw[z];exact hb)));obtain⟨_,S3⟩:=Xb8 (P:=P) (w:=w) (ks:=ks) g1 hex rfl (eS.perm pp) s3 (p3.trans hp) (by rw[z];exact hb) ff (vH.trans hl) rV;exact Ss (h _ (sb.trans (S9 _ a _)) S3)
  . exact Ss (h _ sb S1)
def sset_add   (S:SSet P w s.heap a ks) (hr:ks.length+1<aW)
  (h:∀b h',ak.SameBut a s.heap h'->SSet P w h' a (if x∈ks then ks else ks++[x])->Q b {s with heap:=h'}):
  af (ag P w) A (dz a (.str x tk) ((PySem.strKind P w).hash x)) Q E s:=by
 obtain⟨o,es,ep,t,ls,ho,hex,hd,eS,hs,hp,hb,hf,hl,bN⟩:=S;have aV:es.size=ks.length:=by
  have:=hs.length;rw[Np,N1] at this;rw[this,hp.length_eq]
 have g9:(PySem.strKind P w).is x (.str x tk)=true:=gJ P w x tk;have dy:x∈ks ↔ ∃e∈es.toList,(PySem.strKind P w).is x e.2=true:=hp.mem_iff.symm.trans (Xb7 hs);unfold dz setAddHashedIn;refine aw (Sr (aE ho hd hf ?_));k_in;rw[LX (knd:=PySem.strKind P w) rfl hb eS];simp only[↓reduceIte];unfold setAddByScan;refine Sr (Sr (aT (Sr (oU g9 ho hd hf eS ?_))));cases oV:List.findIdx? (λe=>(PySem.strKind P w).is x e.2) es.toList with
 | some j=>
  k_in;obtain⟨hj,rW,_⟩:=Rc.mp oV;have hx:x∈ks:=dy.mpr ⟨es.toList[j],Ov hj,rW⟩;refine Ss (Ss ?_);have:=h false s.heap (ak.SameBut.refl a s.heap) (by rw[Sy hx];exact⟨o,es,ep,t,ls,ho,hex,hd,eS,hs,hp,hb,hf,hl,bN⟩);exact this
 | none=>
  k_in;have hx:x∉ks:=λz=>by
   obtain⟨e,he,q⟩:=dy.mp z;have:=List.findIdx?_eq_none_iff.mp oV e he;rw[q] at this;cases this
  have gw:∀(b:Bool) (s1:ah) (Q':Unit->ah->Prop),Q' () s1->af (ag P w) A (match b with | true=>rule "set.scan.the-table-gave-way" | false=>pure ()) Q' E s1:=λb s1 Q' q=>by
   cases b with
   | true=>exact aT q
   | false=>exact Ss q
  have pp:=layNew_perm t es ((PySem.strKind P w).hash x) (.str x tk);have ff:=layNew_fits t es ((PySem.strKind P w).hash x) (.str x tk);have fl:=Xjq t es ((PySem.strKind P w).hash x) (.str x tk);generalize CQ t es ((PySem.strKind P w).hash x) (.str x tk)=R at pp ff fl ⊢;obtain⟨fw,t1,wd,gv⟩:=R;dsimp only at pp ff fl ⊢;rw[Array.toList_push] at pp;have zd:=(eS.push g9 rfl).perm pp;have c7:aG ((es.toList++[((PySem.strKind P w).hash x,aa.str x tk)]).map (·.2)) (ls++[x]):=by
   rw[N2];exact Xjt hs
  obtain⟨CS,jt,p1⟩:=Ix pp c7;have z1:fw.size=ks.length+1:=by
   rw[<-N1,pp.length_eq,Nx,N1,aV];rfl
  have p2:CS.Perm (ks++[x]):=p1.trans (hp.append_right _);rw[Sx hx] at h;refine Sr (gw _ _ _ ?_);split
  ·refine Sr ?_;rw[hashByValue_scannable 8 (x:=aa.str x tk) rfl];refine Ss ?_;refine Xb9 (ks:=ks++[x]) gw ho hex hd zd jt p2 (by rw[z1];exact hr) (ai.fits_plain_off ff) (fl.trans hl) rfl (λh' sb S'=>?_);k_in;exact Ss (h true h' sb S')
  ·rename_i np;refine Sr (Ss ?_);simp only[↓reduceIte];refine Xb9 (ks:=ks++[x]) gw ho hex hd zd jt p2 (by rw[z1];exact hr) ff (fl.trans hl) (by cases q:t1.plain with | false=>rfl | true=>exact absurd q np) (λh' sb S'=>?_);k_in;exact Ss (h true h' sb S')
end
def dd1 (acc:Za) (x:ao):Za:=if x∈acc then acc else acc++[x]
def ddup (ss:Za):Za:=ss.foldl dd1 []
def Xca(ss)(x):ddup (ss++[x])=dd1 (ddup ss) x:=by
 unfold ddup;rw[List.foldl_append];rfl
def Ln{p:Za->Za->Prop}(h0:p [] [])(h1:∀ss x,p ss (ddup ss)->p (ss++[x]) (dd1 (ddup ss) x))(ss):p ss (ddup ss):=by
 have go:∀n ss,ss.length=n->p ss (ddup ss):=by
  intro n
  induction n with
  | zero=>
   intro ss e;rw[Pa.mp e];exact h0
  | succ n ih=>
   intro ss e;have fB:ss≠[]:=λz=>by rw[z] at e;cases e
   have e2:=List.dropLast_concat_getLast fB;rw[<-e2,Xca];exact h1 _ _ (ih _ (by rw[List.length_dropLast,e];rfl))
 exact go _ ss rfl
def Lo(ss):∀x,x∈ddup ss↔x∈ss:=by
 refine Ln (p:=λss d=>∀x,x∈d↔x∈ss) (λx=>Iff.rfl) (λss y ih x=>?_) ss;unfold dd1;split
 ·rename_i hy;rw[ih,N0,Nv];constructor
  ·exact .inl
  ·rintro (z | z)
   ·exact z
   ·rw[z];exact(ih y).mp hy
 ·rw[N0,N0,ih]
def G4(ss):(ddup ss).Nodup:=by
 refine Ln (p:=λ_ d=>d.Nodup) List.nodup_nil (λss y ih=>?_) ss;unfold dd1;split
 ·exact ih
 ·rename_i hy;exact Pp.mpr ⟨ih,by simp,λa ha b hb=>by rw[Nv.mp hb];exact λz=>hy (z ▸ ha)⟩
def Fz(ss):(ddup ss).length<=ss.length:=by
 refine Ln (p:=λss d=>d.length<=ss.length) (Nr _) (λss y ih=>?_) ss;unfold dd1;rw[Nx,Oz];split
 ·lia
 ·rw[Nx,Oz];lia
section
variable {P:ar}{w:aA}{A:av}{E:Zb}{s:ah}
def Xcb     {St} (ss) (W:WalksS P w A.in1 I fp wr G ss.length Pv St) (S) (nS:S∉fp)
  (gM:∀i v,Pv i v->∃t,v = .str (ss.getD i "") t) (hb:ss.length+1<aW):
  ∀k i s,ss.length - i=k->i<=ss.length->St i s->SSet P w s.heap S (ddup (ss.take i))->(∀s',kN (S::wr) G s s'->SSet P w s'.heap S (ddup ss)->R (.ok (.ret .none)) s') ->
   bc (ag P w) A (.builtin "set.update.loop" ⟨[.ref S,.ref I],[]⟩) R s:=by
 have nw:S∉wr:=λz=>nS (W.sub _ z);have up:∀b∈wr,b∈S::wr:=λb z=>Nw _ z;intro k
 induction k with
 | zero=>
  intro i s e hi st hS hR;have:i=ss.length:=by lia
  subst this;rw[O9] at hS;refine bg F.entry_set_update_loop ?_;rw[av.under_plainId F.plain_set_update_loop _];show af _ A.in1 (dm (.ref I) >>= λ_=>_) _ _ s;refine Sr (W.done s _ _ st λs' mv=>?_);show af _ A.in1 (ret aa.none) _ _ s';exact Ss (hR s' (mv.mono up) (hS.stay λo z=>mv.heap S o nw z))
 | succ k ih=>
  intro i s e hi st hS hR;have lt:i<ss.length:=by lia
  refine bg F.entry_set_update_loop ?_;rw[av.under_plainId F.plain_set_update_loop _];show af _ A.in1 (dm (.ref I) >>= λ_=>_) _ _ s;refine Sr (W.item i s _ _ lt st λv s' hP aD mv=>?_);obtain⟨t,rfl⟩:=gM i v hP;have vI:=hS.stay λo z=>mv.heap S o nw z;show af _ A.in1 (holding [aa.str (ss.getD i "") t] (setAdd S (.str (ss.getD i "") t)) >>= λ_=>_) _ _ s';refine Sr (aw ?_);unfold setAdd;refine aw (Sr ((PySem.strKind P w).pyHash (k:=ss.getD i "") (gJ P w _ t) ?_));have lE:(ddup (ss.take i)).length<=i:=Oq (Fz _) (by rw[N8];lia);refine sset_add (s:={s' with toks:=s'.toks+1}) vI (by lia) λb h' sb S2=>?_;have e3:ddup (ss.take (i+1))=dd1 (ddup (ss.take i)) (ss.getD i ""):=by
   rw[Od lt,Xca];congr 1;simp[List.getD,lt]
  have S3:SSet P w h' S (ddup (ss.take (i+1))):=by rw[e3];exact S2
  refine Ss ⟨bS F.plain_set_update_loop _,ih (i+1) _ (by lia) lt (W.frame _ s' _ _ aD (Ps _) λb hb o q=>?_) S3 λmj vJ S4=>?_⟩
  ·rw[sb.2 b (λz=>nS (z ▸ hb))];exact q
  ·refine hR mj (kN.trans W.gtrans ((mv.mono up).then_heap (Ps _) λb o hb q=>?_) vJ) S4;rw[sb.2 b (λz=>hb (z ▸ Ny))];exact q
inductive Src (h:ak) (l:ae) (ax:Array aa):Prop
 | lst:h.IsList l ax->Src h l ax
 | tup:h.IsTuple l ax->Src h l ax
def Xju(a){Q}(h:Q (.ref s.heap.objs.size) {s with heap:=s.heap.push {cls:=.type "set",dict:=none,data:=.set #[] 0 (.fresh 0 0 (!A3 w))} }):
    bc (ag P w) A (.call (.builtin "set.__new__") ⟨[.type "set",a],[]⟩) (wants Q E) s:=by
  refine dD ?_
  show af _ A.in1 (do    fC "set.__new__" ⟨[.type "set",a],[]⟩
                         again (.builtin "set.__new__" ⟨[.type "set",a],[]⟩)) _ _ s
  refine Sr (fQ (PySem.F.newCall_set_1 a) (Ss ⟨bS PySem.F.plain_set_new _,bg PySem.F.entry_set_new ?_⟩));rw[av.under_plainId PySem.F.plain_set_new _];unfold aj.«set.__new__» aj.Frozenset.newClass;have q:=ju;obtain⟨hp,g,d,tk,os⟩:=s;k_in
  wp_walk
  refine aS (Ss ?_);k_in;simp only[newObj];exact Sr (kF (Ss (Ss h)))
end
end L2
set_option maxHeartbeats 3200000
namespace L2
open PySem.Calls
section
variable {P:ar}{w:aA}{A:av}{E:Zb}{s:ah}
abbrev En (w:aA):aM:={cls:=.type "set",dict:=none,data:=.set #[] 0 (.fresh 0 0 (!A3 w))}
def Xjv  (g:h.get? a=some (En w)):SSet P w h a []:=
 ⟨_, #[],0,_,[],g,⟨rfl,rfl,rfl⟩,rfl,λe he=>by simp at he,.nil,.nil,by decide,rfl,rfl,λ_=>rfl⟩
def Xjw    (hh:A.handled=none) (oW:Src s.heap l ax) (hs:aG ax.toList ss) (hb:ss.length+1<aW) (hS:SSet P w s.heap S []) (ze:l≠S)
  (CT:∀(Q:Bool->ah->Prop),Q false s->af (ag P w) A (aj.Frozenset.isAnySet (.ref l)) Q E s)
  (h:∀(h':ak) (tk:Nat),SSet P w h' S (ddup ss)->(∀b o,b≠S->s.heap.get? b=some o->h'.get? b=some o)->R () {s with heap:=h',toks:=tk}):
  af (ag P w) A (aj.Frozenset.updateFrom "set.__init__" S (.ref l)) R E s:=by
 have aV:ax.size=ss.length:=by
  have:=hs.length
  rwa [N1] at this
 have gM:∀(i:Nat) (v:aa),ax[i]? = some v->∃t,v = .str (ss.getD i "") t:=λi v q=>by
  have q':ax.toList[i]? = some v:=by rw[Qz];exact q
  obtain⟨x,t,rfl⟩:=hs.all v (Pr q');refine⟨t,?_⟩;congr 1;rw[<-hs.strs];simp[List.getD,Oa,q,nW]
 obtain⟨oS,_,_,_,_,gS,_⟩:=id hS;have ltS:=S7 gS;unfold aj.Frozenset.updateFrom;refine Sr (CT _ ?_);simp only[Os,if_false];cases oW with
 | lst hl=>
  have rX:l<s.heap.objs.size:=by obtain⟨o,g,_⟩:=hl;exact S7 g
  refine Sr (aX (T := "list") hl.typeIs ?_);have ne:(aa.type "list" == aa.type "dict")=false:=by decide
  simp only[ne,Os,if_false];refine Sr (cg hl ?_);refine Sr (gN ?_);have nI:S∉[s.heap.objs.size,l]:=by simp only[N4,Q8,or_false,not_or];exact⟨Nz ltS,ze.symm⟩
  have W:=(ki.list (prog:=P) (w:=w) (A:=A.in1) (by simp[hh]) s.heap.objs.size l (Nz rX) ax).toS;f_len
  ·exact nb z
  ·exact absurd (S7 q) (by rw[Nv.mp z];exact Ox _)
 | tup hl=>
  have rX:l<s.heap.objs.size:=by obtain⟨o,g,_⟩:=hl;exact S7 g
  refine Sr (aX (T := "tuple") hl.typeIs ?_);have ne:(aa.type "tuple" == aa.type "dict")=false:=by decide
  simp only[ne,Os,if_false];refine Sr (mi hl ?_);refine Sr (gN ?_);have nI:S∉[s.heap.objs.size,l]:=by simp only[N4,Q8,or_false,not_or];exact⟨Nz ltS,ze.symm⟩
  have W:=(ki.tuple (prog:=P) (w:=w) (A:=A.in1) (by simp[hh]) s.heap.objs.size l (Nz rX) ax).toS;f_len
  ·exact nb z
  ·exact absurd (S7 q) (by rw[Nv.mp z];exact Ox _)
def Src.push   (x:Src h l ax) (o):Src (h.push o) l ax:=by
 cases x with
 | lst y=>exact .lst (y.push o)
 | tup y=>exact .tup (y.push o)
def Src.any   (x:Src s.heap l ax) (q:Q false s):af (ag P w) A (aj.Frozenset.isAnySet (.ref l)) Q E s:=by
 cases x with
 | lst y=>
  obtain⟨o,g,c,n,d⟩:=y;obtain⟨oc,od,CU,os⟩:=o;simp only at c d;subst c d;have h1:=PySem.F.sub_list_set;have h2:=PySem.F.sub_list_frozenset;unfold aj.Frozenset.isAnySet
  wp_walk
  exact q
 | tup y=>
  obtain⟨o,g,c,n,d⟩:=y;obtain⟨oc,od,CU,os⟩:=o;simp only at c d;subst c d;have h1:jf (.type "tuple") (.type "set")=pure false:=by rw[cL];kernel_rfl
  have h2:jf (.type "tuple") (.type "frozenset")=pure false:=by rw[cL];kernel_rfl
  unfold aj.Frozenset.isAnySet
  wp_walk
  exact q
def Src.lt   (x:Src h l ax):l<h.objs.size:=by
 cases x with
 | lst y=>obtain⟨o,g,_⟩:=y;exact S7 g
 | tup y=>obtain⟨o,g,_⟩:=y;exact S7 g
def Xjx    (hh:A.handled=none) (oW:Src s.heap l ax) (hs:aG ax.toList ss) (hb:ss.length+1<aW)
  (h:∀(h':ak) (tk:Nat),SSet P w h' s.heap.objs.size (ddup ss)->(∀b o,s.heap.get? b=some o->h'.get? b=some o)->Q (.ref s.heap.objs.size) {s with heap:=h',toks:=tk}):
  af (ag P w) A (call (.type "set") [.ref l]) Q E s:=by
 obtain⟨c,tl,CV⟩:=PySem.F.called_set.mro;have zf:=PySem.F.called_set.made;have CW:=PySem.F.called_set.sub;refine dq (dD ?_);show af _ _ (callAny (.type "set") _) _ _ s;refine Ss ⟨eZ.quiet_builtin _ (by decide +kernel),bg PySem.F.entry_type_call ?_⟩;rw[av.under_plain (weight_type_call_type "set" [.ref l] []) rfl];have f1:=PySem.F.called_set.notType;have f2:=PySem.F.called_set.canCreate;have f3:=PySem.F.typeCall_set_1 (.ref l)
 repeat (any_goals (first | assumption | wp_step))
 refine bw (Xju (.ref l) (E:=E) (Q:=λobj s1=>obj = .ref s.heap.objs.size/\s1 = {s with heap:=s.heap.push (En w)}) ⟨rfl,rfl⟩) λr s1 hr=>?_;cases r with
 | error e=>exact hr
 | ok fl=>
  cases fl with
  | ret obj=>
   obtain⟨rfl,rfl⟩:=hr;have gS:(s.heap.push (En w)).get? s.heap.objs.size=some (En w):=ak.get?_push_size _ rfl;have hT:ah.TypeIs {s with heap:=s.heap.push (En w)} (.ref s.heap.objs.size) "set" := ⟨_,gS,rfl⟩;have f4:=PySem.F.called_set.init.lookup;have f5:=PySem.F.called_set.init.bind (.ref s.heap.objs.size)
   repeat (any_goals (first | assumption | wp_step))
   refine bw (bL (R:=wants (λr s2=>r = .none/\∃h' tk,s2 = {s with heap:=h',toks:=tk}/\SSet P w h' s.heap.objs.size (ddup ss)/\∀b o,s.heap.get? b=some o->h'.get? b=some o) E)
    PySem.F.called_set.init.plain PySem.F.entry_set_init (check_set_init_1 hT ?_)) λr2 s2 fD=>?_
   ·have rY:=oW.push (En w);have lt:=oW.lt;unfold aj.«set.__init__» noKeywords;generalize hU:aj.Frozenset.updateFrom=U
    wp_walk
    subst hU;refine Xjw (s:={s with heap:=s.heap.push (En w)}) (by simp[hh]) rY hs hb (Xjv gS) (Nz lt) (λQ q=>Src.any (s:={s with heap:=s.heap.push (En w)}) rY q) λh' tk S' kk=>?_;exact Ss ⟨rfl,h',tk,rfl,S',λb o q=>kk b o (Nz (S7 q)) (S8 _ q)⟩
   ·cases r2 with
    | error e=>exact fD
    | ok rV=>
     cases rV with
     | ret r=>
      obtain⟨rfl,h',tk,rfl,S',kk⟩:=fD
      repeat (any_goals (first | assumption | wp_step))
      exact h _ _ S' kk
     | _=>exact fD.elim
  | _=>exact hr.elim
end
namespace SF
def sIter:CG "set" "__iter__" "set.__iter__" := PySem.F.slot_set_iter
def eIter:gO table "set.__iter__" = some aj.«frozenset.__iter__»:=gP (id' := "frozenset.__iter__") (by kernel_rfl) rfl (by decide +kernel) (by kernel_rfl)
def sNext:CG "set_iterator" "__next__" "set_iterator.__next__" := .of (owner := "set_iterator") (n := "__next__") (by rw[fW,dH];kernel_rfl) (by decide +kernel) (by decide +kernel) (by decide +kernel) (by first | exact .inl (by decide +kernel) | exact .inr (by decide +kernel)) (by rw[cL];kernel_rfl)
def eNext:gO table "set_iterator.__next__" = some aj.«set_iterator.__next__»:=oX (by kernel_rfl)
def aNext(a):rZ "set_iterator.__next__" ⟨[a],[]⟩:=by unfold rZ;kernel_rfl
end SF
theorem Lp{α : Type}:∀(xs:List α) (i:Nat) (hi:i<xs.length),(xs[i]::xs.eraseIdx i).Perm xs
 | x::xs,0,_=>Px _
 | x::xs,i+1,hi=>by
  have ih:=Lp xs i (by simpa using hi);rw[List.eraseIdx_cons_succ,List.getElem_cons_succ];exact(List.Perm.swap x _ _).trans (ih.cons x)
def Xjy{α : Type}(next):∀(n k:Nat) (left:List α) (out:Array α),left.length=n->(ce.go next n k left out).toList.Perm (out.toList++left):=by
 intro n
 induction n with
 | zero=>
  intro k left out e;rw[Pa.mp e,Oy];exact Px _
 | succ n ih=>
  intro k left out e;have b7:next k % left.length<left.length:=Sk _ (by lia);unfold ce.go;rw[Nq b7];k_in;refine(ih _ _ _ (by rw[Qc b7,e];rfl)).trans ?_;rw[Array.toList_push,Oi];exact(Lp left _ b7).append_left _
def Xcc{α : Type}(next)(xs:Array α):(ce next xs).toList.Perm xs.toList:=by
 have:=Xjy next xs.size 0 xs.toList #[] (by simp);simpa [ce] using this
section
variable {P:ar}{w:aA}{A:av}{E:Zb}{s:ah}
def Xjz   (hn:n≠0) (h:∀i d,i<n->Q i {s with drawn:=d}):af (ag P w) A (choose oW n) Q E s:=by
 intro Γ p hΓ;exact⟨hn,h _ _ (Sk _ (Nat.pos_of_ne_zero hn))⟩
def Xcd{α : Type}:∀(n:Nat) (xs:List α) (s:ah) (Q:List α->ah->Prop),xs.length=n->(∀os d,os.Perm xs->Q os {s with drawn:=d})->af (ag P w) A (jh n xs) Q E s:=by
 intro n
 induction n with
 | zero=>
  intro xs s Q e h;rw[Pa.mp e] at h ⊢;unfold jh;exact Ss (h [] s.drawn (Px _))
 | succ n ih=>
  intro xs s Q e h;cases xs with
  | nil=>cases e
  | cons y ys=>
   unfold jh;refine Sr (Xjz (by simp) λi d hi=>?_);rw[Nq hi];k_in;refine Sr (ih _ _ _ (by rw[Qc hi,e];rfl) λos d' hp=>?_);exact Ss (h _ d' ((hp.cons _).trans (Lp _ i hi)))
def SAt (h:ak) (a:ae) (es:Array (Int×aa)) (ep:Nat) (t:ai):Prop:=∃o,h.get? a=some o/\o.ExactSet/\o.data = .set es ep t/\t.fits es.size=true
def Xj0     (hs:SAt s.heap a es ep t) (h:Q (!A3 w&&(!t.plain&&decide (es.size > 1))) s):af (ag P w) A (setDrawn a) Q E s:=by
 obtain⟨o,ho,hex,hd,hf⟩:=hs;unfold setDrawn cx;refine Sr (aE ho hd hf ?_);k_in;refine Sr (Sr (aS (Ss ?_)));exact Ss h
abbrev itO (f0:aa) (i:Nat) (a:ae) (n ep:Nat):aM:={cls:=.type "set_iterator",data:=.fields #[f0,.int i 0,.ref a,.int n 0,.int ep 0]}
inductive Ord (w:aA) (h:ak) (a:ae) (es:Array (Int×aa)) (ep:Nat) (t:ai) (f0:aa) (i:Nat):List aa->Prop
 | txt:A3 w=true->f0 = .int 0 0->Ord w h a es ep t f0 i ((ce (w.params.setOrder a ep) es).toList.map (·.2))
 | drw (p:ae) (os:List Nat):A3 w=false->os.Perm (List.range es.size)->f0 = .ref p->(∃n,h.get? p=some ⟨.type "tuple",none,.seq (os.map λj=>aa.int (j:Nat) 0).toArray n, #[]⟩)->Ord w h a es ep t f0 i (os.map λj=>((es[j]?).map (·.2)).getD .none)
 | one (sl:Nat):A3 w=false->t.led=true->es.size<=1->f0 = .int sl 0->(i=0->sl=0)->(∀j,i=1->t.place[0]? = some j->sl=j+1)->Ord w h a es ep t f0 i (es.toList.map (·.2))
def Xj1     (hs:SAt s.heap a es ep t) (hb:es.size<aW) (hl:t.led = !A3 w) (hp:t.plain=true->es.size=0)
    (h:∀(f0:aa) (vs:List aa) (h1:ak) (d:rS),(∀b o,s.heap.get? b=some o->h1.get? b=some o)->h1.objs.size<=s.heap.objs.size+1->s.heap.objs.size<=h1.objs.size->(∀p,f0 = .ref p->p<h1.objs.size)->Ord w (h1.push (itO f0 0 a es.size ep)) a es ep t f0 0 vs ->
      vs.Perm (es.toList.map (·.2))->Q (.ref h1.objs.size) {s with heap:=h1.push (itO f0 0 a es.size ep),drawn:=d}):
    af (ag P w) A (g7 (.ref a)) Q E s:=by
  obtain⟨o,ho,hex,hd,hf⟩:=id hs;have hT:s.TypeIs (.ref a) "set" := ⟨o,ho,hex.1⟩;refine fk hT SF.sIter (aR SF.sIter hT SF.eIter ?_ (PySem.F.args_set_iter_1 _));unfold aj.«frozenset.__iter__» aj.Frozenset.slot0 se;simp only[List.isEmpty_nil,Rf,Os, ↓reduceIte,bind_assoc,Pw,bne_self_eq_false];unfold aj.Frozenset.addrOf aj.Frozenset.sizeOf;refine Sr (Ss ?_);k_in;refine Sr (Ss ?_);refine Sr (Sr (cC ho hd hf (Ss ?_)));refine Sr (Xj0 hs ?_);have fin:∀(f0:aa) (vs:List aa) (h1:ak) (d:rS),(∀b o,s.heap.get? b=some o->h1.get? b=some o)->h1.objs.size<=s.heap.objs.size+1->s.heap.objs.size<=h1.objs.size->(∀p,f0 = .ref p->p<h1.objs.size)->Ord w (h1.push (itO f0 0 a es.size ep)) a es ep t f0 0 vs->vs.Perm (es.toList.map (·.2)) ->
      af (ag P w) A.in1 (do       let r <-oY "set_iterator" [f0,aO 0,.ref a,aO es.size,aO ep]
                                  ret r) (λfin s'=>∃r,fin = .done (.ret r)/\∃T v,s'.TypeIs r T/\eL (.type T) (ao.ofString "__next__")=pure (some v)/\Q r s') E {s with heap:=h1,drawn:=d}:=λf0 vs h1 d k1 k2 k3 k4 k5 k6=>
    Sr (aC (Ss ⟨_,rfl, "set_iterator",_,⟨_,ak.get?_push_size _ rfl,rfl⟩,SF.sNext.lookup,h f0 vs h1 d k1 k2 k3 k4 k5 k6⟩))
  by_cases hc:(!A3 w&&(!t.plain&&decide (es.size > 1)))=true
  . rw[Sy hc];simp only[N3,Ro,decide_eq_true_eq] at hc;obtain⟨c1,c2,c3⟩:=hc;refine Sr (Xcd _ _ _ _ Pk λos d po=>?_);have vK:os.length=es.size:=by rw[po.length_eq,Pk]
    refine Sr (gQ ?_ (by rw[Np,vK];exact be hb));refine Sr (ci (S8 _ ho) hd hf ?_);refine fin _ _ _ d (λb o q=>S8 _ q) (by rw[bX];exact Nr _) (by rw[bX];exact Ps _) (λp e=>by cases e;rw[bX];exact Nat.lt_succ_self _) (.drw s.heap.objs.size os c1 po rfl ⟨0,S8 _ (ak.get?_push_size _ rfl)⟩) ?_;have e:(os.map λj=>((es[j]?).map (·.2)).getD aa.none).Perm ((List.range es.size).map λj=>((es[j]?).map (·.2)).getD aa.none):=po.map _;refine e.trans ?_;have e2:((List.range es.size).map λj=>((es[j]?).map (·.2)).getD aa.none)=es.toList.map (·.2):=by
      apply List.ext_getElem?;intro i;have q:es.toList[i]? = es[i]?:=Qz;rw[Oa,Oa,q];by_cases hi:i<es.size
      . rw[List.getElem?_range hi,P7,getElem?_pos es i hi];rfl
      . rw[Qy (by simpa using hi),getElem?_neg es i hi];rfl
    rw[e2]
  . rw[Sx hc];refine Sr (Ss ?_);refine Sr (ci ho hd hf ?_);cases hw:A3 w with
    | true=>exact fin _ _ _ s.drawn (λb o q=>q) (Ps _) (Nr _) (λp e=>by cases e) (.txt hw rfl) ((Xcc _ es).map _)
    | false=>
      have h1:es.size<=1:=by
        cases bN:t.plain with
        | true=>rw[hp bN];exact Ou _
        | false=>
          simp only[hw,bN,Bool.not_false,Pi,decide_eq_true_eq] at hc
          lia
      exact fin _ _ _ s.drawn (λb o q=>q) (Ps _) (Nr _) (λp e=>by cases e) (.one 0 hw (by rw[hl,hw];rfl) h1 rfl (λ_=>rfl) (λj e=>by cases e)) (Px _)
end
end L2
namespace L2
open PySem.Calls
section
variable {P:ar}{w:aA}{A:av}{E:Zb}{s:ah}{I a:ae}{es:Array (Int×aa)}{ep:Nat}{t:ai}
def ItS (w:aA) (I a:ae) (es:Array (Int×aa)) (ep:Nat) (t:ai) (vs:List aa) (fp:Option ae) (i:Nat) (h:ak):Prop:=
 ∃f0,h.get? I=some (itO f0 i a es.size ep)/\Ord w h a es ep t f0 i vs/\SAt h a es ep t/\(∀p,f0 = .ref p->fp=some p)
def Xce   (hI:s.heap.get? I=some (itO f0 i a es.size ep)) (hS:SAt s.heap a es ep t)
  (h1:∀sl,f0 = .int sl 0->af (ag P w) A (do
   match <-jv a sl.toNat i ep with
   | some (x,next)=>bT (.ref I) 0 (aO next);bT (.ref I) 1 (aO ((i:Int)+1));ret x
   | none=>bT (.ref I) 2 .none;gR (<-mB (.type "StopIteration") [])) Q E s)
  (h2:∀p,f0 = .ref p->af (ag P w) A (do
   let some oZ <-seqItems? (.ref p) | unsupported "internal:set_iterator"
   match oZ[i]? with
   | some (.int place _)=>let x <-vL a place.toNat ep;bT (.ref I) 1 (aO ((i:Int)+1));ret x
   | some _=>unsupported "internal:set_iterator"
   | none=>bT (.ref I) 0 (aO 0);bT (.ref I) 2 .none;gR (<-mB (.type "StopIteration") [])) Q E s)
  (hf:(∃sl,f0 = .int sl 0) \/ ∃p,f0 = .ref p):af (ag P w) A (aj.«set_iterator.__next__» ⟨[.ref I],[]⟩) Q E s:=by
 obtain⟨o,ho,hex,hd,lG⟩:=id hS;unfold aj.«set_iterator.__next__» se;simp only[List.isEmpty_nil,Rf,Os, ↓reduceIte,bind_assoc,Pw,bne_self_eq_false];refine Sr (Ss ?_);k_in;refine Sr (wpAny_fieldsOf hI rfl ?_);k_in;refine Sr (cC ho hd lG ?_);rw[Sx (by simp)];rcases hf with ⟨sl,rfl⟩ | ⟨p,rfl⟩
 ·exact h1 sl rfl
 ·exact h2 p rfl
def Iy{h:ak}{f0 x:aa}{i j n:Nat}(hI:h.get? I=some (itO f0 i a n ep))(k)(v):
  (h.update I (aM.mapFields (·.setIfInBounds k v))).get? I=some {cls:=.type "set_iterator",data:=.fields ((#[f0,.int i 0,.ref a,.int n 0,.int ep 0]:Array aa).setIfInBounds k v)}:=
 ak.get?_update_self _ hI rfl
def SAt.at{h h'}(x:SAt h a es ep t)(k:∀o,h.get? a=some o->h'.get? a=some o):SAt h' a es ep t:=by
 obtain⟨o,ho,r⟩:=x;exact⟨o,k o ho,r⟩
def Xcf  (hw:A3 w=true) (hS:SAt s.heap a es ep t) (h:Q (((ce (w.params.setOrder a ep) es)[i]?).map λe=>(e.2,sl)) s):af (ag P w) A (jv a sl i ep) Q E s:=by
 obtain⟨o,ho,hex,hd,hf⟩:=id hS;unfold jv cx;refine Sr (aE ho hd hf ?_);k_in;refine Sr (Sr (aS (Ss ?_)));rw[Sy (show (ag P w).w.params.followText "set-order" = true from hw),Sx (by simp)];unfold nX cx;refine Sr (Sr (aE ho hd hf ?_));k_in;refine Sr (Sr (aS (Ss ?_)));rw[Sy (show (ag P w).w.params.followText "set-order" = true from hw)];exact Sr (aS (Ss (Ss h)))
def Xcg  (hw:A3 w=false) (hl:t.led=true) (h1:es.size<=1) (hS:SAt s.heap a es ep t)
  (h:Q (match es[ai.below t.place sl]?,t.place[ai.below t.place sl]? with | some (_,x),some j=>some (x,j+1) | _,_=>none) s):af (ag P w) A (jv a sl i ep) Q E s:=by
 obtain⟨o,ho,hex,hd,hf⟩:=id hS;unfold jv cx;refine Sr (aE ho hd hf ?_);k_in;refine Sr (Sr (aS (Ss ?_)));rw[Sx (show ¬(ag P w).w.params.followText "set-order" = true from by show ¬A3 w=true;rw[hw];decide)];have d1:(!t.plain&&decide (es.size > 1))=false:=by rw[S0 (by lia),Rs]
 refine cB (λz=>?_) (λ_=>?_)
 ·have z':(!t.plain&&decide (es.size > 1))=true:=z;rw[d1] at z';cases z'
 refine Sr ?_;have m1:(!t.led && !es.isEmpty)=false:=by rw[hl];rfl
 refine cB (λz=>?_) (λ_=>Ss (Ss h));have z':(!t.led && !es.isEmpty)=true:=z;rw[m1] at z';cases z'
def Xj2(h:t.place.size<=1):ai.below t.place 0=0:=by
 generalize t.place=pl at *;obtain⟨l⟩:=pl
 match l,h with
 | [],_=>rfl
 | [x],_=>simp[ai.below,ai.below.go]
def Xj3  (h:t.place.size<=1) (hj:t.place[0]? = some j):ai.below t.place (j+1)=1:=by
 generalize t.place=pl at *;obtain⟨l⟩:=pl
 match l,h,hj with
 | [x],_,hj=>
  have:x=j:=by simpa using hj
  subst this;simp[ai.below,ai.below.go]
def Xch(h:t.fits n=true):t.place.size=n:=by
 unfold ai.fits at h;simp only[N3,beq_iff_eq] at h;exact h.1
end
section
variable {P:ar}{w:aA}{A:av}{E:Zb}{s:ah}{I a:ae}{es:Array (Int×aa)}{ep:Nat}{t:ai}{vs:List aa}{fp:Option ae}
def Ord.cases0   (x:Ord w h a es ep t f0 i vs):(∃sl:Int,f0 = .int sl 0) \/ ∃p,f0 = .ref p:=by
 cases x with
 | txt _ e=>exact .inl ⟨0,e⟩
 | drw p os _ _ e _=>exact .inr ⟨p,e⟩
 | one sl _ _ _ e _ _=>exact .inl ⟨sl,e⟩
def Xj4  (st:ItS w I a es ep t vs fp i s.heap) (hi:i<vs.length) (hl:vs.length=es.size) (u9:a≠I) (vM:∀p,fp=some p->p≠I)
  (hQ:∀h',ItS w I a es ep t vs fp (i+1) h'->ak.SameBut I s.heap h'->Q (some vs[i]) {s with heap:=h'}):af (ag P w) A (dm (.ref I)) Q E s:=by
 obtain⟨f0,hI,hO,hS,hp⟩:=st;have hT:s.TypeIs (.ref I) "set_iterator" := ⟨_,hI,rfl⟩;unfold dm;refine Sr (eI (bC (name:=ao.ofString "__next__") hT SF.sNext (aR SF.sNext hT SF.eNext ?_ (SF.aNext _))));have e1:((i:Int)+1)=((i+1:Nat):Int):=by lia
 have fin:∀(E':Zb) (nx:Nat),Ord w ((s.heap.update I (aM.mapFields (·.setIfInBounds 0 (aO nx)))).update I (aM.mapFields (·.setIfInBounds 1 (aO ((i:Int)+1))))) a es ep t (.int nx 0) (i+1) vs ->
   af (ag P w) A.in1 (do
    bT (.ref I) 0 (aO nx)
    bT (.ref I) 1 (aO ((i:Int)+1))
    ret vs[i]) (λfin s'=>∃r,fin = .done (.ret r)/\af (ag P w) A (pure (some r)) Q E s') E' s:=λE' nx O=>by
  refine Sr (aQ hI rfl (by simp) ?_);refine Sr (aQ (Iy (x:=.none) (j:=0) hI 0 (aO nx)) rfl (by simp) ?_);have g:=ak.get?_update_self (aM.mapFields (·.setIfInBounds 1 (aO ((i:Int)+1)))) (Iy (x:=.none) (j:=0) hI 0 (aO nx)) rfl;refine Ss ⟨_,rfl,Ss (hQ _ ⟨_,g.trans ?_,O,hS.at λo q=>?_,λp z=>by cases z⟩ ((S9 ..).trans (S9 ..)))⟩
  ·rw[e1];rfl
  ·rw[((S9 s.heap I _).trans (S9 _ I _)).2 a u9];exact q
 refine Xce hI hS (λsl e=>?_) (λp e=>?_) hO.cases0
 ·subst e;cases hO with
  | txt hw e=>
   cases e;have fR:i<(ce (w.params.setOrder a ep) es).size:=by simpa using hi
   refine Sr (Xcf hw hS ?_);rw[getElem?_pos _ i fR];have ev:((ce (w.params.setOrder a ep) es).toList.map (·.2))[i]=((ce (w.params.setOrder a ep) es)[i]).2:=by simp
   have f:=λE'=>fin E' 0 (.txt hw rfl);rw[ev] at f;exact f _
  | drw p os _ _ e _=>cases e
  | one e9 hw qC h1 e hz ho=>
   cases e;obtain⟨_,_,_,_,lG⟩:=id hS;have jw:=Xch lG;have i0:i=0:=by
    have:i<es.size:=by rw[<-hl];exact hi
    lia
   subst i0;have z0:=hz rfl;subst z0;have he:0<es.size:=by rw[<-hl];exact hi
   have bN:0<t.place.size:=by rw[jw];exact he
   refine Sr (Xcg hw qC h1 hS ?_);have b0:ai.below t.place ((0:Nat):Int).toNat=0:=Xj2 (by rw[jw];exact h1);rw[b0,getElem?_pos es 0 he,getElem?_pos t.place 0 bN];have ev:(es.toList.map (·.2))[0]=(es[0]).2:=by simp
   have f:=λE'=>fin E' (t.place[0]+1) (.one (t.place[0]+1) hw qC h1 rfl (λz=>by cases z) (λj _ q=>by rw[getElem?_pos t.place 0 bN] at q;cases q;rfl));rw[ev] at f;exact f _
 ·subst e;cases hO with
  | txt hw e=>cases e
  | one e9 hw qC h1 e hz ho=>cases e
  | drw p' os hw mq e lD=>
   cases e;obtain⟨n,lD⟩:=lD;have iq:i<os.length:=by simpa using hi
   have fu:os[i]<es.size:=O6.mp (mq.mem_iff.mp (Ov iq));refine Sr (gT lD rfl ?_);have g:((os.map λj=>aa.int (j:Nat) 0).toArray)[i]? = some (.int ((os[i]:Nat):Int) 0):=by simp[iq]
   k_in;rw[g];k_in;obtain⟨o,ho,hex,hd,lG⟩:=id hS;unfold vL;refine Sr (Sr (aE ho hd lG ?_));k_in;rw[Sx (by simp),show ((os[i]:Nat):Int).toNat=os[i] from Q4 _,getElem?_pos es _ fu];refine Ss ?_;refine Sr (aQ hI rfl (by simp) ?_);have ev:(os.map λj=>((es[j]?).map (·.2)).getD aa.none)[i]=(es[os[i]]).2:=by simp[fu]
   have g2:=Iy (x:=.none) (j:=0) hI 1 (aO ((i:Int)+1));have CY:p≠I:=vM p (hp p rfl);have q:=hQ (s.heap.update I (aM.mapFields (·.setIfInBounds 1 (aO ((i:Int)+1))))) ⟨_,g2.trans (by rw[e1];rfl),.drw p os hw mq rfl ⟨n,?_⟩,hS.at λo q=>?_,λp' z=>hp p' z⟩ (S9 ..)
   ·rw[ev] at q;exact Ss ⟨_,rfl,Ss q⟩
   ·rw[(S9 s.heap I _).2 p CY];exact lD
   ·rw[(S9 s.heap I _).2 a u9];exact q
end
section
variable {P:ar}{w:aA}{A:av}{E:Zb}{s:ah}{I a:ae}{es:Array (Int×aa)}{ep:Nat}{t:ai}{vs:List aa}{fp:Option ae}
def Xci{α : Type}{h0:ak}{Q}{E'}(hh:A.handled=none)
  (k:∀e h',(∀b o,s.heap.get? b=some o->h'.get? b=some o)->ah.TypeIs {s with heap:=h'} e "StopIteration" -> E' e {s with heap:=h'}):
  af (ag P w) A (do       gR (<-mB (.type "StopIteration") []):fT α) Q E' s:=by
 refine Sr ?_;simp only[mB,newTuple];refine Sr (aC ?_ (by size_fits));refine Sr (m:=sf _ _) (fQ (a:=aa.none) (by first | rfl | (simp only[sf];rfl)) ?_);refine aC ?_ (by size_fits);simp only[gR];refine Sr (wpAny_handled ?_);rw[hh];refine Sr (Ss (wpAny_throw ?_));exact k _ _ (λb o q=>S8 _ (S8 _ q)) ⟨_,ak.get?_push_size _ rfl,rfl⟩
def Xj5(hh:A.handled=none)(st:ItS w I a es ep t vs fp vs.length s.heap)(hl:vs.length=es.size)
    (hQ:∀h',(∀b o,b≠I->s.heap.get? b=some o->h'.get? b=some o)->Q none {s with heap:=h'}):af (ag P w) A (dm (.ref I)) Q E s:=by
  obtain⟨f0,hI,hO,hS,hp⟩:=st;have hT:s.TypeIs (.ref I) "set_iterator" := ⟨_,hI,rfl⟩;unfold dm;refine Sr (eI (bC (name:=ao.ofString "__next__") hT SF.sNext (aR SF.sNext hT SF.eNext ?_ (SF.aNext _))));have zg:A.in1.handled=none:=hh;have nY:∀(e:aa) (h':ak),(∀b o,b≠I->s.heap.get? b=some o->h'.get? b=some o)->ah.TypeIs {s with heap:=h'} e "StopIteration" ->
      af (ag P w) A (do       if <-cK e (.type "StopIteration") then pure none else throw e) Q E {s with heap:=h'}:=λe h' k ty=>
    Sr (cY (T := "StopIteration") (b:=true) ty isSubtype_stop (Ss (hQ h' k)))
  have nZ:∀(f:aM->aM) b o,b≠I->s.heap.get? b=some o->(s.heap.update I f).get? b=some o:=λf b o nb q=>by
    rw[(S9 s.heap I f).2 b nb];exact q
  have fin:∀(Q':PySem.Fin->ah->Prop),af (ag P w) A.in1 (do
        bT (.ref I) 2 .none
        gR (<-mB (.type "StopIteration") [])) Q' (λe s'=>af (ag P w) A (do                 if <-cK e (.type "StopIteration") then pure none else throw e) Q E s') s:=λQ'=>by
    refine Sr (aQ hI rfl (by simp) ?_);refine Xci (h0:=s.heap) (s:={s with heap:=s.heap.update I (aM.mapFields (·.setIfInBounds 2 aa.none))}) zg λe h' k ty=>?_;exact nY e h' (λb o nb q=>k b o (nZ _ b o nb q)) ty
  refine Xce hI hS (λsl e=>?_) (λp e=>?_) hO.cases0
  . subst e;cases hO with
    | txt hw e=>
      cases e;refine Sr (Xcf hw hS ?_);rw[getElem?_neg _ _ (by simp)];exact fin _
    | drw p os _ _ e _=>cases e
    | one e9 hw qC h1 e hz ho=>
      cases e;obtain⟨_,_,_,_,lG⟩:=id hS;have jw:=Xch lG;refine Sr (Xcg hw qC h1 hS ?_);have hn:es[ai.below t.place ((e9:Nat):Int).toNat]? = none:=by
        rw[Q4];by_cases h0:es.size=0
        . exact getElem?_neg _ _ (by lia)
        . have e1:es.size=1:=by lia
          have bN:0<t.place.size:=by rw[jw,e1];decide
          have:=ho t.place[0] (by rw[hl,e1]) (getElem?_pos t.place 0 bN);rw[this,Xj3 (by rw[jw];exact h1) (getElem?_pos t.place 0 bN)];exact getElem?_neg _ _ (by lia)
      rw[hn];exact fin _
  . subst e;cases hO with
    | txt hw e=>cases e
    | one e9 hw qC h1 e hz ho=>cases e
    | drw p' os hw mq e lD=>
      cases e;obtain⟨n,lD⟩:=lD;refine Sr (gT lD rfl ?_);k_in;rw[getElem?_neg _ _ (by simp)];k_in;refine Sr (aQ hI rfl (by simp) ?_);refine Sr (aQ (Iy (x:=.none) (j:=0) hI 0 (aO 0)) rfl (by simp) ?_);refine Xci (h0:=s.heap) (s:={s with heap:=(s.heap.update I (aM.mapFields (·.setIfInBounds 0 (aO 0)))).update I (aM.mapFields (·.setIfInBounds 2 aa.none))}) zg λe h' k ty=>?_;refine nY e h' (λb o nb q=>k b o ?_) ty;show ((s.heap.update I _).update I _).get? b=some o;rw[(S9 _ I _).2 b nb];exact nZ _ b o nb q
end
namespace SF
def sSelf:CG "set_iterator" "__iter__" "set_iterator.__iter__" := .of (owner := "set_iterator") (n := "__iter__") (by rw[fW,dH];kernel_rfl) (by decide +kernel) (by decide +kernel) (by decide +kernel) (by first | exact .inl (by decide +kernel) | exact .inr (by decide +kernel)) (by rw[cL];kernel_rfl)
def eSelf:gO table "set_iterator.__iter__" = some aj.«dict_keyiterator.__iter__»:=gP (id' := "dict_keyiterator.__iter__") (by kernel_rfl) rfl (by decide +kernel) (by kernel_rfl)
def aSelf(a):rZ "set_iterator.__iter__" ⟨[a],[]⟩:=by unfold rZ;kernel_rfl
end SF
section
variable {P:ar}{w:aA}{A:av}{E:Zb}{s:ah}{I a:ae}{es:Array (Int×aa)}{ep:Nat}{t:ai}{vs:List aa}{fp:Option ae}{ks:Za}
def ItS.at{i}{h h'}(x:ItS w I a es ep t vs fp i h)(k:∀b∈I::a::fp.toList,∀o,h.get? b=some o->h'.get? b=some o):ItS w I a es ep t vs fp i h':=by
 obtain⟨f0,h1,h2,h3,h4⟩:=x;refine⟨f0,k I (by simp) _ h1,?_,h3.at λo q=>k a (by simp) o q,h4⟩;cases h2 with
 | txt e1 e2=>exact .txt e1 e2
 | drw p os e1 e2 e3 e4=>
  obtain⟨n,e4⟩:=e4;exact .drw p os e1 e2 e3 ⟨n,k p (by rw[h4 p e3];simp) _ e4⟩
 | one sl e1 e2 e3 e4 e5 e6=>exact .one sl e1 e2 e3 e4 e5 e6
def Xj6(hh:A.handled=none)(hl:vs.length=es.size)(u9:a≠I)(vM:∀p,fp=some p->p≠I):ki P w A I (I::a::fp.toList) [I] vs.length (λi v=>vs[i]? = some v) (ItS w I a es ep t vs fp) where
 sub:=λb hb=>by simp at hb;simp[hb]
 frame:=λ_ _ _ st hk=>st.at hk
 item:=λi s Q E hi st hQ=>by
  refine Xj4 st hi hl u9 vM λh' aD sb=>?_;exact hQ vs[i] h' s.toks (by simp[hi]) aD λb o hb e=>by rw[sb.2 b (λz=>hb (by simp[z]))];exact e
 done:=λs Q E st hQ=>Xj5 hh st hl λh' k=>hQ h' s.toks λb o hb e=>k b o (λz=>hb (by simp[z])) e
 self:=λi s Q E st hQ=>by
  obtain⟨f0,h1,_⟩:=st;have hT:s.TypeIs (.ref I) "set_iterator" := ⟨_,h1,rfl⟩;refine fk hT SF.sSelf (aR SF.sSelf hT SF.eSelf ?_ (SF.aSelf _));show af _ _ (ret (.ref I)) _ _ s;exact Ss ⟨_,rfl, "set_iterator",_,hT,SF.sNext.lookup,hQ⟩
def Xj7  (hT:s.TypeIs (.ref r) "set") (h:Q false s):af (ag P w) A (aj.List.listLengthHint (.ref r)) Q E s:=by
 unfold aj.List.listLengthHint;refine Sr (qz hT PySem.F.slot_set_len.lookup ?_);generalize hid:("set.__len__" : String)=CZ
 wp_delta
 rw[show splitId CZ=some ("set", "__len__") from by subst hid;decide +kernel];subst hid;refine Sr (cY (T := "set") (b:=true) hT (by rw[cL];kernel_rfl) ?_);refine cB (λz=>absurd z (by decide)) (λ_=>?_);refine cB (λ_=>?_) (λz=>absurd (by decide +kernel) z);exact Sr (aX hT (Ss h))
end
end L2
namespace L2
open PySem.Calls
section
variable {P:ar}{w:aA}{A:av}{E:Zb}{s:ah}{a:ae}{ks:Za}
def Xj8  {S:ae} {res:aa} (hh:A.handled=none) (hs:SSet P w s.heap a ks) (nS:S≠a) (gS:s.heap.get? S=some {cls:=.type "list",data:=.seq #[] c0})
  (hR:∀s' acc c vs ls,(∀b o,b≠S->s.heap.get? b=some o->s'.heap.get? b=some o)->s'.os=s.os->s'.gens=s.gens->s'.heap.get? S=some {cls:=.type "list",dict:=none,data:=.seq acc c,slots := #[]}->acc.toList=vs->aG vs ls->ls.Perm ks->R (.ok (.ret res)) s'):
  af (ag P w) A.in1 (aj.List.listExtendWith (.ref S) (.ref a) res)
   (λfin s'=>match fin with | .done f=>R (.ok f) s' | .again c'=>c'.quiet=true/\bc (ag P w) A c' R s') (λe s'=>R (.error e) s') s:=by
 obtain⟨o,es,ep,t,zh,ho,hex,hd,eS,bH,lH,hb,hf,hl,bN⟩:=id hs;have hT:s.TypeIs (.ref a) "set" := ⟨o,ho,hex.1⟩;have la:=S7 ho;have lS:=S7 gS;unfold aj.List.listExtendWith;refine Sr (aX (T := "set") hT ?_);have n1:aj.List.listSameRef (.ref S) (.ref a)=false:=by simp[aj.List.listSameRef,nS]
 have n2:(aa.type "set" == aa.type "list")=false:=by decide
 have n3:(aa.type "set" == aa.type "tuple")=false:=by decide
 simp only[n1,n2,n3,Sn,Os,if_false];refine Sr (Xj1 ⟨o,ho,hex,hd,hf⟩ hb hl bN λf0 vs h1 d k1 z1 z2 kp O pv=>?_);have mC:vs.length=es.size:=by rw[pv.length_eq,Np,N1]
 have nI:∀b,b<h1.objs.size->b≠h1.objs.size:=λb q=>Nz q;have kI:∀b o,s.heap.get? b=some o->(h1.push (itO f0 0 a es.size ep)).get? b=some o:=λb o q=>S8 _ (k1 b o q);obtain⟨fp,vN⟩:∃fp:Option ae,(∀p,f0 = .ref p->fp=some p)/\∀p,fp=some p->p≠h1.objs.size/\p≠S:=by
  cases f0 with
  | ref p=>
   refine⟨some p,⟨λq e=>(by cases e;rfl),λq e=>?_⟩⟩;cases e;refine⟨Nz (kp p rfl),λz=>?_⟩;subst z;cases O with
   | drw p' os _ _ e ht=>
    cases e;obtain⟨n,ht⟩:=ht;rw[kI _ _ gS] at ht;have hc:=congrArg aM.cls (N5 ht);exact absurd hc (by simp)
   | txt _ e=>cases e
   | one _ _ _ _ e _ _=>cases e
  | _=>exact⟨none,⟨λq e=>(by cases e),λq e=>(by cases e)⟩⟩
 have c7:ItS w h1.objs.size a es ep t vs fp 0 (h1.push (itO f0 0 a es.size ep)):=⟨f0,ak.get?_push_size _ rfl,O,⟨o,kI _ _ ho,hex,hd,hf⟩,vN.1⟩;have W:=Xj6 (P:=P) (w:=w) (A:=A.in1) (I:=h1.objs.size) (a:=a) (es:=es) (ep:=ep) (t:=t) (vs:=vs) (fp:=fp) hh mC (Nz (Oc la z2)) (λp e=>(vN.2 p e).1);have zi:S∉h1.objs.size::a::fp.toList:=by
  simp only[N4,not_or];refine⟨Nz (Oc lS z2),nS,λz=>?_⟩;cases vO:fp with
  | none=>rw[vO] at z;simp at z
  | some p=>
   rw[vO] at z;have:S=p:=by simpa using z
   exact(vN.2 p vO).2 this.symm
 have eg:∀(h:ak) (c1:Nat),ItS w h1.objs.size a es ep t vs fp 0 h->(∀b o,b≠S->s.heap.get? b=some o->h.get? b=some o)->h.get? S=some {cls:=.type "list",data:=.seq #[] c1} ->
   bc (ag P w) A (.builtin "list.extend.loop" ⟨[.ref S,.ref h1.objs.size,res],[]⟩) R {s with heap:=h,drawn:=d}:=by
  intro h c1 mD hk sh;refine codeAny_extend_loopS W.toS (by rw[mC];exact be hb) S zi res vs.length 0 _ #[] c1 rfl (Ou _) mD sh (ItemsOf.nil _) λs' acc c hm Do eB=>?_;have DA:acc.toList=vs:=by
   apply List.ext_getElem?;intro i;by_cases hi:i<vs.length
   ·have fR:i<acc.size:=by rw[eB.1];exact hi
    have:=eB.2 i acc[i] (getElem?_pos acc i fR);rw[this];simp[fR]
   ·rw[Qy (by rw[N1,eB.1];lia),Qy (by lia)]
  have DB:aG vs (vs.map nW):=zc vs λv hv=>bH.all v (pv.mem_iff.mp hv);refine hR s' acc c vs (vs.map nW) (λb o nb q=>hm.heap b o (λz=>?_) (hk b o nb q)) hm.os hm.gens Do DA DB ?_
  ·rcases N4.mp z with z | z
   ·exact nb z
   ·exact absurd (Oc (S7 q) z2) (by rw[Nv.mp z];exact Ox _)
  ·have:=pv.map nW;rw[bH.strs] at this;exact this.trans lH
 have sh:=kI _ _ gS;have DC:ah.TypeIs {s with heap:=h1.push (itO f0 0 a es.size ep),drawn:=d} (.ref a) "set" := ⟨o,kI _ _ ho,hex.1⟩;refine Sr (aw (Xj7 DC ?_));refine cB (λ_=>?_) (λ_=>Ss ⟨bS PySem.F.plain_extend_loop _,eg _ c0 c7 (λb o _ q=>kI b o q) sh⟩);refine Sr (aT (Sr ?_));show af _ _ (LY S (·.push .none) >>= λ_=>LY S (·.pop)) _ _ _;refine Sr (qD sh rfl ?_);have zj:=ak.get?_update_self (aM.mapSeq (·.push aa.none)) sh rfl;refine qD (hz:=by seq_fits) zj rfl ?_;have DD:=ak.get?_update_self (aM.mapSeq (·.pop)) zj rfl;have dE:∀b,b≠S->(((h1.push (itO f0 0 a es.size ep)).update S (aM.mapSeq (·.push aa.none))).update S (aM.mapSeq (·.pop))).get? b=(h1.push (itO f0 0 a es.size ep)).get? b:=λb nb=>
  (ak.get?_update_other _ _ (Ne.symm nb)).trans (ak.get?_update_other _ _ (Ne.symm nb))
 refine Ss ⟨bS PySem.F.plain_extend_loop _,eg _ _ (c7.at λb vP o q=>?_) (λb o nb q=>?_) DD⟩
 ·rw[dE b (λz=>zi (z ▸ vP))];exact q
 ·rw[dE b nb];exact kI b o q
def Xj9(hh:A.handled=none)(hs:SSet P w s.heap a ks)
    (h:∀s' vs ls,(∀b o,s.heap.get? b=some o->s'.heap.get? b=some o)->s'.os=s.os->s'.gens=s.gens->aG vs ls->ls.Perm ks->R vs s'):af (ag P w) A (collect (.ref a)) R E s:=by
  have la:a<s.heap.objs.size:=by obtain⟨o,_,_,_,_,g,_⟩:=hs;exact S7 g
  unfold collect;refine Sr (gN (bg entry_proto_collect' ?_));rw[av.under_plainId PySem.F.plain_proto_collect _];show af _ A.in1 (newList [] >>= λl=>again (.builtin "list.__iadd__" ⟨[l,aa.ref a],[]⟩)) _ _ s;refine Sr (aC ?_);refine Ss ⟨bS PySem.F.plain_list_iadd _,bg entry_list_iadd' ?_⟩;rw[av.under_plainId PySem.F.plain_list_iadd _];have gS:(s.heap.push {cls:=.type "list",data:=.seq ([]:List aa).toArray}).get? s.heap.objs.size=some {cls:=.type "list",data:=.seq #[] 0}:=ak.get?_push_size _ rfl;show af _ A.in1 (aj.List.listExtendWith (.ref s.heap.objs.size) (.ref a) (.ref s.heap.objs.size)) _ _ _;have eg:=Xj8 (A:=A) (s:={s with heap:=s.heap.push {cls:=.type "list",data:=.seq ([]:List aa).toArray} }) (S:=s.heap.objs.size) (res:=.ref s.heap.objs.size)
    (R:=λq s'=>∃acc c vs ls,q = .ok (.ret (.ref s.heap.objs.size))/\(∀b o,s.heap.get? b=some o->s'.heap.get? b=some o)/\s'.os=s.os/\s'.gens=s.gens/\s'.heap.get? s.heap.objs.size=some {cls:=.type "list",dict:=none,data:=.seq acc c,slots := #[]}/\acc.toList=vs/\aG vs ls/\ls.Perm ks)
    hh (hs.stay λo q=>S8 _ q) (Qw la) gS (λs' acc c vs ls k e1 e2 g e3 e4 e5=>⟨acc,c,vs,ls,rfl,λb o q=>k b o (Nz (S7 q)) (S8 _ q),e1,e2,g,e3,e4,e5⟩)
  have done:∀(q:gA) (s':ah),(∃acc c vs ls,q = .ok (.ret (.ref s.heap.objs.size))/\(∀b o,s.heap.get? b=some o->s'.heap.get? b=some o)/\s'.os=s.os/\s'.gens=s.gens/\s'.heap.get? s.heap.objs.size=some {cls:=.type "list",dict:=none,data:=.seq acc c,slots := #[]}/\acc.toList=vs/\aG vs ls/\ls.Perm ks) ->
      wants (λv s2=>af (ag P w) A (match v with
        | .ref l=>(do match (<-load l).data with
                        | .seq xs _=>pure xs.toList
                        | _=>unsupported "internal:collect")
        | _=>unsupported "internal:collect") R E s2) E q s':=λq s' ⟨acc,c,vs,ls,e0,k,e1,e2,g,e3,e4,e5⟩=>by
    subst e0;show af _ A (load s.heap.objs.size >>= _) _ _ s';refine Sr (mh g ?_);refine Ss ?_;rw[e3];exact h s' vs ls k e1 e2 e4 e5
  refine aF eg (λfin s' x=>?_) λe s' x=>?_
  . cases fin with
    | done f=>exact done _ _ x
    | again c1=>exact⟨x.1,bw x.2 λq s2 y=>done q s2 y⟩
  . obtain⟨_,_,_,_,e',_⟩:=x;cases e'
end
section
variable {X:Cx}{pins:List (ae×aM)}{Z:St}{H:Hp}{s s':ah}
def Inv.moved(I:Inv X pins Z H s)(k:∀b u,s.heap.get? b=some u->s'.heap.get? b=some u)(ho:s'.os=s.os)(hg:s'.gens=s.gens):Inv X pins Z H s':=by
 have J:=I.kept (h':=s'.heap) (t':=s'.toks) k;exact⟨J.ok,ho.trans I.os,by rw[hg];exact I.bare,J.base,J.loc,J.cell,J.free,J.freeC,J.pin,J.hok,J.len⟩
def Inv.laidM  (I:Inv X pins Z H s) (k:∀b u,s.heap.get? b=some u->s'.heap.get? b=some u) (ho:s'.os=s.os) (hg:s'.gens=s.gens) (hp:s.heap.objs.size<=a) (new:Av X.prog X.w (upd H a o) s'.heap a o):Inv X pins Z (upd H a o) s':=by
 have J:=I.laid (h':=s'.heap) (t':=s'.toks) k hp new;exact⟨J.ok,ho.trans I.os,by rw[hg];exact I.bare,J.base,J.loc,J.cell,J.free,J.freeC,J.pin,J.hok,J.len⟩
end
section
variable {P:ar}{w:aA}{A:av}{E:Zb}{s:ah}{ks:Za}
def Lq  (d0:ks.length<64)
  (hc:∀(R:List aa->ah->Prop),(∀s' vs ls,(∀b o,s.heap.get? b=some o->s'.heap.get? b=some o)->s'.os=s.os->s'.gens=s.gens->aG vs ls->ls.Perm ks->R vs s')->af (ag P w) A.in1 (collect (.ref r)) R E s)
  (h:∀(s1 s':ah) (vs:List aa) (ls:Za) (e:Nat),(∀b o,s.heap.get? b=some o->s1.heap.get? b=some o)->s1.os=s.os->s1.gens=s.gens->(∀b o,s1.heap.get? b=some o->s'.heap.get? b=some o)->s'.os=s1.os->s'.gens=s1.gens->s'.heap.get? s1.heap.objs.size=some (a8 "list" vs.toArray e)->aG vs ls->ls.Perm ks->fq ls=true->Q (.ref s1.heap.objs.size) s'):
  af (ag P w) A (call (.builtin "sorted") [.ref r]) Q E s:=by
 refine Calls.call_function_entry kO jx jy (vQ _) ?_;unfold aj.«sorted»;refine Sr (m:=mE "sorted" 1 1 _) (Ss ?_);refine Sr (hc _ λs1 vs ls k1 o1 g1 st p=>?_);have hl:vs.length<64:=by rw[st.length,p.length_eq];exact d0
 refine Sr (cR ?_ (by rw[Sw];lia));have gL:(s1.heap.push (a8 "list" vs.toArray 0)).get? s1.heap.objs.size=some (a8 "list" vs.toArray 0):=ak.get?_push_size _ rfl;refine Sr (aw (aR (s:={s1 with heap:=s1.heap.push (a8 "list" vs.toArray 0)}) gU ⟨_,gL,rfl⟩ fX (list_sort_treeK strKind_oneLt gL st.keysOf (λa b rest e=>keyKind_strs (by rw[<-e];exact st)) hl λaD pp so=>⟨_,rfl,?_⟩) (si _)));obtain⟨qB,a1,a2,a3⟩:=sorted_out_str st pp so;obtain⟨e,he⟩:=sortedHeap_at (out:=(bB aD).map (·.2)) gL;refine Ss ⟨_,rfl,h s1 _ ((bB aD).map (·.2)).toList qB e k1 o1 g1 (λb o q=>?_) rfl rfl he a1 (a2.trans p) a3⟩;have lt:=S7 q;show (DE (s1.heap.push (a8 "list" vs.toArray 0)) s1.heap.objs.size vs ((bB aD).map (·.2))).get? b=some o;rw[sortedHeap_old (Nz lt) (by rw[bX];exact Po lt)];exact S8 _ q
end
def Cj (P:ar) (w:aA) (a:ae) (ks:Za):HO:=.ext λh=>SSet P w h a ks
def Xcj  (h:aG vs ss):Vals (ss.map V.str) vs:=by
 induction h with
 | nil=>exact .nil
 | cons x t _ ih=>exact .cons ⟨t,rfl⟩ ih
theorem F0:∀{ss:Za} {vs:List aa},Vals (ss.map V.str) vs->aG vs ss
 | [],_,r=>by cases r;exact .nil
 | x::ss,_,r=>by
  cases r with
  | cons r1 r2=>
   obtain⟨t,rfl⟩:=r1;exact .cons x t (F0 r2)
section
variable {X:Cx}
def F2:X.calm=true->Bh X (.type "set") (λxs H Q=>∃p ss,xs=[.ref p]/\(SqL X.K H p (ss.map V.str)\/SqT X.K H p (ss.map V.str))/\ss.length+1<aW/\∀a,H a=none->Q (.ref a) (upd H a (Cj X.prog X.w a (ddup ss)))):=by
 intro bd pins s Z H xs us Q I r h;obtain⟨p,ss,rfl,hq,hb,q⟩:=h;f_int;obtain⟨aB,r',oW⟩:∃aB:List aa,Vals (ss.map V.str) aB/\Src s.heap p aB.toArray:=by
  rcases hq with hq | hq
  ·obtain⟨aB,r',pl,_⟩:=I.list hq;exact⟨aB,r',.lst pl.isList⟩
  ·obtain⟨aB,r',pl,_⟩:=I.tuple hq;exact⟨aB,r',.tup pl⟩
 refine Xjx (I.ok.hd bd) oW (F0 r') hb λh' tk S k=>?_;refine⟨.ref s.heap.objs.size,_,I.laidM (s':={s with heap:=h',toks:=tk}) k rfl rfl (Nr _) ?_,rfl,q _ (I.hok.fresh (Nr _))⟩;exact⟨S,by obtain⟨o,_,_,_,_,g,_⟩:=S;exact⟨o,g⟩,λh1 h2 S1 kk=>S1.stay kk⟩
def Lr    {s s1 s':ah}    (I:Inv X pins Z H s) (d0:ks.length<64) (k1:∀b o,s.heap.get? b=some o->s1.heap.get? b=some o) (o1:s1.os=s.os) (g1:s1.gens=s.gens)
  (k2:∀b o,s1.heap.get? b=some o->s'.heap.get? b=some o) (o2:s'.os=s1.os) (g2:s'.gens=s1.gens) (he:s'.heap.get? s1.heap.objs.size=some (a8 "list" vs.toArray e)) (st:aG vs ls) (p:ls.Perm ks)
  (q:∀l,H l=none->Q (.ref l) (upd H l (.lst (ls.map V.str)))):EP X pins Z Q (.ref s1.heap.objs.size) s':=by
 have I1:=I.moved k1 o1 g1;refine⟨.ref s1.heap.objs.size,_,I1.laidM k2 o2 g2 (Nr _) (show Av X.prog X.w _ s'.heap _ (.lst (ls.map V.str)) from ⟨?_,vs,e,Xcj st,he⟩),rfl,q _ (I1.hok.fresh (Nr _))⟩;rw[Np,p.length_eq,Sw]
 lia
def G5:X.calm=true->Bh X (.builtin "sorted") (λxs H Q=>∃a ks,xs=[.ref a]/\H a=some (Cj X.prog X.w a ks)/\ks.length<64/\∀l ls,H l=none->ls.Perm ks->fq ls=true->Q (.ref l) (upd H l (.lst (ls.map V.str)))):=by
 intro bd pins s Z H xs us Q I r h;obtain⟨a,ks,rfl,ha,d0,q⟩:=h;f_int;obtain⟨S,_⟩:=(show Av X.prog X.w H s.heap a (.ext λh=>SSet X.prog X.w h a ks) from I.hok a _ ha);refine Lq d0 (λR k=>Xj9 (by show X.A.in1.handled=none;simp[I.ok.hd bd]) S k) λs1 s' vs ls e k1 o1 g1 k2 o2 g2 he st p so=>?_;exact Lr I d0 k1 o1 g1 k2 o2 g2 he st p λl hl=>q l ls hl p so
end
def Inv.turned2        (I:Inv X pins Z H s) (k:∀b o,b≠e1->b≠e2->s.heap.get? b=some o->h'.get? b=some o) (f1:FpOk X pins H e1) (f2:FpOk X pins H e2):Inv X pins Z H {s with heap:=h',toks:=t'}:=by
 have no:∀b u,H b=some u->b≠e1/\b≠e2:=λb u q=>⟨λz=>(by rw[z,f1.1] at q;cases q),λz=>(by rw[z,f2.1] at q;cases q)⟩;have nn:∀b,b∉[e1,e2]->b≠e1/\b≠e2:=λb hb=>by simpa using hb
 refine I.step (g':=s.gens) (d':=s.drawn) (ch:=[e1,e2]) (λb hb=>?_) (λb o _ _ hc q _=>k b o (nn b hc).1 (nn b hc).2 q) (λb o _ _ hc q _=>⟨o.slots,k b o (nn b hc).1 (nn b hc).2 q⟩) (λ_ _ _ _ n=>n) (λb o hc q=>⟨o,k b o (nn b hc).1 (nn b hc).2 q⟩) (λ_ _ q=>q) (λ_ _ _ q=>q) (λb ps q=>⟨#[],by rw[q];simp⟩) (λm hm=>?_) (λb u q=>?_) I.bare
 ·have dJ:b=e1\/b=e2:=by simpa using hb
  rcases dJ with z | z
  ·subst z;exact⟨f1.2.2.2.1,f1.2.1,f1.2.2.2.2.1,f1.2.2.2.2.2⟩
  ·subst z;exact⟨f2.2.2.2.1,f2.2.1,f2.2.2.2.2.1,f2.2.2.2.2.2⟩
 ·obtain⟨o,es,ep,ho,r⟩:=hm;exact⟨o,es,ep,k _ o (Ne.symm f1.2.1) (Ne.symm f2.2.1) ho,r⟩
 ·refine(I.hok b u q).stay (λc v hc z=>k c v ?_ ?_ z) (λ_ z=>z) λ_ _ z=>z
  ·rcases hc with y | y
   ·rw[y];exact(no b u q).1
   ·exact(no c _ y).1
  ·rcases hc with y | y
   ·rw[y];exact(no b u q).2
   ·exact(no c _ y).2
def Ite (K:NO) (a:ae):It:=
 ⟨λi H=>∃xs x,SqL K H a xs/\xs[i]? = some x,λi H x H'=>∃tp,x = .ref tp/\H tp=none/\∀xs,SqL K H a xs->∃y,xs[i]? = some y/\H'=upd H tp (.tup [.int i,y]),λi H=>∃xs,SqL K H a xs/\xs.length<=i⟩
def Xka{P:ar}{w:aA}{K:NO}{es:List aL}{k:Nat}{p:cF}(a e it:ae)(ne:e≠it):Turn P w K (.Tuple es k p) (Ite K a) [e,it] e (λi h=>(∃eG,IsEnum h e it i eG)/\h.IsListIter it a i) where
 mem:=by simp
 obj:=λi h st b hb=>by
  have dJ:b=e\/b=it:=by simpa using hb
  rcases dJ with z | z
  ·subst z;obtain⟨⟨eG,q⟩,_⟩:=st;exact⟨_,q,λv z=>by
    have z':rB.fields _=rB.cell v:=z;cases z'⟩
  ·subst z;obtain⟨o,q,c,d⟩:=st.2;exact⟨o,q,λv z=>by rw[d] at z;cases z⟩
 keep:=λi h h' st k=>by
  obtain⟨⟨eG,q⟩,l⟩:=st;exact⟨⟨eG,k e (by simp) _ q⟩,l.at λo z=>k it (by simp) o z⟩
 item:=by
  kd_p;obtain⟨xs,x,hq,hx⟩:=hg;obtain⟨aB,rv,pl,hz⟩:=I.list hq;obtain⟨u,hu,ru⟩:=rv.get hx;have f1:=hf e (by simp);have f2:=hf it (by simp);obtain⟨⟨eG,q⟩,l⟩:=st;refine wpAny_pyNext_enum_item q l pl.isList (x:=u) (by simpa using hu) ne λh' qo l' tp sz kk=>?_;have I1:Inv X pins Z H {s with heap:=h',toks:=s.toks+1}:=I.turned2 kk f1 f2;refine⟨_,rfl,?_⟩;have le:e<s.heap.objs.size:=S7 q;obtain⟨ol,vK,_⟩:=id l;have lit:it<s.heap.objs.size:=S7 vK;unfold c8;refine Sr (mh qo ?_);k_in;rw[Sy (by simp[aO])];refine Sr (aT ?_);show af _ _ (bT (.ref e) 0 .none) _ _ _;refine aQ qo rfl (by simp) ?_;have g:=ak.get?_update_self (aM.mapFields (·.setIfInBounds 0 aa.none)) qo rfl;have sb:=S9 h' e (aM.mapFields (·.setIfInBounds 0 aa.none));have I2:Inv X pins Z (upd H s.heap.objs.size (.tup [.int i,x])) {s with heap:=h'.update e (aM.mapFields (·.setIfInBounds 0 aa.none)),toks:=s.toks+1}:=by
   have J:=I.laid (a:=s.heap.objs.size) (o:=.tup [.int i,x]) (h':=s.heap.push {cls:=.type "tuple",data:=.seq #[.int i s.toks,u]}) (t':=s.toks+1) (λb o z=>S8 _ z) (Nr _) (show Av X.prog X.w _ _ _ (.tup [.int i,x]) from ⟨by show 2<=sizeLine;decide,[.int i s.toks,u],.cons ⟨_,rfl⟩ (.cons ru .nil),dA.new _ _⟩);have g1:FpOk X pins (upd H s.heap.objs.size (.tup [.int i,x])) e:=⟨by rw[Ab (Nz le)];exact f1.1,f1.2⟩;have g2:FpOk X pins (upd H s.heap.objs.size (.tup [.int i,x])) it:=⟨by rw[Ab (Nz lit)];exact f2.1,f2.2⟩;refine J.turned2 (λb o n1 n2 z=>?_) g1 g2;show (h'.update e _).get? b=some o;rw[sb.2 b n1];by_cases hb:b=s.heap.objs.size
   ·subst hb;have z':(s.heap.push {cls:=.type "tuple",data:=.seq #[.int i s.toks,u]}).get? s.heap.objs.size=some o:=z;rw[ak.get?_push_size _ rfl] at z';cases z';exact tp
   ·have z':(s.heap.push {cls:=.type "tuple",data:=.seq #[.int i s.toks,u]}).get? b=some o:=z;rw[ak.get?_push_ne _ _ _ hb] at z';exact kk b o n1 n2 z'
  refine⟨.ref s.heap.objs.size,_,I2,rfl,⟨_,rfl,I.hok.fresh (Nr _),λys hy=>⟨x,by rw[I.list_inj hy hq];exact hx,rfl⟩⟩,⟨⟨u,g.trans ?_⟩,l'.at λo z=>?_⟩,λb hb=>?_⟩
  ·rfl
  ·rw[sb.2 it (Ne.symm ne)];exact z
  ·have dJ:b=e\/b=it:=by simpa using hb
   rcases dJ with z | z
   ·subst z;rw[Ab (Nz le)];exact f1.1
   ·subst z;rw[Ab (Nz lit)];exact f2.1
 done:=by
  kd_p;obtain⟨xs,hq,hx⟩:=hg;obtain⟨aB,rv,pl,hz⟩:=I.list hq;have hl:=rv.length;have f2:=hf it (by simp);obtain⟨⟨eG,q⟩,l⟩:=st;exact wpAny_pyNext_enum_end (I.ok.hd hc) q l pl.isList (by simp;lia) λh' eb=>⟨rfl,I.turned (t':=s.toks) (λb o hb z=>eb b o hb z) f2.1 f2.2.1 f2.2.2.2.1 f2.2.2.2.2.1 f2.2.2.2.2.2⟩
 self:=λ_ _ _ _ _ st h=>by
  obtain⟨⟨eG,q⟩,_⟩:=st;exact og q h
def Xkb (K:NO) (ta:TA):TI:=fun Z H R=>ta Z H λvs H1=>∃a,vs=[.ref a]/\(∃xs,SqL K H1 a xs)/\R (Ite K a) H1
def Xkc       (hg:Gl X "enumerate") (hm:X.mg "enumerate" = none) (ha:PA X [l] ta) (hs:az [l] X.env=[(false,eval l X.env)]:=by rfl):PI X (.Tuple es k p2) (.Call (.Name "enumerate" p) [l] [] pos) (Xkb X.K ta):=by
 intro pins s Z H R I h;refine Call_ (Ft I hg hm (show bO "enumerate" = some (.type "enumerate") by decide +kernel) (PyProof.Rows.callWith_type1 (thn (ha pos pins s Z H _ I h) λus s1 ⟨vs,H1,I1,r1,q1⟩=>?_) hs rfl));obtain⟨a,e,⟨xs,hq⟩,q⟩:=q1;subst e;cases r1 with
 | cons r rr=>
  cases rr;cases r;obtain⟨aB,rv,pl,hz⟩:=I1.list hq;refine call_enumerate_list pl.isList λh' qe ql sz kk=>?_;refine og qe ?_;have I2:Inv X pins Z H1 {s1 with heap:=h'}:=I1.kept (t':=s1.toks) kk;refine⟨_,[s1.heap.objs.size+1,s1.heap.objs.size],_,_,H1,rfl,I2,Xka a _ _ (Nat.succ_ne_self _),⟨⟨_,qe⟩,ql⟩,λb hb=>?_,q⟩;have dJ:b=s1.heap.objs.size+1\/b=s1.heap.objs.size:=by simpa using hb
  rcases dJ with z | z
  ·subst z;exact I1.fpOk (Ps _) (I1.hok.fresh (Ps _))
  ·subst z;exact I1.fpOk (Nr _) (I1.hok.fresh (Nr _))
section
variable {X:Cx}{es:List aL}{t:St->Hp->(Hp->Prop)->Prop}{e:aL}{te:TE}{pos:cF}
def Xkd (te:TE) (t:St->Hp->(Hp->Prop)->Prop):St->Hp->(Hp->Prop)->Prop:=fun Z H Q=>te Z H λx H1=>∃z,x = .str z/\z.length<=400/\(∀c∈z.cps.toList,c<16 ^ 8)/\t Z H1 Q
def Xck(ha:PE X e te)(h:PJ X es t)(he:cJ (.FormattedValue e 114 none p::es) X.env=eval (.FormattedValue e 114 none p) X.env::cJ es X.env:=by rfl):PJ X (.FormattedValue e 114 none p::es) (Xkd te t):=by
 intro out pins s Z H Q I hw hl;rw[he];rw[Oe] at hl;refine gI (ir (thn (ha pins s Z H _ I hw) λv s1 ⟨x,H1,I1,r1,q1⟩=>?_));obtain⟨z,ez,h1,h2,q⟩:=q1;subst ez;obtain⟨tk,rfl⟩:=r1;have hz:=StrLaws.reprText_len z h2;have vR:(fr z).length<=sizeLine:=by rw[Sw];lia
 refine wpAny_pyReprObj_str ?_ vR;refine qE (λt' k=>⟨by rw[E8];lia,?_⟩) vR;exact h _ pins _ Z H1 Q ((I1.tok _).tok _) q (by rw[E8];lia)
theorem Xcl:∀ss l,l.length=ss.length->(∀i (hi:i<ss.length),∃t,l[i]? = some (.str ss[i] t))->aG l ss
 | [],l,e,_=>by rw[Pa.mp e];exact .nil
 | y::ys,[],e,_=>by cases e
 | y::ys,v::vs,e,iG=>by
  obtain⟨t,q⟩:=iG 0 (by simp);have:v = .str y t:=by simpa using q
  subst this;refine .cons y t (Xcl ys vs (by simpa using e) λi hi=>?_);obtain⟨t',e'⟩:=iG (i+1) (by simpa using hi);exact⟨t',by simpa using e'⟩
def Xcm:X.calm=true->Bh X (.builtin "sorted") (λxs H Q=>∃d kvs ss,xs=[.ref d]/\Rd H d (.dK kvs)/\kvs.map (·.1)=ss.map (λx=>(Sum.inr x:Key))/\ss.length<64/\∀l ls,H l=none->ls.Perm ss->fq ls=true->Q (.ref l) (upd H l (.lst (ls.map V.str)))):=by
 intro bd pins s Z H xs us Q I r h;obtain⟨d,kvs,ss,rfl,hd,hk,d0,q⟩:=h;f_int;obtain⟨hz,hm,vs,rv,o,es,ep,ho,hex,jO,hr⟩:=Ek I.hok hd;have lI:kvs.length=ss.length:=by have:=congrArg List.length hk;simpa using this
 have mC:vs.length=ss.length:=by rw[<-lI];exact(Paired.length rv).symm
 have DF:vs.map (·.1)=ss.map (λx=>(Sum.inr x:Key)):=by rw[<-hk];exact rv.keys.symm
 have iG:∀acc:Array aa,ItemsOf (λi v=>∃k x,vs[i]? = some (k,x)/\(A5 X.prog X.w).is k v=true) acc vs.length->aG acc.toList ss:=λacc eB=>by
  refine Xcl ss _ (by rw[N1,eB.1,mC]) λi hi=>?_;have fR:i<acc.size:=by rw[eB.1,mC];exact hi
  obtain⟨k',x,hx,DG⟩:=eB.2 i acc[i] (getElem?_pos acc i fR);have iB:k'=Sum.inr ss[i]:=by
   have:=congrArg (λl=>l[i]?) DF;simp only[Oa,hx,P7,Nq hi] at this;exact N5 this
  subst iB;obtain⟨t,e⟩:=aa.isStrOf_shape DG;exact⟨t,by rw[Qz,getElem?_pos acc i fR,e]⟩
 refine Lq d0 (λR kR=>PySem.W.kdu_collect (PySem.W.kdl_dict (knd:=A5 X.prog X.w) (kvs:=vs) (ep:=ep) hm) (by show X.A.in1.handled=none;simp[I.ok.hd bd]) ⟨o,es,ho,hex,jO,hr⟩ (by rw[mC,Sw];lia) (λh' tk acc kk eB=>kR {s with heap:=h',toks:=tk} acc.toList ss kk rfl rfl (iG acc eB) (Px _)))
  λs1 s' vs ls e k1 o1 g1 k2 o2 g2 he st p so=>Lr I d0 k1 o1 g1 k2 o2 g2 he st p λl hl=>q l ls hl p so
def rSlS:V->Option Int->Option Int->Hp->VK->Prop:=λx lo hi H Q=>∃z,x = .str z/\lo=none/\(∃j,hi=some j)/\z.length<=1000/\Q (.str (Txt.slice z lo hi)) H
def Xke:SlR X rSlS:=by
 intro pins s Z H x v vl vu lo hi sl Q I rx hs pl pu h;obtain⟨z,rfl,rfl,⟨j,rfl⟩,hz,q⟩:=h;obtain⟨tz,rfl⟩:=rx;cases pl;cases pu;rename_i tu;refine⟨"str",_,PySem.F.slot_str_getitem.lookup,ml _ _ _,wpAny_getItem_str_slice (l:=none) (u:=some (j,tu)) (st:=none) hs rfl (post_val_or_str ⟨?_,λt' k=>?_⟩)⟩
 ·exact Oq (Txt.slice_le z none (some j)) (by rw[Sw];lia)
 ·exact⟨.str (Txt.slice z none (some j)),H,I.tok _,⟨t',rfl⟩,q⟩
end
end L2
set_option maxHeartbeats 4000000
namespace L2
def leS (x y:ao):Prop:=x.cps.toList<=y.cps.toList
def Xkf{x y:ao}(h:x.cps.toList=y.cps.toList):x=y:=by
 obtain⟨⟨a⟩⟩:=x;obtain⟨⟨b⟩⟩:=y;have:a=b:=h;rw[this]
def Xcn(h:leS x y)(g:leS y x):x=y:=Xkf (List.le_antisymm h g)
def Xco(h:leS x y)(g:leS y z):leS x z:=List.le_trans h g
def Ls(x y):leS x y\/leS y x:=List.le_total _ _
def ltS (x y:ao):Prop:=x.cps.toList<y.cps.toList
instance (x y:ao):Decidable (ltS x y):=inferInstanceAs (Decidable (x.cps.toList<y.cps.toList))
instance (x y:ao):Decidable (leS x y):=inferInstanceAs (Decidable (x.cps.toList<=y.cps.toList))
def Iz(x):¬ltS x x:=List.lt_irrefl _
def Ja(h:ltS x y)(g:ltS y z):ltS x z:=List.lt_trans h g
def Lu:¬ltS x y↔leS y x:=List.not_lt
def ltS_of(h:leS x y)(n:x≠y):ltS x y:=by
 by_cases q:ltS x y
 ·exact q
 ·exact absurd (Xcn h (Lu.mp q)) n
def Xkg(h:ltS x y):leS x y:=List.le_of_lt h
def G6(h:ltS x y):x≠y:=λe=>Iz y (e ▸ h)
theorem Xcp:∀l p,risingS p l=true->(p::l).Pairwise leS
 | [],p,_=>by simp
 | x::r,p,h=>by
  have h':(!ltCps x.cps.toList p.cps.toList&&risingS x r)=true:=h;rw[N3,ltCps_eq] at h';have ih:=Xcp r x h'.2;have zk:leS p x:=by
   have:=h'.1;simp only[Ro,decide_eq_false_iff_not] at this;exact this
  refine Qf.mpr ⟨λy hy=>?_,ih⟩;rcases N4.mp hy with e | e
  ·rw[e];exact zk
  ·exact Xco zk ((Qf.mp ih).1 y e)
theorem Xcq:∀l,fq l=true->l.Pairwise leS
 | [],_=>by simp
 | x::r,h=>Xcp r x h
theorem Fb:∀{a b:Za},a.Perm b->a.Pairwise leS->b.Pairwise leS->a=b
 | [],b,p,_,_=>by rw[List.nil_perm.mp p]
 | x::a,[],p,_,_=>by have:=p.length_eq;simp at this
 | x::a,y::b,p,ha,hb=>by
  obtain⟨a1,a2⟩:=Qf.mp ha;obtain⟨b1,b2⟩:=Qf.mp hb;have e:x=y:=by
   have hx:x∈y::b:=p.mem_iff.mp Ny;have hy:y∈x::a:=p.mem_iff.mpr Ny;rcases N4.mp hx with e | hx
   ·exact e
   ·rcases N4.mp hy with e | hy
    ·exact e.symm
    ·exact Xcn (a1 y hy) (b1 x hx)
  subst e;rw[Fb (List.Perm.cons_inv p) a2 b2]
def srt (l:Za):Za:=l.mergeSort λx y=>decide (leS x y)
def Cw(l):(srt l).Perm l:=List.mergeSort_perm ..
def D6(l):(srt l).Pairwise leS:=by
 have h:=List.pairwise_mergeSort (le:=λx y=>decide (leS x y)) (λa b c h1 h2=>Sz (Xco (S5 h1) (S5 h2)))
  (λa b=>by rcases Ls a b with h | h<;>simp[h]) l
 exact h.imp λh=>S5 h
def Fc(p:ls.Perm ks)(h:fq ls=true):ls=srt ks:=Fb (p.trans (Cw ks).symm) (Xcq _ h) (D6 _)
def Xcr(p:a.Perm b):srt a=srt b:=Fb ((Cw a).trans (p.trans (Cw b).symm)) (D6 _) (D6 _)
def Fd  : x∈srt l↔x∈l:=(Cw l).mem_iff
def dit (row:Za):Za:=srt (ddup row)
def Ai  : x∈dit row↔x∈row:=Fd.trans (Lo row x)
def Fe(row):(dit row).Nodup:=(Cw _).nodup_iff.mpr (G4 row)
def D7(row):(dit row).Pairwise ltS:=by
 have h1:=D6 (ddup row);have h2:(dit row).Pairwise (· ≠ ·):=Fe row;exact(h1.and h2).imp λh=>ltS_of h.1 h.2
def Ff(row):(dit row).length<=row.length:=by
 have:=(Cw (ddup row)).length_eq;have h:=Fz row;unfold dit
 lia
def G7{a b:Za}(ha:a.Nodup)(hb:b.Nodup)(h:∀x,x∈a↔x∈b):a.Perm b:=(List.perm_ext_iff_of_nodup ha hb).mpr h
def Xcs(p:ls.Perm ks)(h:fq ls=true)(nd:ks.Nodup)(m:∀x,x∈ks↔x∈row):ls=dit row:=
 Fb (p.trans ((G7 nd (G4 row) λx=>(m x).trans (Lo row x).symm).trans (Cw _).symm)) (Xcq _ h) (D6 _)
structure Fn (P:ar) (w:aA) (K:NO) (mg:ao->Option aa) (base:ak) (CX:CXT) (k:Nat) (x:ao) (ps:Za) (sp:Sp):Prop where
 ex:∃f fd,mg x=some (.ref f)/\NW K (.ref f)=true/\Binds K fd ps []/\FnOk P w K mg base CX k f fd ps sp
section
variable {X:Cx}{CX:CXT}{k:Nat}{ps:Za}{sp:Sp}{E:XK}{x:ao}{p pos:cF}{e:aL}{es:List aL}{t:TA}
def Af(F:Fn X.prog X.w X.K X.mg X.base CX k x ps sp)(hr:Room k X.A)(hg:Gl X x)(hx:Passes CX X E)
  (ha:PA X (e::es) t) (fU:(x==("__debug__" : ao))=false:=by decide) (he:az (e::es) X.env=(false,eval e X.env)::az es X.env:=by rfl) (bN:(bq pos (az es X.env)).any (·.1)=false:=by rfl):
  PE X (.Call (.Name x p) (e::es) [] pos) (K0 sp [] E t):=by
 obtain⟨f,fd,hm,hk,hb,hF⟩:=F.ex;exact Xhw hF hr hg hm hk hb .nil hx ha fU he bN
def Xkh{st}{rest}   (P:St->Hp->Prop)(h2:∃u,PSs X rest u/\∀Z' H',P Z' H'->u D Z' H')
  (h1:∀nx,(∀Z' H',P Z' H'->nx Z' H')->∃t,PS X st t/\t {D with nx:=nx} Z H):∃t,PSs X (st::rest) t/\t D Z H:=by
 obtain⟨u,hu,ru⟩:=h2;obtain⟨t,ht,rt⟩:=h1 (u D) ru;exact⟨Gq t u,Ac ht hu,rt⟩
end
def Ax{A B:Prop}(h1:c=true->A)(h2:c=false->B):if c=true then A else B:=by
 cases c with
 | true=>exact iteT (h1 rfl)
 | false=>exact Bd (h2 rfl)
def Same.upd{H H':Hp}{a:ae}{o:HO}(s:Same H H')(h:H a=none):Same H (upd H' a o):=λb u e=>by
 rw[Ab (Ao e h)];exact s b u e
def Same.upd0   (h:H a=none):Same H (L2.upd H a o):=(Same.refl H).upd h
def ku  {o u} (h:H b=some o) (hp:H p=none):upd H p u b=some o:=by
 rw[Ab (Ao h hp)];exact h
def Same.step  {o} (s:Same H H1) (hp:H1 p=none):Same H (L2.upd H1 p o):=s.upd (s.free hp)
def Same.go{p q}{o}(s:Same H H1)(hp:H1 p=none)(hq:L2.upd H1 p o q=none):Same H (L2.upd H1 p o):=s.step hp
def F3{α : Type}(f)(xs:List α)(b)(hb:b<=xs.length):Br (xs.map f) none (some (b:Int))=(xs.take b).map f:=by
 unfold Br;rw[HT.sIx_none,Qs,HT.sIx_nat,Np,List.map_take,Sc,P8 hb]
def F4{α : Type}(f)(xs:List α)(a)(ha:a<=xs.length):Br (xs.map f) (some (a:Int)) none=(xs.drop a).map f:=by
 unfold Br;rw[HT.sIx_none,HT.sIx_nat,Np,P8 ha,List.map_drop];exact O0 (by rw[O4,Np];lia)
def Xki{α : Type}(f)(xs:List α)(a b)(fS:a<=b)(hb:b<=xs.length):Br (xs.map f) (some (a:Int)) (some (b:Int))=((xs.drop a).take (b - a)).map f:=by
 unfold Br;rw[HT.sIx_nat,HT.sIx_nat,Np,P8 hb,P8 (Oq fS hb),List.map_take,List.map_drop]
def Xct (sj:cw) (fN N:Za) (cap:List (Option Nat)) (scope:cw):Bool:=
 (scope.names.all λy=>decide (scope.names.lookup y.1=some y.2)) &&
 (scope.names.all λy=>decide (y.2 ≠ .free)||decide (sj.names.lookup y.1=some .cell)||decide (sj.names.lookup y.1=some .free))&&decide (cap.length=N.length) &&
 ((List.range N.length).all λi=>match cap[i]?,N[i]? with
  | some (some j),some x=>decide (fN[j]? = some x)&&decide (scope.names.lookup x=some .free)
  | _,_=>true)
def CompScope.of   {cap} (sj) (fN) (h1:X.env.scope=sj) (h2:X.N=fN) (hk:scope.kind = .function) (h:Xct sj fN N cap scope=true):CompScope X N cap scope:=by
 unfold Xct at h;simp only[N3,Oh,Q3,decide_eq_true_eq] at h;obtain⟨⟨⟨a1,a3⟩,a4⟩,a5⟩:=h;refine⟨hk,a1,λy hy e=>?_,a4,λi x j hN hc=>?_⟩
 ·show X.env.scope.names.lookup y.1=some .cell\/X.env.scope.names.lookup y.1=some .free;rw[h1];rcases a3 y hy with (z | z) | z
  ·exact absurd e z
  ·exact .inl z
  ·exact .inr z
 ·have hi:i<N.length:=(N7.mp hN).1;have q:=a5 i (O6.mpr hi);rw[hc,hN] at q;simp only[N3,decide_eq_true_eq] at q;rw[h2];exact q
section
variable {X:Cx}
def Xkj(K)(h:X.K=K):Bh X (.builtin "isinstance") (λxs H Q=>∃x c t cv b,xs=[x,c]/\TyOf K H x t/\Ir c=some cv/\NS K t cv=some b/\Q (.bl b) H):=by subst h;exact call_isinst
def Dk(K)(h:X.K=K):IxR X (K4 K):=by subst h;exact ix_tup
def Lv(K)(h:X.K=K):OpR X (aH .In) (rIn K false):=by subst h;exact K5
end
def G8        (n:Nat) (hn:n<sizeLine) (vs:Nat->V) (ok:Nat->Bool) (ys:Nat->V)
  (iF:∀i H2,i<n->Same H1 H2->J.go i H2/\∀x H3,J.yld i H2 x H3->H3=H2/\x=vs i)
  (bH:∀H2,Same H1 H2->J.stop n H2)
  (sk:∀i H2 Q,i<n->Same H1 H2->(∀H',Same H2 H'->Q (ok i) H')->tt ((Bw cap Z).set j (some (vs i))) H2 Q)
  (step:∀i H2 Q,i<n->ok i=true->Same H1 H2->(∀H',Same H2 H'->Q (ys i) H')->te ((Bw cap Z).set j (some (vs i))) H2 Q)
  (hd:∀D H2,H1 D=none->Same H1 H2->H2 D=some (.lst (((List.range n).filter ok).map ys))->F D H2):E7 cap (A2 j) tt te J Z H1 F:=by
 refine Iu n vs (λD i Z2 H2=>(∀v, Z2.set j v=(Bw cap Z).set j v)/\Same H1 H2/\H2 D=some (.lst (((List.range i).filter ok).map ys))) ?_ ?_ ?_ ?_ ?_
 ·intro D hD;exact⟨λ_=>rfl,(Same.refl H1).step hD,Aa⟩
 ·rintro D i Z2 H2 hD hi ⟨_,s2,_⟩;exact iF i H2 hi s2
 ·rintro D Z2 H2 hD ⟨_,s2,_⟩;exact bH H2 s2
 ·rintro D i Z2 H2 hD hi ⟨e,s2,hb⟩;show tt (Z2.set j (some (vs i))) H2 _;rw[e];refine sk i H2 _ hi s2 λH3 s3=>?_;have fE:=s2.trans s3;have uA:=s3 _ _ hb;have jP:∀v,((Bw cap Z).set j (some (vs i))).set j v=(Bw cap Z).set j v:=λv=>by rw[Sq]
  have hl:(((List.range i).filter ok).map ys).length<=i:=by
   rw[Np];exact Oq (Pb ..) (by rw[Pk];lia)
  refine Ax (λhk=>?_) (λhk=>?_)
  ·refine step i H3 _ hi hk fE λH4 s4=>?_;refine wput hi (s4 _ _ uA) (by lia) ⟨jP,λb u e'=>?_,?_⟩
   ·rw[Ab (Ao e' hD)];exact s4 _ _ (fE b u e')
   ·rw[Aa,O5,Og,N2];simp[hk]
  ·refine wskip hi ⟨jP,fE,?_⟩;rw[uA,O5,Og,N2];simp[hk]
 ·rintro D Z2 H2 hD ⟨_,s2,hb⟩;exact hd D H2 hD s2 hb
def Xcu       (n:Nat) (hn:n<sizeLine) (vs:Nat->V) (ys:Nat->V)
  (iF:∀i H2,i<n->Same H1 H2->J.go i H2/\∀x H3,J.yld i H2 x H3->H3=H2/\x=vs i)
  (bH:∀H2,Same H1 H2->J.stop n H2)
  (step:∀i H2 Q,i<n->Same H1 H2->(∀H',Same H2 H'->Q (ys i) H')->te ((Bw cap Z).set j (some (vs i))) H2 Q)
  (hd:∀D H2,H1 D=none->Same H1 H2->H2 D=some (.lst ((List.range n).map ys))->F D H2):E7 cap (A2 j) El te J Z H1 F:=
 G8 n hn vs (λ_=>true) ys iF bH (λi H2 Q _ _ k=>k H2 (Same.refl _)) (λi H2 Q hi _ s k=>step i H2 Q hi s k) λD H2 hD s e=>hd D H2 hD s (by rw[e,Ot.mpr (λ_ _=>rfl)])
def Xkk:Passes (CX1 X.prog X.w) X E0:=λ_ _ _ _ _ _ _ h=>by
 obtain⟨_,_,_,_,_,_,_,_,_,h⟩:=h;exact h.elim
structure DefAt (K:NO) (x:ao) (st:aP):Prop where
 ex:∃f fd,NU K aq x=some (some (.ref f))/\NW K (.ref f)=true/\Fun K x x st f fd
def DefAt.of{K}{x}{st}    {kV cW pm cdv ct}(a:NU K aq x=some (some (.ref f)))
  (l:K.lookup f=some ⟨oc,od,.func (OA x x (Di st) (B8 st) (defScope st) .none kV cW pm an cdv ct),gr⟩) (c:OD K cdv x=true) (k:NW K (.ref f)=true):DefAt K x st:=
 ⟨⟨f,_,a,k,K8 l c k⟩⟩
def Fn.of   {K}     {k} {x} {st}  (X:K.In h) (G:h.Ns aq mg) (D:DefAt K x st)
  (hb:∀(kV cW pm:aa) (an:Option ae) (cdv ct:aa) (us:List aa),us.length=ps.length->fe (OA x x (Di st) (B8 st) (defScope st) .none kV cW pm an cdv ct) ⟨us,[]⟩=pure (ps.zip us))
  (ok:∀f fd,Fun K x x st f fd->FnOk P w K mg base CX k f fd ps sp):Fn P w K mg base CX k x ps sp:=by
 obtain⟨f,fd,a,hk,F⟩:=D.ex;exact⟨⟨f,fd,On X G a,hk,F.binds hb,ok f fd F⟩⟩
structure ExcAt (K:NO) (x:ao) (C:ae):Prop where
 a:NU K aq x=some (some (.ref C))
 e:OI K C bmV "ValueError.__new__" = true
 ga:NR K (.ref C) "__getattribute__" = some (some (.builtin "BaseException.__getattribute__"))
 gn:NR K (.ref C) "__getattr__" = some none
 cl:NR K (.ref C) "__class__" = some (some (.builtin "object.__class__"))
 sb:NT K (.ref C) (.type "BaseException")=some true
 so:NT K (.ref C) (.type "object")=some true
 sv:NT K (.ref C) (.type "ValueError")=some true
 ss:NT K (.ref C) (.ref C)=some true
 ic:O' K C=true
 ty:OF K (.ref C)=some (.type "type")
section
variable {K:NO}{x:ao}{C:ae}
def ExcAt.f(E:ExcAt K x C):ExcF K C:=⟨E.ga,E.gn,E.cl,E.sb,E.so,E.ic⟩
def Xcv   (ic:O' K S=true) (ty:OF K (.ref S)=some (.type "type")) (h:NT K t (.ref S)=some b):OZ K t (.ref S)=some b:=by
 unfold OZ;have DH:(OK K S).isSome=true:=ic;simp only[DH,ty];exact h
def Xcw  (ne:C≠S) (ic:O' K S=true) (ty:OF K (.ref S)=some (.type "type")) (h:NT K (.ref C) (.ref S)=some b):NS K (.ref C) (.ref S)=some b:=by
 unfold NS;rw[Sx (λz=>ne (aa.ref.inj (beq_iff_eq.mp z)))];exact Xcv ic ty h
def ExcAt.val(E:ExcAt K x C):NS K (.ref C) (.type "ValueError")=some true:=by
 unfold NS;rw[Sx (λz=>by cases (beq_iff_eq.mp z))];show (if PySem.W.kitMeta "ValueError" = true then NT K (.ref C) (.type "ValueError") else none)=some true;rw[Sy (by decide +kernel)];exact E.sv
end
structure ClsAt (K:NO) (x:ao) (C:ae):Prop where
 a:NU K aq x=some (some (.ref C))
 ic:O' K C=true
 ty:OF K (.ref C)=some (.type "type")
def Dl(x)(row:Za):inV (.str x) (row.map V.str)=decide (x∈row):=by
 unfold inV;rw[Pu,P6,decide_eq_true_eq];constructor
 ·rintro ⟨y,hy,e⟩;obtain⟨z,hz,rfl⟩:=Oj.mp hy;have:z=x:=by simpa [eqV] using e
  rw[<-this];exact hz
 ·intro hx;exact⟨.str x,Oj.mpr ⟨x,hx,rfl⟩,by simp[eqV]⟩
def Dm(row:Za):(row.map V.str).all Bk=true:=by
 rw[Oh];intro v h;obtain⟨x,_,rfl⟩:=Oj.mp h;rfl
def Xkl{K}        {p q}(vS:p≠q)(hS:SqL K H1 a xs)(hn:xs.length<sizeLine)(ok)(ys)
  (sk:∀(i:Nat) x H2 Q,xs[i]? = some x->Same H1 H2->(∀H',Same H2 H'->Q (ok i) H')->tt (((Bw cap Z).set p (some (.int i))).set q (some x)) H2 Q)
  (step:∀(i:Nat) x H2 Q,xs[i]? = some x->ok i=true->Same H1 H2->(∀H',Same H2 H'->Q (ys i) H')->te (((Bw cap Z).set p (some (.int i))).set q (some x)) H2 Q)
  (hd:∀D H2,H1 D=none->Same H1 H2->H2 D=some (.lst (((List.range xs.length).filter ok).map ys))->F D H2):E7 cap (Kr K 2 (Kq (A2 p) (Kq (A2 q) Xai))) tt te (Ite K a) Z H1 F:=by
 intro D hD;refine⟨wN xs.length λi Z2 H2=>(∀u v,(Z2.set p u).set q v=((Bw cap Z).set p u).set q v)/\Same H1 H2/\H2 D=some (.lst (((List.range i).filter ok).map ys)),⟨xs.length,by simp,Ou _,λ_ _=>rfl,(Same.refl H1).step hD,Aa⟩,?_⟩;rintro i m Z1 H2 ⟨rfl,hi,e,s2,hb⟩;have vT:SqL K H2 a xs:=s2.seq hS;by_cases b7:i<xs.length
 ·have hx:xs[i]? = some xs[i]:=Nq b7;refine .inr ⟨⟨xs,xs[i],vT,hx⟩,?_⟩;rintro x H3 ⟨tp,rfl,ht,hy⟩;obtain⟨y,qF,rfl⟩:=hy xs vT;rw[hx] at qF;cases qF;refine⟨tp,_,rfl,SqT.of Aa,rfl,_,_,rfl,_,_,rfl,rfl,?_⟩;have s3:Same H1 (upd H2 tp (.tup [.int i,xs[i]])):=s2.step ht;have uA:upd H2 tp (.tup [.int i,xs[i]]) D=some (.lst (((List.range i).filter ok).map ys)):=ku hb ht;rw[e];refine sk i _ _ _ hx s3 λH4 s4=>?_;have sq:=s3.trans s4;have sr:=s4 _ _ uA;have jP:∀u v,(((((Bw cap Z).set p (some (.int i))).set q (some xs[i])).set p u).set q v)=((Bw cap Z).set p u).set q v:=λu v=>by
   rw[List.set_comm _ _ (Ne.symm vS),Sq,Sq]
  have hl:(((List.range i).filter ok).map ys).length<=i:=by
   rw[Np];exact Oq (Pb ..) (by rw[Pk];lia)
  refine Ax (λhk=>?_) (λhk=>?_)
  ·refine step i _ H4 _ hx hk sq λH5 s5=>?_;refine wput b7 (s5 _ _ sr) (by lia) ⟨jP,λb u e'=>?_,?_⟩
   ·rw[Ab (Ao e' hD)];exact s5 _ _ (sq b u e')
   ·rw[Aa,O5,Og,N2];simp[hk]
  ·refine wskip b7 ⟨jP,sq,?_⟩;rw[sr,O5,Og,N2];simp[hk]
 ·have ei:i=xs.length:=by lia
  subst ei;exact .inl ⟨⟨xs,vT,Nr _⟩,hd D H2 hD s2 hb⟩
def Lw     (K:NO) (n:Nat) (hK:X.K=K) (hc:X.calm=true) (h:PGs X es t)
  (hn:(bG es X.env).length=n:=by rfl) (bH:(bG es X.env).findIdx? (·.1)=none:=by rfl):PG X (.Tuple es k pos) (Kr K n t):=by
 subst hK;exact Xaj hc h hn bH
def C9{α : Type}(d)(p):∀(xs:List α),((List.range xs.length).filter λi=>p (xs.getD i d)).map (λi=>xs.getD i d)=xs.filter p:=by
 intro xs;have go:∀n,n<=xs.length->((List.range n).filter λi=>p (xs.getD i d)).map (λi=>xs.getD i d)=(xs.take n).filter p:=by
  intro n
  induction n with
  | zero=>intro _;rfl
  | succ n ih=>
   intro h;have hn:n<xs.length:=by lia
   have e:xs.getD n d=xs[n]:=by simp[List.getD,hn]
   rw[O5,Og,N2,ih (by lia),Od hn,Og,Ow,Ow,e];split
   ·simp[hn]
   ·simp
 rw[go _ (Nr _),O9]
abbrev TM:=St->Hp->(St->Hp->Prop)->Prop
def PM (X:Cx) (m:fT Unit) (t:TM):Prop:=∀pins s Z H (Q:St->Hp->Prop),Inv X pins Z H s->t Z H Q ->
 af (ag X.prog X.w) X.A m (λ_ s'=>∃Z' H',Inv X pins Z' H' s'/\Q Z' H') X.xe s
def D8 (e:aL) (d:Nat) (tg iter:aL) (cA:List aL) (act:fT Unit) (it acc:aa) (env:Env):fT Fin:=do
 dh iter.pos
 match <-dm it with
 | none=>pure (.done .next)
 | some v=>
  c8 tg it v
  assign tg env v
  let mut ok:=true
  for c in cA do
   if ok then ok <-isTrue c env (eval c env)
  if ok then act
  again (.compLoop e d it acc env)
structure Cm (e:aL):Prop where
 den1 : ∀ (P : ar) (w : aA) (d : Nat) (it acc : aa) (env : Env), (ag P w).den (.compLoop e d it acc env) = (cM e d it acc env).onRaise (fun x => do                     eh x env; theTreesLotGoes x)
 den2 : ∀ (P : ar) (w : aA) (d : Nat) (it acc : aa) (env : Env), (ag P w).den (.compStart e d it acc env) = (LZ e d it acc env).onRaise (fun x => do                      eh x env; dh theWindowsPlace)
 und1:∀(A:av) (d:Nat) (it acc:aa) (env:Env),A.under (.compLoop e d it acc env)=A
 und2:∀(A:av) (d:Nat) (it acc:aa) (env:Env),A.under (.compStart e d it acc env)=A
def G9    : Cm (.ListComp eT gs sc p):=⟨λ_ _ _ _ _ _=>rfl,λ_ _ _ _ _ _=>rfl,λ_ _ _ _ _=>rfl,λ_ _ _ _ _=>rfl⟩
def Xkm    : Cm (.DictComp k v gs sc p):=⟨λ_ _ _ _ _ _=>rfl,λ_ _ _ _ _ _=>rfl,λ_ _ _ _ _=>rfl,λ_ _ _ _ _=>rfl⟩
def tLp (g:TG) (tt:TT) (tm:TM) (J:It) (Z:St) (H1:Hp) (F:St->Hp->Prop):Prop:=
 ∃W:Nat->Nat->St->Hp->Prop,(∃m,W 0 m Z H1)/\∀i m Z1 H2,W i m Z1 H2 ->
  (J.stop i H2/\F Z1 H2)\/(J.go i H2/\∀x H3,J.yld i H2 x H3->g x Z1 H3 fun Z2 H4=>tt Z2 H4 λb H5=>
   if b=true then tm Z2 H5 fun Z3 H6=>∃m',m'<m/\W (i+1) m' Z3 H6 else ∃m',m'<m/\W (i+1) m' Z2 H5)
section
variable {Y:Cx}{e tg iter:aL}{d:Nat}{cA:List aL}{act:fT Unit}{acc:aa}{g:TG}{tt:TT}{tm:TM}{pins:List (ae×aM)}{Z:St}{H:Hp}{s:ah}{J:It}{fp:List ae}{it:ae}{tn:Nat->ak->Prop}{F:St->Hp->Prop}{R:gA->ah->Prop}
def Xcx(cm:Cm e)(hx:Y.xe=λ_ _=>False)(hc:Y.calm=true)(eq:cM e d (.ref it) acc Y.env=D8 e d tg iter cA act (.ref it) acc Y.env)(hg:PG Y tg g)(ht:PIfs Y cA tt)(hm:PM Y act tm)
  (I:Inv Y pins Z H s) (T:Turn Y.prog Y.w Y.K tg J fp it tn) (h0:tn 0 s.heap) (hf:∀b∈fp,FpOk Y pins H b) (hb:tLp g tt tm J Z H F) (fin:∀Z' H' s',Inv Y pins Z' H' s'->F Z' H'->R (.ok .next) s'):
  bc (ag Y.prog Y.w) Y.A (.compLoop e d (.ref it) acc Y.env) R s:=by
 obtain⟨W,⟨m0,w0⟩,turn⟩:=hb;have i4:∀{H':Hp},(∀b∈fp,H' b=none)->∀b∈fp,FpOk Y pins H' b:=λhn b hb=>⟨hn b hb,(hf b hb).2⟩;refine codeAny_loop rfl (λn s'=>∃i Z1 H2,Inv Y pins Z1 H2 s'/\tn i s'.heap/\(∀b∈fp,H2 b=none)/\W i n Z1 H2) (λn s' hI=>?_) m0 ⟨0, Z,H,I,h0,λb hb=>(hf b hb).1,w0⟩;obtain⟨i, Z1,H2,I',aD,zl,w'⟩:=hI;rw[cm.den1,cm.und1];refine wpAny_noted ?_;rw[eq];have no:∀{α : Type} {t:fT α} {Q : α->ah->Prop} {E':Zb} {s₁ : ah},af (ag Y.prog Y.w) Y.A t Q Y.xe s₁->af (ag Y.prog Y.w) Y.A t Q E' s₁:=λh=>aF h (λ_ _ q=>q) λ_ _ z=>by rw[hx] at z;exact z.elim
 unfold D8;rcases turn i n Z1 H2 w' with ⟨stop,q⟩ | ⟨go,step⟩
 ·refine Sr (aU (Sr (thn (T.done Y rfl rfl rfl hc i pins s' Z1 H2 _ I' (i4 zl) aD stop) λr s1 ⟨hr,I1⟩=>?_)));subst hr;exact Ss (fin Z1 H2 s1 I1 q)
 ·refine Sr (aU (Sr (thn (T.item Y rfl rfl rfl hc i pins s' Z1 H2 _ I' (i4 zl) aD go) λr s1 ⟨u,hr,h4⟩=>?_)));subst hr;refine Sr (thn h4 λ_ s5 ⟨x,H5,I5,r5,y5,oG,vq⟩=>?_);have vt:=I5.pinned (i4 vq) (T.obj _ _ oG);refine Sr (thn (no (hg _ s5 Z1 H5 x u _ vt r5 (step x H5 y5))) λ_ s6 ⟨Z6,H6,I6,q6⟩=>?_);refine Sr (thn (no (ht _ s6 Z6 H6 _ I6 q6)) λb s7 ⟨H7,I7,q7⟩=>?_);have again:∀{s8:ah} {Z8:St} {H8:Hp},Inv Y (pins++Gs fp s5.heap) Z8 H8 s8->(∃m',m'<n/\W (i+1) m' Z8 H8)->∃m,m<n/\∃i Z1 H2,Inv Y pins Z1 H2 s8/\tn i s8.heap/\(∀b∈fp,H2 b=none)/\W i m Z1 H2:=λ{s8 Z8 H8} I8 ⟨m',hm,w8⟩=>by
   refine⟨m',hm,i+1, Z8,H8,I8.unpinned,T.keep _ _ _ oG λb hb o e=>(I8.pin (b,o) (Oo _ (Oo _ (Ie hb e)))).1,λb hb=>?_,w8⟩;obtain⟨o,e,d⟩:=T.obj _ _ oG b hb;exact(I8.pin (b,o) (Oo _ (Oo _ (Ie hb e)))).2.1
  cases b with
  | false=>
   rw[Sx N9] at q7;exact Ss ⟨rfl,again I7 q7⟩
  | true=>
   rw[Sy rfl] at q7;exact Sr (thn (no (hm _ s7 Z6 H7 _ I7 q7)) λ_ s8 ⟨Z8,H8,I8,q8⟩=>Ss ⟨rfl,again I8 q8⟩)
def Xcy      (cm:Cm e) (ip:(el e)[d]? = some cl) (has:cl.is_async=0)
  (h0:bc (ag prog w) A (.compLoop e d nQ acc env) R s)
  (h:af (ag prog w) A (g7 nQ) (λvU s'=>bc (ag prog w) A (.compLoop e d vU acc env) R s') (notedBy (ag prog w) A env λx s'=>R (.error x) s') s):
  bc (ag prog w) A (.compStart e d nQ acc env) R s:=by
 refine dD ?_;rw[cm.den2,cm.und2];refine wpAny_notedAt ?_;unfold LZ;rw[ip];have e1:(Option.elim (some cl) false λx=>x.is_async != 0)=false:=by
  show (cl.is_async != 0)=false;rw[has];rfl
 rw[e1,Sx N9];show af _ A (ask >>= _) _ _ s;refine Sr (aS (wpAny_ite ?_));split
 ·first
   | exact Sr (Ss (Ss (And.intro rfl h0)))
   | exact Ss (And.intro rfl h0)
 ·first
   | exact Sr (aT (Sr (aU (Sr (aF h (λvU s' h'=>Ss (And.intro rfl h')) λ_ _ x=>x)))))
   | (refine Sr (aT ?_);show af _ _ (dh cl.iter.pos >>= _) _ _ s;exact Sr (aU (Sr (aF h (λvU s' h'=>Ss (And.intro rfl h')) λ_ _ x=>x))))
end
def He (te:TE) (D:ae):TM:=fun Z H Q=>te Z H λy H6=>∃ys,H6 D=some (.lst ys)/\ys.length<sizeLine/\Q Z (upd H6 D (.lst (ys++[y])))
def Jb    (he:PE Y eT te):PM Y (do  let _ <-call (.builtin "list.append") [.ref D,<-eval eT Y.env]) (He te D):=by
 k_ne;refine Sr (thn (he pins s Z H _ I h) λyv s8 ⟨y,H8,I8,r8,ys,hD,b7,q8⟩=>?_);exact Sr (thn (Gx (X:=Y) _ s8 Z H8 (.ref D) [y] (.ref D) [yv] (λ_ H9=>Q Z H9) I8 rfl (.cons r8 .nil) ⟨_,ys,y,rfl,rfl,hD,b7,q8⟩) λ_ s9 ⟨_,H9,I9,_,q9⟩=>Ss ⟨Z,H9,I9,q9⟩)
def Xcz (tk tv:TE) (D:ae):TM:=fun Z H Q=>tk Z H λk H1=>tv Z H1 λv H2=>∃kvs ky,k=kV ky/\H2 D=some (.dK kvs)/\kvs.length<sizeLine/\Q Z (upd H2 D (.dK (A8 kvs ky v)))
def Xkn    (hk:PE Y kx tk) (hv:PE Y vx tv):PM Y (do
  let kv <-eval kx Y.env
  let vv <-holding [kv] (eval vx Y.env)
  dh {kx.pos with endLine:=vx.pos.endLine,endCol:=vx.pos.endCol}
  holding [kv,vv] (dictSet D kv vv)) (Xcz tk tv D):=by
 k_ne;refine Sr (thn (hk pins s Z H _ I h) λkv s1 ⟨k,H1,I1,rk,q1⟩=>Sr (aw (thn (hv pins s1 Z H1 _ I1 q1) λvv s2 ⟨v,H2,I2,rv,kvs,ky,ek,hD,hl,q⟩=>Sr (aU (aw ?_)))));subst ek;obtain⟨z,hd,vs,cT,dd⟩:=Xbk I2.hok hD;have hz:vs.length<=sizeLine:=by rw[<-cT.length];exact z
 have pc:(A8 kvs ky v).length<=sizeLine:=by have:=Gy kvs ky v;lia
 refine lJ (knd:=A5 Y.prog Y.w) (hsz:=hz) (Ej rk) dd λh' mw hs=>⟨Z,_,?_,q⟩;have he:∃q,h'.get? D=some q:=let ⟨q,_,_,hq,_⟩:=mw; ⟨q,hq⟩;exact K7 I2 (by rw[hD];exact True.intro) hs he (Xbl pc hd (cT.put ky rv) mw)
def Xc0 (wi:TI) (g:TG) (tt:TT) (tm:TM):TM:=fun Z H Q=>wi Z H λJ H1=>tLp g tt tm J Z H1 Q
def Xko{Y:Cx}{e tg iter:aL}  {d:Nat}      (cm:Cm e)(hx:Y.xe=λ_ _=>False)(hc:Y.calm=true)(ip:(el e)[d]? = some ⟨tg,iter,cA,0⟩)
  (eq:∀it,cM e d it (.ref D) Y.env=D8 e d tg iter cA act it (.ref D) Y.env) (hi:PI Y tg iter wi) (hg:PG Y tg g) (ht:PIfs Y cA tt) (hm:PM Y act tm)
  (hs:∀x,aI iter Y.env x=pure x:=by intro _;rfl):PM Y (do
   let x <-eval iter Y.env
   dh iter.pos
   let x <-aI iter Y.env x
   let _ <-runOwn (.compStart e d (<-holding [x] (g7 x)) (.ref D) Y.env) Y.env) (Xc0 wi g tt tm):=by
 k_ne;refine Sr (thn (hi pins s Z H _ I h) λv s1 h1=>Sr (aU (Sr (fQ (hs v) (Sr (aw (thn h1 λnQ s2 h2=>?_)))))));obtain⟨it,fp,tn,J,H2,ei,I2,T,eE,f2,lp⟩:=h2;subst ei;refine Sr (wpAny_runOwn ?_);have go:∀s3,s3=s2->bc (ag Y.prog Y.w) Y.A (.compLoop e d (.ref it) (.ref D) Y.env) (λr s'=>match r with | .ok _=>∃Z' H',Inv Y pins Z' H' s'/\Q Z' H' | .error e=>False) s3:=by
  rintro s3 rfl;exact Xcx cm hx hc (eq _) hg ht hm I2 T eE f2 lp fun Z' H' s' I' q=>⟨Z',H',I',q⟩
 have st:=Xcy (s:=s2) (R:=λr s'=>match r with | .ok _=>∃Z' H',Inv Y pins Z' H' s'/\Q Z' H' | .error e=>False) cm ip rfl (go s2 rfl) (T.self Y.A 0 s2 _ _ eE (go s2 rfl));refine bw st λr s' hr=>?_;cases r with
 | ok f=>exact Ss hr
 | error e=>exact hr.elim
def Xc1 (cap:List (Option Nat)) (o0:ae->HO) (g:TG) (tt:TT) (tm:ae->TM) (J:It) (Z:St) (H1:Hp) (F:ae->Hp->Prop):Prop:=
 ∀D,H1 D=none->tLp g tt (tm D) J (Bw cap Z) (upd H1 D (o0 D)) λ_ H2=>F D H2
def Xc2 (cap:List (Option Nat)) (o0:HO) (g:TG) (tt:TT) (tm:ae->TM) (J:It) (Z:St) (H1:Hp) (F:ae->Hp->Prop):Prop:=
 ∀D,H1 D=none->tLp g tt (tm D) J (Bw cap Z) (upd H1 D o0) λ_ H2=>F D H2
section
variable {X:Cx}{N:Za}{cap:List (Option Nat)}{scope:cw}{e tg iter:aL}{cA:List aL}{g:TG}{tt:TT}{tm:ae->TM}{E:Zb}{cu:fT aa}{ob:aM}{o0:HO}{o1:ae->HO}{act:ae->Env->fT Unit}
def Xc3(C:CompScope X N cap scope)(bd:X.calm=true)(cm:Cm e)(ip:(el e)[0]? = some ⟨tg,iter,cA,0⟩)
  (fV:∀(s:ah) (Q:Zb) (E':Zb),Q (.ref s.heap.objs.size) {s with heap:=s.heap.push ob}->af (ag X.prog X.w) X.A cu Q E' s)
  (rM:∀pins Z H s,Inv X pins Z H s->Inv X pins Z (upd H s.heap.objs.size (o1 s.heap.objs.size)) {s with heap:=s.heap.push ob})
  (pf:∀it D env,cM e 0 it (.ref D) env=D8 e 0 tg iter cA (act D env) it (.ref D) env)
  (hg:∀s0 H0 ex,PG (X.comp N scope s0 H0 ex) tg g) (ht:∀s0 H0 ex,PIfs (X.comp N scope s0 H0 ex) cA tt) (hm:∀D s0 H0 ex,PM (X.comp N scope s0 H0 ex) (act D (X.comp N scope s0 H0 ex).env) (tm D))         {RR:aa->ae->gA->ah->Prop}
  (I:Inv X pins Z H s) (T:Turn X.prog X.w X.K tg J fp it tn) (h0:tn 0 s.heap) (hf:∀b∈fp,FpOk X pins H b) (hb:Xc1 cap o1 g tt tm J Z H F)
  (fin:∀D L H' s' m,Inv X pins Z H' s'->FpOk X pins H' L->s'.heap.Ns L m->F D H'->RR (.ref D) L (.ok .next) s'):
  af (ag X.prog X.w) X.A cu (λacc s₃=>af (ag X.prog X.w) X.A (gF scope X.env.globals (B9 X.env scope.names []) [] X.env.qual none .none (some X.env)) (λsw s₄=>
   bc (ag X.prog X.w) X.A (.compStart e 0 (.ref it) acc {sw with scope:=relabel scope X.env}) (RR acc sw.locals) s₄) E s₃) E s:=by
 have ph:H s.heap.objs.size=none:=I.hok.fresh (Nr _);have lp:=hb s.heap.objs.size ph;have flt:∀b∈fp,b<s.heap.objs.size:=λb hb=>by
  obtain⟨o,e,_⟩:=T.obj _ _ h0 b hb;exact S7 e
 refine fV s _ _ (Xi2 ?_);have I3:Inv X pins Z (upd H s.heap.objs.size (o1 s.heap.objs.size)) {s with heap:=s.heap.push ob}:=rM pins Z H s I;generalize e3:({s with heap:=s.heap.push ob}:ah)=s3 at I3;have u8:s3.heap=s.heap.push ob:=by rw[<-e3]
 have hsz:s3.heap.objs.size=s.heap.objs.size+1:=by rw[u8,ak.size_push]
 have uB:∀b∈fp,FpOk X pins (upd H s.heap.objs.size (o1 s.heap.objs.size)) b:=λb hb=>by
  obtain⟨f0,f⟩:=hf b hb;exact⟨by rw[Ab (Nz (flt b hb))];exact f0,f⟩
 have pi:∀b∈fp,b<s3.heap.objs.size:=λb hb=>by rw[hsz];exact Po (flt b hb)
 have hk:∀b o,s3.heap.get? b=some o->(bZ (s3.heap.push {cls:=.type "dict",data:=.dict #[]}) scope.names).get? b=some o:=λb o e=>dC _ _ b o (S8 _ e);have IY:=Xi3 (tk:=s3.toks) C I3 uB pi;generalize eY:X.comp N scope s3 (upd H s.heap.objs.size (o1 s.heap.objs.size)) fp=Y at IY;have zm:(s3.heap.push {cls:=.type "dict",data:=.dict #[]}).objs.size=s3.heap.objs.size+1:=ak.size_push ..;have mD:tn 0 (bZ (s3.heap.push {cls:=.type "dict",data:=.dict #[]}) scope.names):=T.keep _ _ _ h0 λb hb o e=>hk b o (by rw[u8];exact S8 _ e);have fY:∀{H':Hp},(∀b∈fp,H' b=none)->∀b∈fp,FpOk Y [] H' b:=λ{H'} hn b hb=>by
  subst eY;obtain⟨_,f1,f2,_,f4,_⟩:=uB b hb;refine⟨hn b hb,Nz (pi b hb),λz=>?_,.inl hb,λx c h=>?_,λp hp=>absurd (show p∈([]:List (ae×aM)) from hp) (by simp)⟩
  ·rcases N4.mp (I3.stkSub b z) with e | e
   ·exact f1 e
   ·exact f2 e
  ·rcases Xbw (s:=s3) C I3.ok zm h with ⟨a,_⟩ | ⟨_,a⟩
   ·exact λz=>Ox _ (Qe a (by rw[z];exact pi b hb))
   ·exact f4 x c a
 have vV:∀s4:ah,s4 = {s3 with heap:=bZ (s3.heap.push {cls:=.type "dict",data:=.dict #[]}) scope.names} ->
   bc (ag X.prog X.w) X.A (.compLoop e 0 (.ref it) (.ref s.heap.objs.size) (rO scope (G0 X scope s3) s3.heap.objs.size X.env))
    (RR (.ref s.heap.objs.size) s3.heap.objs.size) s4:=by
  rintro s4 rfl;have pP:Y.prog=X.prog:=by subst eY;rfl
  have pW:Y.w=X.w:=by subst eY;rfl
  have pK:Y.K=X.K:=by subst eY;rfl
  have pC:Y.calm=true:=by subst eY;exact bd
  have pA:Y.A=X.A:=by subst eY;rfl
  have pE:Y.env=rO scope (G0 X scope s3) s3.heap.objs.size X.env:=by subst eY;rfl
  have pX:Y.xe=λ_ _=>False:=by subst eY;rfl
  have T':Turn Y.prog Y.w Y.K tg J fp it tn:=by rw[pP,pW,pK];exact T
  have go:=Xcx (Y:=Y) (acc:=.ref s.heap.objs.size) (pins:=[]) (R:=RR (.ref s.heap.objs.size) s3.heap.objs.size) cm pX pC (pf _ _ _) (by subst eY;exact hg _ _ _) (by subst eY;exact ht _ _ _) (show PM Y (act s.heap.objs.size Y.env) (tm s.heap.objs.size) by subst eY;exact hm _ _ _ _)
   IY T' mD (fY λb hb=>(uB b hb).1) lp ?_
  ·rw[pP,pW,pA,pE] at go;exact go
  ·intro Z' H2 s1 I1 q;have IX:Inv X pins Z H2 s1:=by
    subst eY;refine I3.call' (ch:=fp) I1.os I1.base I1.hok I1.bare λb hb=>?_;obtain⟨_,f1,_,f3,f4,f5⟩:=uB b hb;exact⟨f3,f1,f4,f5⟩
   have hL:H2 s3.heap.objs.size=none:=by
    have z:=I1.free;rw[pE] at z;exact z
   obtain⟨m,hm,_⟩:=I1.loc;rw[pE] at hm;exact fin s.heap.objs.size s3.heap.objs.size H2 s1 m IX (I3.fpOk (Nr _) hL) hm q
 have lp:=vV _ rfl;have T1:=T.self;subst e3;exact Xcy cm ip rfl lp (T1 X.A 0 _ _ _ mD lp)
structure AccA (X:Cx) (cu:fT aa) (ob:aM) (o1:ae->HO):Prop where
 new:∀(s:ah) (Q:Zb) (E':Zb),Q (.ref s.heap.objs.size) {s with heap:=s.heap.push ob}->af (ag X.prog X.w) X.A cu Q E' s
 lay:∀pins Z H s,Inv X pins Z H s->Inv X pins Z (upd H s.heap.objs.size (o1 s.heap.objs.size)) {s with heap:=s.heap.push ob}
structure Acc (X:Cx) (cu:fT aa) (ob:aM) (o0:HO):Prop where
 new:∀(s:ah) (Q:Zb) (E':Zb),Q (.ref s.heap.objs.size) {s with heap:=s.heap.push ob}->af (ag X.prog X.w) X.A cu Q E' s
 lay:∀pins Z H s,Inv X pins Z H s->Inv X pins Z (upd H s.heap.objs.size o0) {s with heap:=s.heap.push ob}
def Jc:Acc X (newList []) {cls:=.type "list",data:=.seq ([]:List aa).toArray} (.lst []):=⟨λs Q E' h=>aC h,λpins Z H s I=>I.lnew (t':=s.toks) .nil (Ou _)⟩
def Xkp:Acc X newDict {cls:=.type "dict",data:=.dict #[]} (.dK []):=⟨λs Q E' h=>aC h,λpins Z H s I=>I.laid (a:=s.heap.objs.size) (o:=.dK []) (t':=s.toks) (λ_ _ q=>S8 _ q) (Nr _) (Xbo s.heap I.big)⟩
def Xkq (cap:List (Option Nat)) (o0:ae->HO) (wi:TI) (g:TG) (tt:TT) (tm:ae->TM):TE:=fun Z H Q=>wi Z H λJ H1=>Xc1 cap o0 g tt tm J Z H1 λD H2=>Q (.ref D) H2
def Xkr   (ac:AccA X cu ob o1) (he:eval e X.env=comprehension e scope X.env pos cu false (eval iter X.env)) (dF:el e=⟨tg,iter,cA,0⟩::gens)
  (C:CompScope X N cap scope) (bd:X.calm=true) (cm:Cm e) (hi:PI X tg iter wi)
  (pf:∀it D env,cM e 0 it (.ref D) env=D8 e 0 tg iter cA (act D env) it (.ref D) env)
  (hg:∀s0 H0 ex,PG (X.comp N scope s0 H0 ex) tg g) (ht:∀s0 H0 ex,PIfs (X.comp N scope s0 H0 ex) cA tt) (hm:∀D s0 H0 ex,PM (X.comp N scope s0 H0 ex) (act D (X.comp N scope s0 H0 ex).env) (tm D))
  (hs:∀x,aI iter X.env x=pure x):PE X e (Xkq cap o1 wi g tt tm):=by
 k_ne;rw[he];refine iH (use:=none) dF hs (Xbs (Lg C I.ok)) C.kind (λx hx hl=>by rw[C.uniq x hx,hl]) (thn (hi pins s Z H _ I h) λv s1 h1=>thn h1 λnQ s2 h2=>?_);obtain⟨it,fp,tn,J,H2,ei,I2,T,eE,f2,R⟩:=h2;subst ei;refine Xc3 (RR:=λacc L=>compPost (ag X.prog X.w) X.A X.xe none (EP X pins Z Q) acc L) C bd cm (by rw[dF];rfl) ac.new ac.lay pf hg ht hm I2 T eE f2 R ?_;intro D L H' s' m I' fL hm q;refine⟨m,hm,λh' sx=>?_⟩;obtain⟨f0,f1,_,f3,f4,f5⟩:=fL;exact⟨.ref D,H',I'.turned (t':=s'.toks) (λb o hb e=>(sx.2 b hb).trans e) f0 f1 f3 f4 f5,rfl,q⟩
def Lx (cap:List (Option Nat)) (o0:HO) (wi:TI) (g:TG) (tt:TT) (tm:ae->TM):TE:=fun Z H Q=>wi Z H λJ H1=>Xc2 cap o0 g tt tm J Z H1 λD H2=>Q (.ref D) H2
def Ly   (ac:Acc X cu ob o0) (he:eval e X.env=comprehension e scope X.env pos cu false (eval iter X.env)) (dF:el e=⟨tg,iter,cA,0⟩::gens)
  (C:CompScope X N cap scope) (bd:X.calm=true) (cm:Cm e) (hi:PI X tg iter wi)
  (pf:∀it D env,cM e 0 it (.ref D) env=D8 e 0 tg iter cA (act D env) it (.ref D) env)
  (hg:∀s0 H0 ex,PG (X.comp N scope s0 H0 ex) tg g) (ht:∀s0 H0 ex,PIfs (X.comp N scope s0 H0 ex) cA tt) (hm:∀D s0 H0 ex,PM (X.comp N scope s0 H0 ex) (act D (X.comp N scope s0 H0 ex).env) (tm D))
  (hs:∀x,aI iter X.env x=pure x):PE X e (Lx cap o0 wi g tt tm):=
 Xkr (o1:=λ_=>o0) ⟨ac.new,ac.lay⟩ he dF C bd cm hi pf hg ht hm hs
def Xc4 (i:Nat) (cap:List (Option Nat)) (o0:HO) (wi:TI) (g:TG) (tt:TT) (tm:ae->TM):TS:=λD Z H=>wi Z H λJ H1=>Xc2 cap o0 g tt tm J Z H1 λl H2=>D.nx (Z.set i (some (.ref l))) H2
def Xc5     (ac:Acc X cu ob o0) (he:∀use,evalThenUse e X.env use=(do     let _ <-comprehension e scope X.env bD cu false (eval iter X.env) (some use))) (dF:el e=⟨tg,iter,cA,0⟩::gens)
  (C:CompScope X N cap scope) (bd:X.calm=true) (cm:Cm e) (hN:X.N.Nodup) (sE:X.N[i]? = some y) (hy:X.env.scope.names.lookup y=some .local) (hi:PI X tg iter wi)
  (pf:∀it D env,cM e 0 it (.ref D) env=D8 e 0 tg iter cA (act D env) it (.ref D) env)
  (hg:∀s0 H0 ex,PG (X.comp N scope s0 H0 ex) tg g) (ht:∀s0 H0 ex,PIfs (X.comp N scope s0 H0 ex) cA tt) (hm:∀D s0 H0 ex,PM (X.comp N scope s0 H0 ex) (act D (X.comp N scope s0 H0 ex).env) (tm D))
  (sF:cV e (some (.Name y py)) kP.line X.env=pure true) (hs:∀x,aI iter X.env x=pure x):PS X (.Assign [.Name y py] e kP) (Xc4 i cap o0 wi g tt tm):=by
 k_mem;rw[exec_Assign_Name_used _ _ _ _ sF];refine Sr (aU (Sr ?_));rw[he];refine Sr (thn (iH (use:=some (assign (.Name y py) X.env)) (Q:=λ_ s'=>SP X pins D .next s') dF hs (Xbs (Lg C I.ok)) C.kind (λx hx hl=>by rw[C.uniq x hx,hl])
  (thn (hi pins s Z H _ I h) λv s1 h1=>thn h1 λnQ s2 h2=>?_)) (λ_ s' hq=>Ss (Ss hq)))
 obtain⟨it,fp,tn,J,H2,ei,I2,T,eE,f2,R⟩:=h2;subst ei;refine Xc3 (o1:=λ_=>o0) (RR:=λacc L=>compPost (ag X.prog X.w) X.A X.xe (some (assign (.Name y py) X.env)) (λ_ s'=>SP X pins D .next s') acc L) C bd cm (by rw[dF];rfl) ac.new ac.lay pf hg ht hm I2 T eE f2 R ?_;intro l L H' s' m I' fL hm q;obtain⟨f0,f1,_,f3,f4,f5⟩:=fL;show af _ X.A (assign (.Name y py) X.env (.ref l)) _ _ s';refine nP (Kn I' hN sE (.inl hy) (show Ae (.ref l) (.ref l) from rfl) (λs3 I3 ⟨a,sb,ha⟩=>?_) (.inr hy));have DI:L≠a:=by
  rcases ha with rfl | ha
  ·exact f1
  ·exact λz=>f4 y a ha z.symm
 refine⟨m,hm.sameBut sb DI,λh' sx=>?_⟩;exact⟨_,H',I3.turned (t':=s3.toks) (λb o hb e=>(sx.2 b hb).trans e) f0 f1 f3 f4 f5,q⟩
end
def act2 (eT tg iter kQ cD:aL) (cA fF:List aL) (scope:cw) (pos:cF) (D:ae) (env:Env):fT Unit:=do
      let x <-eval cD env
      dh cD.pos
      let x <-aI cD env x
      let _ <-runOwn (.compStart (.ListComp eT [⟨tg,iter,cA,0⟩,⟨kQ,cD,fF,0⟩] scope pos) 1 (<-holding [x] (g7 x)) (.ref D) env) env
def Xks(eT tg iter kQ cD)(cA fF)(scope)(pos)(it)(D)(env):
  cM (.ListComp eT [⟨tg,iter,cA,0⟩,⟨kQ,cD,fF,0⟩] scope pos) 0 it (.ref D) env=D8 (.ListComp eT [⟨tg,iter,cA,0⟩,⟨kQ,cD,fF,0⟩] scope pos) 0 tg iter cA (act2 eT tg iter kQ cD cA fF scope pos D env) it (.ref D) env:=by
 unfold cM D8 act2;k_in;simp only[List.getElem?_cons_zero,List.getElem?_cons_succ,bind_assoc,pure_bind];simp;rfl
section
variable {X:Cx}{N:Za}{cap:List (Option Nat)}{scope:cw}{tg iter kQ cD eT kx vx:aL}{cA fF:List aL}{g g2:TG}{tt zn:TT}{te tk tv:TE}{wi zo:TI}{pos:cF}
def Fg(C:CompScope X N cap scope)(bd:X.calm=true)(hi:PI X tg iter wi)
  (hg:∀s0 H0 ex,PG (X.comp N scope s0 H0 ex) tg g) (ht:∀s0 H0 ex,PIfs (X.comp N scope s0 H0 ex) cA tt) (he:∀s0 H0 ex,PE (X.comp N scope s0 H0 ex) eT te)
  (hs:∀x,aI iter X.env x=pure x:=by intro _;rfl):PE X (.ListComp eT [⟨tg,iter,cA,0⟩] scope pos) (Xi4 cap wi g tt te):=
 Ly (act := fun D env => do let _ <- call (.builtin "list.append") [.ref D, <- eval eT env]) Jc rfl rfl C bd G9 hi (fun it D env => rfl) hg ht (fun D s0 H0 ex => Jb (he s0 H0 ex)) hs
def Jd{i:Nat}  (C:CompScope X N cap scope)(bd:X.calm=true)(hN:X.N.Nodup)(sE:X.N[i]? = some y)(hy:X.env.scope.names.lookup y=some .local)(hi:PI X tg iter wi)
  (hg:∀s0 H0 ex,PG (X.comp N scope s0 H0 ex) tg g) (ht:∀s0 H0 ex,PIfs (X.comp N scope s0 H0 ex) cA tt) (he:∀s0 H0 ex,PE (X.comp N scope s0 H0 ex) eT te)
  (sF:cV (.ListComp eT [⟨tg,iter,cA,0⟩] scope pos) (some (.Name y py)) kP.line X.env=pure true:=by rfl)
  (hs:∀x,aI iter X.env x=pure x:=by intro _;rfl):PS X (.Assign [.Name y py] (.ListComp eT [⟨tg,iter,cA,0⟩] scope pos) kP) (Xi5 i cap wi g tt te):=
 Xc5 (act := fun D env => do let _ <- call (.builtin "list.append") [.ref D, <- eval eT env]) Jc (fun use => rfl) rfl C bd G9 hN sE hy hi (fun it D env => rfl) hg ht (fun D s0 H0 ex => Jb (he s0 H0 ex)) sF hs
def Xc6(C:CompScope X N cap scope)(bd:X.calm=true)(hi:PI X tg iter wi)
  (hg:∀s0 H0 ex,PG (X.comp N scope s0 H0 ex) tg g) (ht:∀s0 H0 ex,PIfs (X.comp N scope s0 H0 ex) cA tt) (hk:∀s0 H0 ex,PE (X.comp N scope s0 H0 ex) kx tk) (hv:∀s0 H0 ex,PE (X.comp N scope s0 H0 ex) vx tv)
  (hs:∀x,aI iter X.env x=pure x:=by intro _;rfl):PE X (.DictComp kx vx [⟨tg,iter,cA,0⟩] scope pos) (Lx cap (.dK []) wi g tt (Xcz tk tv)):=
 Ly Xkp rfl rfl C bd Xkm hi (λit D env=>compTurn_dict kx vx tg iter cA scope pos it D env) hg ht (λD s0 H0 ex=>Xkn (hk s0 H0 ex) (hv s0 H0 ex)) hs
def Xc7(C:CompScope X N cap scope)(bd:X.calm=true)(hi:PI X tg iter wi)
  (hg:∀s0 H0 ex,PG (X.comp N scope s0 H0 ex) tg g) (ht:∀s0 H0 ex,PIfs (X.comp N scope s0 H0 ex) cA tt)
  (fR:∀s0 H0 ex,PI (X.comp N scope s0 H0 ex) kQ cD zo) (vW:∀s0 H0 ex,PG (X.comp N scope s0 H0 ex) kQ g2) (iu:∀s0 H0 ex,PIfs (X.comp N scope s0 H0 ex) fF zn) (he:∀s0 H0 ex,PE (X.comp N scope s0 H0 ex) eT te)
  (hs:∀x,aI iter X.env x=pure x:=by intro _;rfl) (vX:∀s0 H0 ex x,aI cD (X.comp N scope s0 H0 ex).env x=pure x:=by intro _ _ _ _;rfl):
  PE X (.ListComp eT [⟨tg,iter,cA,0⟩,⟨kQ,cD,fF,0⟩] scope pos) (Lx cap (.lst []) wi g tt λD=>Xc0 zo g2 zn (He te D)):=
 Ly (act:=λD env=>act2 eT tg iter kQ cD cA fF scope pos D env) Jc rfl rfl C bd G9 hi (λit D env=>Xks ..) hg ht (λD s0 H0 ex=>Xko (Y:=X.comp N scope s0 H0 ex) (e:=.ListComp eT [⟨tg,iter,cA,0⟩,⟨kQ,cD,fF,0⟩] scope pos) (d:=1) G9 rfl bd rfl (λit=>rfl) (fR s0 H0 ex) (vW s0 H0 ex) (iu s0 H0 ex) (Jb (he s0 H0 ex)) (vX s0 H0 ex)) hs
end
mutual
def DAt (H:Hp):am->V->Prop
 | .none,v=>v = .non
 | .bool b,v=>v = .bl b
 | .int i,v=>v = .int i
 | .str x,v=>v = .str x
 | .list ds,v=>∃p xs,v = .ref p/\H p=some (.lst xs)/\DAll H ds xs
 | .tuple ds,v=>∃p xs,v = .ref p/\H p=some (.tup xs)/\DAll H ds xs
 | .dict _,_=>False
def DAll (H:Hp):List am->List V->Prop
 | [],vs=>vs=[]
 | d::ds,vs=>∃v r,vs=v::r/\DAt H d v/\DAll H ds r
end
mutual
theorem DAt.same{H H':Hp}(s:Same H H'):∀(d:am) (v:V),DAt H d v->DAt H' d v
 | .none,v,h=>by unfold DAt at h ⊢; exact h
 | .bool b,v,h=>by unfold DAt at h ⊢; exact h
 | .int i,v,h=>by unfold DAt at h ⊢; exact h
 | .str x,v,h=>by unfold DAt at h ⊢; exact h
 | .list ds,v,h=>by
  unfold DAt at h ⊢;obtain⟨p,xs,h1,h2,h3⟩:=h;exact⟨p,xs,h1,s _ _ h2,DAll.same s ds xs h3⟩
 | .tuple ds,v,h=>by
  unfold DAt at h ⊢;obtain⟨p,xs,h1,h2,h3⟩:=h;exact⟨p,xs,h1,s _ _ h2,DAll.same s ds xs h3⟩
 | .dict _,v,h=>by unfold DAt at h;exact h.elim
theorem DAll.same{H H':Hp}(s:Same H H'):∀(ds:List am) (vs:List V),DAll H ds vs->DAll H' ds vs
 | [],vs,h=>by unfold DAll at h ⊢; exact h
 | d::ds,vs,h=>by
  unfold DAll at h ⊢;obtain⟨v,r,h1,h2,h3⟩:=h;exact⟨v,r,h1,DAt.same s d v h2,DAll.same s ds r h3⟩
end
def Da:DAll H [] []:=by unfold DAll;rfl
def Dn     (h:DAt H d v) (hs:DAll H ds vs):DAll H (d::ds) (v::vs):=by unfold DAll;exact⟨v,vs,rfl,h,hs⟩
theorem Je   : ∀{ds:List am} {vs:List V},DAll H ds vs->DAt H d v->DAll H (ds++[d]) (vs++[v])
 | [],vs,h,hd=>by
  unfold DAll at h;subst h;exact Dn hd Da
 | e::ds,vs,h,hd=>by
  unfold DAll at h;obtain⟨u,r,rfl,h2,h3⟩:=h;exact Dn h2 (Je h3 hd)
theorem F5:∀{ds:List am} {vs:List V},DAll H ds vs->vs.length=ds.length
 | [],vs,h=>by unfold DAll at h;subst h;rfl
 | e::ds,vs,h=>by
  unfold DAll at h;obtain⟨u,r,rfl,h2,h3⟩:=h;rw[Oe,Oe,F5 h3]
theorem Lz:∀{ds:List am} {vs:List V} {i:Nat} {d:am},DAll H ds vs->ds[i]? = some d->∃v,vs[i]? = some v/\DAt H d v
 | [],vs,i,d,h,e=>by simp at e
 | c::ds,vs,0,d,h,e=>by
  unfold DAll at h;obtain⟨u,r,rfl,h2,h3⟩:=h;simp at e;subst e;exact⟨u,rfl,h2⟩
 | c::ds,vs,i+1,d,h,e=>by
  unfold DAll at h;obtain⟨u,r,rfl,h2,h3⟩:=h;simpa using Lz h3 (by simpa using e)
def L3(row:Za):DAll H (row.map am.str) (row.map V.str):=by
 induction row with
 | nil=>exact Da
 | cons x r ih=>exact Dn (by unfold DAt;rfl) ih
def Xkt(row:List Int):DAll H (row.map am.int) (row.map V.int):=by
 induction row with
 | nil=>exact Da
 | cons x r ih=>exact Dn (by unfold DAt;rfl) ih
def Jf    (h:H p=some (.tup xs)) (hs:DAll H ds xs):DAt H (.tuple ds) (.ref p):=by unfold DAt;exact⟨p,xs,rfl,h,hs⟩
def L4    (h:H p=some (.lst xs)) (hs:DAll H ds xs):DAt H (.list ds) (.ref p):=by unfold DAt;exact⟨p,xs,rfl,h,hs⟩
def Jg   (h:DAt H (.tuple ds) v):∃p xs,v = .ref p/\H p=some (.tup xs)/\DAll H ds xs:=by unfold DAt at h;exact h
section
variable {X:Cx}{pins:List (ae×aM)}{Z:St}{H:Hp}{s:ah}
mutual
theorem D9(I:Inv X pins Z H s):∀(d:am) (v:V) (u:aa),DAt H d v->Ae v u->∃as,Reads s.heap u d as
 | .none,v,u,h,r=>by unfold DAt at h;subst h;cases r;exact⟨_,.none⟩
 | .bool b,v,u,h,r=>by unfold DAt at h;subst h;cases r;exact⟨_,.bool b⟩
 | .int i,v,u,h,r=>by unfold DAt at h;subst h;obtain⟨t,rfl⟩:=r;exact⟨_,.int i t⟩
 | .str x,v,u,h,r=>by unfold DAt at h;subst h;obtain⟨t,rfl⟩:=r;exact⟨_,.str x t⟩
 | .list ds,v,u,h,r=>by
  unfold DAt at h;obtain⟨p,xs,rfl,hp,hs⟩:=h;cases r;obtain⟨aB,rv,pl,hz⟩:=I.list (SqL.of (K:=X.K) hp);obtain⟨as,ra⟩:=L5 I ds xs aB hs rv;obtain⟨o,ho,hc,n,hd⟩:=pl.isList;exact⟨_,.list ho hc hd (by simpa using ra)⟩
 | .tuple ds,v,u,h,r=>by
  unfold DAt at h;obtain⟨p,xs,rfl,hp,hs⟩:=h;cases r;obtain⟨aB,rv,pl,hz⟩:=I.tuple (SqT.of (K:=X.K) hp);obtain⟨as,ra⟩:=L5 I ds xs aB hs rv;obtain⟨o,ho,hc,n,hd⟩:=pl;exact⟨_,.tuple ho hc hd (by simpa using ra)⟩
 | .dict _,v,u,h,r=>by unfold DAt at h;exact h.elim
theorem L5(I:Inv X pins Z H s):∀(ds:List am) (vs:List V) (us:List aa),DAll H ds vs->Vals vs us->∃as,ReadsAll s.heap us ds as
 | [],vs,us,h,r=>by unfold DAll at h;subst h;cases r;exact⟨_,.nil⟩
 | d::ds,vs,us,h,r=>by
  unfold DAll at h;obtain⟨v,vr,rfl,h1,h2⟩:=h;cases r with
  | cons r1 r2=>
   obtain⟨a1,q1⟩:=D9 I d v _ h1 r1;obtain⟨a2,q2⟩:=L5 I ds vr _ h2 r2;exact⟨_,.cons q1 q2⟩
end
def Jh(hu:X.A.units+3<bA):OpR X (aH .Eq) (λx y H Q=>∃d d',DAt H d x/\DAt H d' y/\d.canLay0=true/\d'.canLay0=true/\min d.depth d'.depth<=3/\Q (.bl (am.eqv d d')) H):=by
 k_go;obtain⟨d,d',h1,h2,c1,c2,hd,q⟩:=h;obtain⟨as,ra⟩:=D9 I d x v h1 rx;obtain⟨bs,rb⟩:=D9 I d' y u h2 ry;exact SeqAt.compareEq_reads ra rb c1 c2 (by lia) ⟨.bl _,H,I,rfl,q⟩
def Ji(hu:X.A.units+3<bA):OpR X (aH .NotEq) (λx y H Q=>∃d d',DAt H d x/\DAt H d' y/\d.canLay0=true/\d'.canLay0=true/\min d.depth d'.depth<=3/\Q (.bl (!am.eqv d d')) H):=by
 k_go;obtain⟨d,d',h1,h2,c1,c2,hd,q⟩:=h;obtain⟨as,ra⟩:=D9 I d x v h1 rx;obtain⟨bs,rb⟩:=D9 I d' y u h2 ry;exact SeqAt.compareNe_reads ra rb c1 c2 (by lia) ⟨.bl _,H,I,rfl,q⟩
def Xku(hu:X.A.units+4<bA):OpR X (aH .In) (λx y H Q=>∃d ds,DAt H d x/\DAt H (.list ds) y/\d.canLay0=true/\am.canLayAll0 ds=true/\d.depth<=3/\Q (.bl (ds.any λe=>am.eqv e d)) H):=by
 k_go;obtain⟨d,ds,h1,h2,c1,c2,hd,q⟩:=h;obtain⟨as,ra⟩:=D9 I d x v h1 rx;obtain⟨bs,rb⟩:=D9 I (.list ds) y u h2 ry;exact SeqAt.in_list_reads rb ra c2 c1 (by lia) ⟨.bl _,H,I,rfl,q⟩
end
mutual
def A9:am->Bool
 | .none | .int _=>true
 | .str x=>am.strOk x
 | .list xs | .tuple xs=>Cy xs
 | .bool _ | .dict _=>false
def Cy:List am->Bool
 | []=>true
 | x::xs=>A9 x&&Cy xs
end
mutual
theorem Bm:∀d:am,A9 d=true->d.canLay0=true
 | .none,_=>rfl
 | .int _,_=>rfl
 | .str x,h=>h
 | .list xs,h=>Hf xs h
 | .tuple xs,h=>Hf xs h
 | .bool _,h=>nomatch h
 | .dict _,h=>nomatch h
theorem Hf:∀ds:List am,Cy ds=true->am.canLayAll0 ds=true
 | [],_=>rfl
 | d::ds,h=>by
  have h':(A9 d&&Cy ds)=true:=h;rw[N3] at h';show (d.canLay0&&am.canLayAll0 ds)=true;rw[Bm d h'.1,Hf ds h'.2];rfl
end
mutual
theorem Dp:∀(d d':am),A9 d=true->A9 d'=true->(am.eqv d d'=true↔d=d')
 | .none,d',_,h=>by cases d'<;>simp[am.eqv]
 | .int i,d',_,h=>by cases d'<;>simp_all [am.eqv,A9]
 | .str x,d',_,h=>by cases d'<;>simp_all [am.eqv,A9]
 | .list xs,d',g,h=>by
  cases d' with
  | list ys=>
   have:=L6 xs ys g h;simp only[am.eqv,this,am.list.injEq]
  | _=>simp[am.eqv]
 | .tuple xs,d',g,h=>by
  cases d' with
  | tuple ys=>
   have:=L6 xs ys g h;simp only[am.eqv,this,am.tuple.injEq]
  | _=>simp[am.eqv]
 | .bool _,_,g,_=>nomatch g
 | .dict _,_,g,_=>nomatch g
theorem L6:∀(xs ys:List am),Cy xs=true->Cy ys=true->(am.eqvAll xs ys=true↔xs=ys)
 | [],[],_,_=>by simp[am.eqvAll]
 | [],_::_,_,_=>by simp[am.eqvAll]
 | _::_,[],_,_=>by simp[am.eqvAll]
 | x::xs,y::ys,g,h=>by
  have g':(A9 x&&Cy xs)=true:=g;have h':(A9 y&&Cy ys)=true:=h;rw[N3] at g' h';have e1:=Dp x y g'.1 h'.1;have e2:=L6 xs ys g'.2 h'.2;simp only[am.eqvAll,N3,e1,e2,List.cons.injEq]
end
def Xkv{α : Type}[DecidableEq α](f : α->am)(inj:∀a b,f a=f b->a=b)(a b)(ha:A9 (f a)=true)(hb:A9 (f b)=true):am.eqv (f a) (f b)=decide (a=b):=by
 rw[Pu,Dp _ _ ha hb,decide_eq_true_eq];exact⟨inj a b,λe=>by rw[e]⟩
theorem plainAll_map{α : Type}(f):∀(xs:List α),(∀x∈xs,A9 (f x)=true)->Cy (xs.map f)=true
 | [],_=>rfl
 | x::xs,h=>by
  show (A9 (f x)&&Cy (xs.map f))=true;rw[h x Ny,plainAll_map f xs λy hy=>h y (Nw _ hy)];rfl
section
variable {X:Cx}{tg:aL}
def Xkw (tl:TE):TI:=fun Z H R=>tl Z H λx H1=>∃d kvs,x = .ref d/\((H1 d=some (.dK kvs)/\∀o,R (Itd d o kvs) (upd H1 d (.frz o (.dK kvs)))) \/ ∃o,H1 d=some (.frz o (.dK kvs))/\R (Itd d o kvs) H1)
def F6  (hl:PE X l tl):PI X tg l (Xkw tl):=by
 k_cls;obtain⟨d,kvs,e,q⟩:=q1;subst e;cases r1;rcases q with ⟨hH,q⟩ | ⟨o,hH,q⟩
 ·kt_k
  subst e;exact I2.fpOk (Nr _) (I2.hok.fresh (Nr _))
 ·obtain⟨eu,hok⟩:=(show Av X.prog X.w H1 s1.heap d (.frz o (.dK kvs)) from I1.hok d _ hH);obtain⟨hz,hm,vs,rv,o',es,ep,ho,hex,hd,r⟩:=hok;have eo:o'=o:=by rw[eu] at ho;exact(N5 ho).symm
  subst eo;have aV:kvs.length=vs.length:=Paired.length rv;refine fm (knd:=A5 X.prog X.w) hm ⟨o',es,ho,hex,hd,r⟩ ?_;refine⟨s1.heap.objs.size,[s1.heap.objs.size],_,_,_,rfl,I1.kept (t':=s1.toks) λb o e=>S8 _ e,Lk d _ o' es ep hd kvs (Nz (S7 ho)),⟨_,ak.get?_push_size _ rfl,rfl,by rw[aV];rfl⟩,λb hb=>?_,q⟩;have e:b=s1.heap.objs.size:=by simpa using hb
  subst e;exact I1.fpOk (Nr _) (I1.hok.fresh (Nr _))
end
def hid (D:ae) (H:Hp):Hp:=λb=>if b=D then none else H b
def Eo(D)(H):Same (hid D H) H:=λb o e=>by
 unfold hid at e;split at e
 ·cases e
 ·exact e
def Xc8(D)(H)(o):hid D (upd H D o)=hid D H:=by
 funext b;unfold hid;split
 ·rfl
 ·rename_i h;rw[Ab h]
def Hg{D}(s:Same H H'):Same (hid D H) (hid D H'):=λb o e=>by
 unfold hid at e ⊢;split at e
 ·cases e
 ·rename_i h;rw[Sx h];exact s b o e
def hid_ne   (h:H b=some o) (n:b≠D):hid D H b=some o:=by
 unfold hid;rw[Sx n];exact h
def Xc9     (hD:H D=some o) (np:H p=none) (h:DAll (hid D (upd H p (.tup xs))) ds xs):DAt (hid D (upd H p (.tup xs))) (.tuple ds) (.ref p):=
 Jf (hid_ne Aa (Ao hD np).symm) h
section
variable {tt:TT}{te:TE}{J:It}{Z:St}{H0 H1:Hp}{D:ae}{F:St->Hp->Prop}{j:Nat}{xs0:List V}
def L7(n)(vs:Nat->V)(ok)(vY)(acc)(hH:H0 D=none)(s0:Same H0 H1)(gW:H1 D=some (.lst xs0))(cG:DAll (hid D H1) acc xs0)(zp:acc.length+n<sizeLine)
  (iF:∀i H2,i<n->Same H0 H2->J.go i H2/\∀x H3,J.yld i H2 x H3->H3=H2/\x=vs i)
  (bH:∀H2,Same H0 H2->J.stop n H2)
  (sk:∀(i:Nat) H2 Q,i<n->Same H0 H2->(∀H',Same H2 H'->Q (ok i) H')->tt (Z.set j (some (vs i))) H2 Q)
  (step:∀(i:Nat) xs H2 Q,i<n->ok i=true->Same H0 H2->H2 D=some (.lst xs)->(∀v H',Same H2 H'->DAt (hid D H') (vY i) v->Q v H')->te (Z.set j (some (vs i))) H2 Q)
  (fin:∀Z' H2 xs,(∀v, Z'.set j v = Z.set j v)->Same H0 H2->H2 D=some (.lst xs)->DAll (hid D H2) (acc++((List.range n).filter ok).map vY) xs->F Z' H2):
  tLp (A2 j) tt (He te D) J Z H1 F:=by
 refine⟨wN n λi Z2 H2=>(∀v, Z2.set j v = Z.set j v)/\Same H0 H2/\∃xs,H2 D=some (.lst xs)/\DAll (hid D H2) (acc++((List.range i).filter ok).map vY) xs,⟨n,by simp,Ou _,λ_=>rfl,s0,xs0,gW,by simpa using cG⟩,?_⟩;rintro i m Z1 H2 ⟨rfl,hi,e,s2,xs,hD,d7⟩;by_cases b7:i<n
 ·obtain⟨h1,h2⟩:=iF i H2 b7 s2;refine .inr ⟨h1,λx H3 y=>?_⟩;obtain⟨e1,e2⟩:=h2 x H3 y;subst e1 e2;show tt (Z1.set j (some (vs i))) H3 _;rw[e];refine sk i H3 _ b7 s2 λH4 s4=>?_;have mF:=s2.trans s4;have eU:=s4 _ _ hD;have mG:=DAll.same (Hg (D:=D) s4) _ _ d7;have jP:∀v,(Z.set j (some (vs i))).set j v = Z.set j v:=λv=>by rw[Sq]
  have hl:xs.length<=acc.length+i:=by
   rw[F5 d7,Nx,Np];have:((List.range i).filter ok).length<=i:=Oq (Pb ..) (by rw[Pk];lia)
   lia
  refine Ax (λhk=>?_) (λhk=>?_)
  ·show te (Z.set j (some (vs i))) H4 _;refine step i xs H4 _ b7 hk mF eU λv H5 s5 hv=>?_;refine⟨xs,s5 _ _ eU,by lia,?_⟩;refine wskip b7 ⟨jP,λb u e'=>?_,xs++[v],Aa,?_⟩
   ·rw[Ab (Ao e' hH)];exact s5 _ _ (mF b u e')
   ·rw[Xc8,O5,Og,N2,<-Oi];simp only[Ow,hk,if_true,R5,Op,Sa];exact Je (DAll.same (Hg (D:=D) s5) _ _ mG) hv
  ·refine wskip b7 ⟨jP,mF,xs,eU,?_⟩;rw[O5,Og];simpa [hk] using mG
 ·have ei:i=n:=by lia
  subst ei;exact .inl ⟨bH H2 s2,fin Z1 H2 xs e s2 hD d7⟩
def Xkx(n:Nat)(vs:Nat->V)(acc:Nat->List am)(hH:H0 D=none)(s0:Same H0 H1)(gW:H1 D=some (.lst xs0))(cG:DAll (hid D H1) (acc 0) xs0)(EZ:St->Prop)(hE:EZ Z)
  (iF:∀i H2,i<n->Same H0 H2->J.go i H2/\∀x H3,J.yld i H2 x H3->H3=H2/\x=vs i)
  (bH:∀H2,Same H0 H2->J.stop n H2)
  (step:∀(i:Nat) Z1 xs H2 (Q:St->Hp->Prop),i<n->EZ Z1->Same H0 H2->H2 D=some (.lst xs)->DAll (hid D H2) (acc i) xs->(∀Z' H' iI,EZ Z'->Same H0 H'->H' D=some (.lst iI)->DAll (hid D H') (acc (i+1)) iI->Q Z' H')->tm (Z1.set j (some (vs i))) H2 Q)
  (fin:∀Z' H2 xs,Same H0 H2->H2 D=some (.lst xs)->DAll (hid D H2) (acc n) xs->F Z' H2):
  tLp (A2 j) El tm J Z H1 F:=by
 refine⟨wN n λi Z2 H2=>EZ Z2/\Same H0 H2/\∃xs,H2 D=some (.lst xs)/\DAll (hid D H2) (acc i) xs,⟨n,by simp,Ou _,hE,s0,xs0,gW,cG⟩,?_⟩;rintro i m Z1 H2 ⟨rfl,hi,e,s2,xs,hD,d7⟩;by_cases b7:i<n
 ·obtain⟨h1,h2⟩:=iF i H2 b7 s2;refine .inr ⟨h1,λx H3 y=>?_⟩;obtain⟨e1,e2⟩:=h2 x H3 y;subst e1 e2;unfold A2 El;k_in;rw[Sy rfl];exact step i Z1 xs H3 _ b7 e s2 hD d7 fun Z' H' iI e' s' fz pj=>wskip b7 ⟨e',s',iI,fz,pj⟩
 ·have ei:i=n:=by lia
  subst ei;exact .inl ⟨bH H2 s2,fin Z1 H2 xs s2 hD d7⟩
def Xky(n:Nat)(vs:Nat->V)(acc:Nat->List am)(G:Hp->Prop)(hH:H0 D=none)(s0:Same H0 H1)(g0:G H1)(gW:H1 D=some (.lst xs0))(cG:DAll (hid D H1) (acc 0) xs0)(EZ:St->Prop)(hE:EZ Z)
  (iF:∀i H2,i<n->Same H0 H2->J.go i H2/\∀x H3,J.yld i H2 x H3->H3=H2/\x=vs i)
  (bH:∀H2,Same H0 H2->J.stop n H2)
  (step:∀(i:Nat) Z1 xs H2 (Q:St->Hp->Prop),i<n->EZ Z1->Same H0 H2->G H2->H2 D=some (.lst xs)->DAll (hid D H2) (acc i) xs->(∀Z' H' iI,EZ Z'->Same H0 H'->G H'->H' D=some (.lst iI)->DAll (hid D H') (acc (i+1)) iI->Q Z' H')->tm (Z1.set j (some (vs i))) H2 Q)
  (fin:∀Z' H2 xs,Same H0 H2->G H2->H2 D=some (.lst xs)->DAll (hid D H2) (acc n) xs->F Z' H2):
  tLp (A2 j) El tm J Z H1 F:=by
 refine⟨wN n λi Z2 H2=>EZ Z2/\Same H0 H2/\G H2/\∃xs,H2 D=some (.lst xs)/\DAll (hid D H2) (acc i) xs,⟨n,by simp,Ou _,hE,s0,g0,xs0,gW,cG⟩,?_⟩;rintro i m Z1 H2 ⟨rfl,hi,e,s2,g2,xs,hD,d7⟩;by_cases b7:i<n
 ·obtain⟨h1,h2⟩:=iF i H2 b7 s2;refine .inr ⟨h1,λx H3 y=>?_⟩;obtain⟨e1,e2⟩:=h2 x H3 y;subst e1 e2;unfold A2 El;k_in;rw[Sy rfl];exact step i Z1 xs H3 _ b7 e s2 g2 hD d7 fun Z' H' iI e' s' g' fz pj=>wskip b7 ⟨e',s',g',iI,fz,pj⟩
 ·have ei:i=n:=by lia
  subst ei;exact .inl ⟨bH H2 s2,fin Z1 H2 xs s2 g2 hD d7⟩
end
section
variable {X:Cx}{pos np js:cF}{body:List aP}{b0:aP}{suite:List aP}{x:ao}{Cc:ae}{tb:(ae->St->Hp->Prop)->TS}{th:TS}
end
section
variable {X:Cx}
def Xkz:X.calm=true->Bh X (.builtin "any") (λxs H Q=>∃(a:ae) (bs:List Bool),xs=[.ref a]/\H a=some (.lst (bs.map V.bl))/\Q (.bl (bs.any id)) H):=by
 intro hc pins s Z H xs us Q I r h;obtain⟨a,bs,rfl,ha,q⟩:=h;obtain⟨u,rfl,ru⟩:=B0 r;cases ru;obtain⟨aB,rv,p,hz⟩:=I.list (SqL.of ha);have hl:=rv.length;rw[Np] at hl;refine call_any_walk (cg p.isList ?_);have b7:a≠s.heap.objs.size:=by
  obtain⟨o,ho,_⟩:=p.isList;exact Nz (S7 ho)
 k_all
 ·have hv:aB[i]? = some v:=by simpa using hP
  have hi:i<aB.length:=(N7.mp hv).1;have g:(bs.map V.bl)[i]? = some (.bl (bs[i]'(by lia))):=by
   rw[Oa,Nq (by lia)];rfl
  obtain⟨u,hu,ru⟩:=rv.get g;rw[hv] at hu;cases hu;cases ru;have e:bs.getD i false=bs[i]'(by lia):=by simp[List.getD,(by lia:i<bs.length)]
  have rQ:Q' (bs.getD i false) s':=hQ;rw[e] at rQ;exact aN rQ
 ·refine⟨.bl (bs.any id),H,I.kept (t':=tk) λb o e=>k b o (λz=>?_) (S8 _ e),?_,q⟩
  ·have z':b=s.heap.objs.size:=by simpa using z
   exact absurd (S7 e) (by rw[z'];exact Ox _)
  ·show aa.bool _=aa.bool _;congr 1;rw[Nt,<-hl];rw[Pu,P6,P6];constructor
   ·rintro ⟨j,hj,e⟩;have gu:=O6.mp hj;refine⟨_,Ov gu,?_⟩;simpa [List.getD,gu] using e
   ·rintro ⟨b,hb,e⟩;obtain⟨j,hj,rfl⟩:=Pm.mp hb;exact⟨j,O6.mpr hj,by simpa [List.getD,hj] using e⟩
def Xk0:V->List V->Hp->VK->Prop:=λx vs H Q=>∃l xs y,x = .ref l/\vs=[y]/\H l=some (.lst xs)/\Bk y=true/\xs.all Bk=true/\Q (.int (xs.countP λz=>eqV z y)) H
theorem Xda:∀{xs:List V} {aB:List aa},Vals xs aB->xs.all Bk=true->aB.countP (eqU y)=xs.countP λz=>eqV z y
 | _,_,.nil,_=>rfl
 | _,_,.cons (a:=a) (b:=b) r t,f=>by
  rw[So,N3] at f;rw[Pz,Pz,Xda t f.2,Ik r f.1]
def Xk1:MtM X "list.count" Xk0:=by
 intro pins s Z H x vs v us Q I rx rv h;obtain⟨l,xs,y,rfl,rfl,hH,fy,fs,q⟩:=h;cases rx;obtain⟨u,rfl,ru⟩:=rv.one;obtain⟨z,aB,n,r,hl,e⟩:=I.lstM hH;refine dw F.slot_list_count ⟨_,e,rfl⟩ F.entry_list_count (F.args_list_count_2 _ _) (SeqAt.list_countAt l aB.toArray n _ _ u (eqU y)) ⟨e,λw hw=>E5 ru fy r fs w (by simpa using hw),?_⟩;refine⟨.int _,H,I.tok _,⟨_,rfl⟩,?_⟩;have e2:((aB.toArray.toList.countP (eqU y):Nat):Int)=((xs.countP λz=>eqV z y:Nat):Int):=by rw[<-Xda r fs]
 exact e2 ▸ q
def Xk2:Bh X (.builtin "sorted") (λxs H Q=>∃a ks,xs=[.ref a]/\H a=some (.lst (ks.map V.str))/\ks.length<64/\∀l,H l=none->Q (.ref l) (upd H l (.lst ((srt ks).map V.str)))):=by
 k_asm;obtain⟨a,ks,rfl,ha,d0,q⟩:=h;f_int;obtain⟨aB,rv,pl,hz⟩:=I.list (SqL.of ha);have hl:=rv.length;rw[Np] at hl;refine sorted_strs pl.isList (F0 rv) (by lia) λout qG h1 h2 h3=>?_;obtain⟨e,he⟩:=vZ s.heap aB out;have es:qG=srt ks:=Fc h2 h3;subst es;have hf:H (s.heap.objs.size+1)=none:=I.hok.fresh (Ps _);refine⟨.ref (s.heap.objs.size+1),_,I.laid (t':=s.toks) (h':=pk s.heap aB out) (o:=.lst ((srt ks).map V.str)) (λb ob q=>uC q) (Ps _) ?_,rfl,q _ hf⟩;refine⟨by rw[Np,h2.length_eq,Sw];lia,out.toList,e,Xcj h1,?_⟩;rw[he]
def L8:R2:=λx y H Q=>∃a b xs ys,x = .ref a/\y = .ref b/\H a=some (.tup xs)/\H b=some (.tup ys)/\xs.length+ys.length<=sizeLine/\∀p H',Same H H'->H' p=some (.tup (xs++ys))->Q (.ref p) H'
def Hh:OpR X (bv .Add) L8:=by
 k_go;obtain⟨a,b,xs,ys,rfl,rfl,ha,hb,hz,q⟩:=h;by_cases hx:xs=[]
 ·subst hx;cases rx;cases ry;obtain⟨aB,r1,p1,_⟩:=I.tuple (SqT.of (K:=X.K) ha);obtain⟨gD,r2,p2,_⟩:=I.tuple (SqT.of (K:=X.K) hb);cases r1;obtain⟨⟨cls,dd,data,sl⟩,ho,hc,n,hd⟩:=id p1;obtain⟨⟨rF,l9,data2,nR⟩,jL,gC,n2,du⟩:=id p2;simp only at hc hd gC du;subst hc hd gC du;exact jo ⟨_,ho,rfl⟩ ⟨_,jL,rfl⟩ f9 i5 PySem.F.slot_tuple_add PySem.F.entry_tuple_add (PySem.F.args_tuple_add_2 _ _)
   (tuple_addW0 a b _ _ n n2 dd l9 sl nR (by simp)) ⟨ho,jL,⟨.ref b,H,I,rfl,q b H (Same.refl H) hb⟩⟩
 ·refine Xh6 pins s Z H (.ref a) (.ref b) v u Q I rx ry ⟨a,b,xs,ys,rfl,rfl,SqT.of ha,SqT.of hb,hx,hz,λhy=>?_,λhy p np=>?_⟩
  ·subst hy;exact q a H (Same.refl H) (by rw[Oy];exact ha)
  ·exact q p _ ((Same.refl H).step np) Aa
end
end L2
namespace HT
open PySem.Calls L2
section
variable {prog:ar}{w:aA}{A:av}{E:Zb}{s:ah}
def getItem_tuple_whole    {lo hi} (ht:dA s.heap t ax) (hs:s.heap.IsSliceOf sl vl vu .none) (pl:dO vl lo) (pu:dO vu hi)
  (hw:sIx ax.size 0 lo=0/\sIx ax.size ax.size hi=ax.size) (h:Q (.ref t) s):af (ag prog w) A (cf (.ref t) (.ref sl)) Q E s:=by
 obtain⟨os,fu,oJ,lA⟩:=id hs;have lB:s.TypeIs (.ref sl) "slice" := ⟨os,fu,oJ⟩;unfold cf
 try with_reducible refine aw ?_
 first | refine Sr (Ss ?_) | skip
 refine Sr (fg ht.typeIs (by decide) ?_);refine Sr (bC (name:=ao.ofString "__getitem__") ht.typeIs PyProof.Rows.slot_tuple_getitem
  (aR PyProof.Rows.slot_tuple_getitem ht.typeIs eA ?_ (eK _ _)))
 k_get;refine Sr (Xa6 hs pl pu ?_);have wa:((((sIx ax.size 0 lo:Nat):Int)==0&&(1:Int)==1&&(sIx ax.size ax.size hi - sIx ax.size 0 lo)==ax.size)=true):=by
  rw[hw.1,hw.2];simp
 show af _ _ (if (((sIx ax.size 0 lo:Nat):Int)==0&&(1:Int)==1&&(sIx ax.size ax.size hi - sIx ax.size 0 lo)==ax.size)=true then _ else _) _ _ s;rw[Sy wa];have hx:∀{Q':Bool->ah->Prop},Q' true s->af (ag prog w) A.in1 (aj.Tuple.tupleIsExact (.ref t)) Q' E s:=λ{Q'} q=>by
  unfold aj.Tuple.tupleIsExact;obtain⟨o,ho,hc,n,hd⟩:=ht
  repeat (first | exact Ss q | refine Sr (aX ⟨o,ho,hc⟩ ?_) | refine aX ⟨o,ho,hc⟩ ?_ | wp_step)
 refine Sr (hx ?_);rw[Sy rfl];exact Sr (aT (Sr (Ss (Ss ⟨_,rfl,Ss h⟩))))
def Xk3(n:Nat):aj.Slice.sliceAdjust none none (-1) (n:Int)=((n:Int) - 1, -1):=by
 unfold aj.Slice.sliceAdjust;simp
def Xk4(n:Nat):aj.Slice.slicePlaces ((n:Int) - 1) (-1) (-1)=n:=by
 unfold aj.Slice.slicePlaces;gn_on;by_cases h:(n:Int) - 1 > -1
 ·rw[Sy h,show (- -1:Int)=1 from rfl,Int.ediv_one]
  lia
 ·rw[Sx h]
  lia
def Xk5  {n:Nat}  (hs:s.heap.IsSliceOf sl .none .none (.int (-1) tk))
  (h:Q ((n:Int) - 1, -1,n) s):af (ag prog w) A (aj.Slice.sliceApplied (.ref sl) (pure (n:Int))) Q E s:=by
 obtain⟨os,fu,oJ,lA⟩:=id hs;unfold aj.Slice.sliceApplied aj.Slice.sliceFields;refine Sr (Sr (aZ fu lA (x:=.none) rfl (Sr (aZ fu lA (x:=.none) rfl (Sr (aZ fu lA (x:=.int (-1) tk) rfl (Ss ?_)))))));refine Sr (u6 ?_);show af _ _ (if ((-1:Int)==0)=true then _ else _) _ _ s;gn_on;refine Sr (dP (Sr (dP (Sr (Ss ?_)))));show af _ _ (match aj.Slice.sliceAdjust none none (-1) (n:Int) with | (lo,hi)=>pure (lo,(-1:Int),aj.Slice.slicePlaces lo hi (-1))) _ _ s;rw[Xk3];show af _ _ (pure ((n:Int) - 1,(-1:Int),aj.Slice.slicePlaces ((n:Int) - 1) (-1) (-1))) _ _ s;rw[Xk4];exact Ss h
def Xk6(xs:Array aa):((List.range xs.size).filterMap λ(m:Nat)=>xs[((xs.size:Int) - 1+(m:Int) * -1).toNat]?).toArray=xs.toList.reverse.toArray:=by
 have e:(List.range xs.size).filterMap (λ(m:Nat)=>xs[((xs.size:Int) - 1+(m:Int) * -1).toNat]?)=((List.range xs.size).map λk=>xs.size - 1 - k).filterMap (xs[·]?):=by
  rw[R8];have eg:∀(l:List Nat),(∀m∈l,m<xs.size)->l.filterMap (λ(m:Nat)=>xs[((xs.size:Int) - 1+(m:Int) * -1).toNat]?)=l.filterMap ((λx=>xs[x]?) ∘ λk=>xs.size - 1 - k):=by
   intro l
   induction l with
   | nil=>intro _;rfl
   | cons m l ih=>
    intro hm;have h1:=hm m Ny;have e1:((xs.size:Int) - 1+(m:Int) * -1).toNat=xs.size - 1 - m:=by lia
    rw[O1,O1,ih λx hx=>hm x (Nw _ hx),e1];rfl
  exact eg _ λm hm=>O6.mp hm
 rw[e,PySem.W.krv_range,List.filterMap_reverse,PySem.W.krv_all]
def getItem_tuple_rev    (ht:dA s.heap t ax) (hs:s.heap.IsSliceOf sl .none .none (.int (-1) tk))
  (h:Q (.ref s.heap.objs.size) {s with heap:=s.heap.push {cls:=.type "tuple",data:=.seq ax.toList.reverse.toArray} })
  (hsz:ax.size<=sizeLine):af (ag prog w) A (cf (.ref t) (.ref sl)) Q E s:=by
 have dQ:sizeOk (.seq ax.toList.reverse.toArray):=by
  show ax.toList.reverse.toArray.size<=sizeLine;rw[Nt,Ra,N1];exact hsz
 obtain⟨os,fu,oJ,lA⟩:=id hs;have lB:s.TypeIs (.ref sl) "slice" := ⟨os,fu,oJ⟩;unfold cf
 try with_reducible refine aw ?_
 first | refine Sr (Ss ?_) | skip
 refine Sr (fg ht.typeIs (by decide) ?_);refine Sr (bC (name:=ao.ofString "__getitem__") ht.typeIs PyProof.Rows.slot_tuple_getitem
  (aR PyProof.Rows.slot_tuple_getitem ht.typeIs eA ?_ (eK _ _)))
 k_get;refine Sr (Xk5 hs ?_);have dZ:¬((((ax.size:Int) - 1)==0&&(-1:Int)==1&&ax.size==ax.size)=true):=by
  intro q;rw[N3,N3] at q;exact absurd (eq_of_beq q.1.2) (by decide)
 show af _ _ (if (((ax.size:Int) - 1)==0&&(-1:Int)==1&&ax.size==ax.size)=true then _ else _) _ _ s;rw[Sx dZ,Xk6]
 first
  | exact Sr (m:=aj.Tuple.tupleExact _) (aC (Ss ⟨_,rfl,Ss h⟩) dQ)
  | exact Sr (m:=aj.Tuple.tupleExact _) (aC (Sr (Ss (Ss ⟨_,rfl,Ss h⟩))) dQ)
  | exact Sr (Sr (m:=aj.Tuple.tupleExact _) (aC (Ss (Ss ⟨_,rfl,Ss h⟩)) dQ))
  | exact Sr (Sr (m:=aj.Tuple.tupleExact _) (aC (Ss ⟨_,rfl,Ss h⟩) dQ))
end
end HT
namespace L2
section
variable {X:Cx}{pos p2:cF}{e:aL}{te:TE}
def L9:V->Option Int->Option Int->Hp->VK->Prop:=λx lo hi H Q=>∃a xs,x = .ref a/\H a=some (.tup xs)/\∀p H',Same H H'->H' p=some (.tup (Br xs lo hi))->Q (.ref p) H'
def Hi:SlR X L9:=by
 intro pins s Z H x v vl vu lo hi sl Q I rx hs pl pu h;obtain⟨a,xs,rfl,hx,q⟩:=h;by_cases hw:HT.sIx xs.length 0 lo=0/\HT.sIx xs.length xs.length hi=xs.length
 ·cases rx;obtain⟨aB,r,ht,hz⟩:=I.tuple (SqT.of (K:=X.K) hx);have aV:aB.toArray.size=xs.length:=by rw[Nt];exact r.length.symm
  refine⟨"tuple",_,PyProof.Rows.slot_tuple_getitem.lookup,ht.typeIs,?_⟩;refine HT.getItem_tuple_whole ht hs pl pu (by rw[aV];exact hw) ⟨.ref a,H,I,rfl,q a H (Same.refl H) ?_⟩;unfold Br;rw[hw.1,hw.2,Qs,Sc,O9];exact hx
 ·exact Xh4 pins s Z H (.ref a) v vl vu lo hi sl Q I rx hs pl pu ⟨a,xs,rfl,SqT.of hx,hw,λp np=>q p _ ((Same.refl H).step np) Aa⟩
def Xk7 (te:TE):TE:=fun Z H Q=>te Z H λx H1=>∃a xs,x = .ref a/\H1 a=some (.tup xs)/\∀p,H1 p=none->Q (.ref p) (upd H1 p (.tup xs.reverse))
def Xk8  (he:PE X e te):PE X (.Subscript e (.Slice none none (some (.UnaryOp .USub (.Constant (.int 1) k p3) p4)) p2) pos) (Xk7 te):=by
 k_ne;by_in;obtain⟨t,rfl⟩:=r2;obtain⟨a,xs,ex,hx,q⟩:=q1;subst ex;cases r1;have I4:Inv X pins Z H2 {s2 with heap:=s2.heap.push {cls:=.type "slice",data:=.fields #[.none,.none,.int (-1) t]} }:=I2.kept (t':=s2.toks) λb ob q=>S8 _ q;obtain⟨vF,r4,kK,qA⟩:=I4.tuple (SqT.of (K:=X.K) hx);have aV:=r4.length;refine km (ops:=[.ref a,.ref s2.heap.objs.size]) kK.typeIs PyProof.Rows.slot_tuple_getitem.lookup (HT.getItem_tuple_rev kK (ak.IsSliceOf.new ..) ?_ (by rw[Nt];lia)) (by with_unfolding_all rfl);refine⟨.ref _,_,I4.laid (t':=s2.toks) (o:=.tup xs.reverse) (λb ob q=>S8 _ q) (Nr _) ?_,rfl,q _ (I4.hok.fresh (Nr _))⟩;exact⟨by rw[Ra];exact qA,_,Vals.reverse r4,dA.new _ _⟩
end
section
variable {X:Cx}{es:List aL}{t:L2.St->Hp->(Hp->Prop)->Prop}{e:aL}{te:TE}{pos:cF}
def Xk9 (te:TE) (t:L2.St->Hp->(Hp->Prop)->Prop):L2.St->Hp->(Hp->Prop)->Prop:=fun Z H Q=>te Z H λx H1=>∃(a:ae) (ss:Za),x = .ref a/\H1 a=some (.tup (ss.map V.str))/\ss.length<=24/\(∀z∈ss,z.length<=20/\∀c∈z.cps.toList,c<16 ^ 8)/\t Z H1 Q
theorem Xdb:∀(ss:Za),(∀z∈ss,z.length<=20/\∀c∈z.cps.toList,c<16 ^ 8)->piled (ss.map fr)<=204 * ss.length
 | [],_=>by simp[piled]
 | z::ss,h=>by
  obtain⟨h1,h2⟩:=h z Ny;have:=StrLaws.reprText_len z h2;have ih:=Xdb ss λy hy=>h y (Nw _ hy);rw[Op,piled_cons,Oe]
  lia
def Xla(ts):(ji ts).length<=piled ts+3:=by
 unfold ji;rw[iE,iE];have e1:((("(" : String):ao)).length=1:=rfl;have e3:(((if ts.length==1 then ",)" else ")" : String):ao)).length<=2:=by split<;>decide
 rw[e1];by_cases h:ts=[]
 ·subst h;have:(ao.join ", " []).length=0:=rfl
  lia
 ·have:=join_length_add ts h
  lia
theorem Xdc  : ∀{ss:Za} {us:List aa},(∀z∈ss,z.length<=20/\∀c∈z.cps.toList,c<16 ^ 8)->Vals (ss.map V.str) us->ReprAll P w us (ss.map fr)
 | [],_,_,r=>by cases r;exact .nil
 | z::ss,_,h,r=>by
  cases r with
  | cons r1 r2=>
   obtain⟨tk,rfl⟩:=r1;obtain⟨h1,h2⟩:=h z Ny;have:=StrLaws.reprText_len z h2;exact .cons (ReprIs.str z tk (by rw[Sw];lia)) (Xdc (λy hy=>h y (Nw _ hy)) r2)
def Xlb  (hr:Room k X.A) (ha:PE X e te) (h:PJ X es t) (he:cJ (.FormattedValue e 114 none p::es) X.env=eval (.FormattedValue e 114 none p) X.env::cJ es X.env:=by rfl):PJ X (.FormattedValue e 114 none p::es) (Xk9 te t):=by
 intro out pins s Z H Q I hw hl;rw[he];rw[Oe] at hl;refine gI (ir (thn (ha pins s Z H _ I hw) λv s1 ⟨x,H1,I1,r1,q1⟩=>?_));obtain⟨a,ss,ez,hp,h1,h2,q⟩:=q1;subst ez;cases r1;obtain⟨aB,rv,pl,hz⟩:=I1.tuple (SqT.of (K:=X.K) hp);obtain⟨o,ho,hc,n,hd⟩:=pl;have zb:=Xla (ss.map fr);have vR:=Xdb ss h2;have zm:(ji (ss.map fr)).length<=5000:=by lia
 have qA:(ji (ss.map fr)).length<=sizeLine:=by rw[Sw];lia
 refine wpAny_pyReprObj_tuple (g:=[]) ⟨o,ho,hc⟩ hr.gd (by simp) hr.units0 ho hd (Xdc h2 (by simpa using rv)) (λu tk=>?_) qA;refine qE (λt' k=>⟨by rw[E8];lia,?_⟩) qA;exact h _ pins _ Z H1 Q ((I1.tok _).tok _) q (by rw[E8];lia)
def Xlc:V->List V->Hp->VK->Prop:=λx vs H Q=>∃l xs y j,x = .ref l/\vs=[y]/\H l=some (.lst xs)/\Bk y=true/\xs.all Bk=true/\xs.length<=1000/\(∃z,xs[j]? = some z/\eqV z y=true)/\(∀m z,m<j->xs[m]? = some z->eqV z y=false)/\Q (.int (j:Nat)) H
def Xld:MtM X "list.index" Xlc:=by
 intro pins s Z H x vs v us Q I rx rv h;obtain⟨l,xs,y,j,rfl,rfl,hH,fy,fs,aV,⟨z,hz,DJ⟩,dZ,q⟩:=h;cases rx;obtain⟨u,rfl,ru⟩:=rv.one;obtain⟨zz,aB,n,r,hl,e⟩:=I.lstM hH;have hj:j<xs.length:=(N7.mp hz).1;have zq:j<aB.toArray.size:=by rw[Nt];lia
 have at':∀m (hm:m<aB.toArray.size),∃w,xs[m]? = some w/\eqU y aB.toArray[m]=eqV w y:=λm hm=>by
  rw[Nt] at hm;have g:xs[m]? = some (xs[m]'(by lia)):=Nq (by lia);obtain⟨uu,hu,DK⟩:=r.get g;have e1:aB.toArray[m]=uu:=by
   rw[Rx];rw[Nq hm] at hu;exact N5 hu
  refine⟨_,g,?_⟩;rw[e1];exact Ik DK (Oh.mp fs _ (Ov _))
 refine dw F.slot_list_index ⟨_,e,rfl⟩ F.entry_list_index (F.args_list_index_2 _ _) (SeqAt.list_indexAt l aB.toArray n _ _ u (eqU y) j zq (by lia) ?_ ?_) ⟨e,λw hw=>E5 ru fy r fs w (by simpa using hw),?_⟩
 ·obtain⟨w,h1,h2⟩:=at' j zq;rw[hz] at h1;cases h1;rw[h2];exact DJ
 ·intro m hm DL;obtain⟨w,h1,h2⟩:=at' m hm;rw[h2];exact dZ m w DL h1
 ·exact⟨.int _,H,I.tok _,⟨_,rfl⟩,q⟩
end
def Hj{K}  (sb:NT K (.ref C) (.type "BaseException")=some true)(DM:NT K (.ref S) (.type "BaseException")=some true)(ic:O' K S=true)(ty:OF K (.ref S)=some (.type "type"))(h:NT K (.ref C) (.ref S)=some b):NV K (.ref C) (.ref S)=some b:=by
 unfold NV;rw[DM,Sy (by decide)];exact Xcv ic ty h
end L2
namespace SH
open L2
structure Bl (mg:ao->Option aa):Prop where
 len:mg "len" = none
 range:mg "range" = none
 list:mg "list" = none
 min:mg "min" = none
 isi:mg "isinstance" = none
 all:mg "all" = none
 str:mg "str" = none
 val:mg "ValueError" = none
 sorted:mg "sorted" = none
 set:mg "set" = none
 enum:mg "enumerate" = none
 int:mg "int" = none
 bool:mg "bool" = none
 tuple:mg "tuple" = none
 any:mg "any" = none
 dict:mg "dict" = none
 sum:mg "sum" = none
 max:mg "max" = none
structure DrawOk (H:Hp) (dr sc:ae):Prop where
 ex:∃(ns:List Int) (p:Nat) (c m k:Int),H dr=some (.lst [.ref sc,.int p,.int c,.int m,.int k])/\H sc=some (.lst (ns.map V.int))/\p<=ns.length/\ns.length<=63/\0<=m/\m<1000000007
def Xdd (K:NO):Sp:=λvs H Q _=>∃(a:ae) (ns:List Int),vs=[.ref a]/\SqL K H a (ns.map V.int)/\ns.length<=63/\∀dr sc H',H dr=none->H sc=none->DrawOk H' dr sc->Same H H'->Q (.ref dr) H'
def Xde:Sp:=λvs H Q _=>∃(dr sc:ae) (n:Int),vs=[.ref dr,.int n]/\0<n/\n<=1000/\DrawOk H dr sc /\
 ∀r H',0<=r->r<n->DrawOk H' dr sc->(∀b o,H b=some o->b≠dr->H' b=some o)->Q (.int r) H'
abbrev NP:Za:=["_law_draw", "_law_many", "_law_cell", "_law_got"]
def D5 (H:Hp) (dr sc:ae) (ns:List Int) (p:Nat) (c m k:Int):Prop:=H dr=some (.lst [.ref sc,.int p,.int c,.int m,.int k])/\H sc=some (.lst (ns.map V.int))
def cpow3(h0:0<=m)(h1:m<1000000007):CPow m 3:=⟨by decide,by decide,by lia⟩
def Dq (row:Za) (x:ao) (a b:Nat):Za:=row.take a++[x]++(row.drop a).take (b - a)++[x]++row.drop b
def Xdf(row)(x)(a b)(fS:a<=b):(Dq row x a b).Perm (x::x::row):=by
 unfold Dq;have e:row=row.take a++((row.drop a).take (b - a)++row.drop b):=by
  have e1:row.drop b=(row.drop a).drop (b - a):=by rw[List.drop_drop];congr 1;lia
  rw[e1,Ol,Ol]
 generalize hA:row.take a=A at *;generalize hB:(row.drop a).take (b - a)=B at *;generalize hC:row.drop b=C at *;rw[e];have p1:(A++[x]++B++[x]++C).Perm (x::(A++B++[x]++C)):=by
  have:A++[x]++B++[x]++C=A++x::(B++[x]++C):=by simp
  rw[this];refine Qr.trans ?_;simp
 refine p1.trans (List.Perm.cons x ?_);have:A++B++[x]++C=(A++B)++x::C:=by simp
 rw[this];refine Qr.trans ?_;simp
def Xdg:Sp:=λvs H Q _=>∃(r:ae) (row:Za) (x:ao) (a b:Nat),vs=[.ref r,.str x,.int a,.int b]/\H r=some (.lst (row.map V.str))/\row.length<=1000/\a<=b/\b<=row.length /\
 ∀l H',H l=none->H' l=some (.lst ((Dq row x a b).map V.str))->Same H H'->Q (.ref l) H'
abbrev NPut:Za:=["_law_row_here", "_law_name", "_law_at", "_law_to", "_law_told"]
def A0 (x:ao):Nat->Za->List Int
 | _,[]=>[]
 | n,y::r=>if y=x then (n:Int)::A0 x (n+1) r else A0 x (n+1) r
def plc (row:Za) (x:ao):List Int:=A0 x 0 row
theorem Xdh(x y):∀n r,A0 x n (r++[y])=A0 x n r++(if y=x then [((n+r.length:Nat):Int)] else [])
 | n,[]=>by
  show (if y=x then ((n:Nat):Int)::A0 x (n+1) [] else A0 x (n+1) [])=_;split<;>simp[A0]
 | n,z::r=>by
  have ih:=Xdh x y (n+1) r;show (if z=x then (n:Int)::A0 x (n+1) (r++[y]) else A0 x (n+1) (r++[y]))=(if z=x then (n:Int)::A0 x (n+1) r else A0 x (n+1) r)++_;rw[ih,Oe,show n+1+r.length=n+(r.length+1) by lia];split<;>simp
theorem Jj(x):∀n r,(A0 x n r).length=r.count x
 | _,[]=>rfl
 | n,z::r=>by
  show (if z=x then (n:Int)::A0 x (n+1) r else A0 x (n+1) r).length=_;rw[List.count_cons];split
  ·rename_i e;rw[Oe,Jj,Sy (by simpa using e)]
  ·rename_i e;rw[Jj,Sx (by simpa using e)];rfl
def Ma(row)(x):(plc row x).length=row.count x:=Jj x 0 row
def Mb(r)(x y):plc (r++[y]) x=plc r x++(if y=x then [(r.length:Int)] else []):=by
 have e:=Xdh x y 0 r;rw[P0] at e;exact e
structure Wh (H:Hp) (kvs:List (Key×V)) (row:Za):Prop where
 keys:∀k∈kvs.map (·.1),∃x,k=Sum.inr x/\x∈row
 val:∀x∈row,∃l,Ap kvs (Sum.inr x:Key)=some (.ref l)/\H l=some (.lst ((plc row x).map V.int))
 none:∀x,x∉row->Ap kvs (Sum.inr x:Key)=none
 nd:(kvs.map (·.1)).Nodup
 len:kvs.length<=row.length
def Xdi  {k:Key}  (h:Ap kvs k=some l):(A8 kvs k v).map (·.1)=kvs.map (·.1):=by
 unfold A8;rw[Ei,h,Sy R9,O2];refine Pn λp _=>?_;show (if p.1=k then (p.1,v) else p).1=p.1;split<;>rfl
def Wh.snoc   (w:Wh H kvs row) (y) (l) (hl:H' l=some (.lst ((plc (row++[y]) y).map V.int)))
  (s:∀b xs,H b=some (.lst xs)->H' b=some (.lst xs)):Wh H' (A8 kvs (Sum.inr y) (.ref l)) (row++[y]):=by
 refine⟨λk hk=>?_,λx hx=>?_,λx hx=>?_,?_,?_⟩
 ·by_cases hy:y∈row
  ·obtain⟨l0,e,_⟩:=w.val y hy;rw[Xdi e] at hk;obtain⟨x,e1,e2⟩:=w.keys k hk;exact⟨x,e1,Pl _ e2⟩
  ·rw[Ip _ (w.none y hy),N2] at hk;rcases N0.mp hk with hk | hk
   ·obtain⟨x,e1,e2⟩:=w.keys k hk;exact⟨x,e1,Pl _ e2⟩
   ·exact⟨y,by simpa using hk,by simp⟩
 ·rw[Io];by_cases e:x=y
  ·subst e;exact⟨l,Sy rfl,hl⟩
  ·have iC:x∈row:=by
    rcases N0.mp hx with z | z
    ·exact z
    ·exact absurd (Nv.mp z) e
   obtain⟨l0,e1,e2⟩:=w.val x iC;refine⟨l0,by rw[Sx (λz=>e (Qh z))];exact e1,?_⟩;rw[Mb,Sx (λz=>e z.symm),Oy];exact s _ _ e2
 ·rw[Io];have h1:x∉row:=λz=>hx (Pl _ z);have h2:x≠y:=λz=>hx (by rw[z];simp);rw[Sx (λz=>h2 (Qh z))];exact w.none x h1
 ·by_cases hy:y∈row
  ·obtain⟨l0,e,_⟩:=w.val y hy;rw[Xdi e];exact w.nd
  ·exact Xi1 _ w.nd (w.none y hy)
 ·have:=Gy kvs (Sum.inr y:Key) (.ref l);have:=w.len;rw[Nx,Oz]
  lia
def Mc:Sp:=λvs H Q _=>∃(r:ae) (row:Za),vs=[.ref r]/\H r=some (.lst (row.map V.str))/\row.length<=1000 /\
 ∀d kvs H',H d=none->H' d=some (.dK kvs)->Wh H' kvs row->Same H H'->Q (.ref d) H'
abbrev NWh:Za:=["_law_row_here", "_law_told", "_law_at"]
def inn (a b:Int) (ys:List Int):List Int:=ys.filter λt=>decide (a<t)&&decide (t<b)
def Md(a b)(ys):(inn a b ys).length<=ys.length:=Pb ..
def words3:Za:=["same", "cross", "around"]
def Dr (a b c e:Int) (same:Bool):ao:=
 if (same||decide (0<(inn a b [c,e]).length))=true then words3.getD (inn a b [c,e]).length "apart" else if c<a/\b<e then "within" else "apart"
def spWord:Sp:=λvs H Q _=>∃(d l1 l2:ae) (kvs:List (Key×V)) (x y:ao) (a b c e:Int),vs=[.ref d,.str x,.str y]/\Rd H d (.dK kvs)/\Ap kvs (Sum.inr x:Key)=some (.ref l1)/\Ap kvs (Sum.inr y:Key)=some (.ref l2) /\
 H l1=some (.lst [.int a,.int b])/\H l2=some (.lst [.int c,.int e])/\∀H',Same H H'->Q (.str (Dr a b c e (decide (x=y)))) H'
abbrev NWo:Za:=["_law_where_here", "_law_one", "_law_other", "_law_low", "_law_high", "_law_inner"]
def Rd.same   (r:Rd H d o) (s:Same H H'):Rd H' d o:=by
 rcases r with r | ⟨u,r⟩
 ·exact .inl (s _ _ r)
 ·exact .inr ⟨u,s _ _ r⟩
def DGet.rd     (e:Rd H a (.dK kvs)) (h:Ap kvs (Sum.inr x:Key)=some v):DGet H a (.str x) (some v):=.inl ⟨kvs,Sum.inr x,e,rfl,h.symm⟩
def Xle  (h:row.count x=2):∃a b,plc row x=[a,b]:=by
 have e:=Ma row x;rw[h] at e
 match q:plc row x,e with
 | [a,b],_=>exact⟨a,b,rfl⟩
abbrev NBa:Za:=["_law_row_here", "_law_name", "_law_where_here", "_law_met", "_law_at", "_law_other"]
abbrev NBc:Za:=["_law_one", "_law_name", "_law_where_here"]
abbrev Fh:ao := "kqvzbdgmprtxhnjfwlycsaeiou"
def signOf (i:Nat):ao:=⟨#[(Fh.cps.toList).getD i 0]⟩
def Hk (st:Nat) (aY:Bool) (k:Nat):ao:=
 if aY=true then (repS "m" ((st+k * k) % 7)++signOf ((st+k) % 26)) ++ "y" else signOf ((st+k) % 26)++repS "m" ((st+k * k) % 7)
def Bc (st:Nat) (aY:Bool) (n:Nat):Za:=(List.range n).map (Hk st aY)
def Xlf:∀st<26,∀aY:Bool,(Bc st aY 14).Nodup:=by decide +kernel
def Me{st}  (hs:st<26)(hn:n<=14):(Bc st aY n).Nodup:=by
 refine(Xlf st hs aY).sublist ?_;unfold Bc;refine List.Sublist.map _ ?_;have e:List.range 14=List.range n++(List.range (14 - n)).map (n + ·):=by
  rw[<-List.range_add];congr 1
  lia
 rw[e];exact List.sublist_append_left ..
def But (dr:ae) (H H':Hp):Prop:=∀b o,H b=some o->b≠dr->H' b=some o
def But.trans  (a:But dr H H1) (b:But dr H1 H2):But dr H H2:=λc o e h=>b c o (a c o e h) h
def But.same  (a:But dr H H1) (b:Same H1 H2):But dr H H2:=λc o e h=>b c o (a c o e h)
def But.free   (a:But dr H H') (hd:H' dr=some o) (h:H' b=none):H b=none:=by
 cases q:H b with
 | none=>rfl
 | some u=>
  by_cases e:b=dr
  ·rw[e,hd] at h;cases h
  ·rw[a b u q e] at h;cases h
def But.upd{dr a}{H H'}{o}(x:But dr H H')(h:H a=none):But dr H (L2.upd H' a o):=λb u e hb=>by
 rw[Ab (Ao e h)];exact x b u e hb
def DrawOk.at{H}(d:DrawOk H dr sc):∃xs,H dr=some (.lst xs):=let ⟨_,_,_,_,_,h,_⟩:=d.ex; ⟨_,h⟩
def DrawOk.same  (d:DrawOk H dr sc) (s:Same H H'):DrawOk H' dr sc:=
 let ⟨ns,p,c,m,k,h1,h2,r⟩:=d.ex; ⟨ns,p,c,m,k,s _ _ h1,s _ _ h2,r⟩
def DrawOk.upd{H}{dr sc a}{o}(d:DrawOk H dr sc)(h1:a≠dr)(h2:a≠sc):DrawOk (L2.upd H a o) dr sc:=
 let ⟨ns,p,c,m,k,e1,e2,r⟩:=d.ex; ⟨ns,p,c,m,k,by rw[Ab h1.symm];exact e1,by rw[Ab h2.symm];exact e2,r⟩
def DrawOk.ne  (d:DrawOk H dr sc) (h:H a=none):a≠dr/\a≠sc:=by
 obtain⟨ns,p,c,m,k,e1,e2,r⟩:=d.ex;exact⟨(Ao e1 h).symm,(Ao e2 h).symm⟩
def Xdj:Sp:=λvs H Q _=>∃(dr sc:ae) (n:Nat),vs=[.ref dr,.int n]/\n<=14/\DrawOk H dr sc /\
 ∀l st aY H',H l=none->st<26->H' l=some (.lst ((Bc st aY n).map V.str))->l≠sc->DrawOk H' dr sc->But dr H H'->Q (.ref l) H'
abbrev FnPick (P:ar) (w:aA) (K:NO) (mg:ao->Option aa) (base:ak):Prop:=Fn P w K mg base CX0 1 "_law_pick" ["_law_draw", "_law_many"] Xde
abbrev NNa:Za:=["_law_draw", "_law_many", "_law_base", "_law_start", "_law_late", "_law_told", "_law_k", "_law_sign", "_law_hum"]
def Xlg{i:Nat}(h:i<26):atI Fh.cps.toList (i:Int)=some ((Fh.cps.toList).getD i 0):=by
 have hl:i<Fh.cps.toList.length:=h;refine D1 ?_;rw[Nq hl];simp[List.getD,Nq hl]
def F7(h:l.Nodup){row:Za}(p:row.Perm (l++l)):∀y∈row,row.count y=2:=λy hy=>by
 rw[p.count_eq,Qm];have jQ:y∈l:=by
  rcases N0.mp (p.mem_iff.mp hy) with z | z
  ·exact z
  ·exact z
 have e1:l.count y<=1:=List.nodup_iff_count.mp h y;have e2:0<l.count y:=Sd.mpr jQ
 lia
def Xdk{A row bR:Za}(p:row.Perm (A++A))(q:bR.Perm (x::x::row)):bR.Perm ((A++[x])++(A++[x])):=by
 refine q.trans (((p.cons x).cons x).trans ?_);have e:(A++[x])++(A++[x])=A++x::(A++x::[]):=by simp
 rw[e];refine List.Perm.trans ?_ Qr.symm;refine List.Perm.cons x ?_;have e2:A++(A++x::[])=(A++A)++x::[]:=by simp
 rw[e2];refine List.Perm.trans ?_ Qr.symm;simp
abbrev NRo:Za:=["_law_draw", "_law_names_here", "_law_cut", "_law_row_here", "_law_name", "_law_at", "_law_to", "_law_more"]
def Xse:Sp:=λvs H Q _=>∃(dr sc:ae) (m:Nat),vs=[.ref dr,.int m]/\m<=14/\DrawOk H dr sc /\
 ∀(l:ae) (row:Za) (n st:Nat) (aY:Bool) (H':Hp),H l=none->n<=m->st<26->H' l=some (.lst (row.map V.str))->row.Perm (Bc st aY n++Bc st aY n)->DrawOk H' dr sc->But dr H H'->Q (.ref l) H'
abbrev NIs:Za:=["_law_draw", "_law_most", "_law_few", "_law_many"]
def Hl(K)(T):NS K (.type T) (.type T)=some true:=by
 unfold NS;rw[Sy (beq_self_eq_true _)]
def Mf(row)(x):((List.range row.length).filter λi=>decide (row.getD i ao.empty=x)).map (λi:Nat=>(i:Int))=plc row x:=by
 have go:∀n,n<=row.length->((List.range n).filter λi=>decide (row.getD i ao.empty=x)).map (λi:Nat=>(i:Int))=plc (row.take n) x:=by
  intro n
  induction n with
  | zero=>intro _;rfl
  | succ n ih=>
   intro h;have hn:n<row.length:=by lia
   have e:row.getD n ao.empty=row[n]:=by simp[List.getD,hn]
   rw[O5,Og,N2,ih (by lia),Od hn,Mb,Ow,e,N8,P8 (by lia)];by_cases q:row[n]=x
   ·rw[Sy q,Sy (Sz q)];rfl
   ·rw[Sx q,Sx (by simpa using q)];rfl
 rw[go _ (Nr _),O9]
def okN (x:ao):Prop:=x.length<=20/\∀c∈x.cps.toList,c<0x110000
def spAsk (C:ae):Sp:=λvs H Q E=>∃(r:ae) (row:Za) (x:ao),vs=[.ref r,.str x]/\H r=some (.lst (row.map V.str))/\okN x /\
 (x∈row->∀H',Same H H'->Q .non H')/\(x∉row->∀H',Same H H'->E (.ref C) none H')
def spDitches:Sp:=λvs H Q _=>∃(r:ae) (row:Za),vs=[.ref r]/\H r=some (.lst (row.map V.str))/\row.length<=60 /\
 ∀l H',H l=none->H' l=some (.lst ((dit row).map V.str))->Same H H'->Q (.ref l) H'
def Xdl (C:ae):Sp:=λvs H Q E=>∃(r:ae) (row:Za) (x:ao),vs=[.ref r,.str x]/\H r=some (.lst (row.map V.str))/\okN x/\row.length<=1000 /\
 (x∈row->∃a b,plc row x=[a,b]/\∀l H',H l=none->H' l=some (.tup [.int a,.int b])->Same H H'->Q (.ref l) H')/\(x∉row->∀H',Same H H'->E (.ref C) none H')
abbrev NEn:Za:=["row", "name", "found"]
abbrev NEc:Za:=["at", "end", "name"]
end SH
namespace L2
def Fi(x y):decide (V.str x=V.str y)=decide (x=y):=by
 by_cases z:x=y
 ·rw[z];simp
 ·rw[S0 z,S0 (λq=>z (by injection q))]
def Jk(row:Za):∀v∈row.map V.str,Bk v=true:=λv h=>by
 obtain⟨x,_,rfl⟩:=Oj.mp h;rfl
def Cg{α : Type}(f : α->V)(d : α)(xs:List α)(hi:i<xs.length):(xs.map f).getD i .non=f (xs.getD i d):=by simp[List.getD,hi]
def Xlh{α : Type}(f : α->V)(d : α)(xs:List α)(hi:i<xs.length):atI (xs.map f) (i:Int)=some (f (xs.getD i d)):=by
 refine D1 ?_;rw[Oa,Nq hi];simp[List.getD,hi]
end L2
namespace SH
open L2
def Wh.names   (w:Wh H kvs row):∃ss:Za,kvs.map (·.1)=ss.map (λx=>(Sum.inr x:Key))/\ss.Nodup/\∀x,x∈ss↔x∈row:=by
 have e:∀ks:List Key,(∀k∈ks,∃x,k=Sum.inr x)->∃ss:Za,ks=ss.map (λx=>(Sum.inr x:Key)):=by
  intro ks
  induction ks with
  | nil=>intro _;exact⟨[],rfl⟩
  | cons k r ih=>
   intro h;obtain⟨x,rfl⟩:=h k Ny;obtain⟨ss,rfl⟩:=ih λk hk=>h k (Nw _ hk);exact⟨x::ss,rfl⟩
 obtain⟨ss,hs⟩:=e (kvs.map (·.1)) λk hk=>let ⟨x,h,_⟩:=w.keys k hk; ⟨x,h⟩;have inj:∀x,x∈ss↔(Sum.inr x:Key)∈kvs.map (·.1):=λx=>by
  rw[hs,Oj];constructor
  ·exact λh=>⟨x,h,rfl⟩
  ·rintro ⟨y,hy,e⟩;rw[<-Qh e];exact hy
 refine⟨ss,hs,?_,λx=>?_⟩
 ·have:=w.nd;rw[hs] at this;exact List.Pairwise.of_map _ (λa b fS e=>fS (congrArg _ e)) this
 ·rw[inj];constructor
  ·intro h;obtain⟨y,e,hy⟩:=w.keys _ h;rw[Qh e];exact hy
  ·intro h;obtain⟨l,e,_⟩:=w.val x h;exact Gz e
structure Isl (row:Za):Prop where
 ex:∃n st aY,n<=14/\st<26/\row.Perm (Bc st aY n++Bc st aY n)
def Xdm{st n}  (hn:n<=14)(h:x∈Bc st aY n):x∈Bc st aY 14:=by
 unfold Bc at h ⊢;obtain⟨i,hi,rfl⟩:=Oj.mp h;exact Oj.mpr ⟨i,O6.mpr (by have:=O6.mp hi;lia),rfl⟩
instance (x:ao):Decidable (okN x):=inferInstanceAs (Decidable (_/\_))
def Xli:∀st<26,∀aY:Bool,∀x∈Bc st aY 14,okN x:=by decide +kernel
def Isl.two(h:Isl row):∀y∈row,row.count y=2:=by
 obtain⟨n,st,aY,hn,hs,p⟩:=h.ex;exact F7 (Me hs hn) p
def Isl.len(h:Isl row):row.length<=28:=by
 obtain⟨n,st,aY,hn,hs,p⟩:=h.ex;have:=p.length_eq;unfold Bc at this;simp at this
 lia
def Isl.ok(h:Isl row):∀y∈row,okN y:=λy hy=>by
 obtain⟨n,st,aY,hn,hs,p⟩:=h.ex;refine Xli st hs aY y (Xdm hn ?_);rcases N0.mp (p.mem_iff.mp hy) with z | z<;>exact z
def Bn:Za->ao
 | [] => "noneatal"
 | y::_=>Txt.slice y none (some 7)++ao.ofString "q"
def stranger14:∀st<26,∀aY:Bool,∀y∈Bc st aY 14,okN (Txt.slice y none (some 7)++ao.ofString "q")/\Txt.slice y none (some 7)++ao.ofString "q" ∉ Bc st aY 14:=by decide +kernel
def Isl.stranger(h:Isl row):okN (Bn row)/\Bn row∉row:=by
 cases row with
 | nil=>exact⟨by decide +kernel,by simp⟩
 | cons y r=>
  obtain⟨n,st,aY,hn,hs,p⟩:=h.ex;have sub:∀z∈y::r,z∈Bc st aY 14:=λz hz=>Xdm hn (by rcases N0.mp (p.mem_iff.mp hz) with q | q<;>exact q);obtain⟨h1,h2⟩:=stranger14 st hs aY y (sub y Ny);exact⟨h1,λz=>h2 (sub _ z)⟩
def Xlj(h:okN x):A9 (.str x)=true:=by
 show am.strOk x=true;unfold am.strOk;rw[<-Array.all_toList,Oh];intro c hc;exact Sz (h.2 c hc)
def Xdn   : i∈plc row x ↔ ∃k:Nat,i=k/\row[k]? = some x:=by
 rw[<-Mf,Oj];constructor
 ·rintro ⟨k,hk,rfl⟩;obtain⟨h1,h2⟩:=N6.mp hk;have iB:=O6.mp h1;refine⟨k,rfl,?_⟩;have:=S5 h2;rw[Nq iB];simpa [List.getD,iB] using this
 ·rintro ⟨k,rfl,hk⟩;have iB:k<row.length:=(N7.mp hk).1;refine⟨k,N6.mpr ⟨O6.mpr iB,Sz ?_⟩,rfl⟩;simp[List.getD,hk]
def Xlk(row)(x):(plc row x).Pairwise (· < ·):=by
 rw[<-Mf,Rp];refine List.Pairwise.imp ?_ (Ry _ (List.pairwise_lt_range (n:=row.length)));intro a b h
 lia
def pl (row:Za) (x:ao):Int×Int:=((plc row x).getD 0 0,(plc row x).getD 1 0)
def Xdo   (h:plc row x=[a,b]):pl row x=(a,b):=by
 unfold pl;rw[h];rfl
def Fj  (h:row.count x=2):plc row x=[(pl row x).1,(pl row x).2]:=by
 obtain⟨a,b,e⟩:=Xle h;rw[Xdo e,e]
def Ca  (h:row.count x=2):(pl row x).1<(pl row x).2:=by
 have h1:=Xlk row x;rw[Fj h] at h1;simpa using h1
def Fl  (hx:row.count x=2) (hy:row.count y=2) (n:x≠y):(pl row x).1≠(pl row y).1/\(pl row x).1≠(pl row y).2/\(pl row x).2≠(pl row y).1/\(pl row x).2≠(pl row y).2:=by
 have eg:∀i,i∈plc row x->i∈plc row y->False:=λi h1 h2=>by
  obtain⟨k,e1,g1⟩:=Xdn.mp h1;obtain⟨m,e2,g2⟩:=Xdn.mp h2;have:k=m:=by lia
  subst this;rw[g1] at g2;exact n (N5 g2)
 rw[Fj hx,Fj hy] at eg;refine⟨λe=>eg (pl row x).1 (by simp) (by rw[e];simp),λe=>eg (pl row x).1 (by simp) (by rw[e];simp),λe=>eg (pl row x).2 (by simp) (by rw[e];simp),λe=>eg (pl row x).2 (by simp) (by rw[e];simp)⟩
def nIn (a b:Int) (ys:List Int):Nat:=(inn a b ys).length
def B2(a b c e):nIn a b [c,e]=(if a<c/\c<b then 1 else 0)+(if a<e/\e<b then 1 else 0):=by
 unfold nIn inn;simp only[Ow,R5,N3,decide_eq_true_eq];split<;>split<;>rfl
def lieT (a b c e:Int):ao:=if a=c/\b=e then "same" else if nIn c e [a,b]=1 then "cross" else if nIn c e [a,b]=2 then "within" else if nIn a b [c,e]=2 then "around" else "apart"
def Xll(h1:a<b)(h2:c<e)(n1:a≠c)(n2:a≠e)(n3:b≠c)(n4:b≠e):lieT a b c e=Dr a b c e false:=by
  unfold lieT Dr;rw[Sx (λz=>n1 z.1)];have e1:=B2 a b c e;have e2:=B2 c e a b;have e3:(inn a b [c,e]).length=nIn a b [c,e]:=rfl;rw[e3];generalize nIn a b [c,e]=p at *;generalize nIn c e [a,b]=q at *;by_cases p1:a<c/\c<b<;>by_cases p2:a<e/\e<b<;>by_cases q1:c<a/\a<e<;>by_cases q2:c<b/\b<e <;>
    (first | rw[Sy p1] at e1 | rw[Sx p1] at e1)<;>(first | rw[Sy p2] at e1 | rw[Sx p2] at e1) <;>
    (first | rw[Sy q1] at e2 | rw[Sx q1] at e2)<;>(first | rw[Sy q2] at e2 | rw[Sx q2] at e2)<;>subst e1 e2<;>first
    | (exfalso;lia)
    | rfl
    | (have hw:(c<a/\b<e):=by lia
       rw[Sy hw];rfl)
    | (have hw:¬(c<a/\b<e):=by lia
       rw[Sx hw];rfl)
def Xlm:lieT a b a b=Dr a b a b true:=by
 unfold lieT Dr;rw[Sy ⟨rfl,rfl⟩,Bool.true_or,Sy rfl];have e1:=B2 a b a b;have e3:(inn a b [a,b]).length=nIn a b [a,b]:=rfl;rw[e3,e1,Sx (by lia),Sx (by lia)];rfl
def lieR (row:Za) (x y:ao):ao:=lieT (pl row x).1 (pl row x).2 (pl row y).1 (pl row y).2
def F8  (hx:row.count x=2) (hy:row.count y=2):lieR row x y=Dr (pl row x).1 (pl row x).2 (pl row y).1 (pl row y).2 (decide (x=y)):=by
 unfold lieR;by_cases n:x=y
 ·subst n;rw[Sz rfl];exact Xlm
 ·rw[S0 n];obtain⟨n1,n2,n3,n4⟩:=Fl hx hy n;exact Xll (Ca hx) (Ca hy) n1 n2 n3 n4
def crs (row:Za):List (ao×ao):=(dit row).flatMap λx=>((dit row).filter λy=>decide (ltS x y)&&decide (lieR row x y = "cross")).map λy=>(x,y)
def prD (p:ao×ao):am:=.tuple [.str p.1,.str p.2]
structure Spn (H:Hp) (kvs:List (Key×V)) (row:Za) (ns:Za):Prop where
 keys:kvs.map (·.1)=ns.map (λx=>(Sum.inr x:Key))
 val:∀x∈ns,∃l,Ap kvs (Sum.inr x:Key)=some (.ref l)/\H l=some (.tup [.int (pl row x).1,.int (pl row x).2])
def Spn.mono   (s:Spn H kvs row ns) (h:Same H H'):Spn H' kvs row ns:=⟨s.keys,λx hx=>let ⟨l,h1,h2⟩:=s.val x hx; ⟨l,h1,h _ _ h2⟩⟩
end SH
namespace L2
open PySem
def hu3  (hr:Room k A):A.units+3<bA:=by have:=hr.units;lia
def hu4  (hr:Room k A):A.units+4<bA:=by have:=hr.units;lia
end L2
namespace SH
open L2
structure Row2 (row:Za):Prop where
 two:∀y∈row,row.count y=2
 ok:∀y∈row,okN y
 len:row.length<=60
def Isl.row2(h:Isl row):Row2 row:=⟨h.two,h.ok,by have:=h.len;lia⟩
def spSpans:Sp:=λvs H Q _=>∃(r:ae) (row:Za),vs=[.ref r]/\H r=some (.lst (row.map V.str))/\Row2 row /\
 ∀d kvs H',H d=none->H' d=some (.dK kvs)->Spn H' kvs row (dit row)->Same H H'->Q (.ref d) H'
def Lie4 (a b c e:Int):Prop:=c<=e/\(b=e->a=c)
def lie4  (hx:row.count x=2) (hy:row.count y=2):Lie4 (pl row x).1 (pl row x).2 (pl row y).1 (pl row y).2:=
 ⟨Int.le_of_lt (Ca hy),λe=>by
  by_cases n:x=y
  ·rw[n]
  ·exact absurd e (Fl hx hy n).2.2.2⟩
def Xln(n:¬(a=c/\b=e))(h:((decide (c<a)&&decide (a<e))==(decide (c<b)&&decide (b<e)))=false):lieT a b c e = "cross" := by
 unfold lieT;rw[Sx n,Sy];rw[B2];rw[<-Bool.decide_and,<-Bool.decide_and] at h;by_cases q1:c<a/\a<e<;>by_cases q2:c<b/\b<e<;>simp[q1,q2] at h ⊢
def Xlo(n:¬(a=c/\b=e))(h:((decide (c<a)&&decide (a<e))==(decide (c<b)&&decide (b<e)))=true)(h2:(decide (c<a)&&decide (a<e))=true):lieT a b c e = "within" := by
 unfold lieT;rw[h2,beq_iff_eq] at h;simp only[N3,decide_eq_true_eq] at h2;have h3:c<b/\b<e:=by simpa using h.symm
 rw[Sx n,B2,Sy h2,Sy h3,Sx (by decide),Sy rfl]
def Xlp(l:Lie4 a b c e)(n:¬(a=c/\b=e))(h:((decide (c<a)&&decide (a<e))==(decide (c<b)&&decide (b<e)))=true)(h2:(decide (c<a)&&decide (a<e))=false):lieT a b c e=if (decide (a<c)&&decide (c<b))=true then "around" else "apart" := by
 unfold lieT;rw[h2,beq_iff_eq] at h;have h2:¬(c<a/\a<e):=λz=>by rw[Sz z.1,Sz z.2] at h2;cases h2
 have h3:¬(c<b/\b<e):=λz=>by rw[Sz z.1,Sz z.2] at h;cases h
 rw[Sx n,B2,Sx h2,Sx h3,Sx (by decide),Sx (by decide),B2];obtain⟨l1,l2⟩:=l;have eg:a<c/\c<b->a<e/\e<b:=λz=>by
  have:b≠e:=λq=>n ⟨l2 q,q⟩
  lia
 by_cases q:a<c/\c<b
 ·rw[Sy q,Sy (eg q),Sy rfl,Sy (by simp[q])]
 ·rw[Sx q,Sx (by split<;>decide),Sx (by simpa using q)]
def spLieOf:Sp:=λvs H Q _=>∃(p q:ae) (a b c e:Int),vs=[.ref p,.ref q]/\H p=some (.tup [.int a,.int b])/\H q=some (.tup [.int c,.int e])/\Lie4 a b c e/\∀H',Same H H'->Q (.str (lieT a b c e)) H'
def Mg    {x y z} (ha:∀Q':VK,Q' (.int x) H->ta Z H Q') (hb:∀Q':VK,Q' (.int y) H->tb Z H Q') (hc:∀Q':VK,Q' (.int z) H->tc Z H Q') (h:Q (.bl (decide (x<y)&&decide (y<z))) H):
  Kw (rI0 λi j=>.bl (decide (i<j))) (rI0 λi j=>.bl (decide (i<j))) ta tb tc Z H Q:=by
 refine ha _ (hb _ ⟨x,y,rfl,rfl,_,rfl,?_⟩);refine Ax (λq=>hc _ ⟨y,z,rfl,rfl,?_⟩) (λq=>?_)
 ·rw[q,Pi] at h;exact h
 ·rw[q,Pf] at h;exact h
def Xdp:Sp:=λvs H Q _=>∃(r:ae) (row:Za),vs=[.ref r]/\H r=some (.lst (row.map V.str))/\Row2 row /\
 ∀l xs H',H l=none->H' l=some (.lst xs)->DAll (hid l H') ((crs row).map prD) xs->Same H H'->Q (.ref l) H'
abbrev NSp:Za:=["name", "row"]
abbrev NLo:Za:=["here", "there", "first", "last"]
abbrev NCr:Za:=["row", "span"]
abbrev NCc:Za:=["one", "other", "span"]
def Spn.snoc     (s:Spn H kvs row ns) (nx:x∉ns) (h:H' l=some (.tup [.int (pl row x).1,.int (pl row x).2])) (k:∀b xs,H b=some (.tup xs)->H' b=some (.tup xs)):
  Spn H' (A8 kvs (Sum.inr x) (.ref l)) row (ns++[x]):=by
 have hn:Ap kvs (Sum.inr x:Key)=none:=by
  cases e:Ap kvs (Sum.inr x:Key) with
  | none=>rfl
  | some v=>
   exfalso;have:=Gz e;rw[s.keys] at this;obtain⟨y,hy,e2⟩:=Oj.mp this;rw[Qh e2] at hy;exact nx hy
 refine⟨by rw[Ip _ hn,N2,N2,s.keys];rfl,λy hy=>?_⟩;rw[Io];by_cases e:y=x
 ·subst e;exact⟨l,Sy rfl,h⟩
 ·have jQ:y∈ns:=by
   rcases N0.mp hy with z | z
   ·exact z
   ·exact absurd (Nv.mp z) e
  obtain⟨l0,h1,h2⟩:=s.val y jQ;exact⟨l0,by rw[Sx (λz=>e (Qh z))];exact h1,k _ _ h2⟩
def Spn.get    {x} (s:Spn H kvs row ns) (hd:Rd H d (.dK kvs)) (hx:x∈ns):∃l,DGet H d (.str x) (some (.ref l))/\H l=some (.tup [.int (pl row x).1,.int (pl row x).2]):=by
 obtain⟨l,h1,h2⟩:=s.val x hx;exact⟨l,DGet.rd hd h1,h2⟩
def Spn.at{H}{kvs}(s:Spn H kvs row ns)(i)(hi:i<ns.length):(kvs.map λp=>kV p.1).getD i .non = .str (ns.getD i ao.empty):=by
 have e:(kvs.map λp=>kV p.1)=ns.map V.str:=by
  have:(kvs.map λp=>kV p.1)=(kvs.map (·.1)).map kV:=by rw[O2];rfl
  rw[this,s.keys,O2];rfl
 rw[e];exact Cg V.str ao.empty ns hi
def Spn.len   (s:Spn H kvs row ns):kvs.length=ns.length:=by
 have:=congrArg List.length s.keys;simpa using this
def Cb{ns:Za}(hi:i<ns.length):ns.getD i ao.empty∈ns:=by
 have:ns.getD i ao.empty=ns[i]:=by simp[List.getD,hi]
 rw[this];exact Ov hi
def Wh.two'    (w:Wh H kvs row) (hx:x∈row) (h:row.count x=2):∃l,Ap kvs (Sum.inr x:Key)=some (.ref l)/\H l=some (.lst [.int (pl row x).1,.int (pl row x).2]):=by
 obtain⟨l,h1,h2⟩:=w.val x hx;rw[Fj h] at h2;exact⟨l,h1,h2⟩
theorem F9:∀{ss:Za} {xs:List V},DAll H (ss.map am.str) xs->xs=ss.map V.str
 | [],xs,h=>by unfold List.map DAll at h;exact h
 | s::ss,xs,h=>by
  rw[Op] at h;unfold DAll at h;obtain⟨v,r,rfl,h1,h2⟩:=h;unfold DAt at h1;rw[h1,F9 h2];rfl
def spStranger:Sp:=λvs H Q _=>∃(r:ae) (row:Za),vs=[.ref r]/\H r=some (.lst (row.map V.str))/\(∀y∈row,y.length<=20)/\∀H',Same H H'->Q (.str (Bn row)) H'
def spTuple:Sp:=λvs H Q _=>∃(v:V) (ss:Za),vs=[v]/\DAt H (.tuple (ss.map am.str)) v/\ss.length<=1000/\∀H',Same H H'->Q (.bl true) H'
def Bs (iw:ao) (lK:Bool):Bool:=if iw = "within" then lK else (!decide (iw = "apart") || !lK)
def told (ss:Za):Za:=srt (ddup ss)
def Ag (row plot:Za):Bool:=decide (plot=told plot)&&plot.all (λx=>decide (x∈row))&&plot.all λx=>(dit row).all λy=>Bs (lieR row x y) (decide (y∈plot))
def trD (t:ao×ao×ao):am:=.tuple [.str t.1,.str t.2.1,.str t.2.2]
def Ch (row:Za) (x y:ao):Bool:=decide (lieR row x y = "within")||(decide (lieR row x y = "apart")&&decide (ltS x y))
def bars (row:Za):List (ao×ao×ao):=(dit row).flatMap λx=>((dit row).filter (Ch row x)).map λy=>(x,y,lieR row x y)
def Ck (bs:List (ao×ao×ao)) (plot:Za):Bool:=bs.all λt => !(decide (t.1∈plot) && !decide (decide (t.2.1∈plot)=decide (t.2.2 = "within")))
def Ep (row plot:Za):Bool:=decide (plot=(dit row).filter λy=>decide (y∈plot))&&Ck (bars row) plot
def Xlq(h1:a<b)(h2:c<e)(n1:a≠c)(n2:a≠e)(n3:b≠c)(n4:b≠e)(h:lieT a b c e = "apart"):lieT c e a b = "apart" := by
 unfold lieT at h ⊢;rw[Sx (λz=>n1 z.1)] at h;rw[Sx (λz=>n1 z.1.symm)];have e1:=B2 a b c e;have e2:=B2 c e a b;generalize nIn a b [c,e]=p at *;generalize nIn c e [a,b]=q at *;by_cases p1:a<c/\c<b<;>by_cases p2:a<e/\e<b<;>by_cases q1:c<a/\a<e<;>by_cases q2:c<b/\b<e <;>
  (first | rw[Sy p1] at e1 | rw[Sx p1] at e1)<;>(first | rw[Sy p2] at e1 | rw[Sx p2] at e1) <;>
  (first | rw[Sy q1] at e2 | rw[Sx q1] at e2)<;>(first | rw[Sy q2] at e2 | rw[Sx q2] at e2)<;>subst e1 e2<;>first
  | (exfalso;lia)
  | rfl
  | (exfalso;revert h;decide +kernel)
def Xlr  (hx:row.count x=2) (hy:row.count y=2) (h:lieR row x y = "apart"):lieR row y x = "apart" := by
 by_cases n:x=y
 ·subst n;exact h
 ·obtain⟨n1,n2,n3,n4⟩:=Fl hx hy n;exact Xlq (Ca hx) (Ca hy) n1 n2 n3 n4 h
def Jl(row)(x):lieR row x x = "same" := by
 unfold lieR lieT;rw[Sy ⟨rfl,rfl⟩]
def Mh{l:Za}(h:l.Pairwise ltS):l.Pairwise leS:=h.imp λh=>Xkg h
def Ea{l:Za}(h:l.Pairwise ltS):l.Nodup:=h.imp λh=>G6 h
def Jm(h:l.Nodup):(ddup l).Perm l:=G7 (G4 l) h (Lo l)
def Jn(h:l.Pairwise ltS):told l=l:=Fb ((Cw _).trans (Jm (Ea h))) (D6 _) (Mh h)
def Mi(l):(told l).Pairwise ltS:=D7 l
def Xdq  : x∈told l↔x∈l:=Ai
def Mj:(plot=(dit row).filter λy=>decide (y∈plot))↔(plot=told plot/\∀x∈plot,x∈row):=by
 constructor
 ·intro h;have hp:plot.Pairwise ltS:=by
   rw[h];exact(D7 row).filter _
  refine⟨(Jn hp).symm,λx hx=>?_⟩;rw[h] at hx;exact Ai.mp (N6.mp hx).1
 ·rintro ⟨h1,h2⟩;have hp:plot.Pairwise ltS:=by rw[h1];exact Mi plot
  have hq:((dit row).filter λy=>decide (y∈plot)).Pairwise ltS:=(D7 row).filter _;refine Fb (G7 (Ea hp) (Ea hq) λx=>?_) (Mh hp) (Mh hq);rw[N6,decide_eq_true_eq,Ai];exact⟨λh=>⟨h2 x h,h⟩,λh=>h.2⟩
def Jo  : t∈bars row↔t.1∈row/\t.2.1∈row/\Ch row t.1 t.2.1=true/\t.2.2=lieR row t.1 t.2.1:=by
 unfold bars;rw[List.mem_flatMap];constructor
 ·rintro ⟨x,hx,h⟩;obtain⟨y,hy,rfl⟩:=Oj.mp h;obtain⟨h1,h2⟩:=N6.mp hy;exact⟨Ai.mp hx,Ai.mp h1,h2,rfl⟩
 ·rintro ⟨h1,h2,h3,h4⟩;refine⟨t.1,Ai.mpr h1,Oj.mpr ⟨t.2.1,N6.mpr ⟨Ai.mpr h2,h3⟩,?_⟩⟩;rw[<-h4]
def Jp(h:∀y∈row,row.count y=2):Ep row plot=Ag row plot:=by
 unfold Ep Ag;by_cases hp:plot=(dit row).filter λy=>decide (y∈plot)
 ·obtain⟨p1,p2⟩:=Mj.mp hp;have e1:plot.all (λx=>decide (x∈row))=true:=Oh.mpr λx hx=>Sz (p2 x hx);rw[Sz hp,Sz p1,e1,Pi,Pi];show Ck (bars row) plot=(true&&_);rw[Pi,Pu];unfold Ck;rw[Oh,Oh];constructor
  ·intro hf x hx;rw[Oh];intro y hy;have pq:=Ai.mp hy;unfold Bs;by_cases hw:lieR row x y = "within"
   ·rw[Sy hw];have:=hf (x,y,lieR row x y) (Jo.mpr ⟨p2 x hx,pq,by unfold Ch;rw[Sz hw];rfl,rfl⟩);simpa [hx,hw] using this
   ·rw[Sx hw];by_cases ha:lieR row x y = "apart"
    ·have fB:x≠y:=λz=>by
      rw[z,Jl] at ha
      revert ha
      decide
     have zr:=Xlr (h x (p2 x hx)) (h y pq) ha;have eg:y∉plot:=λlL=>by
      rcases Ls x y with hle | hle
      ·have b7:=ltS_of hle fB;have:=hf (x,y,lieR row x y) (Jo.mpr ⟨p2 x hx,pq,by unfold Ch;rw[Sz ha,Sz b7,Rg,Se],rfl⟩);rw[ha] at this;simp[hx,lL] at this
       revert this
       decide
      ·have b7:=ltS_of hle (λz=>fB z.symm);have:=hf (y,x,lieR row y x) (Jo.mpr ⟨pq,p2 x hx,by unfold Ch;rw[Sz zr,Sz b7,Rg,Se],rfl⟩);rw[zr] at this;simp[hx,lL] at this
       revert this
       decide
     rw[S0 eg];simp
    ·rw[S0 ha];rfl
  ·intro hf t ht;obtain⟨h1,h2,h3,h4⟩:=Jo.mp ht;by_cases hx:t.1∈plot
   ·have:=hf t.1 hx;rw[Oh] at this;have:=this t.2.1 (Ai.mpr h2);rw[h4];unfold Bs at this;by_cases hw:lieR row t.1 t.2.1 = "within"
    ·rw[Sy hw] at this;simp[hw,S5 this]
    ·rw[Sx hw] at this;have ha:lieR row t.1 t.2.1 = "apart" := by
      unfold Ch at h3;rw[S0 hw,Bool.false_or,N3] at h3;exact S5 h3.1
     rw[ha] at this;have hn:t.2.1∉plot:=by simpa using this
     have fB:¬(("apart" : ao) = "within"):=by decide
     simp[hn,ha,fB]
   ·simp[hx]
 ·rw[S0 hp,Pf];by_cases p1:plot=told plot
  ·have:¬ ∀x∈plot,x∈row:=λp2=>hp (Mj.mpr ⟨p1,p2⟩);have e1:plot.all (λx=>decide (x∈row))=false:=by
    rw[Ql];intro z;rw[Oh] at z;exact this λx hx=>S5 (z x hx)
   rw[e1,Rs,Pf]
  ·rw[S0 p1,Pf,Pf]
theorem Ml:∀{bs:List Bool} {xs:List V},DAll H (bs.map am.bool) xs->xs=bs.map V.bl
 | [],xs,h=>by unfold List.map DAll at h;exact h
 | s::ss,xs,h=>by
  rw[Op] at h;unfold DAll at h;obtain⟨v,r,rfl,h1,h2⟩:=h;unfold DAt at h1;rw[h1,Ml h2];rfl
def Xls(a b:Za)(h:am.tuple (a.map am.str)=am.tuple (b.map am.str)):a=b:=by
 injection h with h
 exact(List.map_inj_right (λx y e=>by injection e)).mp h
def Xdr{ss:Za}(h:∀y∈ss,okN y):Cy (ss.map am.str)=true:=plainAll_map am.str ss λx hx=>Xlj (h x hx)
def Db{ss:Za}(h:∀y∈ss,okN y):A9 (.tuple (ss.map am.str))=true:=Xdr h
def Xds{ss:Za}(h:∀y∈ss,okN y):A9 (.list (ss.map am.str))=true:=Xdr h
theorem Ga:∀(ss:Za),am.depthAll (ss.map am.str)=0
 | []=>rfl
 | s::ss=>by
  rw[Op];unfold am.depthAll;rw[Ga ss];rfl
def Xdt(a b:Za):min (am.depth (.tuple (a.map am.str))) (am.depth (.tuple (b.map am.str)))<=3:=by
 have e:am.depth (.tuple (a.map am.str))=am.depthAll (a.map am.str)+1:=rfl;rw[e,Ga]
 lia
def Jq{a b:Za}(ha:∀y∈a,okN y)(hb:∀y∈b,okN y):am.eqv (.tuple (a.map am.str)) (.tuple (b.map am.str))=decide (a=b):=
 Xkv (λl:Za=>am.tuple (l.map am.str)) Xls a b (Db ha) (Db hb)
def Cl  {ss:Za} (h:H p=some (.tup (ss.map V.str))):DAt H (.tuple (ss.map am.str)) (.ref p):=Jf h (L3 ss)
def spTold (K:NO):Sp:=λvs H Q _=>∃(p:ae) (ss:Za),vs=[.ref p]/\(SqL K H p (ss.map V.str)\/SqT K H p (ss.map V.str))/\ss.length<=60 /\
 ∀l H',H l=none->H' l=some (.tup ((told ss).map V.str))->Same H H'->Q (.ref l) H'
def spAllows:Sp:=λvs H Q _=>∃(iw:ao) (lK:Bool),vs=[.str iw,.bl lK]/\Q (.bl (Bs iw lK)) H
def spIsPlot:Sp:=λvs H Q _=>∃(r p:ae) (row ss:Za),vs=[.ref r,.ref p]/\H r=some (.lst (row.map V.str))/\Row2 row/\H p=some (.tup (ss.map V.str))/\(∀y∈ss,okN y)/\ss.length<=60 /\
 ∀H',Same H H'->Q (.bl (Ag row ss)) H'
abbrev NIp:Za:=["row", "plot", "span"]
abbrev NI1:Za:=["name", "span"]
abbrev NI2:Za:=["name", "other", "plot", "span"]
def Spn.has    (s:Spn H kvs row (dit row)):(Ap kvs (Sum.inr x:Key)).isSome=decide (x∈row):=by
 by_cases hx:x∈row
 ·obtain⟨l,h1,_⟩:=s.val x (Ai.mpr hx);rw[h1,Sz hx];rfl
 ·rw[S0 hx];cases e:Ap kvs (Sum.inr x:Key) with
  | none=>rfl
  | some v=>
   exfalso;have:=Gz e;rw[s.keys] at this;obtain⟨y,hy,e2⟩:=Oj.mp this;rw[Qh e2] at hy;exact hx (Ai.mp hy)
def Xdu(h:∀y∈ss,okN y):∀y∈told ss,okN y:=λy hy=>h y (Xdq.mp hy)
def Xlt{α : Type}(d)(p)(xs:List α):((List.range xs.length).map λi=>p (xs.getD i d)).any id=xs.any p:=by
 have e:(List.range xs.length).map (λi=>p (xs.getD i d))=xs.map p:=by
  have:=C9 d (λ_=>true) xs;rw[Ot.mpr (λ_ _=>rfl),Ot.mpr (λ_ _=>rfl)] at this
  conv=>rhs;rw[<-this]
  rw[O2];rfl
 rw[e,List.any_map];rfl
theorem Xdv{α : Type}(f):∀(xs:List α),(xs.flatMap f).all id=xs.all λx=>(f x).all id
 | []=>rfl
 | x::xs=>by
  rw[Qn,List.all_append,So,Xdv f xs]
def Xlu{α β : Type}(d)(f : α->List β)(xs:List α):(List.range xs.length).flatMap (λi=>f (xs.getD i d))=xs.flatMap f:=by
 have this:=C9 d (λ_=>true) xs;rw[Ot.mpr (λ_ _=>rfl),Ot.mpr (λ_ _=>rfl)] at this
 conv=>rhs;rw[<-this]
 rw[List.flatMap_map]
end SH
namespace L2
def Xdw        {T id:String} (K:NO) (hK:X.K=K) (pa:CF T) (slot:CG T name id) (vC:rG (.builtin id)=pure (.type "method_descriptor")) (hm:MtR X id r) (ho:PE X o to) (ha:PA X (e::es) t)
  (cX:cz o name X.env (eval o X.env)=eval o X.env:=by rfl)
  (oK:((bq bD (az (e::es) X.env)).all (λx => !x.1)&&(cI bD (bK [] X.env)).all (λx=>x.1.isSome)
   && decide ((e::es).length+([]:List cQ).length+(if ([]:List cQ).isEmpty then 0 else 1)<30))=true:=by rfl)
  (k9:(dL.endLine==bD.line)=true:=by rfl) (hs:az (e::es) X.env=(false,eval e X.env)::az es X.env:=by rfl) (dG:(bq bD (az es X.env)).any (·.1)=false:=by rfl):
  PE X (.Call (.Attribute o name dL) (e::es) [] bD) (tBM K T r to t):=by
 subst hK;exact Gw pa slot vC hm ho ha cX oK k9 hs dG
def Xlv (K:NO) (i:Nat):TE:=fun Z H Q=>∃v, Z[i]? = some (some v)/\∃p ss,v = .ref p/\(SqL K H p (ss.map V.str)\/SqT K H p (ss.map V.str))/\ss.length<=60/\∀l H',H l=none->H' l=some (.lst ((dit ss).map V.str))->Same H H'->Q (.ref l) H'
def Mm  {i:Nat}  (hc:X.calm=true) (DN:Gl X "sorted") (pr:X.mg "sorted" = none) (vW:Gl X "set") (uD:X.mg "set" = none) (hv:PE X (.Name x pos) (Ct i))
  (h1:az [.Call (.Name "set" p2) [.Name x pos] [] q2] X.env=[(false,eval (.Call (.Name "set" p2) [.Name x pos] [] q2) X.env)]:=by rfl) (h2:az [.Name x pos] X.env=[(false,eval (.Name x pos) X.env)]:=by rfl):
  PE X (.Call (.Name "sorted" p1) [.Call (.Name "set" p2) [.Name x pos] [] q2] [] q1) (Xlv X.K i):=by
 k_ne;obtain⟨v,DO,p,ss,ev,hq,hl,k⟩:=h;refine(pe_callB (G5 hc) DN pr (by rfl) (pa_cons (Bq (F2 hc) vW uD (by rfl) (pa_cons hv pa_nil) (by decide) (by decide) h2) pa_nil) (by decide) (by decide) h1) pins s Z H Q I ?_;refine⟨v,DO,p,ss,by rw[ev],hq,by unfold aW;lia,λa na=>?_⟩;have jR:=Fz ss;refine⟨a,ddup ss,rfl,Aa,by lia,λl ls nl hp hs=>?_⟩;rw[Fc hp hs];have s1:Same H (upd H a (Cj X.prog X.w a (ddup ss))):=(Same.refl H).step na;exact k l _ (s1.free nl) Aa (s1.step nl)
end L2
namespace SH
open L2
def Isl.dlen(h:Isl row):(dit row).length<=14:=by
 obtain⟨n,st,aY,hn,hs,p⟩:=h.ex;have hp:(dit row).Perm (Bc st aY n):=G7 (Fe row) (Me hs hn) λx=>by
  rw[Ai,p.mem_iff,N0,or_self]
 rw[hp.length_eq];unfold Bc;rw[Np,Pk];exact hn
def Aj (ss:Za) (x:ao):Za:=srt (ss.filter (λy=>decide (y≠x))++(if x∈ss then [] else [x]))
def spFlip:Sp:=λvs H Q _=>∃(p:ae) (ss:Za) (x:ao),vs=[.ref p,.str x]/\H p=some (.tup (ss.map V.str))/\ss.length<=60 /\
 ∀q H',H q=none->H' q=some (.tup ((Aj ss x).map V.str))->Same H H'->Q (.ref q) H'
def Xlw  (h:y∈Aj ss x):y∈ss\/y=x:=by
 unfold Aj at h;rw[Fd,N0] at h;rcases h with h | h
 ·exact .inl (N6.mp h).1
 ·split at h
  ·simp at h
  ·exact .inr (Nv.mp h)
def Xdx(ss)(x):(Aj ss x).length<=ss.length+1:=by
 unfold Aj;rw[(Cw _).length_eq,Nx];have:=Pb (λy=>decide (y≠x)) ss;generalize (ss.filter λy=>decide (y≠x)).length=n at *;split
 ·rw[Pw];lia
 ·rw[Oz];lia
def spOdd:Sp:=λvs H Q _=>∃(dr sc r p:ae) (row ss:Za),vs=[.ref dr,.ref r,.ref p]/\DrawOk H dr sc/\H r=some (.lst (row.map V.str))/\r≠dr/\Isl row/\H p=some (.tup (ss.map V.str))/\(∀y∈ss,okN y)/\ss.length<=50 /\
 ∀(q:ae) (qG:Za) (H':Hp),H' q=some (.tup (qG.map V.str))->(∀y∈qG,okN y)->qG.length<=ss.length+1->DrawOk H' dr sc->But dr H H'->Q (.ref q) H'
def spFits:Sp:=λvs H Q _=>∃(b p:ae) (xs:List V) (bs:List (ao×ao×ao)) (ss:Za),vs=[.ref b,.ref p]/\H b=some (.lst xs)/\DAll H (bs.map trD) xs/\H p=some (.tup (ss.map V.str)) /\
 ∀H',Same H H'->Q (.bl (Ck bs ss)) H'
def spBars:Sp:=λvs H Q _=>∃(r:ae) (row:Za),vs=[.ref r]/\H r=some (.lst (row.map V.str))/\Row2 row /\
 ∀l xs H',H l=none->H' l=some (.lst xs)->DAll H' ((bars row).map trD) xs->Same H H'->Q (.ref l) H'
def Xdy:Sp:=λvs H Q _=>∃(r p:ae) (row ss:Za),vs=[.ref r,.ref p]/\H r=some (.lst (row.map V.str))/\Row2 row/\H p=some (.tup (ss.map V.str))/\(∀y∈ss,okN y)/\ss.length<=60 /\
 ∀H',Same H H'->Q (.bl (Ep row ss)) H'
def Xlx   (h:DAt H (trD t) v):∃p,v = .ref p/\H p=some (.tup [.str t.1,.str t.2.1,.str t.2.2]):=by
 obtain⟨p,xs,rfl,hp,hs⟩:=Jg h;have:=F9 (ss:=[t.1,t.2.1,t.2.2]) hs;rw[this] at hp;exact⟨p,rfl,hp⟩
def Cn (row:Za) (x:ao) (ys:Za):List (ao×ao×ao):=(ys.filter (Ch row x)).map λy=>(x,y,lieR row x y)
def Cz (row:Za) (i:Nat):List (ao×ao×ao):=((dit row).take i).flatMap λx=>Cn row x (dit row)
def Xly(row):Cz row (dit row).length=bars row:=by
 unfold Cz;rw[O9];rfl
def Xlz(row)(hi:i<(dit row).length):Cz row (i+1)=Cz row i++Cn row ((dit row).getD i ao.empty) (dit row):=by
 unfold Cz;rw[Od hi,Qp,Qn,Q9,Oy];simp[List.getD,hi]
def Xl0(row)(x)(hj:j<(dit row).length):Cn row x ((dit row).take (j+1))=Cn row x ((dit row).take j)++(if Ch row x ((dit row).getD j ao.empty)=true then [(x,(dit row).getD j ao.empty,lieR row x ((dit row).getD j ao.empty))] else []):=by
 unfold Cn;have e:(dit row).getD j ao.empty=(dit row)[j]:=by simp[List.getD,hj]
 rw[Od hj,Og,N2,e,Ow];split<;>rfl
def Xdz(row)(x)(ys):(Cn row x ys).length<=ys.length:=by
 unfold Cn;rw[Np];exact Pb ..
def Xl1(row)(i):(Cz row i).length<=i * (dit row).length:=by
 unfold Cz;rw[List.length_flatMap];have h:∀l:Za,(l.map λx=>(Cn row x (dit row)).length).sum<=l.length * (dit row).length:=by
  intro l
  induction l with
  | nil=>simp
  | cons x l ih=>
   rw[Op,Qq,Oe,Nat.succ_mul];have:=Xdz row x (dit row)
   lia
 refine Oq (h _) (Nat.mul_le_mul_right _ ?_);rw[N8]
 lia
abbrev NFl:Za:=["_law_plot", "_law_name"]
abbrev NFl1:Za:=["_law_one", "_law_name"]
abbrev NOd:Za:=["_law_draw", "_law_row_here", "_law_plot", "_law_way", "_law_at", "_law_name"]
abbrev NFi:Za:=["_law_bars_here", "_law_plot", "_law_one", "_law_other", "_law_word_here"]
abbrev NBr:Za:=["_law_row_here", "_law_where_here", "_law_told", "_law_one", "_law_other", "_law_word_here"]
abbrev NGo:Za:=["_law_row_here", "_law_plot"]
abbrev NGo1:Za:=["_law_name", "_law_plot"]
def Xl2{α : Type}(f)(xs:List α)(b:Nat):Br (xs.map f) none (some (b:Int))=(xs.take b).map f:=by
 by_cases hb:b<=xs.length
 ·exact F3 f xs b hb
 ·unfold Br;rw[HT.sIx_none,Qs,HT.sIx_nat,Np,Nat.min_eq_right (by lia),Sc,O0 (by rw[Np];lia),O0 (by lia)]
def spAskPlot (C:ae):Sp:=λvs H Q E=>∃(r p:ae) (row ss:Za),vs=[.ref r,.ref p]/\H r=some (.lst (row.map V.str))/\Row2 row/\H p=some (.tup (ss.map V.str))/\(∀y∈ss,okN y)/\ss.length<=24 /\
 (Ag row ss=true->∀H',Same H H'->Q .non H')/\(Ag row ss=false->∀H',Same H H'->E (.ref C) none H')
def Xl3{ss:Za}(h:∀y∈ss,okN y):∀z∈ss,z.length<=20/\∀c∈z.cps.toList,c<16 ^ 8:=λz hz=>⟨(h z hz).1,λc hc=>Qe ((h z hz).2 c hc) (by decide)⟩
def DrawOk.ntup  (d:DrawOk H dr sc):∀q ys,H q=some (.tup ys)->q≠dr:=λq ys e z=>by
 obtain⟨xs,h⟩:=d.at;rw[z,h] at e;cases e
def mid (row:Za) (x:ao):Za:=((row.dropWhile λy=>decide (y≠x)).tail).takeWhile λy=>decide (y≠x)
def Xd0{x y:ao}(h:x∉y::r):decide (y≠x)=true:=by
 have:y≠x:=λe=>h (by rw[e];exact Ny);simpa using this
def drop_split{x:ao}(h:x∉A):(A++x::R).dropWhile (λy=>decide (y≠x))=x::R:=by
 induction A with
 | nil=>rw[Qj,P9,Sx (by simp)]
 | cons y r ih=>
  rw[Rv,P9,Sy (Xd0 h)];exact ih λz=>h (Nw _ z)
def take_split{x:ao}(h:x∉A):(A++x::R).takeWhile (λy=>decide (y≠x))=A:=by
 induction A with
 | nil=>rw[Qj,Qa,Sx (by simp)]
 | cons y r ih=>
  rw[Rv,Qa,Sy (Xd0 h)];rw[ih λz=>h (Nw _ z)]
def Mn  (hA:x∉A) (hB:x∉B):mid (A++x::(B++x::C)) x=B:=by
 unfold mid;rw[drop_split hA,List.tail_cons,take_split hB]
def split1:∀{row:Za},x∈row->∃A R,row=A++x::R/\x∉A:=by
 intro row
 induction row with
 | nil=>intro h;cases h
 | cons y r ih=>
  intro h;by_cases e:x=y
  ·exact⟨[],r,by rw[e];rfl,by simp⟩
  ·obtain⟨A,R,h1,h2⟩:=ih ((N4.mp h).resolve_left e);exact⟨y::A,R,by rw[h1];rfl,λz=>(N4.mp z).elim e h2⟩
def split2{x:ao}(h:row.count x=2):∃A B C,row=A++x::(B++x::C)/\x∉A/\x∉B/\x∉C:=by
 obtain⟨A,R,h1,h2⟩:=split1 (Sd.mp (by lia:0<row.count x));rw[h1,Qm,Qu.mpr h2,Q5] at h;have hR:R.count x=1:=by lia
 obtain⟨B,C,h3,h4⟩:=split1 (Sd.mp (by lia:0<R.count x));rw[h3,Qm,Qu.mpr h4,Q5] at hR;exact⟨A,B,C,by rw[h1,h3],h2,h4,Qu.mp (by lia)⟩
theorem Hm(x):∀n l r,A0 x n (l++r)=A0 x n l++A0 x (n+l.length) r
 | n,[],r=>rfl
 | n,y::l,r=>by
  have ih:=Hm x (n+1) l r;have e:n+(y::l).length=n+1+l.length:=by rw[Oe];lia
  rw[e];show (if y=x then (n:Int)::A0 x (n+1) (l++r) else A0 x (n+1) (l++r))=(if y=x then (n:Int)::A0 x (n+1) l else A0 x (n+1) l)++_;rw[ih];split<;>rfl
theorem Jr(x):∀n l,∀i∈A0 x n l,(n:Int)<=i/\i<n+l.length
 | n,[]=>λi h=>by cases h
 | n,y::l=>λi h=>by
  have ih:=Jr x (n+1) l;have h':i=n\/i∈A0 x (n+1) l:=by
   change i∈(if y=x then (n:Int)::A0 x (n+1) l else A0 x (n+1) l) at h;split at h
   ·exact N4.mp h
   ·exact .inr h
  rw[Oe];rcases h' with rfl | h'
  ·lia
  ·have:=ih i h'
   lia
theorem Js:∀n l,x∉l->A0 x n l=[]
 | _,[],_=>rfl
 | n,y::l,h=>by
  show (if y=x then (n:Int)::A0 x (n+1) l else A0 x (n+1) l)=[];rw[Sx (λe=>h (by rw[e];exact Ny))];exact Js _ _ λz=>h (Nw _ z)
def Xl4  (hx:row.count x=2) (n:x≠y):nIn (pl row x).1 (pl row x).2 (plc row y)=(mid row x).count y:=by
 obtain⟨A,B,C,e,hA,hB,hC⟩:=split2 hx;have ex:plc row x=[(A.length:Int),((A.length+1+B.length:Nat):Int)]:=by
  unfold plc;rw[e,Hm,Js _ _ hA];show []++(if x=x then _ else _)=_;rw[Sy rfl,Hm,Js _ _ hB];show []++(_::([]++(if x=x then _ else _)))=_;rw[Sy rfl,Js _ _ hC];simp
 have ey:plc row y=A0 y 0 A++(A0 y (A.length+1) B++A0 y (A.length+1+B.length+1) C):=by
  unfold plc;rw[e,Hm];show _++(if x=y then _ else _)=_;rw[Sx n,Hm];show _++(_++(if x=y then _ else _))=_;rw[Sx n];simp
 rw[Xdo ex,ey];unfold nIn inn;rw[Og,Og];have e1:(A0 y 0 A).filter (λt=>decide ((A.length:Int)<t)&&decide (t<((A.length+1+B.length:Nat):Int)))=[]:=by
  rw[Qb];intro i hi;have:=Jr y 0 A i hi;simp;intro
  lia
 have e2:(A0 y (A.length+1) B).filter (λt=>decide ((A.length:Int)<t)&&decide (t<((A.length+1+B.length:Nat):Int)))=A0 y (A.length+1) B:=by
  rw[Ot];intro i hi;have:=Jr y (A.length+1) B i hi;simp
  lia
 have e3:(A0 y (A.length+1+B.length+1) C).filter (λt=>decide ((A.length:Int)<t)&&decide (t<((A.length+1+B.length:Nat):Int)))=[]:=by
  rw[Qb];intro i hi;have:=Jr y _ C i hi;simp;intro
  lia
 rw[e1,e2,e3,Qj,Oy,Jj];rw[e,Mn hA hB]
def Ay (row:Za) (x y:ao):Prop:=lieR row x y = "cross"
instance (row:Za) (x y:ao):Decidable (Ay row x y):=inferInstanceAs (Decidable (_=_))
def Mo:Dr a b c e false = "cross" ↔ nIn a b [c,e]=1:=by
 unfold Dr;have e3:(inn a b [c,e]).length=nIn a b [c,e]:=rfl;have h2:(inn a b [c,e]).length<=2:=Md a b [c,e];rw[e3] at *;generalize nIn a b [c,e]=q at *
 match q,h2 with
 | 0,_=>
  gn_on;split<;>decide
 | 1,_=>rw[Sy (by decide)];decide
 | 2,_=>rw[Sy (by decide)];decide
def Jt  (hx:row.count x=2) (hy:row.count y=2) (n:x≠y):Ay row x y↔(mid row x).count y=1:=by
 unfold Ay;rw[F8 hx hy,S0 n,Mo,<-Fj hy,Xl4 hx n]
def Er  (hx:row.count x=2):¬Ay row x x:=by
 unfold Ay lieR lieT;rw[Sy ⟨rfl,rfl⟩];decide
def Ds  (hx:row.count x=2) (hy:row.count y=2) (h:Ay row x y):Ay row y x:=by
 by_cases n:x=y
 ·subst n;exact h
 ·obtain⟨n1,n2,n3,n4⟩:=Fl hx hy n;unfold Ay at *;rw[F8 hx hy,S0 n,Mo,B2] at h;rw[F8 hy hx,S0 (λe=>n e.symm),Mo,B2];have l1:=Ca hx;have l2:=Ca hy;generalize (pl row x).1=a at *;generalize (pl row x).2=b at *;generalize (pl row y).1=c at *;generalize (pl row y).2=e at *;by_cases p1:a<c/\c<b<;>by_cases p2:a<e/\e<b<;>by_cases q1:c<a/\a<e<;>by_cases q2:c<b/\b<e <;>
  (first | rw[Sy p1] at h | rw[Sx p1] at h)<;>(first | rw[Sy p2] at h | rw[Sx p2] at h) <;>
  (first | rw[Sy q1] | rw[Sx q1])<;>(first | rw[Sy q2] | rw[Sx q2])<;>lia
def Xd1  (h:p x=true):∀row:Za,mid (row.filter p) x=(mid row x).filter p:=by
 have tk:∀l:Za,(l.filter p).takeWhile (λy=>decide (y≠x))=(l.takeWhile λy=>decide (y≠x)).filter p:=by
  intro l
  induction l with
  | nil=>rfl
  | cons y r ih=>
   by_cases e:y=x
   ·subst e;rw[Ow,Sy h,Qa,Sx (by simp),Qa,Sx (by simp)];rfl
   ·rw[Qa,Sy (Sz e),Ow,Ow];by_cases q:p y=true
    ·rw[Sy q,Sy q,Qa,Sy (Sz e),ih]
    ·rw[Sx q,Sx q,ih]
 intro row;unfold mid;rw[<-tk];congr 1
 induction row with
 | nil=>rfl
 | cons y r ih=>
  by_cases e:y=x
  ·subst e;rw[Ow,Sy h,P9,Sx (by simp),P9,Sx (by simp)];rfl
  ·rw[P9,Sy (Sz e),<-ih,Ow];by_cases q:p y=true
   ·rw[Sy q,P9,Sy (Sz e)]
   ·rw[Sx q]
def Xl5  (hx:row.count x=2) (hy:row.count y=2) (iC:mH.count x=2) (jQ:mH.count y=2)
  (e:row.filter (λz=>decide (z=x\/z=y))=mH.filter (λz=>decide (z=x\/z=y))):Ay row x y↔Ay mH x y:=by
 by_cases n:x=y
 ·subst n;exact⟨λh=>absurd h (Er hx),λh=>absurd h (Er iC)⟩
 ·rw[Jt hx hy n,Jt iC jQ n];have h1:∀r:Za,(mid r x).count y=(mid (r.filter λz=>decide (z=x\/z=y)) x).count y:=λr=>by
   rw[Xd1 (by simp),List.count_filter (by simp)]
  rw[h1 row,h1 mH,e]
def B3 (row:Za):Prop:=∀x∈row,∀y∈row,∀z∈row,Ay row x y->Ay row x z->¬Ay row y z
def Xl6:B3 []:=λx h=>by cases h
def Xd2{x}(h:B3 row)(h2:∀y∈row,row.count y=2)(iD:∀y∈bR,bR.count y=2)(dy:∀y∈bR,y=x\/y∈row)
  (hf:∀p:ao->Bool,p x=false->bR.filter p=row.filter p) (hb:∀y∈bR,∀z∈bR,Ay bR x y->Ay bR x z->¬Ay bR y z):B3 bR:=by
 intro a ha b dJ c hc k1 k2 k3;have eV:=Ds (iD a ha) (iD b dJ) k1;have fE:=Ds (iD a ha) (iD c hc) k2;have DP:=Ds (iD b dJ) (iD c hc) k3;by_cases ea:a=x
 ·subst ea;exact hb b dJ c hc k1 k2 k3
 by_cases eb:b=x
 ·subst eb;exact hb a ha c hc eV k3 k2
 by_cases ec:c=x
 ·subst ec;exact hb a ha b dJ fE DP k1
 have ra:=(dy a ha).resolve_left ea;have rb:=(dy b dJ).resolve_left eb;have rc:=(dy c hc).resolve_left ec;have go:∀u v:ao,u≠x->v≠x->u∈row->v∈row->u∈bR->v∈bR->Ay bR u v->Ay row u v:=λu v nu nv hu hv mu mv k=>
  (Xl5 (iD u mu) (iD v mv) (h2 u hu) (h2 v hv) (hf _ (by
   rw[decide_eq_false_iff_not];rintro (e | e)
   ·exact nu e.symm
   ·exact nv e.symm))).mp k
 exact h a ra b rb c rc (go a b ea eb ra rb ha dJ k1) (go a c ea ec ra rc ha hc k2) (go b c eb ec rb rc dJ hc k3)
def Xl7    (fS:a<=b) (h:p x=false):(Dq row x a b).filter p=row.filter p:=by
 unfold Dq;have e:row=row.take a++((row.drop a).take (b - a)++row.drop b):=by
  have e1:row.drop b=(row.drop a).drop (b - a):=by rw[List.drop_drop];congr 1;lia
  rw[e1,Ol,Ol]
 conv=>rhs;rw[e]
 simp[Og,Ow,h]
def Xl8  (hx:(A++[x,x]++C).count x=2) (hy:(A++[x,x]++C).count y=2):¬Ay (A++[x,x]++C) x y:=by
 by_cases n:x=y
 ·subst n;exact Er hx
 ·rw[Jt hx hy n];have hA:x∉A:=by
   rw[<-Qu];rw[Qm,Qm,Q5,Q5] at hx
   lia
  have e:A++[x,x]++C=A++x::([]++x::C):=by simp
  rw[e,Mn hA (by simp)];simp
def Xl9{row:Za}   (h:p x=false):(row.take a++[x,x]++row.drop a).filter p=row.filter p:=by
 simp[Og,Ow,h];rw[<-Og,Ol]
def Xd3  (hF:F.Nodup) (hx:x∈F) (n:x≠y):(mid (F++F.reverse) x).count y≠1:=by
 obtain⟨A,B,rfl,hA⟩:=split1 hx;have hB:x∉B:=by
  have h1:=(Pp.mp hF).2.1;exact(Pd.mp h1).1
 have e:(A++x::B)++(A++x::B).reverse=A++x::((B++B.reverse)++x::A.reverse):=by simp
 rw[e,Mn hA (by simp[hB]),Qm,List.count_reverse]
 lia
def Et  (hn:ns.Nodup) (c) (h2:∀z∈ns,(ns++(ns.take c).reverse++(ns.drop c).reverse).count z=2)
  (h:(x∈ns.take c/\y∈ns.take c)\/(x∈ns.drop c/\y∈ns.drop c)):¬Ay (ns++(ns.take c).reverse++(ns.drop c).reverse) x y:=by
 have sub:(∀z,z∈ns.take c->z∈ns)/\∀z,z∈ns.drop c->z∈ns:=⟨λz=>O3,λz=>O7⟩;have hx:x∈ns:=h.elim (λz=>sub.1 _ z.1) λz=>sub.2 _ z.1;have hy:y∈ns:=h.elim (λz=>sub.1 _ z.2) λz=>sub.2 _ z.2;by_cases n:x=y
 ·subst n;exact Er (h2 x hx)
 rw[Jt (h2 x hx) (h2 y hy) n];have eg:(mid (ns++(ns.take c).reverse++(ns.drop c).reverse) x).count y=(mid ((ns++(ns.take c).reverse++(ns.drop c).reverse).filter λz=>decide (z=x\/z=y)) x).count y:=by
  rw[Xd1 (by simp),List.count_filter (by simp)]
 rw[eg];have dj:∀z,z∈ns.take c->z∈ns.drop c->False:=by
  have:=hn;rw[<-Ol c ns] at this;intro z h1 h2;exact(Pp.mp this).2.2 z h1 z h2 rfl
 have e0:ns.filter (λz=>decide (z=x\/z=y))=(ns.take c).filter (λz=>decide (z=x\/z=y))++(ns.drop c).filter (λz=>decide (z=x\/z=y)):=by
  rw[<-Og,Ol]
 rw[Og,Og,e0,List.filter_reverse,List.filter_reverse];rcases h with ⟨h1,h2⟩ | ⟨h1,h2⟩
 ·have e:(ns.drop c).filter (λz=>decide (z=x\/z=y))=[]:=by
   rw[Qb];intro z hz q;rcases S5 q with q | q
   ·exact dj x h1 (q ▸ hz)
   ·exact dj y h2 (q ▸ hz)
  rw[e,Oy,List.reverse_nil,Oy];exact Xd3 ((hn.sublist (Pe ..)).filter _) (N6.mpr ⟨h1,by simp⟩) n
 ·have e:(ns.take c).filter (λz=>decide (z=x\/z=y))=[]:=by
   rw[Qb];intro z hz q;rcases S5 q with q | q
   ·exact dj x (q ▸ hz) h1
   ·exact dj y (q ▸ hz) h2
  rw[e,Qj,List.reverse_nil,Oy];exact Xd3 ((hn.sublist (P3 ..)).filter _) (N6.mpr ⟨h1,by simp⟩) n
def noThree_grid(hn:ns.Nodup)(c)(h2:∀z∈ns,(ns++(ns.take c).reverse++(ns.drop c).reverse).count z=2):B3 (ns++(ns.take c).reverse++(ns.drop c).reverse):=by
 have mem:∀z,z∈ns++(ns.take c).reverse++(ns.drop c).reverse->z∈ns.take c\/z∈ns.drop c:=by
  intro z hz;rw[<-N0,Ol];simp only[N0,List.mem_reverse] at hz;rcases hz with (h | h) | h
  ·exact h
  ·exact O3 h
  ·exact O7 h
 intro x hx y hy z hz k1 k2 k3;rcases mem x hx with a | a<;>rcases mem y hy with b | b<;>rcases mem z hz with d | d
 ·exact Et hn c h2 (.inl ⟨a,b⟩) k1
 ·exact Et hn c h2 (.inl ⟨a,b⟩) k1
 ·exact Et hn c h2 (.inl ⟨a,d⟩) k2
 ·exact Et hn c h2 (.inr ⟨b,d⟩) k3
 ·exact Et hn c h2 (.inl ⟨b,d⟩) k3
 ·exact Et hn c h2 (.inr ⟨a,d⟩) k2
 ·exact Et hn c h2 (.inr ⟨a,b⟩) k1
 ·exact Et hn c h2 (.inr ⟨a,b⟩) k1
def spBarredN:Sp:=λvs H Q _=>∃(r:ae) (row:Za) (x:ao),vs=[.ref r,.str x]/\H r=some (.lst (row.map V.str))/\row.length<=1000/\(∀y∈row,row.count y=2)/\x∈row /\
 ∀b H',(b=false->∀y∈row,∀z∈row,Ay row x y->Ay row x z->¬Ay row y z)->Same H H'->Q (.bl b) H'
def spRowN:Sp:=λvs H Q _=>∃(dr sc nl:ae) (ns:Za),vs=[.ref dr,.ref nl]/\DrawOk H dr sc/\H nl=some (.lst (ns.map V.str))/\nl≠dr/\ns.Nodup/\ns.length<=14 /\
 ∀(l:ae) (row:Za) (H':Hp),H l=none->H' l=some (.lst (row.map V.str))->row.Perm (ns++ns)->B3 row->DrawOk H' dr sc->But dr H H'->Q (.ref l) H'
def spIslandN:Sp:=λvs H Q _=>∃(dr sc:ae) (m:Nat),vs=[.ref dr,.int m]/\m<=14/\DrawOk H dr sc /\
 ∀(l:ae) (row:Za) (n st:Nat) (aY:Bool) (H':Hp),H l=none->n<=m->st<26->H' l=some (.lst (row.map V.str))->row.Perm (Bc st aY n++Bc st aY n)->B3 row->DrawOk H' dr sc->But dr H H'->Q (.ref l) H'
def Xd4{_:Decidable p}(h:decide p=false):¬p:=S6 h
def Wh.pl{H:Hp}{kvs:List (Key×V)}{row:Za}{x:ao}(w:Wh H kvs row)(hx:x∈row)(h:row.count x=2):∃l,Ap kvs (Sum.inr x:Key)=some (.ref l)/\H l=some (.lst [.int (pl row x).1,.int (pl row x).2]):=by
 obtain⟨l,h1,h2⟩:=w.val x hx;rw[Fj h] at h2;exact⟨l,h1,h2⟩
def deg2 {α : Type} (R : α -> α->Bool) (l:List α):Nat:=(l.map λx=>l.countP (R x)).sum
def Xma{a b:List Nat}(p:a.Perm b):a.sum=b.sum:=by
 induction p with
 | nil=>rfl
 | cons x _ ih=>simp[ih]
 | swap x y l=>simp;lia
 | trans _ _ h1 h2=>exact h1.trans h2
def Xmb{α : Type}{R}{a b:List α}(p:a.Perm b):deg2 R a=deg2 R b:=by
 unfold deg2;have e:(a.map λx=>a.countP (R x))=a.map λx=>b.countP (R x):=Pn λx _=>p.countP_eq _;rw[e];exact Xma (p.map _)
theorem Fm{α : Type}(f g : α->Nat):∀l:List α,(l.map λx=>f x+g x).sum=(l.map f).sum+(l.map g).sum
 | []=>rfl
 | x::r=>by simp[Fm f g r];lia
theorem Eb{α : Type}(p):∀l:List α,(l.map λx=>if p x=true then 1 else 0).sum=l.countP p
 | []=>rfl
 | x::r=>by
  rw[Op,Qq,Eb p r,Pz]
  lia
theorem Xd5{α : Type}:∀l:List α,(l.map λ_=>0).sum=0
 | []=>rfl
 | _::r=>by rw[Op,Qq,Xd5 r]
def mantel{α : Type}[DecidableEq α]{R}:∀(n:Nat) (l:List α),l.length=n->l.Nodup->(∀x∈l,R x x=false)->(∀x∈l,∀y∈l,R x y=R y x) ->
  (∀x∈l,∀y∈l,∀z∈l,R x y=true->R x z=true->R y z=false)->2 * deg2 R l<=n * n:=by
 intro n
 induction n using Nat.strongRecOn with
 | ind n ih=>
  intro l hl nd irr sy zt;by_cases h:∃u∈l,∃v∈l,R u v=true
  ·obtain⟨u,hu,v,hv,mI⟩:=h;have DQ:u≠v:=λe=>by subst e;rw[irr u hu] at mI;cases mI
   have p1:l.Perm (u::l.erase u):=List.perm_cons_erase hu;have DR:v∈l.erase u:=(List.mem_erase_of_ne DQ.symm).mpr hv;have p2:l.Perm (u::v::(l.erase u).erase v):=p1.trans (List.Perm.cons u (List.perm_cons_erase DR));generalize (l.erase u).erase v=r at p2;have aV:=p2.length_eq;simp only[Oe] at aV;have DS:=p2.nodup_iff.mp nd;have mr:∀x∈r,x∈l:=λx hx=>p2.mem_iff.mpr (Nw _ (Nw _ hx));have zu:r.Nodup:=(Pd.mp (Pd.mp DS).2).2;have M':=ih r.length (by lia) r rfl zu (λx hx=>irr x (mr x hx)) (λx hx y hy=>sy x (mr x hx) y (mr y hy)) (λx hx y hy z hz=>zt x (mr x hx) y (mr y hy) z (mr z hz));have e:deg2 R l=2+2 * (r.countP (R u)+r.countP (R v))+deg2 R r:=by
    rw[Xmb p2];unfold deg2;rw[Op,Op,Qq,Qq];have ef:(r.map λx=>(u::v::r).countP (R x))=r.map λx=>((if R u x=true then 1 else 0)+(if R v x=true then 1 else 0))+r.countP (R x):=by
     refine Pn λx hx=>?_;rw[Pz,Pz,sy x (mr x hx) u hu,sy x (mr x hx) v hv]
     lia
    rw[ef,Fm,Fm,Eb,Eb,Pz,Pz,Pz,Pz,irr u hu,irr v hv,mI,sy v hv u hu,mI];simp
    lia
   have le:r.countP (R u)+r.countP (R v)<=r.length:=by
    rw[<-Eb (R u),<-Eb (R v),<-Fm];have:∀m:List α,(∀x∈m,x∈l)->(m.map λx=>(if R u x=true then 1 else 0)+(if R v x=true then 1 else 0)).sum<=m.length:=by
     intro m
     induction m with
     | nil=>intro _;exact Nr _
     | cons x t DT=>
      intro hm;have h1:=DT λy hy=>hm y (Nw _ hy);have hx:=hm x Ny;have h2:(if R u x=true then 1 else 0)+(if R v x=true then 1 else 0)<=1:=by
       by_cases a:R u x=true
       ·have:=zt u hu v hv x hx mI a;rw[this,Sy a];decide
       ·rw[Sx a];split<;>decide
      rw[Op,Qq,Oe]
      lia
    exact this r mr
   have hn:n=r.length+2:=by lia
   rw[e,hn];have:(r.length+2) * (r.length+2)=r.length * r.length+4 * r.length+4:=by
    rw[Nat.add_mul,Nat.mul_add];lia
   rw[this]
   lia
  ·have z:deg2 R l=0:=by
    unfold deg2;have:(l.map λx=>l.countP (R x))=l.map λ_=>0:=by
     refine Pn λx hx=>?_;rw[List.countP_eq_zero];intro y hy q;exact h ⟨x,hx,y,hy,q⟩
    rw[this];exact Xd5 l
   rw[z];exact Ou _
theorem Xd6{α β : Type}(p : α -> β->Bool)(m:List β):∀l:List α,(l.map λx=>m.countP (p x)).sum=(m.map λy=>l.countP λx=>p x y).sum
 | []=>by
  show 0=_
  induction m with
  | nil=>rfl
  | cons y r ih=>rw[Op,Qq,<-ih];rfl
 | x::l=>by
  rw[Op,Qq,Xd6 p m l];have e:(m.map λy=>(x::l).countP λx=>p x y)=m.map λy=>(if p x y=true then 1 else 0)+l.countP λx=>p x y:=by
   refine Pn λy _=>?_;rw[Pz]
   lia
  rw[e,Fm,Eb]
def Xmc(h2:∀y∈row,row.count y=2):2 * (crs row).length=deg2 (λx y=>decide (Ay row x y)) (dit row):=by
 have e:(crs row).length=((dit row).map λx=>(dit row).countP λy=>decide (ltS x y)&&decide (Ay row x y)).sum:=by
  unfold crs;rw[List.length_flatMap];congr 1;refine Pn λx _=>?_;rw[Np,List.countP_eq_length_filter];rfl
 have e2:=Xd6 (λx y=>decide (ltS x y)&&decide (Ay row x y)) (dit row) (dit row);have e3:2 * (crs row).length=((dit row).map λx=>(dit row).countP λy=>decide (ltS x y)&&decide (Ay row x y)).sum+((dit row).map λy=>(dit row).countP λx=>decide (ltS x y)&&decide (Ay row x y)).sum:=by
  rw[<-e2,e];lia
 rw[e3,<-Fm];unfold deg2;congr 1;refine Pn λx hx=>?_;rw[<-Eb,<-Eb,<-Eb,<-Fm];congr 1;refine Pn λy hy=>?_;have iC:=Ai.mp hx;have jQ:=Ai.mp hy;by_cases c:Ay row x y
 ·have c':=Ds (h2 x iC) (h2 y jQ) c;have n:x≠y:=λe=>by subst e;exact Er (h2 x iC) c
  by_cases l:ltS x y
  ·have l':¬ltS y x:=λq=>Iz x (Ja l q);simp[c,c',l,l']
  ·have l':ltS y x:=ltS_of (Lu.mp l) n.symm;simp[c,c',l,l']
 ·have c':¬Ay row y x:=λq=>c (Ds (h2 y jQ) (h2 x iC) q);simp[c,c']
def Xd7(h2:∀y∈row,row.count y=2)(h3:B3 row)(hl:(dit row).length<=14):(crs row).length<=49:=by
 have m:=mantel (R:=λx y=>decide (Ay row x y)) (dit row).length (dit row) rfl (Fe row) (λx hx=>S0 (Er (h2 x (Ai.mp hx))))
  (λx hx y hy=>by
   by_cases c:Ay row x y
   ·rw[Sz c,Sz (Ds (h2 x (Ai.mp hx)) (h2 y (Ai.mp hy)) c)]
   ·rw[S0 c,S0 λq=>c (Ds (h2 y (Ai.mp hy)) (h2 x (Ai.mp hx)) q)])
  (λx hx y hy z hz a b=>S0 (h3 x (Ai.mp hx) y (Ai.mp hy) z (Ai.mp hz) (S5 a) (S5 b)))
 rw[<-Xmc h2] at m;have:(dit row).length * (dit row).length<=14 * 14:=Nat.mul_le_mul hl hl
 lia
def upB (row:Za) (x y:ao):Bool:=decide (y=x)||decide (lieR row x y = "within")
def span (row:Za) (x:ao):Nat:=((pl row x).2 - (pl row x).1).toNat
def Xmd(a b c e):lieT a b c e = "same" \/ lieT a b c e = "cross" \/ lieT a b c e = "within" \/ lieT a b c e = "around" \/ lieT a b c e = "apart" := by
 unfold lieT;split
 ·exact .inl rfl
 ·split
  ·exact .inr (.inl rfl)
  ·split
   ·exact .inr (.inr (.inl rfl))
   ·split
    ·exact .inr (.inr (.inr (.inl rfl)))
    ·exact .inr (.inr (.inr (.inr rfl)))
def Xme  (hx:row.count x=2) (hy:row.count y=2) (n:x≠y) (h:lieR row x y = "around"):span row y<span row x:=by
 obtain⟨n1,n2,n3,n4⟩:=Fl hx hy n;have l1:=Ca hx;have l2:=Ca hy;unfold span;unfold lieR lieT at h;rw[Sx (λz=>n1 z.1)] at h;split at h
 ·w_up
 ·split at h
  ·w_up
  ·split at h
   ·rename_i q;rw[B2] at q;generalize (pl row x).1=a at *;generalize (pl row x).2=b at *;generalize (pl row y).1=c at *;generalize (pl row y).2=e at *;by_cases p1:a<c/\c<b
    ·by_cases p2:a<e/\e<b
     ·lia
     ·rw[Sy p1,Sx p2] at q;lia
    ·rw[Sx p1] at q;split at q<;>lia
   ·w_up
def Xd8  (hx:row.count x=2) (hy:row.count y=2) (h:lieR row x y = "same"):x=y:=by
 refine Classical.byContradiction λn=>?_;obtain⟨n1,n2,n3,n4⟩:=Fl hx hy n;unfold lieR lieT at h;rw[Sx (λz=>n1 z.1)] at h;split at h
 ·w_up
 ·split at h
  ·w_up
  ·split at h
   ·w_up
   ·w_up
theorem least{α : Type}(f : α->Nat):∀l:List α,l≠[]->∃a∈l,∀b∈l,f a<=f b
 | [],h=>absurd rfl h
 | [a],_=>⟨a,Ny,λb hb=>by rw[Nv.mp hb];exact Nr _⟩
 | a::c::r,_=>by
  obtain⟨m,hm,hl⟩:=least f (c::r) (by simp);by_cases q:f a<=f m
  ·exact⟨a,Ny,λb hb=>by
    rcases N4.mp hb with e | e
    ·rw[e];exact Nr _
    ·exact Oq q (hl b e)⟩
  ·exact⟨m,Nw _ hm,λb hb=>by
    rcases N4.mp hb with e | e
    ·rw[e];lia
    ·exact hl b e⟩
def cands (row:Za):List (Za):=(dit row).map (λa=>(dit row).filter (upB row a))++(crs row).map λp=>(dit row).filter λy=>upB row p.1 y||upB row p.2 y
def Xd9(h2:∀y∈row,row.count y=2)(h3:B3 row)(fB:S≠[])(hg:Ag row S=true):S∈cands row:=by
 have uE:=hg;rw[<-Jp h2] at uE;unfold Ep at uE;rw[N3] at uE;have hS:=S5 uE.1;unfold Ag at hg;rw[N3,N3] at hg;obtain⟨⟨_,wb⟩,d7⟩:=hg;have inr:∀x∈S,x∈row:=λx hx=>S5 (Oh.mp wb x hx);have al:∀x∈S,∀y∈row,Bs (lieR row x y) (decide (y∈S))=true:=λx hx y hy=>Oh.mp (Oh.mp d7 x hx) y (Ai.mpr hy);have within:∀x∈S,∀y∈row,lieR row x y = "within" -> y∈S:=λx hx y hy e=>by
  have:=al x hx y hy;unfold Bs at this;rw[Sy e] at this;exact S5 this
 have apart:∀x∈S,∀y∈S,lieR row x y ≠ "apart" := λx hx y hy e=>by
  have:=al x hx y (inr y hy);unfold Bs at this;rw[Sx (by rw[e];decide),e,Sz hy] at this;exact absurd this (by decide)
 have iw:∀a∈S,∀c∈S,upB row a c=false->¬span row c<span row a->Ay row a c:=λa ha c hc hu hs=>by
  have zv:=Bool.or_eq_false_iff.mp hu;have n1:c≠a:=S6 zv.1;have n2:=S6 zv.2;rcases Xmd (pl row a).1 (pl row a).2 (pl row c).1 (pl row c).2 with q | q | q | q | q
  ·exact absurd (Xd8 (h2 a (inr a ha)) (h2 c (inr c hc)) q).symm n1
  ·exact q
  ·exact absurd q n2
  ·exact absurd (Xme (h2 a (inr a ha)) (h2 c (inr c hc)) (λe=>n1 e.symm) q) hs
  ·exact absurd q (apart a ha c hc)
 have px:∀a∈S,∀y∈row,upB row a y=true->y∈S:=λa ha y hy q=>by
  rcases R4.mp q with q | q
  ·rw[S5 q];exact ha
  ·exact within a ha y hy (S5 q)
 obtain⟨a,ha,la⟩:=least (span row) S fB;unfold cands;rw[N0];by_cases cG:∀c∈S,upB row a c=true
 ·left;rw[Oj];refine⟨a,Ai.mpr (inr a ha),?_⟩;rw[hS];refine List.filter_congr λy hy=>?_;by_cases q:y∈S
  ·rw[cG y q,Sz q]
  ·rw[S0 q,Ql];exact λz=>q (px a ha y (Ai.mp hy) z)
 ·right;have wc:S.filter (λc => !upB row a c)≠[]:=λe=>cG λc hc=>by
   rw[Qb] at e;have:=e c hc;simpa using this
  obtain⟨b,hb,lb⟩:=least (span row) _ wc;obtain⟨mJ,we⟩:=N6.mp hb;have we:upB row a b=false:=by simpa using we
  have cab:=iw a ha b mJ we (by have:=la b mJ;lia);have all2:∀c∈S,upB row a c=true\/upB row b c=true:=λc hc=>by
   refine Classical.byContradiction λz=>?_;have z1:upB row a c=false:=by
    cases q:upB row a c with
    | false=>rfl
    | true=>exact absurd (.inl q) z
   have z2:upB row b c=false:=by
    cases q:upB row b c with
    | false=>rfl
    | true=>exact absurd (.inr q) z
   have k1:=iw a ha c hc z1 (by have:=la c hc;lia);have k2:=iw b mJ c hc z2 (by have:=lb c (N6.mpr ⟨hc,by simp[z1]⟩);lia);exact h3 a (inr a ha) b (inr b mJ) c (inr c hc) cab k1 k2
  have eg:∀p q:ao,p∈S->q∈S->(∀c∈S,upB row p c=true\/upB row q c=true)->(dit row).filter (λy=>upB row p y||upB row q y)=S:=λp q hp hq h=>by
   conv=>rhs;rw[hS]
   refine List.filter_congr λy hy=>?_;by_cases m:y∈S
   ·rw[Sz m,R4];exact h y m
   ·rw[S0 m,Bool.or_eq_false_iff];exact⟨Ql.mpr λz=>m (px p hp y (Ai.mp hy) z),Ql.mpr λz=>m (px q hq y (Ai.mp hy) z)⟩
  have DU:a≠b:=λe=>by subst e;exact Er (h2 a (inr a ha)) cab
  have mk:∀p q:ao,p∈S->q∈S->ltS p q->Ay row p q->(p,q)∈crs row:=λp q hp hq l c=>by
   unfold crs;rw[List.mem_flatMap];refine⟨p,Ai.mpr (inr p hp),Oj.mpr ⟨q,N6.mpr ⟨Ai.mpr (inr q hq),?_⟩,rfl⟩⟩;rw[N3];exact⟨Sz l,Sz c⟩
  rw[Oj];by_cases l:ltS a b
  ·exact⟨(a,b),mk a b ha mJ l cab,eg a b ha mJ all2⟩
  ·have l':=ltS_of (Lu.mp l) DU.symm;exact⟨(b,a),mk b a mJ ha l' (Ds (h2 a (inr a ha)) (h2 b (inr b mJ)) cab),eg b a mJ ha λc hc=>(all2 c hc).symm⟩
theorem Mp{α : Type}[DecidableEq α]:∀{a b:List α},a.Nodup->(∀x∈a,x∈b)->a.length<=b.length
 | [],_,_,_=>Ou _
 | x::r,b,h,s=>by
  obtain⟨h1,h2⟩:=Pd.mp h;have hx:=s x Ny;have:=Mp (a:=r) (b:=b.erase x) h2 λy hy=>(List.mem_erase_of_ne (show y≠x from λe=>h1 (e ▸ hy))).mpr (s y (Nw _ hy));rw[List.length_erase_of_mem hx] at this;have:0<b.length:=List.length_pos_of_mem hx;rw[Oe]
  lia
def Xea{L:List (Za)}(h2:∀y∈row,row.count y=2)(h3:B3 row)(hl:(dit row).length<=14)(nd:L.Nodup)(h:∀S∈L,S≠[]/\Ag row S=true):L.length<64:=by
 have l1:=Mp nd λS hS=>Xd9 h2 h3 (h S hS).1 (h S hS).2;have l2:=Xd7 h2 h3 hl;unfold cands at l1;rw[Nx,Np,Np] at l1
 lia
end SH
namespace L2
open PySem.W (KasT kas_asc kas_desc kas_rev kas_tail3 kas_descPart kas_count kas_place kas_bin kas_sort kas_ask kas_item kat_run kat_snds kat_kind kat_lt KatLex kat_cons kat_go kat_yes kat_no kat_one kat_nil KatTups)
def KAll {α : Type} (n:Nat) (P : α->Prop):KasT α->Prop
 | .ret a=>P a
 | .ask i j k=>i<n/\j<n/\∀b,KAll n P (k b)
theorem KAll.bind{α β : Type}{P}{Q : β->Prop}{f}(hf:∀a,P a->KAll n Q (f a)):∀{t:KasT α},KAll n P t->KAll n Q (t.bind f)
 | .ret a,h=>hf a h
 | .ask i j k,h=>⟨h.1,h.2.1,λb=>KAll.bind hf (h.2.2 b)⟩
theorem KAll.wp{α : Type}{n}{G}  (hc:∀i j C,i<n->j<n->(∀b,C b s)->wf i j C s):
  ∀{t:KasT α},KAll n (λa=>G a s) t->t.kasWp wf G s
 | .ret a,h=>h
 | .ask i j k,h=>hc i j _ h.1 h.2.1 λb=>KAll.wp hc (h.2.2 b)
def Gd (n:Nat) (p:Array Nat):Prop:=p.Perm (List.toArray (List.range n))
def Gd.lt{n}{p}(h:Gd n p)(hn:0<n)(i):p.getD i 0<n:=by
 by_cases hi:i<p.size
 ·have e:p.getD i 0=p[i]:=by simp[Array.getD,hi]
  rw[e];have:p[i]∈p:=Array.getElem_mem hi;have:=h.mem_iff.mp this;simpa using this
 ·have e:p.getD i 0=0:=by simp[Array.getD,hi]
  rw[e];exact hn
def Gd.rev  (h:Gd n p) (i j):Gd n (kas_rev p i j):=(zw p i j _).trans h
theorem Mq  (hn:0<n) (h:Gd n p):∀f m,KAll n (λ_=>True) (kas_asc p f m)
 | 0,_=>trivial
 | f+1,m=>⟨h.lt hn _,h.lt hn _,λb=>by
  cases b with
  | true=>exact trivial
  | false=>exact Mq hn h f (m+1)⟩
theorem Ju(hn:0<n):∀f (p:Array Nat) m q,Gd n p->KAll n (λr=>Gd n r.1) (kas_desc f p m q)
 | 0,p,m,q,h=>h
 | f+1,p,m,q,h=>⟨h.lt hn _,h.lt hn _,λb=>by
  cases b with
  | true=>
   show KAll n _ (if q > 0 then kas_desc f (kas_rev p (m - (q+1)) m) (m+1) 0 else kas_desc f p (m+1) 0);split
   ·exact Ju hn f _ _ _ (h.rev _ _)
   ·exact Ju hn f _ _ _ h
  | false=>
   refine⟨h.lt hn _,h.lt hn _,λd=>?_⟩;cases d with
   | true=>exact h
   | false=>exact Ju hn f _ _ _ h⟩
def Xeb  (hn:0<n) (h:Gd n p) (m r):KAll n (λr=>Gd n r.2) (kas_tail3 m r p):=by
 unfold kas_tail3;refine KAll.bind (P:=λ_=>True) (Q:=λ(r:Nat×Array Nat)=>Gd n r.2) (λa _=>?_) (Mq hn (h.rev 0 m) _ _);exact h.rev 0 m
def Xec  (hn:0<n) (h:Gd n p) (m r):KAll n (λr=>Gd n r.2) (kas_descPart m r p):=by
 refine KAll.bind (P:=λr=>Gd n r.1) (λa ha=>?_) (Ju hn _ _ _ _ h);split
 ·exact Xeb hn (ha.rev _ _) _ _
 ·exact Xeb hn ha _ _
def Xmf  (hn:0<n) (h:Gd n p) (r):KAll n (λr=>Gd n r.2) (kas_count r p):=by
 refine KAll.bind (P:=λ_=>True) (λa _=>?_) (Mq hn h _ _);split
 ·exact h
 ·split
  ·refine⟨h.lt hn _,h.lt hn _,λb=>?_⟩;cases b with
   | true=>exact h
   | false=>exact Xec hn (h.rev _ _) _ _
  ·exact Xec hn h _ _
theorem Mr  (hn:0<n) (h:Gd n p) (k):∀f l r,KAll n (λ_=>True) (kas_place p k f l r)
 | 0,_,_=>trivial
 | f+1,l,r=>by
  show KAll n _ (if l ≥ r then _ else _);split
  ·exact trivial
  ·refine⟨h.lt hn _,h.lt hn _,λb=>?_⟩;cases b with
   | true=>exact Mr hn h k f _ _
   | false=>exact Mr hn h k f _ _
theorem Xed(hn:0<n):∀f (p:Array Nat) k,Gd n p->KAll n (Gd n) (kas_bin f p k)
 | 0,p,_,h=>h
 | f+1,p,k,h=>KAll.bind (P:=λ_=>True) (λl _=>Xed hn f _ _ ((kT p k _).trans h)) (Mr hn h k _ _ _)
def Ms{n}(hn:0<n):KAll n (Gd n) (kas_sort n):=by
 refine KAll.bind (P:=λr=>Gd n r.2) (λa ha=>?_) (Xmf hn (Array.Perm.refl _) n);split
 ·exact Xed hn _ _ _ ha
 ·exact ha
section
variable {prog:ar}{w:aA}{A:av}{E:Zb}{s:ah}
def Gb (h:ak) (v:aa):Prop:=∃a o xs n ss,v = .ref a/\h.get? a=some o/\o.cls = .type "tuple" /\ o.data = .seq xs n/\aG xs.toList ss/\ss≠[]
theorem Xee  (h:∀c,C c s):∀{us vs:List aa} {as bs:Za} (i:Nat),aG us as->aG vs bs->KatLex prog w A b fin C (us.zip vs) i s
 | _,_,_,_,_,.nil,_=>kat_nil (h _)
 | _,_,_,_,_,.cons _ _ _,.nil=>kat_nil (h _)
 | _,_,_,_,i,.cons x t r,.cons y u r'=>by
  refine kat_cons (eqBool_str ?_);refine kat_go (λ_=>kat_yes (Xee h (i+1) r r')) (λ_=>kat_no ?_);cases (b&&i==0) with
  | true=>exact oneLt_str (h _)
  | false=>exact kat_one _ _ (PyProof.Rows.lt_str (h _))
def Xmg  (hx:Gb s.heap x) (hy:Gb s.heap y) (h:∀c,C c s):af (ag prog w) A (sG (tuples' true) x y) C E s:=by
 obtain⟨a,o,xs,n,ss,rfl,h1,_,h2,h3,_⟩:=hx;obtain⟨b,o',ys,n',qG,rfl,g1,_,g2,g3,_⟩:=hy;exact kat_lt h1 h2 g1 g2 (Xee h 0 h3 g3)
theorem Xef:∀{vs:List aa},(∀v∈vs,Gb s.heap v)->∃fs,KatTups s.heap vs fs/\fs.length=vs.length/\∀f∈fs,∃x t,f = .str x t
 | [],_=>⟨[],KatTups.nil,rfl,λ_ h=>by cases h⟩
 | v::vs,h=>by
  obtain⟨fs,h1,h2,h3⟩:=Xef (vs:=vs) λu hu=>h u (Nw _ hu);obtain⟨a,o,xs,n,ss,rfl,g1,g2,g3,g4,g5⟩:=h v Ny;obtain⟨f,x,t,hf,rfl⟩:∃f x t,xs[0]? = some f/\f = .str x t:=by
   have e:xs[0]? = xs.toList[0]?:=by simp
   rw[e];generalize xs.toList=l at g4;cases g4 with
   | nil=>exact absurd rfl g5
   | cons x t r=>exact⟨_,x,t,rfl,rfl⟩
  exact⟨_::fs,KatTups.cons g1 g2 g3 hf h1,by simp[h2],λf hf=>by
   rcases N4.mp hf with e | e
   ·exact⟨x,t,e⟩
   ·exact h3 f e⟩
def Xmh{n}  (hn:vs.length=n)(h:Gd n p):(p.toList.map λi=>vs.getD i aa.none).Perm vs:=by
 have e:((List.range n).map λi=>vs.getD i aa.none)=vs:=by
  refine Q7 (by simp[hn]) λi h1 h2=>?_;simp[Qd,List.getElem_range,List.getD,h2]
 have q:p.toList.Perm (List.range n):=by
  have:=h.toList;simpa using this
 have:=q.map λi=>vs.getD i aa.none;rw[e] at this;exact this
def Xmi    (ho:s.heap.get? a=some (a8 "list" vs.toArray n)) (hv:∀v∈vs,Gb s.heap v) (d0:vs.length<64)
  (h:∀out:Array aa,out.toList.Perm vs->P (.done (.ret .none)) {s with heap:=DE s.heap a vs out}):af (ag prog w) A (aj.«list.sort» ⟨[.ref a],[]⟩) P E s:=by
 rw[list_sort_plain];have ha:a<s.heap.objs.size:=S7 ho;refine Sr (jz ho rfl ?_);refine Sr (bU ho rfl ?_);obtain⟨e1,iJ⟩:∃e1,(s.heap.update a (aM.mapSeq λ_ => #[])).get? a=some (a8 "list" #[] e1):=⟨_,fZ ho (λ_ => #[])⟩;refine Sr (dU iJ rfl ?_);refine Sr (gQ ?_);refine Sr (cR ?_);refine aw ?_;have qH:(((s.heap.update a (aM.mapSeq λ_ => #[])).push (a8 "tuple" vs.toArray 0)).push (a8 "list" #[] 0)).get? a=some (a8 "list" #[] e1):=by
  rw[ak.get?_push_ne _ _ _ (by rw[bX,ak.size_update];exact Nz (Po ha)),ak.get?_push_ne _ _ _ (by rw[ak.size_update];exact Nz ha)];exact iJ
 have wg:∀v∈vs,Gb (((s.heap.update a (aM.mapSeq λ_ => #[])).push (a8 "tuple" vs.toArray 0)).push (a8 "list" #[] 0)) v:=λv hm=>by
  obtain⟨b,o,xs,k,ss,rfl,g1,g2,g3,g4,g5⟩:=hv v hm;refine⟨b,o,xs,k,ss,rfl,?_,g2,g3,g4,g5⟩;have fB:b≠a:=λe=>by
   rw[e,ho] at g1;have e1:=N5 g1;rw[<-e1] at g2;exact absurd (show aa.type "list" = aa.type "tuple" from g2) (by decide)
  exact S8 _ (S8 _ (by rw[ak.get?_update_ne _ _ _ _ fB];exact g1))
 show af (ag prog w) A _ P E {s with heap:=((s.heap.update a (aM.mapSeq λ_ => #[])).push (a8 "tuple" vs.toArray 0)).push (a8 "list" #[] 0)};k_in;have hsz:vs.toArray.size=vs.length:=by simp
 by_cases h2:vs.toArray.size<2
 ·rw[Sy h2,Sy h2];refine Sr (Ss ?_);rw[StateT.run_pure];refine Sr (Ss ?_);k_in;refine Sr (dU qH rfl ?_);refine Sr (bU qH rfl ?_ (hsz2:=by rw[Array.size_map];show (pairsOf vs).size<=_;rw[pairsOf_size,Sw];lia));simp only[bne_self_eq_false,Os,if_false];refine Ss (h _ ?_);have e:((bB (br.mk' general' (vs.toArray.zip vs.toArray) #[] 7 none)).map (·.2)).toList=vs:=by
   show ((vs.toArray.zip vs.toArray).map (·.2)).toList=vs;simp only[Array.toList_map,List.zip_toArray];exact List.map_snd_zip (Nr _)
  rw[e]
 ·rw[Sx h2,Sx h2];obtain⟨fs,t1,t2,t3⟩:=Xef (s:={s with heap:=((s.heap.update a (aM.mapSeq λ_ => #[])).push (a8 "tuple" vs.toArray 0)).push (a8 "list" #[] 0)}) wg;refine Sr (kat_kind (T:=.type "str") t1 (by lia) (λv hm=>?_) (by decide) ?_)
  ·obtain⟨x,t,rfl⟩:=t3 v hm;exact .now
  have eb:((aa.type "str") != aa.type "tuple")=true:=by decide
  rw[eb];refine Sr (aF (kat_run (κ:=tuples' true) (ks:=vs) (vs:=vs) (Q:=λaD s'=>s' = {s with heap:=((s.heap.update a (aM.mapSeq λ_ => #[])).push (a8 "tuple" vs.toArray 0)).push (a8 "list" #[] 0)}/\bI aD=none/\((bB aD).map (·.2)).toList.Perm vs)
   (G:=λp s'=>s' = {s with heap:=((s.heap.update a (aM.mapSeq λ_ => #[])).push (a8 "tuple" vs.toArray 0)).push (a8 "list" #[] 0)}/\Gd vs.length p) rfl (by lia) d0 (λp aD s' a1 a2 a3 a4=>⟨a4.1,a3,?_⟩) ?_) ?_ λ_ _ e=>e)
  ·rw[kat_snds rfl a2];exact Xmh rfl a4.2
  ·refine KAll.wp (n:=vs.length) (λi j C hi hj hC=>?_) ?_
   ·show af _ _ (sG (tuples' true) (vs.getD i aa.none) (vs.getD j aa.none)) C _ _;have m:∀i,i<vs.length->vs.getD i aa.none∈vs:=λi hi=>by
     have:vs.getD i aa.none=vs[i]:=by simp[List.getD,hi]
     rw[this];exact Ov hi
    exact Xmg (wg _ (m i hi)) (wg _ (m j hj)) hC
   ·have q:=Ms (n:=vs.length) (by lia);have imp:∀{t:KasT (Array Nat)},KAll vs.length (Gd vs.length) t->KAll vs.length (λp=>({s with heap:=((s.heap.update a (aM.mapSeq λ_ => #[])).push (a8 "tuple" vs.toArray 0)).push (a8 "list" #[] 0)}:ah) = {s with heap:=((s.heap.update a (aM.mapSeq λ_ => #[])).push (a8 "tuple" vs.toArray 0)).push (a8 "list" #[] 0)}/\Gd vs.length p) t:=by
     intro t
     induction t with
     | ret a=>exact λh=>⟨rfl,h⟩
     | ask i j k ih=>exact λh=>⟨h.1,h.2.1,λb=>ih b (h.2.2 b)⟩
    exact imp q
  rintro ⟨⟨⟩,aD⟩ s' ⟨rfl,hf,hp⟩;k_in;refine Sr (dU qH rfl ?_);refine Sr (bU qH rfl ?_ (hsz2:=by
   have:=hp.length_eq;rw[N1] at this;rw[this,Sw];lia))
  rw[hf];simp only[bne_self_eq_false,Os,if_false];exact Ss (h _ hp)
def Xmj   (hl:s.heap.IsList l vs.toArray) (hv:∀v∈vs,Gb s.heap v) (d0:vs.length<64)
  (h:∀out:Array aa,out.toList.Perm vs->Q (.ref (s.heap.objs.size+1)) {s with heap:=pk s.heap vs out}):
  af (ag prog w) A (call (.builtin "sorted") [.ref l]) Q E s:=by
 refine Calls.call_function_entry kO jx jy (vQ _) ?_;unfold aj.«sorted»;refine Sr (m:=mE "sorted" 1 1 _) (Ss ?_);refine Sr (wj hl ?_);refine Sr (cR ?_);have hsz:((s.heap.push (a8 "list" #[] 0)).update s.heap.objs.size (aM.mapSeq (· ++ vs.toArray))).objs.size=s.heap.objs.size+1:=by
  rw[ak.size_update,bX]
 have lZ:(((s.heap.push (a8 "list" #[] 0)).update s.heap.objs.size (aM.mapSeq (· ++ vs.toArray))).push (a8 "list" vs.toArray 0)).get? (s.heap.objs.size+1)=some (a8 "list" vs.toArray 0):=by
  rw[<-hsz];exact ak.get?_push_size _ rfl
 have keep:∀b o,s.heap.get? b=some o->(((s.heap.push (a8 "list" #[] 0)).update s.heap.objs.size (aM.mapSeq (· ++ vs.toArray))).push (a8 "list" vs.toArray 0)).get? b=some o:=λb o q=>by
  have b7:b<s.heap.objs.size:=S7 q;rw[ak.get?_push_ne _ _ _ (by rw[hsz];exact Nz (Po b7)),ak.get?_update_ne _ _ _ _ (Nz b7),ak.get?_push_ne _ _ _ (Nz b7)];exact q
 show af _ _ _ _ _ {s with heap:=((s.heap.push (a8 "list" #[] 0)).update s.heap.objs.size (aM.mapSeq (· ++ vs.toArray))).push (a8 "list" vs.toArray 0)};rw[hsz];refine Sr (aw (aR gU ⟨_,lZ,rfl⟩ fX (Xmi lZ (λv hm=>?_) d0 λout a1=>⟨_,rfl,?_⟩) (si _)))
 ·obtain⟨b,o,xs,k,ss,rfl,g1,g⟩:=hv v hm;exact⟨b,o,xs,k,ss,rfl,keep _ _ g1,g⟩
 ·exact Ss ⟨_,rfl,h out a1⟩
end
section
variable {X:Cx}
def Xmk:Bh X (.builtin "sorted") (λxs H Q=>∃(a:ae) (ps:List ae),xs=[.ref a]/\H a=some (.lst (ps.map V.ref))/\(∀p∈ps,∃ss:Za,H p=some (.tup (ss.map V.str))/\ss≠[])/\ps.length<64/\∀(l:ae) (jj:List ae),H l=none->jj.Perm ps->Q (.ref l) (upd H l (.lst (jj.map V.ref)))):=by
 k_asm;obtain⟨a,ps,rfl,ha,ht,d0,q⟩:=h;f_int;obtain⟨aB,rv,pl,hz⟩:=I.list (SqL.of ha);have p0:aB=ps.map aa.ref:=by
  clear ht d0 q hz pl ha
  induction ps generalizing aB with
  | nil=>cases rv;rfl
  | cons p t ih=>
   cases rv with
   | cons r t'=>cases r;rw[ih _ t'];rfl
 subst p0;refine Xmj pl.isList (λv hm=>?_) (by rw[Np];exact d0) λout h1=>?_
 ·obtain⟨p,hp,rfl⟩:=Oj.mp hm;obtain⟨ss,g1,g2⟩:=ht p hp;obtain⟨gD,r2,p2,_⟩:=I.tuple (SqT.of (K:=X.K) g1);obtain⟨o,ho,hc,n,hd⟩:=id p2;exact⟨p,o,gD.toArray,n,ss,rfl,ho,hc,hd,by simpa using F0 r2,g2⟩
 ·obtain⟨e,he⟩:=vZ s.heap (ps.map aa.ref) out;have hf:H (s.heap.objs.size+1)=none:=I.hok.fresh (Ps _);obtain⟨jj,e1,e2⟩:∃jj:List ae,out.toList=jj.map aa.ref/\jj.Perm ps:=by
   have inj:∀{a b:List aa},a.Perm b->∀q:List ae,b=q.map aa.ref->∃q':List ae,a=q'.map aa.ref/\q'.Perm q:=by
    intro a b p
    induction p with
    | nil=>intro q e;exact⟨[],rfl,by cases q with | nil=>exact .nil | cons _ _=>cases e⟩
    | cons x _ ih=>
     intro q e;cases q with
     | nil=>cases e
     | cons y t=>
      injection e with e1 e2
      obtain⟨q',h1,h2⟩:=ih t e2;exact⟨y::q',by rw[h1,e1];rfl,.cons y h2⟩
    | swap x y l=>
     intro q e
     match q,e with
     | u::v::t,e=>
      injection e with e1 e2
      injection e2 with e2 e3
      exact⟨v::u::t,by rw[e1,e2,e3];rfl,.swap u v t⟩
     | [_],e=>injection e with _ e2;cases e2
     | [],e=>cases e
    | trans _ _ i1 i2=>
     intro q e;obtain⟨q1,g1,g2⟩:=i2 q e;obtain⟨q2,g3,g4⟩:=i1 q1 g1;exact⟨q2,g3,g4.trans g2⟩
   exact inj h1 ps rfl
  refine⟨.ref (s.heap.objs.size+1),_,I.laid (t':=s.toks) (h':=pk s.heap (ps.map aa.ref) out) (o:=.lst (jj.map V.ref)) (λb ob q=>uC q) (Ps _) ?_,rfl,q _ jj hf e2⟩;refine⟨by rw[Np,e2.length_eq,Sw];lia,out.toList,e,?_,?_⟩
  ·rw[e1];clear e1 e2 he h1
   induction jj with
   | nil=>exact .nil
   | cons p t ih=>exact .cons rfl ih
  ·rw[he]
end
section
variable {X:Cx}
def Xml:Bh X (.builtin "sorted") (λxs H Q=>∃(a:ae) (ks:Za),xs=[.ref a]/\H a=some (.tup (ks.map V.str))/\ks.length<64/\∀l,H l=none->Q (.ref l) (upd H l (.lst ((srt ks).map V.str)))):=by
 k_asm;obtain⟨a,ks,rfl,ha,d0,q⟩:=h;f_int;obtain⟨aB,r2,p2,_⟩:=I.tuple (SqT.of (K:=X.K) ha);obtain⟨o,ho,hc,n,hd⟩:=id p2;have hl:aB.length=ks.length:=by
  have:=r2.length;rw[Np] at this;exact this.symm
 refine Lq d0 (λR k=>wpAny_collect_seq a (.inr rfl) ho hc hd (λh' kk=>k _ _ ks kk rfl rfl (by simpa using F0 r2) (Px _)) (by rw[Nt,hl,Sw];lia)) λs1 s' vs ls e k1 o1 g1 k2 o2 g2 he st p so=>?_;refine Lr I d0 k1 o1 g1 k2 o2 g2 he st p λl hl=>?_;rw[Fc p so];exact q l hl
def Xmm(hu:X.A.units+4<bA):OpR X (aH .NotIn) (λx y H Q=>∃d ds,DAt H d x/\DAt H (.list ds) y/\d.canLay0=true/\am.canLayAll0 ds=true/\d.depth<=3/\Q (.bl (!ds.any λe=>am.eqv e d)) H):=by
 k_go;obtain⟨d,ds,h1,h2,c1,c2,hd,q⟩:=h;obtain⟨as,ra⟩:=D9 I d x v h1 rx;obtain⟨bs,rb⟩:=D9 I (.list ds) y u h2 ry;exact SeqAt.notIn_list_reads rb ra c2 c1 (by lia) ⟨.bl _,H,I,rfl,q⟩
end
end L2
namespace SH
open L2
def tupD (ss:Za):am:=.tuple (ss.map am.str)
def Plts (row:Za) (H:Hp) (ps:List ae):Prop:=∀p∈ps,∃ss:Za,H p=some (.tup (ss.map V.str))/\Ag row ss=true
def Plts.same   (h:Plts row H ps) (s:Same H H'):Plts row H' ps:=λp hp=>let ⟨ss,h1,h2⟩:=h p hp; ⟨ss,s _ _ h1,h2⟩
theorem Xeg:∀{Ts:List (Za)} {xs:List V},DAll H (Ts.map tupD) xs->∃ps:List ae,xs=ps.map V.ref/\ps.length=Ts.length/\∀p∈ps,∃T∈Ts,H p=some (.tup (T.map V.str))
 | [],xs,h=>by unfold List.map DAll at h;exact⟨[],h,rfl,λ_ q=>by cases q⟩
 | T::Ts,xs,h=>by
  rw[Op] at h;unfold DAll at h;obtain⟨v,vr,rfl,h1,h2⟩:=h;obtain⟨p,ys,rfl,hp,hy⟩:=Jg h1;rw[F9 hy] at hp;obtain⟨ps,rfl,hl,hq⟩:=Xeg h2;exact⟨p::ps,rfl,by simp[hl],λq j4=>by
   rcases N4.mp j4 with e | e
   ·exact⟨T,Ny,e ▸ hp⟩
   ·obtain⟨T',h1,h2⟩:=hq q e;exact⟨T',Nw _ h1,h2⟩⟩
def Co(h:Ag row ss=true):(∀x∈ss,x∈row)/\ss.Pairwise ltS:=by
 unfold Ag at h;rw[N3,N3] at h;refine⟨λx hx=>S5 (Oh.mp h.1.2 x hx),?_⟩;rw[S5 h.1.1];exact Mi ss
def Fo(h:Ag row ss=true):ss.length<=(dit row).length:=
 Mp (Ea (Co h).2) λx hx=>Ai.mpr ((Co h).1 x hx)
def Mt(row):Ag row []=true:=by
 unfold Ag;rw[Jn .nil];rfl
def Xmn  (h2:∀y∈row,row.count y=2) (h:Ag row ss=true) (hx:x∈row) (n:x∉ss) (hf:Ck (bars row) (srt (ss++[x]))=true):Ag row (srt (ss++[x]))=true:=by
 rw[<-Jp h2];unfold Ep;rw[hf,Bool.and_true];obtain⟨hr,hl⟩:=Co h;have nd:(ss++[x]).Nodup:=by
  rw[Pp];exact⟨Ea hl,by simp,λa ha b hb e=>n (by rw[Nv.mp hb] at e;exact e ▸ ha)⟩
 refine Sz (Mj.mpr ⟨?_,λy hy=>?_⟩)
 ·unfold told;have e1:srt (ddup (srt (ss++[x])))=srt (srt (ss++[x])):=Xcr (Jm ((Cw _).nodup_iff.mpr nd));have e2:srt (srt (ss++[x]))=srt (ss++[x]):=Fb (Cw _) (D6 _) (D6 _);exact(e1.trans e2).symm
 ·rcases N0.mp (Fd.mp hy) with q | q
  ·exact hr y q
  ·rw[Nv.mp q];exact hx
def Xmo  : srt (ss++[x])≠[]:=λe=>by
 have:x∈srt (ss++[x]):=Fd.mpr (by simp);rw[e] at this;cases this
structure Fresh (row:Za) (H:Hp) (f:ae) (xs:List V) (Ts:List (Za)):Prop where
 at':H f=some (.lst xs)
 all:DAll H (Ts.map tupD) xs
 nd:Ts.Nodup
 ok:∀T∈Ts,T≠[]/\Ag row T=true
def Fresh.same    {xs} (h:Fresh row H f xs Ts) (s:Same H H'):Fresh row H' f xs Ts:=⟨s _ _ h.at',DAll.same s _ _ h.all,h.nd,h.ok⟩
def spPlots:Sp:=λvs H Q _=>∃(r:ae) (row:Za),vs=[.ref r]/\H r=some (.lst (row.map V.str))/\Row2 row/\B3 row/\(dit row).length<=14 /\
 ∀(l:ae) (ps:List ae) (H':Hp),H l=none->H' l=some (.lst (ps.map V.ref))->ps≠[]->ps.length<=1000->Plts row H' ps->Same H H'->Q (.ref l) H'
abbrev NPl:Za:=["_law_row_here", "_law_bars_here", "_law_names_here", "_law_told", "_law_layer", "_law_k", "_law_fresh", "_law_plot", "_law_name", "_law_over"]
end SH
namespace L2
section
variable {prog:ar}{w:aA}{A:av}{E:Zb}{h:ak}{g:Array rR}{d:rS}{t:Nat}{os:vG}
variable {nm q:ao}{C N:ae}{bs bm m8:List aa}{hdct:Bool}{sn:Za}{sub:List aa}{ab:Bool}{col:Option Bool}{dd:Option ae}{k0 k1 k2 k3 k5:Option aa}{B newId gc:String}
def Xmp(F:j5 B newId gc m8)(T:jr h m8 bm)  {rest:List aa}   (hC:h.get? C=some (c6 nm q C N bs bm hdct sn sub ab col dd k0 k1 k2 k3 k5 newId))(hn:h.Ns N mN)(hi:mN "__init__" = some (.ref fI))
  (pB:h.get? fI=some oI) (lM:oI.cls = .type "function")
  (hq:∀h' e,ak.MadeExcOf h h' e (.ref C) rest ->
   af (ag prog w) A (call (.ref fI) (.ref e::rest)) (λr s'=>r = .none/\Q (.done (.ret (.ref e))) s') E ⟨h',g,d,t,os⟩) (hrest:rest.length<=sizeLine:=by size_fits):
  af (ag prog w) A (aj.«type.__call__» ⟨.ref C::rest,[]⟩) Q E ⟨h,g,d,t,os⟩:=by
 repeat (first | with_reducible refine cj hC ?_ | with_reducible refine wpAny_madeBy_exc hC ?_ | wp_step)
 refine codeAny_call_builtin_code (eZ.quiet_builtin _ F.quiet) (wpAny_check_new_subT F T hC ?_);refine codeAny_exc_new_subT F T hC ?_ hrest;show af _ _ _ _ _ _;have zx:=S8 {cls:=.ref C,data:=.fields #[.ref h.objs.size,.none,.none,.none,.bool false,.none]}
  (S8 {cls:=.type "tuple",data:=.seq rest.toArray} hC)
 have wk:=S8 {cls:=.ref C,data:=.fields #[.ref h.objs.size,.none,.none,.none,.bool false,.none]}
  (S8 {cls:=.type "tuple",data:=.seq rest.toArray} pB)
 have DV : ((h.push {cls:=.type "tuple",data:=.seq rest.toArray}).push {cls:=.ref C,data:=.fields #[.ref h.objs.size,.none,.none,.none,.bool false,.none]}).Ns N mN:=
  let ⟨o,es,ep,e,r⟩:=hn; ⟨o,es,ep,S8 _ (S8 _ e),r⟩
 have sH:((h.push {cls:=.type "tuple",data:=.seq rest.toArray}).push
   {cls:=.ref C,data:=.fields #[.ref h.objs.size,.none,.none,.none,.bool false,.none]}).get? (h.objs.size+1)=some
   {cls:=.ref C,data:=.fields #[.ref h.objs.size,.none,.none,.none,.bool false,.none]}:=by heap_get
 have DW:(aa.ref C::bm).contains (.ref C)=true:=by simp
 have T₁:=T.keeps (h':=(h.push {cls:=.type "tuple",data:=.seq rest.toArray}).push {cls:=.ref C,data:=.fields #[.ref h.objs.size,.none,.none,.none,.bool false,.none]})
  λb o e=>S8 _ (S8 _ e)
 unfold cK
 repeat (first | with_reducible refine cj sH ?_ | (with_reducible refine lN zx ?_;rw[DW]) | wp_step)
 show af _ _ (eL (.ref C) _) _ _ _;refine wpAny_typeLookup_tail zx DV T₁ F.mroIs F.init.lookup ?_;rw[hi];refine aw (Sr ?_);unfold kL;refine Sr (aX (T := "function") ⟨_,wk,lM⟩ ?_);rw[Sy (by decide)];refine Ss (Sr (aF (hq _ (h.objs.size+1) ⟨λb o hb=>S8 _ (S8 _ hb),ak.get?_none_of_le (Ps _),h.objs.size,sH,ak.get?_none_of_le (Nr _),?_⟩) (λr s' hr=>?_) λ_ _ x=>x))
 ·exact S8 _ (ak.get?_push_at rfl rfl)
 ·obtain⟨rfl,hQ⟩:=hr
  wp_walk
  exact hQ
def Xmq(F:j5 B newId gc m8)(T:jr h m8 bm)  {rest:List aa}   (hC:h.get? C=some (c6 nm q C N bs bm hdct sn sub ab col dd k0 k1 k2 k3 k5 newId))(hn:h.Ns N mN)(hi:mN "__init__" = some (.ref fI))
  (pB:h.get? fI=some oI) (lM:oI.cls = .type "function")
  (hq:∀h' e,ak.MadeExcOf h h' e (.ref C) rest ->
   af (ag prog w) (A.under (.builtin "type.__call__" ⟨.ref C::rest,[]⟩)) (call (.ref fI) (.ref e::rest)) (λr s'=>r = .none/\Q (.ref e) s') E ⟨h',g,d,t,os⟩) (hrest:rest.length<=sizeLine:=by size_fits):
  af (ag prog w) A (call (.ref C) rest) Q E ⟨h,g,d,t,os⟩:=by
 have f1:=tc_lookup;have f2:=tc_bind (.ref C);have hT:(⟨h,g,d,t,os⟩:ah).TypeIs (.ref C) "type" := ⟨_,hC,rfl⟩;refine dq (dD ?_);show af _ _ (callAny (.ref C) _) _ _ _
 repeat (any_goals (first | assumption | with_reducible refine cj hC ?_ | wp_step))
 refine⟨rfl,?_⟩;refine codeAny_call_builtin_at (eZ.quiet_builtin _ (by decide +kernel)) entry_typeCall (wpAny_check_type_call_sub hC (Xmp (hrest:=hrest) F T hC hn hi pB lM λh' e hm=>?_));exact hq h' e hm
end
end L2
namespace L2
open PySem.W
open Builtin Builtin.ObjectAttr
def Fp:List aa:=[.type "ValueError",.type "Exception",.type "BaseException",.type "object"]
theorem Xeh(self):∀(rs:List ae),refuseLoop self "__setattr__" (rs.map aa.ref++Fp)=pure ()
 | []=>PySem.F.store_ValueError.passes self
 | c::r=>by rw[Op,Rv,refuseLoop_ref];exact Xeh self r
section
variable {prog:ar}{w:aA}{A:av}{E:Zb}{K:Frag}{s:ah}{x C:ae}{o:aM}{name:ao}{v:aa}{cd:MA}{rs:List ae}
def Xmr  (X:K.In s.heap) (hx:s.heap.get? x=some o) (hc:o.cls = .ref C) (dZ:notCls o=true) (mK:o.dict=none) (eR:clsIn K C=some cd) (hm:cd.mro=rs.map aa.ref++Fp) (gX:cd.hasDict=true)
  (ha:findIn K (.ref C) name=some none)
  (hq:∀h' lO dx,h'.get? x=some {o with dict:=some dx}->s.heap.get? dx=none->h'.Ns1 dx (λy=>if y=name then some v else none)->(∀b ob,b≠x->s.heap.get? b=some ob->h'.get? b=some ob)->R (.ok (.ret .none)) {s with heap:=h',toks:=lO}):
  bc (ag prog w) A (.call (.builtin "object.__setattr__") ⟨[.ref x,.str name tk,v],[]⟩) R s:=by
 have SF:=PySem.F.store_object;have I:InstAt s.heap x o C none:=⟨hx,hc,dZ,by rw[mK];trivial⟩;have ne:cd.mro.isEmpty=false:=by rw[hm];cases rs<;>rfl
 have ho:cd.mro.contains (.type "object")=true:=by
  rw[hm,List.contains_iff_mem,N0];exact .inr (by simp[Fp])
 have sub:Looks (ag prog w) s.heap (cK (.ref x) (.type "object")) true:=I.type.andThen (looks_mroIn X (by unfold mroIn;rw[eR,Option.bind_some,Sx (by rw[ne];decide),ho]));refine bL SF.slot.plain SF.entry (@check_slot (ag prog w) _ _ s "object.__setattr__" "object" "__setattr__" (.ref x) [.str name tk,v] [] _ SF.kind SF.split sub (SF.args (.ref x) (.str name tk) v) ?_);have wn:Looks (ag prog w) s.heap (mroOf (.ref C)) cd.mro:=(looks_clsIn X eR).andThen .now;rw[osa_eq,refuse_eq];refine Sr (Sr (I.type.here (Sr (wn.here ?_))));rw[hm,Xeh];refine Ss (Sr (I.type.here (Sr ((looks_findIn X ha).here (Sr (Ss ?_))))));k_in;show af _ _ (storeInOwnDict (.ref x) (.ref C) (.str name tk) name v false) _ _ _;obtain⟨h,g,d,t,os⟩:=s;have gW:x≠h.objs.size:=Nz (S7 hx);obtain⟨oc,MB,wo,gr⟩:=o;dsimp only at hc mK;subst hc mK;have zy : (h.push {cls:=.type "dict",data:=.dict #[]}).get? x=some ⟨.ref C,none,wo,gr⟩:=S8 _ hx;refine Sr (Ss (Sr (Sr (rT hx (Sr ((looks_clsIn X eR).here ?_))))));rw[gX];gn_on;k_in;rw[Sx (by simp[typeHasDict])]
 have fin:af (ag prog w) A.in1 (do
   let d <-alloc {cls:=aa.type "dict",data:=rB.dict #[]}
   update x λo=>{cls:=o.cls,dict:=some d,data:=o.data,slots:=o.slots}
   dictMade (aa.ref C) x d)
  (λa s'=>af (ag prog w) A.in1 (match a with
    | some d=>storeInDict d (aa.str name tk) name v
    | none=>noDictFor (aa.ref x) (aa.ref C) name false)
    (λfin s'=>match fin with
     | Fin.done f=>R (Except.ok f) s'
     | Fin.again c'=>c'.quiet=true/\bc (ag prog w) A c' R s')
    (λe s'=>R (Except.error e) s') s')
  (λe s'=>R (Except.error e) s') {heap:=h,gens:=g,drawn:=d,toks:=t,os:=os}:=by
  refine Sr (wpAny_alloc' ?_);refine Sr (wpAny_update' zy ?_);refine Ss ?_;have DX:((h.push {cls:=.type "dict",data:=.dict #[]}).update x λo=>{cls:=o.cls,dict:=some h.objs.size,data:=o.data,slots:=o.slots}).get? h.objs.size
    = some {cls:=.type "dict",data:=.dict #[]}:=
   (ak.get?_update_ne _ _ _ _ gW.symm).trans (ak.get?_push_at rfl rfl)
  have qI:((h.push {cls:=.type "dict",data:=.dict #[]}).update x λo=>{cls:=o.cls,dict:=some h.objs.size,data:=o.data,slots:=o.slots}).Ns h.objs.size (λ_=>none):=
   ⟨_, #[],_,DX,rfl,λe he=>absurd he (by simp),λ_=>rfl⟩
  show af _ _ (storeInDict h.objs.size (.str name tk) name v) _ _ _;unfold storeInDict newKeyGuard;refine Sr (Ss (Sr (wpAny_nsSet1 (ak.Ns1.of_empty qI) λh' qx hs=>?_)));obtain⟨oD,MC,MD,DY,DZ,EE⟩:=qx.count (Within.cons name v Within.nil);refine Sr (wpAny_lookBehind DY (by rw[DZ];exact pastItsLine_dict (Oq EE (by rw[Oe,Pw,Sw];lia))) ?_)
  wp_walk
  refine hq h' _ h.objs.size ?_ (ak.get?_none_of_le (Nr _)) qx (λb ob hb e=>?_)
  ·refine(hs.2 x gW).trans (ak.get?_update_self _ zy ?_);have dI:=(ak.get?_some_iff.mp hx).2;cases wo<;>first | rfl | exact dI
  ·exact(hs.2 b (Nz (S7 e))).trans ((ak.get?_update_ne _ _ _ _ hb).trans (S8 _ e))
 cases wo<;>first | exact fin | exact absurd dZ (by simp[notCls])
def Xms(X:K.In s.heap)(hx:s.heap.get? x=some o)(hc:o.cls = .ref C)(dZ:notCls o=true)(mK:o.dict=none)(eR:clsIn K C=some cd)(hm:cd.mro=rs.map aa.ref++Fp)(gX:cd.hasDict=true)
  (hs:findIn K (.ref C) "__setattr__" = some (some (.builtin "object.__setattr__"))) (ha:findIn K (.ref C) name=some none)
  (hq:∀h' lO dx,h'.get? x=some {o with dict:=some dx}->s.heap.get? dx=none->h'.Ns1 dx (λy=>if y=name then some v else none)->(∀b ob,b≠x->s.heap.get? b=some ob->h'.get? b=some ob)->Q () {s with heap:=h',toks:=lO}):
  af (ag prog w) A (setAttr (.ref x) name v) Q E s:=
 set_plain X (⟨hx,hc,dZ,by rw[mK];trivial⟩:InstAt s.heap x o C none) hs (Xmr (s:={s with toks:=s.toks+1}) X hx hc dZ mK eR hm gX ha λh' lO dx a1 a2 a3 a4=>hq h' lO dx a1 a2 a3 a4)
end
end L2
namespace L2
def Xei(o:aM)(f):(o.mapFields f).dict=o.dict:=by
 obtain⟨c,d,dt,sl⟩:=o;cases dt<;>rfl
def Ec (h:ak) (e:ae) (dd:Option ae):Prop:=∃oe,h.get? e=some oe/\oe.dict=dd
section
variable {M:nU}{A:av}{E:Zb}{s:ah}
def Xej         (dI:A.frames=some (env::outer)) (hl:s.heap.FunFrames base (env::outer)) (hf:env.frame=some L)
  (he:s.heap.get? e=some oe) (gx:base.StaysIn s.heap) (jS:base.get? e=none) (hd:oe.data = .fields vs) (hsz:1<vs.size) (h0:vs[0]? = some a0)
  (h:∀h',ak.LeftW base (env::outer) e oe.cls a0 s.heap h'->Ec h' e oe.dict->Q () {s with heap:=h'}):
  af M A (do    let a <-frameOf env;let pl <-wq L mL;let b <-EntryCells.newEntry head a .none (aO L) .none pl;bT (.ref e) 1 b) (λ_ s'=>af M A (er (.ref e) none) Q E s') E s:=by
 have wt:e∉(env::outer).filterMap (·.frame):=λhm=>by
  obtain⟨_,o,ho,cU⟩:=hl.mem hm;rw[he] at ho;injection ho with ho;subst ho;exact cU vs hd
 refine Sr (oh dI hl hf λh₁ uF=>?_);refine Sr (mM λpl bN=>?_);unfold EntryCells.newEntry oY;refine Sr (aC ?_ (bN.sizeOk5 _ _ _ _ _));have z4 : h₁.get? e=some oe:=(uF.2.1 e wt).trans he;have z5 : base.StaysIn h₁:=λb o iK=>(uF.2.1 b λhm=>by rw[(hl.mem hm).1] at iK;cases iK).trans (gx b o iK);have z6:=S8 (h:=h₁) {cls:=.type "traceback",dict:=none,data:=.fields ([head,.ref L,.none,aO L,.none]++(if pl.isEmpty then List.replicate 6 aa.none else pl)).toArray} z4;refine aQ z6 hd hsz ?_;have jT:h₁.objs.size≠e:=Qw (S7 z4);have wu:=aM.data_mapFields hd (·.setIfInBounds 1 (aa.ref h₁.objs.size));have wv:=ak.get?_update_self (aM.mapFields (·.setIfInBounds 1 (aa.ref h₁.objs.size))) z6 (aM.isFreed_of_fields wu);have z7:=(ak.get?_update_other (h₁.push {cls:=.type "traceback",dict:=none,data:=.fields ([head,.ref L,.none,aO L,.none]++(if pl.isEmpty then List.replicate 6 aa.none else pl)).toArray})
  (aM.mapFields (·.setIfInBounds 1 (aa.ref h₁.objs.size))) (Ne.symm jT)).trans (ak.get?_push_size h₁ rfl)
 unfold er;refine Sr (aZ wv wu (x:=.ref h₁.objs.size) (by simp[hsz]) ?_);rw[Sy (show (aa.ref h₁.objs.size != aa.none)=true from by simp)];refine aQ z7 rfl (by simp only[Nt,Nx,Oe,Pw]<;>lia) (h _ ?_ ⟨_,by rw[ak.get?_update_other _ _ jT];exact wv,Xei _ _⟩);have keep:∀b o,b≠e->h₁.get? b=some o ->
   (((h₁.push {cls:=.type "traceback",dict:=none,data:=.fields ([head,.ref L,.none,aO L,.none]++(if pl.isEmpty then List.replicate 6 aa.none else pl)).toArray}).update e (aM.mapFields (·.setIfInBounds 1 (aa.ref h₁.objs.size)))).update h₁.objs.size
    (aM.mapFields (·.setIfInBounds 3 ((none:Option ae).elim aa.none λf=>aO f)))).get? b=some o:=λb o kg hb=>by
  have EF:h₁.objs.size≠b:=Qw (S7 hb);rw[ak.get?_update_other _ _ EF,ak.get?_update_other _ _ (Ne.symm kg)];exact S8 _ hb
 have cZ:∀b o,s.heap.get? b=some o->(∀vs,o.data ≠ .fields vs)->b≠e:=λb o hb cU q=>by
  rw[q,he] at hb;injection hb with hb;subst hb;exact cU vs hd
 refine⟨λb o iK=>keep b o (λq=>by rw[q,jS] at iK;cases iK) (z5 b o iK),hl.of_keeps λb o hb cU=>?_,?_,λb o hb cU=>?_⟩
 ·obtain⟨sl,hs⟩:=uF.2.2 b o hb;exact⟨_,keep b _ (cZ b o hb cU) hs,rfl⟩
 ·refine⟨_,_,h₁.objs.size,_,_,?_,⟨aM.cls_mapFields _ _,by rw[Rq (by decide)];exact h0⟩,wu,by simp[hsz],z5.fresh,jT,ak.get?_update_self _ z7 (aM.isFreed_of_fields (aM.data_mapFields rfl _)),aM.data_mapFields rfl _,by first | (simp;done) | (rcases bN with rfl | ⟨_,_,_,_,_,_,_,rfl⟩<;>simp)⟩;rw[ak.get?_update_other _ _ jT];exact wv
 ·obtain⟨sl,hs⟩:=uF.2.2 b o hb;exact⟨sl,keep b _ (cZ b o hb cU) hs⟩
def Xek{base}   {L e}   {a0}(dI:A.frames=some (env::outer))(hl:s.heap.FunFrames base (env::outer))(hf:env.frame=some L)
  (he:s.heap.get? e=some oe) (gx:base.StaysIn s.heap) (jS:base.get? e=none) (hd:oe.data = .fields vs) (h1:vs[1]? = some .none) (h0:vs[0]? = some a0)
  (h:∀h',ak.LeftW base (env::outer) e oe.cls a0 s.heap h'->Ec h' e oe.dict->Q () {s with heap:=h'}):af M A (leaving env (.ref e)) Q E s:=by
 unfold leaving eh;simp only[hf];refine Sr (Sr (aZ he hd h1 ?_));gn_on;exact Xej dI hl hf he gx jS hd (Pq.mp h1).1 h0 h
def Xmt       (dI:A.frames=some (env::outer)) (hl:s.heap.FunFrames base (env::outer)) (hf:env.frame=some L) (ht:s.heap.TracedW base e cls a0) (EG:Ec s.heap e dd) (gx:base.StaysIn s.heap) (jS:base.get? e=none)
  (h:∀h',ak.LeftW base (env::outer) e cls a0 s.heap h'->Ec h' e dd->Q () {s with heap:=h'}):af M A (leaving env (.ref e)) Q E s:=by
 obtain⟨oe,vs,T,oT,ts,he,⟨dF,h0⟩,hd,h1,qJ,jT,hT,j6,h3⟩:=ht;subst dF;obtain⟨z8,oi,jO⟩:=EG;rw[he] at oi;have e0:=N5 oi;subst e0 jO;unfold leaving eh;simp only[hf];refine Sr (Sr (aZ he hd h1 ?_));rw[Sy (show (aa.ref T != aa.none)=true from by simp)];refine Sr (aZ hT j6 h3 ?_);rw[Sx (show ¬((aa.none==aO L)=true) from by simp[aO])];refine Sr (aQ hT j6 (Pq.mp h3).1 ?_);have dE:∀b,b≠T->(s.heap.update T (aM.mapFields (·.setIfInBounds 3 aa.none))).get? b=s.heap.get? b:=λb hb=>ak.get?_update_other _ _ (Ne.symm hb);have cZ:∀b o,s.heap.get? b=some o->(∀vs,o.data ≠ .fields vs)->b≠T:=λb o hb cU q=>by
  rw[q,hT] at hb;injection hb with hb;subst hb;exact cU ts j6
 refine Xej dI (hl.of_keeps λb o hb cU=>⟨o,(dE b (cZ b o hb cU)).trans hb,rfl⟩) hf ((dE e (Ne.symm jT)).trans he)
  (λb o iK=>(dE b λq=>by rw[q,qJ] at iK;cases iK).trans (gx b o iK)) jS hd (Pq.mp h1).1 h0
  λh' ⟨x1,x2,x3,x4⟩ hD=>h h' ⟨x1,x2,x3,λb o hb cU=>x4 b o ((dE b (cZ b o hb cU)).trans hb) cU⟩ hD
def Dc (base:ak) (l:List Env) (e:ae) (cls a0:aa) (dd:Option ae) (h:ak):Prop:=ak.FlyingW base l e cls a0 h/\Ec h e dd
def Xmu    {L e}   (dI:A.frames=some (env::outer)) (hf:env.frame=some L) (jd:Dc base (env::outer) e cls a0 dd s.heap)
  (hQ:∀h',Dc base outer e cls a0 dd h'->s.heap.UpToSlots h'->Q () {s with heap:=h'}):af M A (leaving env (.ref e)) Q E s:=by
 obtain⟨⟨f1,f2,f3,f4⟩,hD⟩:=jd;refine Xmt dI f3 hf f4 hD f1 f2 λh' hL fz=>?_;obtain⟨k1,⟨_,_,k2⟩,k3,k4⟩:=hL;exact hQ h' ⟨⟨k1,f2,k2,k3⟩,fz⟩ k4
structure MadeD (h h':ak) (e:ae) (cls:aa) (args:List aa) (dx:ae):Prop where
 keeps:∀b o,h.get? b=some o->h'.get? b=some o
 new:h.get? e=none
 EH:h.get? dx=none
 there:∃t,h'.get? e=some {cls:=cls,dict:=some dx,data:=.fields #[.ref t,.none,.none,.none,.bool false,.none]}/\h.get? t=none/\h'.get? t=some {cls:=.type "tuple",data:=.seq args.toArray}
end
section
variable {M:nU}{A:av}{E:Zb}{s:ah}
def Xmv    {L e}   (dI:A.frames=some (env::outer)) (hf:env.frame=some L) (gx:base.StaysIn h) (hl:h.FunFrames base (env::outer)) (hx:ak.MadeExcOf h s.heap e cls args)
  (hQ:∀h' t,Dc base outer e cls (.ref t) none h'->s.heap.UpToSlots h'->Q () {s with heap:=h'}):af M A (leaving env (.ref e)) Q E s:=by
 obtain⟨t,he,ME,ht⟩:=hx.there;have fresh:∀b,h.get? b=none->base.get? b=none:=λb hb=>by
  cases hq:base.get? b with
  | none=>rfl
  | some o'=>have:=gx b o' hq;rw[hb] at this;cases this
 refine Xek (a0:=.ref t) dI (hl.of_keeps λb o hb _=>⟨o,hx.keeps b o hb,rfl⟩) hf he (λb o hb=>hx.keeps b o (gx b o hb)) (fresh e hx.new) rfl rfl rfl λh' hL hD=>?_;obtain⟨k1,⟨_,_,k2⟩,k3,k4⟩:=hL;exact hQ h' t ⟨⟨k1,fresh e hx.new,k2,k3⟩,hD⟩ k4
end
structure FlownD (P:ar) (w:aA) (outer:List Env) (H:Hp) (hc:ak) (H':Hp) (ex C:ae) (dd:Option ae) (B:ak) (a0:aa) (h:ak):Prop where
 un:Un (frs outer) [] H H' hc h
 hok:HOk P w H' h
 fly:Dc B outer ex (.ref C) a0 dd h
 inB:∀b o,h.get? b=some o->b∉frs outer->((∃o',hc.get? b=some o')\/H' b≠none)->B.get? b=some o
 frf:∀b∈frs outer,H' b=none
def FlownD.move        (F:FlownD P w outer H hc H' ex C dd B a0 h) (st:B.StaysIn h') (up:h.UpToSlots h'):
  Un (frs outer) [] H H' hc h'/\HOk P w H' h'/\∀b o,h'.get? b=some o->b∉frs outer->((∃o',hc.get? b=some o')\/H' b≠none)->B.get? b=some o:=by
 have nf:∀b∈frs outer,∀o,h.get? b=some o->∀vs,o.data ≠ .fields vs:=λb hb o e=>by
  obtain⟨_,o',e',d⟩:=F.fly.1.2.2.1.mem hb;rw[e] at e';cases e';exact d
 have tr:∀b o,H' b=some o->b∉frs outer:=λb o e hb=>by rw[F.frf b hb] at e;cases e
 have eG:∀b,(∃o',hc.get? b=some o')\/H' b≠none->∃o,h.get? b=some o:=λb hb=>by
  rcases hb with ⟨o',e⟩ | hb
  ·obtain⟨o,e'⟩:=F.un.there b o' e (by simp);exact⟨o,e'⟩
  ·cases q:H' b with
   | none=>exact absurd q hb
   | some u=>exact(F.hok b u q).there
 refine⟨⟨λb o e n hb hx=>?_,λb o e n hb hx=>?_,F.un.free,λb o e hx=>?_,F.un.tups,F.un.frzs,F.un.tbls⟩,λa o e=>?_,λb o e hb hw=>?_⟩
 ·exact st b o (F.inB b o (F.un.keep b o e n hb hx) hb (.inl ⟨o,e⟩))
 ·obtain⟨sl,e1⟩:=F.un.slot b o e n hb hx;obtain⟨e9,e2⟩:=up b _ e1 (nf b hb _ e1);exact⟨e9,e2⟩
 ·obtain⟨o1,e1⟩:=F.un.there b o e hx;by_cases hb:b∈frs outer
  ·obtain⟨e9,e2⟩:=up b _ e1 (nf b hb _ e1);exact⟨_,e2⟩
  ·exact⟨o1,st b o1 (F.inB b o1 e1 hb (.inl ⟨o,e⟩))⟩
 ·refine(F.hok a o e).stay (λb u hb q=>?_) (λ_ q=>q) λ_ _ q=>q;have hn:H' b≠none:=by
   rcases hb with z | z
   ·rw[z,e];simp
   ·rw[z];simp
  have dJ:b∉frs outer:=λz=>hn (F.frf b z);exact st b u (F.inB b u q dJ (.inr hn))
 ·obtain⟨o1,e1⟩:=eG b hw;have e2:=F.inB b o1 e1 hb hw;have e3:=st b o1 e2;rw[e] at e3;cases e3;exact e2
def CX2 (P:ar) (w:aA):CXT:=λouter H s E e s'=>
 ∃ex C dd H' B a0,e = .ref ex/\s'.os=s.os/\cE s'.gens/\FlownD P w outer H s.heap H' ex C dd B a0 s'.heap/\E (.ref C) dd H'
section
variable {P:ar}{w:aA}{K:NO}{mg:ao->Option aa}{base:ak}{N:Za}{qual:ao}{scope:cw}{f:ae}{cd:aa}{A:av}{outer:List Env}{s:ah}{H:Hp}{E:XK}
def Xel (X:Cx) (E:XK):Prop:=∀(pins:List (ae×aM)) (Z:St) (H:Hp) (s:ah) (h':ak) (ex C:ae) (args:List aa),
 Inv X pins Z H s->ak.MadeExcOf s.heap h' ex (.ref C) args->E (.ref C) none H->X.xe (.ref ex) {s with heap:=h'}
def leaves2:Xel (Bj (CX2 P w) P w K mg base N qual scope f cd A outer s H E) E:=by
 intro pins Z H1 s1 h' ex C args I hm hE;show af (ag P w) (A.deeper (au qual scope s.heap.objs.size f cd)) (leaving (au qual scope s.heap.objs.size f cd) (.ref ex)) _ _ {s1 with heap:=h'};have bH:(Bj (CX2 P w) P w K mg base N qual scope f cd A outer s H E).stack=au qual scope s.heap.objs.size f cd::outer:=rfl;fin2;have je:∀b,b∈frs outer->b∈frs (au qual scope s.heap.objs.size f cd::outer):=λb hb=>by
  unfold frs at hb ⊢;rw[O1];split
  ·exact hb
  ·exact Nw _ hb
 have cr:∀b,b∈frs (au qual scope s.heap.objs.size f cd::outer)->H1 b=none:=λb hb=>I.stkFree b hb;refine Xmv (A:=A.deeper (au qual scope s.heap.objs.size f cd)) (L:=s.heap.objs.size) I.ok.frames rfl hB (OE gG dy) hm λrP t f1 up=>?_;have eG:∀b o,s.heap.get? b=some o->b∉frs outer->b∉frs (au qual scope s.heap.objs.size f cd::outer):=λb o e nb hb=>by
  rcases sub b hb with z | z
  ·exact absurd (S7 e) (by rw[z];exact Ox _)
  ·exact nb z
 have nf:∀b∈frs (au qual scope s.heap.objs.size f cd::outer),∀o,s1.heap.get? b=some o->∀vs,o.data ≠ .fields vs:=λb hb o e=>by
  obtain⟨_,o',e',d⟩:=gG.mem hb;rw[e] at e';cases e';exact d
 refine⟨ex,C,none,H1,_,_,rfl,I.os,I.bare,⟨⟨λb o e n hb hx=>?_,λb o e n hb hx=>?_,I.base.free,λb o e hx=>?_,I.base.tups,I.base.frzs,I.base.tbls⟩,λa o e=>?_,f1,λb o e hb hw=>?_,λb hb=>cr b (je b hb)⟩,hE⟩
 ·exact f1.1.1 b o (dR b o (I.base.keep b o e n hb hx) (eG b o e hb))
 ·k_dec;obtain⟨e9,e2⟩:=up b _ (hm.keeps _ _ e1) (nf b (je b hb) _ e1);exact⟨e9,e2⟩
 ·obtain⟨o1,e1⟩:=I.base.there b o e hx;by_cases hb:b∈frs (au qual scope s.heap.objs.size f cd::outer)
  ·obtain⟨e9,e2⟩:=up b _ (hm.keeps _ _ e1) (nf b hb _ e1);exact⟨_,e2⟩
  ·exact⟨o1,f1.1.1 b o1 (dR b o1 e1 hb)⟩
 ·refine(I.hok a o e).stay (λb u hb q=>?_) (λ_ q=>q) λ_ _ q=>q;have hn:H1 b≠none:=by
   rcases hb with z | z
   ·rw[z,e];simp
   ·rw[z];simp
  exact f1.1.1 b u (dR b u q λz=>hn (cr b z))
 ·have:∃o1,s1.heap.get? b=some o1/\b∉frs (au qual scope s.heap.objs.size f cd::outer):=by
   rcases hw with ⟨o',e'⟩ | hw
   ·obtain⟨o1,e1⟩:=I.base.there b o' e' (λz=>absurd (show b∈([]:List ae) from z) (by simp));exact⟨o1,e1,eG b o' e' hb⟩
   ·cases q:H1 b with
    | none=>exact absurd q hw
    | some u=>
     obtain⟨o1,e1⟩:=(I.hok b u q).there;exact⟨o1,e1,λz=>hw (cr b z)⟩
  obtain⟨o1,e1,nb⟩:=this;have e2:=dR b o1 e1 nb;have e3:=f1.1.1 b o1 e2;rw[e] at e3;cases e3;exact e2
def pass2:Passes (CX2 P w) (Bj (CX2 P w) P w K mg base N qual scope f cd A outer s H E) E:=by
 intro pins Z H1 s1 e s' I h;obtain⟨ex,C,dd,H',B,a0,rfl,fu,gH,F,hE⟩:=h;gp_on;have je:∀b,b∈frs outer->b∈frs (au qual scope s.heap.objs.size f cd::outer):=λb hb=>by
  unfold frs at hb ⊢;rw[O1];split
  ·exact hb
  ·exact Nw _ hb
 have eG:∀b o,s.heap.get? b=some o->b∉frs outer->b∉frs (au qual scope s.heap.objs.size f cd::outer):=λb o e nb hb=>by
  rcases sub b hb with z | z
  ·exact absurd (S7 e) (by rw[z];exact Ox _)
  ·exact nb z
 have F':FlownD P w (au qual scope s.heap.objs.size f cd::outer) H1 s1.heap H' ex C dd B a0 s'.heap:=F;refine Xmu (A:=A.deeper (au qual scope s.heap.objs.size f cd)) (L:=s.heap.objs.size) I.ok.frames rfl F'.fly λrP f1 up=>?_;obtain⟨un,hok,inB⟩:=F'.move f1.1.1 up;refine⟨ex,C,dd,H',B,a0,rfl,fu.trans I.os,gH,⟨?_,hok,f1,λb o e hb hw=>?_,λb hb=>F'.frf b (je b hb)⟩,hE⟩
 ·k_few
  ·exact un.keep b o (fA.keep b o e n hb hx) (fA.free b o e n hx) (eG b o e hb) hx
  ·obtain⟨sl,e1⟩:=fA.slot b o e n hb hx;obtain⟨e9,e2⟩:=un.slot b _ e1 (fA.free b o e n hx) (je b hb) hx;exact⟨e9,e2⟩
  ·obtain⟨o1,e1⟩:=fA.there b o e hx;exact un.free b o1 e1 (fA.free b o e n hx) hx
  ·obtain⟨o1,e1⟩:=fA.there b o e hx;exact un.there b o1 e1 hx
  ·obtain⟨m1,e1⟩:=fA.tbls b ps e;obtain⟨m2,e2⟩:=un.tbls b _ e1;exact⟨m1++m2,by rw[e2,R7]⟩
 ·refine inB b o e ?_ ?_
  ·rcases hw with ⟨o',e'⟩ | hw
   ·exact eG b o' e' hb
   ·intro z;exact hw (F'.frf b z)
  ·rcases hw with ⟨o',e'⟩ | hw
   ·obtain⟨o1,e1⟩:=(show Un (frs outer) [] H H1 s.heap s1.heap from I.base).there b o' e' (by simp);exact .inl ⟨o1,e1⟩
   ·exact .inr hw
end
def made (t:ae):Array aa := #[.ref t,.none,.none,.none,.bool false,.none]
def Ed (a C:ae) (h:ak):Prop:=∃t sl,h.get? a=some ⟨.ref C,none,.fields (made t),sl⟩
def Cp (a C dx:ae) (h:ak):Prop:=∃t sl,h.get? a=some ⟨.ref C,some dx,.fields (made t),sl⟩
def xdP (dx:ae) (fs:List (ao×V)) (h:ak):Prop:=∃mA,h.Ns1 dx mA/\∀f,Bz (fs.lookup f) (mA f)
structure ExK (K:NO) (C:ae) (f:ao):Prop where
 cls:∃(cd:MA) (rs:List ae),OK K C=some cd/\cd.mro=rs.map aa.ref++Fp/\cd.hasDict=true
 sa:NR K (.ref C) "__setattr__" = some (some (.builtin "object.__setattr__"))
 no:NR K (.ref C) f=some none
section
variable {X:Cx}{pins:List (ae×aM)}{Z:St}{H:Hp}{s:ah}{A:av}{E:Zb}
def Xmw     (hex:X.ex=[]) (I:Inv X pins Z H s) (e:H a=some (.ext (Ed a C))) (c:ExK X.K C f) (ry:Ae y u)
  (h:∀s' dx,H dx=none->dx≠a->Inv X pins Z (upd (upd H a (.ext (Cp a C dx))) dx (.ext (xdP dx [(f,y)]))) s'->Q () s'):af (ag X.prog X.w) A (setAttr (.ref a) f u) Q E s:=by
 obtain⟨⟨vs,sl,ho⟩,_,_⟩:=(show Av X.prog X.w H s.heap a (.ext (Ed a C)) from I.hok a _ e);obtain⟨cd,rs,h1,h2,h3⟩:=c.cls;refine Xms I.kIn ho rfl rfl rfl h1 h2 h3 c.sa c.no λh' lO dx hx nd ns keep=>?_;have z9:dx≠a:=λz=>by rw[z,ho] at nd;cases nd
 have mK:H dx=none:=by
  cases q:H dx with
  | none=>rfl
  | some o=>
   obtain⟨u,hu⟩:=(I.hok dx o q).there;rw[nd] at hu;cases hu
 refine h _ dx mK z9 ?_;have I1:Inv X pins Z (upd H a (.ext (Cp a C dx))) {s with heap:=h',toks:=lO}:=by
  refine I.write (x:=a) (e:=a) (by rw[e];exact True.intro) (.inl rfl) (λb q hb z=>keep b q hb z) ⟨_,hx⟩ ?_;exact⟨⟨vs,sl,hx⟩,⟨_,hx⟩,λh1 h2 ⟨vs,sl,z⟩ k=>⟨vs,sl,k _ z⟩⟩
 have ww:upd H a (.ext (Cp a C dx)) dx=none:=by rw[Ab z9];exact mK
 have there:∀b o,s.heap.get? b=some o->b≠dx:=λb o z q=>by rw[q,nd] at z;cases z
 refine I1.track ww ?_ ?_ ?_ ?_ ?_ ?_ ?_
 ·cases q:X.s₀.heap.get? dx with
  | none=>rfl
  | some o=>
   exfalso;obtain⟨o1,z⟩:=I.base.there dx o q (by rw[hex];simp);exact there dx o1 z rfl
 ·obtain⟨m,⟨o,es,ep,z,_⟩,_⟩:=I.loc;exact λq=>there _ _ z q.symm
 ·intro x c' hc q;obtain⟨v,o,z,_⟩:=I.cell x c' hc;exact there _ _ z q
 ·intro p hp q;exact there _ _ (I.pin p hp).1 q
 ·refine⟨_,ns,λg=>?_⟩;show Bz (([(f,y)]:List (ao×V)).lookup g) (if g=f then some u else none);by_cases q:g=f
  ·subst q;simp[List.lookup];exact ry
  ·rw[Sx q];have:(g==f)=false:=by simpa using q
   simp[List.lookup,this];trivial
 ·obtain⟨o,es,ep,z,_⟩:=ns;exact⟨o,z⟩
 ·exact λh1 h2 ⟨mA,n1,n2⟩ k=>⟨mA,n1.at k,n2⟩
def Xmx (K:NO) (ta tv:TE) (f:ao):TS:=λD Z H=>tv Z H λy H1=>ta Z H1 λx H2=>∃a C,x = .ref a/\H2 a=some (.ext (Ed a C))/\ExK K C f /\
 ∀dx,H2 dx=none->dx≠a->D.nx Z (upd (upd H2 a (.ext (Cp a C dx))) dx (.ext (xdP dx [(f,y)])))
def Xmy    (hex:X.ex=[]) (ha:PE X o ta) (hv:PE X value tv) (hs:cV value (some (.Attribute o f iz)) pos.line X.env=pure false):PS X (.Assign [.Attribute o f iz] value pos) (Xmx X.K ta tv f):=by
 k_mem;refine plainObj_wpAny_Assign_Attribute (thn (hv pins s Z H _ I h) λu s1 ⟨y,H1,I1,ry,q⟩=>thn (ha pins s1 Z H1 _ I1 q) λov s2 ⟨x,H2,I2,rx,a,C,ex,ea,c,q2⟩=>?_) hs;subst ex;obtain rfl:ov=aa.ref a:=rx;exact Xmw hex I2 ea c ry λs3 dx n1 n2 I3=>⟨Z,_,I3,q2 dx n1 n2⟩
end
section
variable {M:nU}{A:av}{E:Zb}{s:ah}{env:Env}
variable {nm q:ao}{C N:ae}{bs bm:List aa}{hdct:Bool}{sn:Za}{sub:List aa}{ab:Bool}{col:Option Bool}{dd:Option ae}{k0 k1 k2 k3 k5:Option aa}{newId:String}
def Xmz  (cX:bm.contains (.type "BaseException")=true) (hh:A.handled=none)
  (h:af M A x (λv s₁=>∃e t dx sl,v = .ref e/\s₁.heap.get? C=some (c6 nm q C N bs bm hdct sn sub ab col dd k0 k1 k2 k3 k5 newId) /\
   s₁.heap.get? e=some {cls:=.ref C,dict:=dx,data:=.fields #[.ref t,.none,.none,.none,.bool false,.none],slots:=sl}/\E (.ref e) s₁) E s):
  af M A (MF env (some x) none) Q E s:=by
 have uG:(aa.ref C::bm).contains (.type "BaseException")=true:=by rw[List.contains_cons,cX,Se]
 unfold MF;refine Sr (aF h (λv s₁ h₁=>?_) λ_ _ x=>x);obtain⟨e,t,dx,sl,rfl,hC,he,hE⟩:=h₁;obtain⟨hp,g,d,tk,os⟩:=s₁
 repeat (first | with_reducible refine cj he ?_ | with_reducible refine cj hC ?_ | (with_reducible refine lN hC ?_;rw[uG]) | wp_step)
 exact wpAny_raiseNew_none hh hE
end
section
variable {prog:ar}{w:aA}{A:av}{E:Zb}{s:ah}{env:Env}
variable {nm q:ao}{C N:ae}{bs bm m8:List aa}{hdct:Bool}{sn:Za}{sub:List aa}{ab:Bool}{col:Option Bool}{dd:Option ae}{k0 k1 k2 k3 k5:Option aa}{B newId gc:String}
def Xm0(F:j5 B newId gc m8)       (cX:bm.contains (.type "BaseException")=true)(hh:A.handled=none)(dG:(bq bD (az args env)).any (·.1)=false)(hi:mN "__init__" = some (.ref fI))(lM:oI.cls = .type "function")
  (h:af (ag prog w) A (eval (.Name x np) env) (λf s₁=>f = .ref C/\af (ag prog w) A (evalArgs (.ref C) true (bq bD (az args env)) [])
   (λa s₂=>a.kw=[]/\a.pos.length<=sizeLine/\s₂.heap.get? C=some (c6 nm q C N bs bm hdct sn sub ab col dd k0 k1 k2 k3 k5 newId)/\s₂.heap.Ns N mN/\jr s₂.heap m8 bm/\s₂.heap.get? fI=some oI /\
    ∀h' e,ak.MadeExcOf s₂.heap h' e (.ref C) a.pos ->
     af (ag prog w) (A.under (.builtin "type.__call__" ⟨.ref C::a.pos,[]⟩)) (call (.ref fI) (.ref e::a.pos)) (λr s'=>r = .none/\s'.heap.get? C=some (c6 nm q C N bs bm hdct sn sub ab col dd k0 k1 k2 k3 k5 newId) /\
      (∃t dx sl,s'.heap.get? e=some {cls:=.ref C,dict:=dx,data:=.fields #[.ref t,.none,.none,.none,.bool false,.none],slots:=sl})/\E (.ref e) s') E {s₂ with heap:=h'}) E s₁) E s):
  af (ag prog w) A (exec (.Raise (some (.Call (.Name x np) args [] bD)) none pos) env) Q E s:=by
 rw[arm_exec_Raise];refine Sr (aU (Xmz (C:=C) (nm:=nm) (q:=q) (N:=N) (bs:=bs) (bm:=bm) (hdct:=hdct) (sn:=sn) (sub:=sub) (ab:=ab) (col:=col) (dd:=dd) (k0:=k0) (k1:=k1) (k2:=k2) (k3:=k3) (k5:=k5) (newId:=newId) cX hh ?_));refine Sr (aF (wpAny_Call_ofName (aF h (λf s₁ h₁=>?_) λ_ _ x=>x)) (λv s₃ h₃=>Sr (aU (Ss h₃))) λ_ _ x=>x);obtain⟨rfl,h₁⟩:=h₁;unfold callWith;refine Sr (aw (aF h₁ (λa s₂ h₂=>Sr (aU ?_)) λ_ _ x=>x));obtain⟨dL,EI⟩:=a;obtain⟨wx,aV,hC,hn,T,pB,h₂⟩:=h₂;obtain rfl:EI=[]:=wx;obtain⟨hp,g,d,tk,os⟩:=s₂;simp only[dG];refine Sr (wpAny_keeperOf_exc hC ?_);refine Sr (Xmq (hrest:=aV) F T hC hn hi pB lM λh' e hm=>aF (h₂ h' e hm) (λr s' hr=>⟨hr.1,Sr (aw (zA (Ss ?_)))⟩) λ_ _ x=>x);obtain⟨_,EJ,⟨t,dx,sl,he⟩,hE⟩:=hr;exact⟨e,t,dx,sl,rfl,EJ,he,hE⟩
end
def Xem (X:Cx) (E:XK):Prop:=∀(pins:List (ae×aM)) (Z:St) (H:Hp) (s:ah) (ex C dx:ae),Inv X pins Z H s->X.s₀.heap.get? ex=none->H ex=some (.ext (Cp ex C dx))->E (.ref C) (some dx) (hid ex H)->X.xe (.ref ex) s
section
variable {P:ar}{w:aA}{K:NO}{mg:ao->Option aa}{base:ak}{N:Za}{qual:ao}{scope:cw}{f:ae}{cd:aa}{A:av}{outer:List Env}{s:ah}{H:Hp}{E:XK}
def leaves3:Xem (Bj (CX2 P w) P w K mg base N qual scope f cd A outer s H E) E:=by
 intro pins Z H1 s1 ex C dx I qK lP hE;have qK:s.heap.get? ex=none:=qK;obtain⟨⟨t0,EK,EL⟩,_,_⟩:=(show Av P w H1 s1.heap ex (.ext (Cp ex C dx)) from I.hok ex _ lP);show af (ag P w) (A.deeper (au qual scope s.heap.objs.size f cd)) (leaving (au qual scope s.heap.objs.size f cd) (.ref ex)) _ _ s1;have bH:(Bj (CX2 P w) P w K mg base N qual scope f cd A outer s H E).stack=au qual scope s.heap.objs.size f cd::outer:=rfl;have dy:∀env∈(au qual scope s.heap.objs.size f cd::outer),∀b,env.frame=some b->b∈frs (au qual scope s.heap.objs.size f cd::outer):=λenv he b hb=>Qt.mpr ⟨env,he,hb⟩;have gG:s1.heap.FunFrames base (au qual scope s.heap.objs.size f cd::outer):=I.stack;have hB:(NZ s1.heap (ex::frs (au qual scope s.heap.objs.size f cd::outer))).StaysIn s1.heap:=λb o q=>OH _ q;have dR:∀b o,s1.heap.get? b=some o->b∉frs (au qual scope s.heap.objs.size f cd::outer)->b≠ex->(NZ s1.heap (ex::frs (au qual scope s.heap.objs.size f cd::outer))).get? b=some o:=λb o e n nx=>OC _ e λz=>(N4.mp z).elim nx n;have sub:∀b,b∈frs (au qual scope s.heap.objs.size f cd::outer)->b=s.heap.objs.size\/b∈frs outer:=λb hb=>N4.mp (I.stkSub b hb);have je:∀b,b∈frs outer->b∈frs (au qual scope s.heap.objs.size f cd::outer):=λb hb=>by
  unfold frs at hb ⊢;rw[O1];split
  ·exact hb
  ·exact Nw _ hb
 have cr:∀b,b∈frs (au qual scope s.heap.objs.size f cd::outer)->H1 b=none:=λb hb=>I.stkFree b hb;have MG:ex∉frs (au qual scope s.heap.objs.size f cd::outer):=λz=>by rw[cr ex z] at lP;cases lP
 refine Xek (A:=A.deeper (au qual scope s.heap.objs.size f cd)) (L:=s.heap.objs.size) (base:=NZ s1.heap (ex::frs (au qual scope s.heap.objs.size f cd::outer))) I.ok.frames
  (OE gG λenv he b hb=>Nw _ (dy env he b hb)) rfl EL hB (OJ _ Ny) rfl (by rfl) (a0:=.ref t0) (by rfl) λrP hL hD=>?_
 obtain⟨k1,⟨_,_,k2⟩,k3,up⟩:=hL;have f1:Dc (NZ s1.heap (ex::frs (au qual scope s.heap.objs.size f cd::outer))) outer ex (.ref C) (.ref t0) (some dx) rP:=⟨⟨k1,OJ _ Ny,k2,k3⟩,hD⟩;have EM:∀b o,s.heap.get? b=some o->H b=none->b≠ex:=λb o e n z=>by
  have q:=I.base.free b o e n (λz=>absurd (show b∈([]:List ae) from z) (by simp));rw[z,lP] at q;cases q
 have eG:∀b o,s.heap.get? b=some o->b∉frs outer->b∉frs (au qual scope s.heap.objs.size f cd::outer):=λb o e nb hb=>by
  rcases sub b hb with z | z
  ·exact absurd (S7 e) (by rw[z];exact Ox _)
  ·exact nb z
 have nf:∀b∈frs (au qual scope s.heap.objs.size f cd::outer),∀o,s1.heap.get? b=some o->∀vs,o.data ≠ .fields vs:=λb hb o e=>by
  obtain⟨_,o',e',d⟩:=gG.mem hb;rw[e] at e';cases e';exact d
 have jk:∀b,H1 b=none->hid ex H1 b=none:=λb z=>by unfold hid;split<;>first | rfl | exact z
 refine⟨ex,C,some dx,hid ex H1,_,_,rfl,I.os,I.bare,⟨⟨λb o e n hb hx=>?_,λb o e n hb hx=>?_,λb o e n hx=>jk b (I.base.free b o e n hx),λb o e hx=>?_,λb xs e=>?_,λb ob u e=>?_,λb ps e=>?_⟩,λa o e=>?_,f1,λb o e hb hw=>?_,λb hb=>jk b (cr b (je b hb))⟩,hE⟩
 ·exact f1.1.1 b o (dR b o (I.base.keep b o e n hb hx) (eG b o e hb) (EM b o e n))
 ·k_dec;obtain⟨e9,e2⟩:=up b _ e1 (nf b (je b hb) _ e1);exact⟨e9,e2⟩
 ·obtain⟨o1,e1⟩:=I.base.there b o e hx;by_cases hb:b∈frs (au qual scope s.heap.objs.size f cd::outer)
  ·obtain⟨e9,e2⟩:=up b _ e1 (nf b hb _ e1);exact⟨_,e2⟩
  ·by_cases nb:b=ex
   ·obtain⟨oe,z,_⟩:=hD;exact⟨oe,nb ▸ z⟩
   ·exact⟨o1,f1.1.1 b o1 (dR b o1 e1 hb nb)⟩
 ·have q:=I.base.tups b xs e;exact hid_ne q λz=>by rw[z,lP] at q;cases q
 ·have q:=I.base.frzs b ob u e;exact hid_ne q λz=>by rw[z,lP] at q;cases q
 ·obtain⟨bR,q⟩:=I.base.tbls b ps e;exact⟨bR,hid_ne q λz=>by rw[z,lP] at q;cases q⟩
 ·have EN:a≠ex:=λz=>by
   unfold hid at e;rw[Sy z] at e;cases e
  have e':H1 a=some o:=Eo ex H1 a o e;refine(I.hok a o e').stay (λb u hb q=>?_) (λc q=>hid_ne q λz=>by rw[z,lP] at q;cases q) λc xs q=>hid_ne q λz=>by rw[z,lP] at q;cases q
  have hn:H1 b≠none:=by
   rcases hb with z | z
   ·rw[z,e'];simp
   ·rw[z];simp
  refine f1.1.1 b u (dR b u q (λz=>hn (cr b z)) λz=>?_);rcases hb with w | w
  ·exact EN (w ▸ z)
  ·rw[z,lP] at w;cases w
 ·have:∃o1,s1.heap.get? b=some o1/\b∉frs (au qual scope s.heap.objs.size f cd::outer)/\b≠ex:=by
   rcases hw with ⟨o',e'⟩ | hw
   ·obtain⟨o1,e1⟩:=I.base.there b o' e' (λz=>absurd (show b∈([]:List ae) from z) (by simp));exact⟨o1,e1,eG b o' e' hb,λz=>by rw[z,qK] at e';cases e'⟩
   ·cases q:H1 b with
    | none=>exact absurd (jk b q) hw
    | some u=>
     obtain⟨o1,e1⟩:=(I.hok b u q).there;exact⟨o1,e1,λz=>hw (jk b (cr b z)),λz=>hw (by unfold hid;rw[Sy z])⟩
  obtain⟨o1,e1,nb,nx⟩:=this;have e2:=dR b o1 e1 nb nx;have e3:=f1.1.1 b o1 e2;rw[e] at e3;cases e3;exact e2
end
def excInI (K:NO) (C fI:ae):Bool:=match K.lookup C with
 | some ⟨.type "type",_,.cls cd,sl⟩=>(match cd.mro,sl.toList with
  | .ref C'::bm,[_,_,_,_,some (.builtin n),_]=>C'==C&&n == "ValueError.__new__" && !cd.hasDel&&PySem.W.tailIn K bmV bm&&PySem.W.nsOkIn K cd.ns&&NU K cd.ns "__init__" == some (some (.ref fI))&&(K.lookup fI).any (λo=>o.cls == .type "function")
  | _,_=>false)
 | _=>false
def Xm1{K}     (X:K.In h)(G:h.Ns N mN)(e:NU K N n=some (some v)):mN n=some v:=by
 obtain⟨o,es,ep,ho,hd,_,hf⟩:=G;unfold NU at e;split at e
 ·rename_i c d cN n' sl q;have:=X _ _ q;rw[ho] at this;cases this;cases hd;split at e
  ·rename_i en he;cases e;rw[<-hf];unfold nsFind findBy;rw[<-Array.find?_toList,he];rfl
  ·split at e<;>cases e
 ·cases e
def Xm2{K}{C fI}(X:K.In h)(q:excInI K C fI=true):
  ∃bm N nm q bs hdct sn sub ab col dd k0 k1 k2 k3 k5 mN oI,K.lookup C=some (c6 nm q C N bs bm hdct sn sub ab col dd k0 k1 k2 k3 k5 "ValueError.__new__")/\h.Ns N mN/\mN "__init__" = some (.ref fI)/\jr h bmV bm/\K.lookup fI=some oI/\oI.cls = .type "function" := by
 unfold excInI at q;split at q
 ·rename_i dd cd sl ho;split at q
  ·rename_i C' bm k0 k1 k2 k3 n k5 hm hs;simp only[N3,beq_iff_eq,Ro] at q;obtain⟨⟨⟨⟨⟨⟨rfl,rfl⟩,kG⟩,ht⟩,hok⟩,m9⟩,hf⟩:=q;obtain⟨nm,bs,mro,ns,qn,hd,sn,sub,ab,col,CN⟩:=cd;dsimp only at hm kG hok m9;subst hm kG;have kH:sl = #[k0,k1,k2,k3,some (.builtin "ValueError.__new__"),k5]:=by
    obtain⟨l⟩:=sl;simp only at hs;rw[hs]
   subst kH;obtain⟨oI,EO,hc⟩:=PySem.W.any_some hf;have hN:h.Ns ns (h.nsMap ns):=.of_isNs (OP X hok);exact⟨bm,ns,nm,qn,bs,hd,sn,sub,ab,col,dd,k0,k1,k2,k3,k5,_,oI,ho,hN,Xm1 X hN m9,OQ X ht,EO,beq_iff_eq.mp hc⟩
  ·cases q
 ·cases q
def spInit (K:NO) (f:ao):Sp:=λvs H Q _=>∃(a C:ae) (y:V),vs=[.ref a,y]/\H a=some (.ext (Ed a C))/\ExK K C f /\
 ∀dx,H dx=none->dx≠a->Q .non (upd (upd H a (.ext (Cp a C dx))) dx (.ext (xdP dx [(f,y)])))
def Xm3 (C:ae) (f:ao) (E:XK) (t:TA):TS:=λ_ Z H=>t Z H λvs H1=>∃y,vs=[y]/\∀ex dx,H1 ex=none->H1 dx=none->dx≠ex->E (.ref C) (some dx) (hid ex (upd (upd (upd H1 ex (.ext (Ed ex C))) ex (.ext (Cp ex C dx))) dx (.ext (xdP dx [(f,y)]))))
def Xm4  {C fI:ae}  {E:XK} {x f:ao}     (hc:excInI X.K C fI=true) (bd:X.calm=true) (wz:X.ex=[]) (c:ExK X.K C f) (hx:Xem X E) (hg:Gl X x) (hm:X.mg x=some (.ref C))
  (FI:FnOk X.prog X.w X.K X.mg X.base CX0 k fI qL ["self",pn] (spInit X.K f)) (hr:Room (k+1) X.A) (hb:Binds X.K qL ["self",pn] []) (ha:PA X [e] t)
  (fU:(x==("__debug__" : ao))=false:=by decide) (he:az [e] X.env=[(false,eval e X.env)]:=by rfl):
  PS X (.Raise (some (.Call (.Name x np) [e] [] bD)) none pos) (Xm3 C f E t):=by
 k_mem;obtain⟨tl,N,nm,q,bs,hdct,sn,sub,ab,col,dd,k0,k1,k2,k3,k5,mN,oI,hC,hN,m9,T,pB,lM⟩:=Xm2 I.mod.kin hc;refine Xm0 (C:=C) (nm:=nm) (q:=q) (N:=N) (bs:=bs) (bm:=tl) (hdct:=hdct) (sn:=sn) (sub:=sub) (ab:=ab) (col:=col) (dd:=dd) (k0:=k0) (k1:=k1) (k2:=k2) (k3:=k3) (k5:=k5) (oI:=oI) (fI:=fI)
  PySem.F.excBase_ValueError (mN:=mN) (T.hasType PySem.F.excBase_ValueError.hasBase) (I.ok.hd bd) (by rw[he];rfl) m9 lM (Fs I hg hm ⟨rfl,?_⟩ fU)
 have hh:=ha bD pins s Z H _ I h;rw[he] at hh ⊢;refine Calls.evalArgs_plain (aF hh (λus s2 w4=>?_) λ_ _ y=>y);obtain⟨vs,H2,I2,r2,y,ey,q2⟩:=w4;subst ey;obtain⟨u,rfl,ry⟩:∃u,us=[u]/\Ae y u:=by
  cases r2 with
  | cons a b=>cases b;exact⟨_,rfl,a⟩
 refine⟨rfl,by show 1<=sizeLine;decide,I2.kIn _ _ hC,hN.keeps I2.bk,T.keeps I2.bk,I2.kIn _ _ pB,λh' ex oP=>?_⟩;obtain⟨t0,lC,_,_⟩:=oP.there;have zB:H2 ex=none:=by
  cases z:H2 ex with
  | none=>rfl
  | some o=>
   obtain⟨w,hw⟩:=(I2.hok ex o z).there;rw[oP.new] at hw;cases hw
 have qK:X.s₀.heap.get? ex=none:=by
  cases z:X.s₀.heap.get? ex with
  | none=>rfl
  | some o=>
   obtain⟨o1,w⟩:=I2.base.there ex o z (by rw[wz];simp);rw[oP.new] at w;cases w
 have there:∀b o,s2.heap.get? b=some o->b≠ex:=λb o z w=>by rw[w,oP.new] at z;cases z
 have EQ:Inv X pins Z H2 {s2 with heap:=h'}:=I2.kept (t':=s2.toks) λb o z=>oP.keeps b o z;have I3:Inv X pins Z (upd H2 ex (.ext (Ed ex C))) {s2 with heap:=h'}:=by
  refine EQ.track zB qK ?_ ?_ ?_ ⟨t0,_,lC⟩ ⟨_,lC⟩ λh1 h2 ⟨t,sl,z⟩ k=>⟨t,sl,k _ z⟩
  ·obtain⟨m,⟨o,es,ep,z,_⟩,_⟩:=I2.loc;exact λw=>there _ _ z w.symm
  ·intro x c' hc w;obtain⟨v,o,z,_⟩:=I2.cell x c' hc;exact there _ _ z w
  ·intro p hp w;exact there _ _ (I2.pin p hp).1 w
 refine dq (bw (FI.run _ X.stack _ _ ⟨[.ref ex,u],[]⟩ [.ref ex,u] [.ref ex,y] (λv H'=>v = .non/\∃dx,H2 dx=none/\dx≠ex/\H'=upd (upd (upd H2 ex (.ext (Ed ex C))) ex (.ext (Cp ex C dx))) dx (.ext (xdP dx [(f,y)]))) E (hr.make C [u] [])
  (I3.env0.make C [u] []) (hb _ [.ref ex,u] I3.kIn rfl) (.cons rfl (.cons ry .nil)) ⟨ex,C,y,rfl,Aa,c,λdx n1 n2=>⟨rfl,dx,by rw[Ab n2] at n1;exact n1,n2,rfl⟩⟩) λr s' j4=>?_)
 cases r with
 | error e=>exact False.elim j4
 | ok fl=>
  cases fl with
  | ret u'=>
   obtain⟨v,H',I4,rv,ev,dx,n1,n2,rfl⟩:=I3.after j4;subst ev;have zC:upd (upd (upd H2 ex (.ext (Ed ex C))) ex (.ext (Cp ex C dx))) dx (.ext (xdP dx [(f,y)])) ex=some (.ext (Cp ex C dx)):=by rw[Ab n2.symm,Aa]
   obtain⟨⟨t1,ER,jN⟩,_,_⟩:=(show Av X.prog X.w _ s'.heap ex (.ext (Cp ex C dx)) from I4.hok ex _ zC);exact⟨rv,I4.kIn _ _ hC,⟨t1,some dx,ER,jN⟩,hx pins Z _ s' ex C dx I4 qK zC (q2 ex dx zB n1 n2)⟩
  | next=>exact False.elim j4
  | brk=>exact False.elim j4
  | cont=>exact False.elim j4
section
variable {M:nU}{A:av}{E:Zb}{s:ah}
def Xm5         (dI:A.frames=some (env::outer)) (hl:s.heap.FunFrames base (env::outer)) (hf:env.frame=some L)
  (he:s.heap.get? e=some oe) (gx:base.StaysIn s.heap) (jS:base.get? e=none) (hd:oe.data = .fields vs) (hsz:1<vs.size) (h0:vs[0]? = some a0)
  (h:∀h',ak.NotedW base (env::outer) e oe.cls a0 (aO L) s.heap h'->Ec h' e oe.dict->Q () {s with heap:=h'}):
  af M A (do    let a <-frameOf env;let pl <-wq L mL;let b <-EntryCells.newEntry head a .none (aO L) .none pl;bT (.ref e) 1 b) Q E s:=by
 have out:e∉(env::outer).filterMap (·.frame):=λhm=>by
  obtain⟨_,o,ho,cU⟩:=hl.mem hm;rw[he] at ho;cases ho;exact cU vs hd
 refine Sr (oh dI hl hf λg sg=>Sr (mM λpl bN=>?_));unfold EntryCells.newEntry oY;refine Sr (aC ?_ (bN.sizeOk5 _ _ _ _ _));generalize ht:({cls:=.type "traceback",dict:=none,data:=.fields ([head,.ref L,.none,aO L,.none]++(if pl.isEmpty then List.replicate 6 aa.none else pl)).toArray}:aM)=tb;have ge:g.get? e=some oe:=(sg.2.1 e out).trans he;have gb:base.StaysIn g:=λb o q=>(sg.2.1 b λhm=>by rw[(hl.mem hm).1] at q;cases q).trans (gx b o q);have zD:(g.push tb).get? e=some oe:=S8 tb ge;have ne:g.objs.size≠e:=Qw (S7 ge);have mO:=aM.data_mapFields hd (·.setIfInBounds 1 (aa.ref g.objs.size));have zF:=ak.get?_update_self (aM.mapFields (·.setIfInBounds 1 (aa.ref g.objs.size))) zD (aM.isFreed_of_fields mO);have ES:((g.push tb).update e (aM.mapFields (·.setIfInBounds 1 (aa.ref g.objs.size)))).get? g.objs.size=some tb:=(ak.get?_update_other _ _ (Ne.symm ne)).trans (ak.get?_push_size g (by rw[<-ht];rfl));have keep:∀b o,b≠e->g.get? b=some o->((g.push tb).update e (aM.mapFields (·.setIfInBounds 1 (aa.ref g.objs.size)))).get? b=some o:=λb o kg hb=>(ak.get?_update_other _ _ (Ne.symm kg)).trans (S8 _ hb);have zG:∀b o,s.heap.get? b=some o->(∀vs,o.data ≠ .fields vs)->b≠e:=λb o hb cU q=>by
  rw[q,he] at hb;cases hb;exact cU vs hd
 refine aQ zD hd hsz (h _ ⟨λb o q=>keep b o (λz=>by rw[z,jS] at q;cases q) (gb b o q),hl.of_keeps λb o hb cU=>?_,?_,λb o hb cU=>?_⟩ ⟨_,zF,Xei _ _⟩)
 ·obtain⟨sl,hs⟩:=sg.2.2 b o hb;exact⟨_,keep b _ (zG b o hb cU) hs,rfl⟩
 ·refine⟨_,_,g.objs.size,tb,_,zF,⟨aM.cls_mapFields _ _,by rw[Rq (by decide)];exact h0⟩,mO,by simp[hsz],gb.fresh,ne,ES,by rw[<-ht],by simp⟩
 ·obtain⟨sl,hs⟩:=sg.2.2 b o hb;exact⟨sl,keep b _ (zG b o hb cU) hs⟩
def Xm6    {L e}   (dI:A.frames=some (env::outer)) (hf:env.frame=some L) (fly:Dc base (env::outer) e cls a0 dd s.heap)
  (hQ:∀h',ak.HeldW base (env::outer) e cls a0 L h'->Ec h' e dd->s.heap.UpToSlots h'->Q () {s with heap:=h'}):af M A (eh (.ref e) env) Q E s:=by
 obtain⟨⟨gx,jS,hl,oe,vs,T,oT,ts,he,⟨dF,h0⟩,hd,h1,qJ,jT,hT,j6,h3⟩,z8,oi,jO⟩:=fly;rw[he] at oi;cases oi;subst dF jO;unfold eh;simp only[hf];refine Sr (aZ he hd h1 ?_);rw[Sy (show (aa.ref T != aa.none)=true from by simp)];refine Sr (aZ hT j6 h3 ?_);rw[Sx (show ¬((aa.none==aO L)=true) from by simp[aO])];refine Sr (aQ hT j6 (Pq.mp h3).1 ?_);have same:∀b,b≠T->(s.heap.update T (aM.mapFields (·.setIfInBounds 3 aa.none))).get? b=s.heap.get? b:=λb hb=>ak.get?_update_other _ _ (Ne.symm hb);have nT:∀b o,s.heap.get? b=some o->(∀vs,o.data ≠ .fields vs)->b≠T:=λb o hb cU q=>by
  rw[q,hT] at hb;cases hb;exact cU ts j6
 refine Xm5 dI (hl.of_keeps λb o hb cU=>⟨o,(same b (nT b o hb cU)).trans hb,rfl⟩) hf ((same e (Ne.symm jT)).trans he)
  (λb o q=>(same b λz=>by rw[z,qJ] at q;cases q).trans (gx b o q)) jS hd (Pq.mp h1).1 h0 λh' n d=>?_
 obtain⟨x1,x2,x3,x4⟩:=n;exact hQ h' ⟨x1,jS,x2,x3⟩ d λb o hb cU=>x4 b o ((same b (nT b o hb cU)).trans hb) cU
def Xen      (gx:base.StaysIn s.heap) (jS:base.get? e=none) (hl:s.heap.FunFrames base l) (ht:s.heap.TracedAtW base e cls a0 fl) (hD:Ec s.heap e dd)
  (h:∀h',Dc base l e cls a0 dd h'->s.heap.UpToSlots h'->Q () {s with heap:=h'}):af M A (er (.ref e) none) Q E s:=by
 obtain⟨oe,vs,T,oT,ts,he,dF,hd,h1,qJ,jT,hT,j6,h3⟩:=ht;obtain⟨z8,oi,jO⟩:=hD;rw[he] at oi;cases oi;have zH:3<ts.size:=(Pq.mp h3).1;unfold er;refine Sr (aZ he hd h1 ?_);rw[Sy (show (aa.ref T != aa.none)=true from by simp)];refine aQ hT j6 zH (h _ ?_ ?_)
 ·have same:∀b,b≠T->(s.heap.update T (aM.mapFields (·.setIfInBounds 3 ((none:Option ae).elim aa.none λf=>aO f)))).get? b=s.heap.get? b:=λb hb=>ak.get?_update_other _ _ (Ne.symm hb);refine⟨⟨λb o q=>(same b λz=>by rw[z,qJ] at q;cases q).trans (gx b o q),jS,hl.of_keeps λb o hb cU=>⟨o,(same b λz=>?_).trans hb,rfl⟩,oe,vs,T,_,_,(same e (Ne.symm jT)).trans he,dF,hd,h1,qJ,jT,ak.get?_update_self _ hT (aM.isFreed_of_fields (aM.data_mapFields j6 _)),aM.data_mapFields j6 _,by simp[zH]⟩,oe,(same e (Ne.symm jT)).trans he,jO⟩;rw[z,hT] at hb;cases hb;exact cU ts j6
 ·intro b o hb cU;refine⟨o.slots,(ak.get?_update_other _ _ λz=>?_).trans hb⟩;rw[<-z,hT] at hb;cases hb;exact cU ts j6
def Xm7      (hh:ak.HeldW base l e cls a0 L s.heap) (hD:Ec s.heap e dd)
  (hQ:∀h',Dc base l e cls a0 dd h'->s.heap.UpToSlots h'->Q () {s with heap:=h'}):af M A (er (.ref e) none) Q E s:=
 Xen hh.1 hh.2.1 hh.2.2.1 hh.2.2.2 hD hQ
def lands_againD      (fl:Dc base l e cls a0 dd s.heap)
  (hQ:∀h',Dc base l e cls a0 dd h'->s.heap.UpToSlots h'->Q () {s with heap:=h'}):af M A (er (.ref e) none) Q E s:=
 Xen fl.1.1 fl.1.2.1 fl.1.2.2.1 fl.1.2.2.2.at fl.2 hQ
end
def Fun.ok2   {K}    {st}     (F:Fun K x qual st f fd) (S:FnScope N ps (defScope st)) (len:∀vs H Q E,sp vs H Q E->vs.length=ps.length)
  (dM:∀(cdv:aa) (A:av) (outer:List Env) (s:ah) (H:Hp) (vs:List V) (Q:VK) (E:XK),Room k (A.deeper (au qual (defScope st) s.heap.objs.size f cdv))->sp vs H Q E ->
   ∃t,PSs (Bj (CX2 P w) P w K mg base N qual (defScope st) f cdv A outer s H E) (B8 st) t/\t {nx:=λ_ H'=>Q .non H',rt:=Q} (start N vs) H):FnOk P w K mg base (CX2 P w) (k+1) f fd ps sp:=by
 obtain⟨oc,od,kV,cW,pm,an,cdv,ct,gr,rfl,lk,eR⟩:=F.ex;exact Ij lk eR S len λA outer s H vs Q E hr gt=>dM cdv A outer s H vs Q E hr gt
def Xeo  {C:ae} {E:XK}     (hc:OI X.K C bmV "ValueError.__new__" = true) (bd:X.calm=true) (hx:Xel X E) (hg:Gl X x) (hm:X.mg x=some (.ref C))
  (ha:PA X (e::es) t) (fU:(x==("__debug__" : ao))=false:=by decide) (he:az (e::es) X.env=(false,eval e X.env)::az es X.env:=by rfl) (bN:(bq bD (az es X.env)).any (·.1)=false:=by rfl):
  PS X (.Raise (some (.Call (.Name x np) (e::es) [] bD)) none pos) (Xbx C E t):=by
 have iC:Leaves X E:=hx;exact Xby hc bd iC hg hm ha fU he bN
def Jv (ex C:ae) (dd:Option ae) (h:ak):Prop:=∃o vs,h.get? ex=some o/\o.cls = .ref C/\o.data = .fields vs/\o.dict=dd
def B4 (ex C:ae) (dd:Option ae):HO:=.ext (Jv ex C dd)
def Cx.tryD (X:Cx) (pn:List (ae×aM)) (R:ae->Option ae->St->Hp->Prop):Cx:=X.re pn X.A X.calm λe s1=>
 ∃Z Hc sc,Inv (X.re pn X.A X.calm λ_ _=>True) [] Z Hc sc/\CX2 X.prog X.w X.stack Hc sc (λc dd H1=>∃C,c = .ref C/\R C dd Z H1) e s1
section
variable {X:Cx}{pn:List (ae×aM)}{R:ae->Option ae->St->Hp->Prop}{k:Nat}{f:ae}{fd:bJ}{ps:Za}{sp:Sp}{fO:List V}{ds:List aa}{x:ao}{p pos:cF}{e:aL}{es:List aL}{t:TA}
def Xm8 (sp:Sp) (fO:List V) (R:ae->Option ae->St->Hp->Prop) (t:TA):TE:=fun Z H Q=>t Z H λvs H1=>sp (vs++fO) H1 Q λc dd H'=>∃C,c = .ref C/\R C dd Z H'
def Xep(F:FnOk X.prog X.w X.K X.mg X.base (CX2 X.prog X.w) k f fd ps sp)(hr:Room k X.A)(hg:Gl X x)(hm:X.mg x=some (.ref f))(hk:NW X.K (.ref f)=true)(hb:Binds X.K fd ps ds)(hd:Vals fO ds)
  (ha:PA (X.tryD pn R) (e::es) t) (fU:(x==("__debug__" : ao))=false:=by decide) (he:az (e::es) X.env=(false,eval e X.env)::az es X.env:=by rfl) (bN:(bq pos (az es X.env)).any (·.1)=false:=by rfl):
  PE (X.tryD pn R) (.Call (.Name x p) (e::es) [] pos) (Xm8 sp fO R t):=by
 k_ne;refine bV (Fs I (show Gl (X.tryD pn R) x from hg) hm ?_ fU);refine OO (h₀:=X.base) I.ok.mod.kin hk (thn (ha pos pins s Z H _ I h) λus s1 w4=>?_) he bN;obtain⟨vs,H1,I1,r,q⟩:=w4;refine⟨I1.kIn,?_⟩;have r2:Vals (vs++fO) (us++ds):=r.append hd;have hl:(us++ds).length=ps.length:=by rw[<-r2.length];exact F.len _ _ _ _ q
 refine dq (bw (F.run X.A X.stack s1 H1 ⟨us,[]⟩ (us++ds) (vs++fO) Q _ hr I1.env0 (hb s1 us I1.kIn hl) r2 q) λr s' hq=>?_);cases r with
 | error e=>
  have ET:=I1.as (X:=X.tryD pn R) (pins':=[]) (pn:=pn) (A:=X.A) (c:=X.calm) (E:=λ_ _=>True) I1.ok.hd I1.ok.frames (λp hp=>N0.mpr (.inl (show p∈pn from by simpa using hp)));exact⟨Z,H1,s1,ET,hq⟩
 | ok fl=>
  cases fl with
  | ret u=>exact I1.after hq
  | next=>exact False.elim hq
  | brk=>exact False.elim hq
  | cont=>exact False.elim hq
end
abbrev THd:=ae->Option ae->Ends->St->Hp->Prop
structure Landed (X:Cx) (pins:List (ae×aM)) (ex c:ae) (dd:Option ae) (Z1:St) (H1:Hp) (B:ak) (a0:aa) (s1 s5:ah):Prop where
 step:∀(h5:ak) (tk:Nat),B.StaysIn h5->s1.heap.UpToSlots h5->Inv (X.re (X.pn++pins) X.A X.calm λ_ _=>True) [] Z1 H1 {s1 with heap:=h5,toks:=tk}
 fly:Dc B (X.env::X.outer) ex (.ref c) a0 dd s5.heap
 up:s1.heap.UpToSlots s5.heap
 as:s5 = {s1 with heap:=s5.heap}
 own:∀h5,B.StaysIn h5->s1.heap.UpToSlots h5->∀o,h5.get? ex=some o->ex∉frs (X.env::X.outer)->H1 ex=none/\X.s₀.heap.get? ex=none/\∀p∈(X.pn++pins)++[],p.1≠ex
def PH (X:Cx) (hs:List cS) (th:THd):Prop:=∀(pins:List (ae×aM)) (ex c:ae) (dd:Option ae) (Z1:St) (H1:Hp) (B:ak) (a0:aa) (s1 s5:ah) (D:Ends),X.Ok->Landed X pins ex c dd Z1 H1 B a0 s1 s5->th c dd D Z1 H1 ->
 af (ag X.prog X.w) X.A (handleBy (.ref ex) X.env hs) (SP X pins D) X.xe s5
def Xm9:PH X [] λ_ _ _ _ _=>False:=λ_ _ _ _ _ _ _ _ _ _ _ _ _ h=>h.elim
section
variable {X:Cx}{pos np js:cF}{b0:aP}{suite:List aP}{n x:ao}{i:Nat}{Cc:ae}{th:TS}{rest:THd}{hs:List cS}
def tHd (K:NO) (i:Nat) (Cc:ae) (th:TS) (rest:THd):THd:=λC dd D Z H=>∃b,NV K (.ref C) (.ref Cc)=some b/\if b=true then
 ∀ex,H ex=none->th {nx:=fun Z2 H2=>D.nx (Z2.set i none) H2,rt:=D.rt,bk:=fun Z2 H2=>D.bk (Z2.set i none) H2,ct:=fun Z2 H2=>D.ct (Z2.set i none) H2} (Z.set i (some (.ref ex))) (upd H ex (B4 ex C dd))
 else rest C dd D Z H
def Xeq(bH:X.stack=X.env::X.outer)(dI:X.env.frame=some X.env.locals)(hN:X.N.Nodup)(hi:X.N[i]? = some n)(hl:X.env.scope.names.lookup n=some .local)(hg:Gl X x)(hm:X.mg x=some (.ref Cc))
  (hh:∀pn ex,PSs (X.suite pn ex) (b0::suite) th) (hr:PH X hs rest) (fU:(x==("__debug__" : ao))=false:=by decide):
  PH X (.ExceptHandler (some (.Name x np)) (some n) (b0::suite) js::hs) (tHd X.K i Cc th rest):=by
 intro pins ex c dd Z1 H1 B a0 s1 s5 D ok L h;obtain⟨b,hx,h⟩:=h;have iL:∀p∈X.pn++pins,p∈X.pn++pins++[]:=λp hp=>by simpa using hp
 obtain⟨h5,g5,d5,t5,o5⟩:=s5;have es:=L.as;have qM:=L.fly;have I5:=L.step h5 s1.toks qM.1.1 L.up;have zI:Inv (X.suite (X.pn++pins) ex) [] Z1 H1 {s1 with heap:=h5}:=Inv.as (X:=X.re (X.pn++pins) X.A X.calm λ_ _=>True) I5 (λz=>absurd z (by decide)) ok.frames (λp hp=>hp);have LT:P' (ag X.prog X.w) h5 (rG (.ref ex)) (.ref c):=by
  obtain⟨ob,uH,w5⟩:=qM.1.there;rw[<-w5];exact(P'.ld uH).andThen .now
 rw[es];refine wpAny_handleBy_cons (codeAny_handlers_test ?_) (by intro q;cases q);refine Fs (X:=X.suite (X.pn++pins) ex) zI (show Gl (X.suite (X.pn++pins) ex) x from hg) hm ?_ fU;refine(PySem.W.exm_one (zI.kIn) LT hx).here ?_;cases b with
 | false=>
  refine hr pins ex c dd Z1 H1 B a0 s1 _ D ok ⟨L.step,qM,L.up,rfl,L.own⟩ ?_;exact h
 | true=>
  have w6:∀ex,H1 ex=none->th {nx:=fun Z2 H2=>D.nx (Z2.set i none) H2,rt:=D.rt,bk:=fun Z2 H2=>D.bk (Z2.set i none) H2,ct:=fun Z2 H2=>D.ct (Z2.set i none) H2} (Z1.set i (some (.ref ex))) (upd H1 ex (B4 ex c dd)):=h;refine codeAny_handlers_suite_as (lands_againD qM λh6 zJ EU=>?_);have sI:=L.up.trans EU;have I6:=L.step h6 s1.toks zJ.1.1 sI;have EV:Inv (X.suite (X.pn++pins) ex) [] Z1 H1 {s1 with heap:=h6}:=Inv.as (X:=X.re (X.pn++pins) X.A X.calm λ_ _=>True) I6 (λz=>absurd z (by decide)) ok.frames (λp hp=>hp);refine Kn (X:=X.suite (X.pn++pins) ex) EV hN hi (.inl hl) (show Ae (.ref ex) (.ref ex) from rfl) (λs7 I7 ⟨a7,EW,EX⟩=>?_) (.inr hl);have EY:Inv (X.suite (X.pn++pins) ex) [] (Z1.set i (some (.ref ex))) H1 s7:=I7;obtain⟨⟨f1,f2,f3,oe,vs,T,oT,ts,he,FH,w9,_⟩,MH,zK,jO⟩:=id zJ;rw[he] at zK;cases zK;have gY:ex∉frs (X.env::X.outer):=λz=>by
   obtain⟨_,o',e',d⟩:=f3.mem z;rw[he] at e';cases e';exact d vs w9
  obtain⟨mP,wA,sJ⟩:=L.own h6 f1 sI oe he gY;have sK:ex≠X.env.locals:=λz=>gY (by
   unfold frs;rw[O1,dI,z];exact Ny)
  have kU:∀y cc,X.env.cells.lookup y=some cc->cc≠ex:=λy cc e z=>by
   obtain⟨v,o,ho,hd⟩:=I6.cell y cc e;have eu:h6.get? cc=some o:=ho;rw[z,he] at eu;cases eu;rw[w9] at hd;cases hd
  have FJ:ex≠a7:=by
   rcases EX with z | z
   ·rw[z];exact sK
   ·exact λq=>kU n a7 z q.symm
  have zL:s7.heap.get? ex=some oe:=(EW.2 ex FJ).trans he;have I8:=EY.track (a:=ex) (φ:=Jv ex c dd) mP wA sK kU sJ ⟨oe,vs,zL,FH.1,w9,jO⟩ ⟨oe,zL⟩ (λg1 g2 ⟨o,ws,q1,q2,q3,q4⟩ k=>⟨o,ws,k o q1,q2,q3,q4⟩);have iF:=hh (X.pn++pins) ex [] s7 _ _ _ I8 (w6 ex mP);refine aF iF (λfl s9 q9=>?_) λ_ _ z=>z.elim;have mQ:∀{Z':St} {H':Hp} {Q:Unit->ah->Prop},Inv (X.suite (X.pn++pins) ex) [] Z' H' s9->(∀iM,Inv X pins (Z'.set i none) H' iM->Q () iM) ->
    af (ag X.prog X.w) X.A (do       bindName X.env n .none;unbindBehindTheSuite X.env n js) Q X.xe s9:=λ{Z' H' Q} J k=>by
   have JX:Inv X pins Z' H' s9:=J.back ok iL;obtain⟨m,q0,FL⟩:=JX.loc;refine wpAny_nameGoes_keeps hl q0 (by rw[ok.kind];rfl) λh' v qx sx=>?_;exact k _ (JX.unbind hN hi hl FL qx sx)
  cases fl with
  | next=>
   obtain⟨Z',H',J,q⟩:=q9;exact mQ J λiM pD=>⟨_,H',pD,q⟩
  | brk=>
   obtain⟨Z',H',J,q⟩:=q9;exact mQ J λiM pD=>⟨_,H',pD,q⟩
  | cont=>
   obtain⟨Z',H',J,q⟩:=q9;exact mQ J λiM pD=>⟨_,H',pD,q⟩
  | ret u=>
   obtain⟨v, Z',H',J,r,q⟩:=q9;exact mQ J λiM pD=>⟨v,_,H',pD,r,q⟩
end
section
variable {X:Cx}{pos:cF}{body:List aP}{h0:cS}{hs:List cS}{tb:(ae->Option ae->St->Hp->Prop)->TS}{th:THd}
def Xna (tb:(ae->Option ae->St->Hp->Prop)->TS) (th:THd):TS:=λD Z H=>∃R:ae->Option ae->St->Hp->Prop,tb R D Z H/\∀C dd Z1 H1,R C dd Z1 H1->th C dd D Z1 H1
def Xnb(hex:X.ex=[])(bH:X.stack=X.env::X.outer)(dI:X.env.frame=some X.env.locals)(hb:∀pn R,PSs (X.tryD pn R) body (tb R))(hh:PH X (h0::hs) th):
  PS X (.Try body (h0::hs) [] [] pos) (Xna tb th):=by
 k_mem;obtain⟨R,zp,FM⟩:=h;have sL:∀p∈X.pn++pins++[],p∈X.pn++pins:=λp hp=>by simpa using hp
 have iL:∀p∈X.pn++pins,p∈X.pn++pins++[]:=λp hp=>by simpa using hp
 have I0:Inv (X.tryD (X.pn++pins) R) [] Z H s:=I.as I.ok.hd I.ok.frames sL;refine wpAny_Try_except (aF (hb (X.pn++pins) R [] s Z H D I0 zp) (λfl s1 q=>?_) λe s1 q=>?_)
 ·have uI:∀{Z':St} {H':Hp},Inv (X.tryD (X.pn++pins) R) [] Z' H' s1->Inv X pins Z' H' s1:=λJ=>J.back I.ok iL;cases fl with
  | next=>
   obtain⟨Z',H',J,q⟩:=q;exact dB ⟨Z',H',uI J,q⟩
  | brk=>
   obtain⟨Z',H',J,q⟩:=q;exact⟨Z',H',uI J,q⟩
  | cont=>
   obtain⟨Z',H',J,q⟩:=q;exact⟨Z',H',uI J,q⟩
  | ret u=>
   obtain⟨v, Z',H',J,r,q⟩:=q;exact⟨v, Z',H',uI J,r,q⟩
 ·obtain⟨Z1,Hc,sc,Ic,ex,c,dd,H1,B,a0,rfl,fu,gH,F,C,hC,hR⟩:=q;cases hC;have w6:=FM c dd Z1 H1 hR;have F':FlownD X.prog X.w (X.env::X.outer) Hc sc.heap H1 ex c dd B a0 s1.heap:=by rw[<-bH];exact F
  have wB:X.A.frames=some (X.env::X.outer):=by rw[<-bH];exact I.ok.frames
  have step:∀(h5:ak) (tk:Nat),B.StaysIn h5->s1.heap.UpToSlots h5->Inv (X.re (X.pn++pins) X.A X.calm λ_ _=>True) [] Z1 H1 {s1 with heap:=h5,toks:=tk}:=λh5 tk st up=>by
   obtain⟨un,hok,_⟩:=F'.move st up;refine Ic.call' (ch:=[]) fu ?_ hok gH (λb z=>absurd z (by simp));show Un (frs X.stack) [] Hc H1 sc.heap h5;rw[bH];exact un
  have own:∀h5,B.StaysIn h5->s1.heap.UpToSlots h5->∀o,h5.get? ex=some o->ex∉frs (X.env::X.outer)->H1 ex=none/\X.s₀.heap.get? ex=none/\∀p∈(X.pn++pins)++[],p.1≠ex:=λh5 st up oe he gY=>by
   have inB:=(F'.move st up).2.2;have f2:=F'.fly.1.2.1;have mP:H1 ex=none:=by
    cases q:H1 ex with
    | none=>rfl
    | some u=>
     have z:=inB ex oe he gY (.inr (by rw[q];simp));rw[f2] at z;cases z
   have mR:sc.heap.get? ex=none:=by
    cases q:sc.heap.get? ex with
    | none=>rfl
    | some u=>
     have z:=inB ex oe he gY (.inl ⟨u,q⟩);rw[f2] at z;cases z
   refine⟨mP,?_,λp hp z=>?_⟩
   ·cases q:X.s₀.heap.get? ex with
    | none=>rfl
    | some u=>
     obtain⟨o1,e1⟩:=Ic.base.there ex u q (λz=>by
      have z':ex∈X.ex:=z;rw[hex] at z';cases z')
     rw[mR] at e1;cases e1
   ·have:=(Ic.pin p hp).1;rw[z,mR] at this;cases this
  refine Xm6 (L:=X.env.locals) wB dI F'.fly λh4 wC d4 FQ=>?_;refine Xm7 wC d4 λh5 qM FV=>?_;exact hh pins ex c dd Z1 H1 B a0 s1 _ D I.ok ⟨step,qM,FQ.trans FV,rfl,own⟩ w6
end
section
variable {prog:ar}{w:aA}{A:av}{E:Zb}{K:NO}{C a:ae}{h:ak}{g:Array rR}{d:rS}{t:Nat}{os:vG}{ox:aM}{od:Option aM}{name:ao}{v:aa}
open PySem.W in
def Xnc{tk:vw}{Q:Fin->ah->Prop}(X:K.In h)(I:InstAt h a ox C od)(hf:findObj K C od name=some (.value v))(hq:Q (.done (.ret v)) ⟨h,g,d,t,os⟩):
  af (ag prog w) A (aj.«object.__getattribute__» ⟨[.ref a,.str name tk],[]⟩) Q E ⟨h,g,d,t,os⟩:=by
 have L0:=I.type (M:=ag prog w);have L1:=looks_find (M:=ag prog w) X I hf
 repeat (any_goals (first | assumption | (refine Sr (L0.at ?_)) | (refine Sr (L1.at ?_)) | wp_step))
open PySem.W in
def Xnd{tk:vw}{vs:Array aa}{R:gA->ah->Prop}(X:K.In h)(F:ExcF K C)(I:InstAt h a ox C od)(hd:ox.data = .fields vs)(hf:findObj K C od name=some (.value v))(hq:R (.ok (.ret v)) ⟨h,g,d,t,os⟩):
  bc (ag prog w) A (.call (.builtin "BaseException.__getattribute__") ⟨[.ref a,.str name tk],[]⟩) R ⟨h,g,d,t,os⟩:=
 bL (by decide +kernel) PySem.F.entry_bexc_ga (Xb5 X F ⟨ox,vs,I.at_,I.cls,hd⟩ (Xnc X I hf hq))
open PySem.W in
def Xne{sM:Bool}{vs:Array aa}{Q:Zb}(X:K.In h)(F:ExcF K C)(I:InstAt h a ox C od)(hd:ox.data = .fields vs)(hf:findObj K C od name=some (.value v))(hh:handedIn v=true)(hq:Q v ⟨h,g,d,t+1,os⟩):
  af (ag prog w) A (vy (.ref a) name sM) Q E ⟨h,g,d,t,os⟩:=by
 have L0:=I.type (M:=ag prog w);x_go
 have lC:(jg (aa.ref C)&&aa.builtin "BaseException.__getattribute__" == aa.builtin "object.__getattribute__")=false:=by rw[jN];rfl
 unfold vy oR;refine Sr (wpAny_mkText (aw (Sr (L0.at (Sr (L1.at ?_))))))
 repeat (any_goals (first | assumption | (refine Sr (L0.at ?_)) | (refine Sr (L1.at ?_)) | (refine Sr (L2.at ?_)) | wp_step))
 have FZ:(sM&&jg (aa.builtin "BaseException.__getattribute__"))=false:=by rw[show jg (aa.builtin "BaseException.__getattribute__")=false from rfl,Rs]
 rw[FZ,Sx (by decide)];unfold boundAndCalled
 repeat (any_goals (first | assumption | wp_step))
 refine Xnd X F I hd hf ?_;k_in;rw[handedOut_of hh];exact Ss hq
end
def Xnf (K:NO) (ta:TE) (f:ao):TE:=fun Z H Q=>ta Z H λx H1=>∃a C dx fs v,x = .ref a/\H1 a=some (B4 a C (some dx))/\H1 dx=some (.ext (xdP dx fs))/\ExcF K C/\ExK K C f/\fs.lookup f=some v/\Q v H1
section
variable {X:Cx}{e:aL}{f:ao}{pos:cF}{ta:TE}
def Xng(K:NO)(hK:X.K=K)(he:PE X e ta)(hb:cz e f X.env (eval e X.env)=eval e X.env:=by rfl):PE X (.Attribute e f pos) (Xnf K ta f):=by
 subst hK;k_ne;refine Xhr hb (thn (he pins s Z H _ I h) λu s1 ap=>?_);obtain⟨x,H1,I1,rx,a,C,dx,fs,v,rfl,ea,ed,F,c,l,q⟩:=ap;obtain rfl:u=aa.ref a:=rx;obtain⟨⟨o,vs,ho,hc,hd,jO⟩,_,_⟩:=(show Av X.prog X.w H1 s1.heap a (.ext (Jv a C (some dx))) from I1.hok a _ ea);obtain⟨⟨mA,hn,r⟩,_,_⟩:=(show Av X.prog X.w H1 s1.heap dx (.ext (xdP dx fs)) from I1.hok dx _ ed);obtain⟨od,wD,hl⟩:=Xax hn;obtain⟨u,hu,ru⟩:=Bz.some_of (v:=v) (o:=mA f) (by rw[<-l];exact r f);obtain⟨cd,rs,ip,_,gX⟩:=c.cls;have dy:OY s1.heap a o C (some od):=by
  refine⟨ho,hc,?_,?_⟩
  ·obtain⟨c1,d1,dt,sl⟩:=o;cases hd;rfl
  ·rw[jO];exact wD
 obtain⟨hp,g,d,tk,os⟩:=s1;refine Xne I1.kIn F dy hd (PySem.W.findObj_own (by unfold OS;rw[ip];exact gX) c.no rfl (by rw[hl,hu])) (Xhp ru) ?_;exact⟨v,H1,I1.tok _,ru,q⟩
def Mu(K)(hK:X.K=K):Bh X (.builtin "isinstance") (λxs H Q=>∃a C dd c cv b,xs=[.ref a,c]/\H a=some (B4 a C dd)/\ExcF K C/\Ir c=some cv/\NS K (.ref C) cv=some b/\Q (.bl b) H):=by
 subst hK;k_asm;obtain⟨a,C,dd,c,cv,b,rfl,ha,F,hc,e,q⟩:=h;obtain⟨u,v,rfl,ru,rv⟩:=r.two;have:=Xb6 rv hc;subst this;cases ru;obtain⟨⟨o,vs,p1,p2,p3,_⟩,_⟩:=(show Av X.prog X.w H s.heap a (.ext (Jv a C dd)) from I.hok a _ ha);exact NX (Xjo F) I.kIn ⟨o,vs,p1,p2,p3⟩ e (λz=>nomatch z) λtk=>⟨.bl b,H,I.tok _,rfl,q⟩
end
section
variable {X:Cx}
end
section
variable {X:Cx}{a b c d:aL}{ta tb tc td:TE}{pos:cF}{es:List aL}{t:St->Hp->(Hp->Prop)->Prop}{e:aL}{te:TE}
def Xsf (r r' wE:R2) (ta tb tc td:TE):TT:=fun Z H Q=>ta Z H λx H1=>tb Z H1 λy H2=>r x y H2 λz H3=>∃k,z = .bl k /\
 (if k=true then tc Z H3 λw H4=>r' y w H4 λz' H5=>∃k',z' = .bl k'/\(if k'=true then td Z H5 λu H6=>wE w u H6 λz2 H7=>∃k2,z2 = .bl k2/\Q k2 H7 else Q false H5) else Q false H3)
end
def Tups (H:Hp) (ps:List ae) (Ts:List (Za)):Prop:=ps.length=Ts.length/\∀i,i<ps.length->H (ps.getD i 0)=some (.tup ((Ts.getD i []).map V.str))
def Tups.same   (h:Tups H ps Ts) (s:Same H H'):Tups H' ps Ts:=⟨h.1,λi hi=>s _ _ (h.2 i hi)⟩
def Tups.nil(H):Tups H [] []:=⟨rfl,λi hi=>absurd hi (Py _)⟩
def Tups.cons{H}{p}{T}{ps}{Ts}(h:H p=some (.tup (T.map V.str)))(r:Tups H ps Ts):Tups H (p::ps) (T::Ts):=by
 refine⟨by simp[r.1],λi hi=>?_⟩;cases i with
 | zero=>exact h
 | succ i=>exact r.2 i (by simpa using hi)
theorem Tups.app:∀{ps qs:List ae} {Ts Us:List (Za)},Tups H ps Ts->Tups H qs Us->Tups H (ps++qs) (Ts++Us)
 | [],qs,Ts,Us,h,g=>by
  have:Ts=[]:=Pa.mp h.1.symm;rw[this];exact g
 | p::ps,qs,[],Us,h,g=>by have:=h.1;simp at this
 | p::ps,qs,T::Ts,Us,h,g=>by
  have r:Tups H ps Ts:=⟨by simpa using h.1,λi hi=>by simpa using h.2 (i+1) (by simpa using hi)⟩;exact Tups.cons (h.2 0 (by simp)) (Tups.app r g)
end L2
namespace SH
open L2
def Mv  : Bs iw lK=true↔(iw = "within" -> lK=true)/\(iw = "apart" -> lK=false):=by
 unfold Bs;by_cases h:iw = "within"
 ·rw[Sy h];have n:iw ≠ "apart" := by rw[h];decide
  exact⟨λz=>⟨λ_=>z,λz=>absurd z n⟩,λz=>z.1 h⟩
 ·rw[Sx h];by_cases g:iw = "apart"
  ·rw[Sz g];constructor
   ·exact λz=>⟨λq=>absurd q h,λ_=>by simpa using z⟩
   ·intro z;rw[z.2 g];rfl
  ·rw[S0 g];exact⟨λ_=>⟨λq=>absurd q h,λq=>absurd q g⟩,λ_=>rfl⟩
def Xnh:Ag row S=true↔S.Pairwise ltS/\(∀x∈S,x∈row)/\(∀x∈S,∀y∈row,lieR row x y = "within" -> y∈S)/\(∀x∈S,∀y∈S,lieR row x y ≠ "apart"):=by
 constructor
 ·intro h;obtain⟨h1,h2⟩:=Co h;unfold Ag at h;rw[N3] at h;have al:∀x∈S,∀y∈row,Bs (lieR row x y) (decide (y∈S))=true:=λx hx y hy=>Oh.mp (Oh.mp h.2 x hx) y (Ai.mpr hy);refine⟨h2,h1,λx hx y hy e=>S5 ((Mv.mp (al x hx y hy)).1 e),λx hx y hy e=>?_⟩;have:=(Mv.mp (al x hx y (h1 y hy))).2 e;rw[Sz hy] at this;cases this
 ·rintro ⟨h1,h2,h3,h4⟩;unfold Ag;rw[N3,N3];refine⟨⟨Sz (Jn h1).symm,Oh.mpr λx hx=>Sz (h2 x hx)⟩,Oh.mpr λx hx=>Oh.mpr λy hy=>Mv.mpr ⟨λe=>Sz (h3 x hx y (Ai.mp hy) e),λe=>S0 λz=>h4 x hx y z e⟩⟩
def Mw(h:lieT a b c e = "within"):c<a/\a<e/\c<b/\b<e:=by
 unfold lieT at h;split at h
 ·w_up
 ·split at h
  ·w_up
  ·split at h
   ·rename_i q;rw[B2] at q;by_cases p1:c<a/\a<e
    ·by_cases p2:c<b/\b<e
     ·exact⟨p1.1,p1.2,p2.1,p2.2⟩
     ·rw[Sy p1,Sx p2] at q;lia
    ·rw[Sx p1] at q;split at q<;>lia
   ·split at h
    ·w_up
    ·w_up
theorem Xer:∀{Ts:List (Za)} {xs:List V},DAll H (Ts.map tupD) xs->∃ps:List ae,xs=ps.map V.ref/\Tups H ps Ts
 | [],xs,h=>by unfold List.map DAll at h;exact⟨[],h,Tups.nil H⟩
 | T::Ts,xs,h=>by
  rw[Op] at h;unfold DAll at h;obtain⟨v,vr,rfl,h1,h2⟩:=h;obtain⟨p,ys,rfl,hp,hy⟩:=Jg h1;rw[F9 hy] at hp;obtain⟨ps,rfl,hq⟩:=Xer h2;exact⟨p::ps,rfl,Tups.cons hp hq⟩
theorem Xes:∀{ps:List ae} {Ts:List (Za)},Tups H ps Ts->DAll H (Ts.map tupD) (ps.map V.ref)
 | [],Ts,h=>by
  have:Ts=[]:=Pa.mp h.1.symm;rw[this];unfold List.map DAll;rfl
 | p::ps,[],h=>by have:=h.1;simp at this
 | p::ps,T::Ts,h=>by
  rw[Op,Op];unfold DAll;exact⟨.ref p,ps.map V.ref,rfl,Cl (h.2 0 (by simp)),Xes ⟨by simpa using h.1,λi hi=>by simpa using h.2 (i+1) (by simpa using hi)⟩⟩
def Cov (row:Za) (Us:List (Za)) (j:Nat) (Ts:List (Za)):Prop:=∀i,i<j->∀x∈row,x∉Us.getD i []->Ag row (srt (Us.getD i []++[x]))=true->srt (Us.getD i []++[x])∈Ts
theorem Xet{α : Type}{R}(irr:∀a,¬R a a)(tr:∀a b c,R a b->R b c->R a c):∀{A B:List α},A.Pairwise R->B.Pairwise R->(∀x,x∈A↔x∈B)->A=B
 | [],[],_,_,_=>rfl
 | [],b::_,_,_,h=>absurd ((h b).mpr Ny) (by simp)
 | a::_,[],_,_,h=>absurd ((h a).mp Ny) (by simp)
 | a::A,b::B,hA,hB,h=>by
  obtain⟨a1,a2⟩:=Qf.mp hA;obtain⟨b1,b2⟩:=Qf.mp hB;have e:a=b:=by
   rcases N4.mp ((h a).mp Ny) with z | z
   ·exact z
   ·rcases N4.mp ((h b).mpr Ny) with u | u
    ·exact u.symm
    ·exact absurd (tr _ _ _ (a1 b u) (b1 a z)) (irr a)
  subst e;rw[Xet irr tr a2 b2 λx=>?_];constructor
  ·intro hx;rcases N4.mp ((h x).mp (Nw _ hx)) with z | z
   ·exact absurd (z ▸ a1 x hx) (irr a)
   ·exact z
  ·intro hx;rcases N4.mp ((h x).mpr (Nw _ hx)) with z | z
   ·exact absurd (z ▸ b1 x hx) (irr a)
   ·exact z
def LayC (row:Za) (n:Nat) (Us:List (Za)):Prop:=∀T,T∈Us↔Ag row T=true/\T.length=n
end SH
namespace L2
end L2
namespace SH
open L2
def Xeu:Sp:=λvs H Q _=>∃(dr sc l:ae) (xs:List V),vs=[.ref dr,.ref l]/\DrawOk H dr sc/\H l=some (.lst xs)/\l≠dr/\0<xs.length/\xs.length<=1000 /\
 ∀(i:Nat) (H':Hp),i<xs.length->DrawOk H' dr sc->But dr H H'->Q (xs.getD i .non) H'
def mostL (a b c:Za):Za:=srt ((a.filter λx=>decide (x∈b)||decide (x∈c))++(b.filter λx=>decide (x∈c) && !decide (x∈a)))
def Mx{a b:Za}(ha:a.Pairwise ltS)(hb:b.Pairwise ltS)(h:∀x,x∈a↔x∈b):a=b:=Xet Iz (λ_ _ _=>Ja) ha hb h
end SH
set_option maxHeartbeats 3200000
namespace L2
open PySem.Calls
def it5 (mask:Nat):Nat->Nat->Nat
 | 0,i=>i
 | m+1,i=>it5 mask m ((i * 5+1) % (mask+1))
def Xni:∀i<8,∀j<8,∃m<8,it5 7 m i=j:=by decide +kernel
def Xnj:∀i<16,∀j<16,∃m<16,it5 15 m i=j:=by decide +kernel
def Xnk:∀i<32,∀j<32,∃m<32,it5 31 m i=j:=by decide +kernel
def Mask (mask:Nat):Prop:=mask=7\/mask=15\/mask=31
def Xnl(h:Mask mask):∀i<mask+1,∀j<mask+1,∃m<mask+1,it5 mask m i=j:=by
 rcases h with rfl | rfl | rfl
 ·exact Xni
 ·exact Xnj
 ·exact Xnk
section
variable {mask:Nat}{owner:Array (Option Nat)}
abbrev Free (owner:Array (Option Nat)) (j:Nat):Prop:=owner.getD j (some 0)=none
def Xev(fuel i p):(∃j,ai.layClean.free mask owner (fuel+1) i p=some j/\Free owner j) \/
  (¬Free owner i/\ai.layClean.free mask owner (fuel+1) i p=ai.layClean.free mask owner fuel ((i * 5+1+p / 32) % (mask+1)) (p / 32)):=by
 rw[ai.layClean.free];cases hf:(List.range (ai.runEnd mask i+1 - i)).find? λk=>(owner.getD (i+k) (some 0)).isNone with
 | some k=>
  left;refine⟨i+k,rfl,?_⟩;have:=List.find?_some hf;exact Option.isNone_iff_eq_none.mp this
 | none=>
  right;refine⟨λz=>?_,rfl⟩;rw[List.find?_eq_none] at hf;have hr:0<ai.runEnd mask i+1 - i:=by
   unfold ai.runEnd;split<;>lia
  have:=hf 0 (O6.mpr hr);rw[Nat.add_zero] at this;have z:owner.getD i (some 0)=none:=z;rw[z] at this;exact this rfl
theorem Xew:∀fuel i,(∃m,m<fuel/\Free owner (it5 mask m i))->∃j,ai.layClean.free mask owner fuel i 0=some j/\Free owner j
 | 0,_,⟨_,h,_⟩=>absurd h (Py _)
 | fuel+1,i,⟨m,hm,hf⟩=>by
  rcases Xev (mask:=mask) (owner:=owner) fuel i 0 with h | ⟨h1,h2⟩
  ·exact h
  ·rw[h2];cases m with
   | zero=>exact absurd hf h1
   | succ m=>exact Xew fuel _ ⟨m,by lia,hf⟩
theorem Xex:∀c fuel i p,p<32 ^ c->i<mask+1->(∀i,i<mask+1->∃m,m<fuel/\Free owner (it5 mask m i))->∃j,ai.layClean.free mask owner (fuel+c) i p=some j/\Free owner j
 | 0,fuel,i,p,hp,hi,h=>by
  have:p=0:=by lia
  subst this;exact Xew fuel i (h i hi)
 | c+1,fuel,i,p,hp,hi,h=>by
  rcases Xev (mask:=mask) (owner:=owner) (fuel+c) i p with h' | ⟨_,h2⟩
  ·exact h'
  ·rw[<-Nat.add_assoc,h2];exact Xex c fuel _ _ (by rw[Nat.pow_succ] at hp;lia) (Sk _ (by lia)) h
def C0 (owner:Array (Option Nat)):List Nat:=owner.toList.filterMap id
def Xnm(h:Free owner j):(C0 (owner.setIfInBounds j (some k))).Perm (k::C0 owner):=by
 have hj:j<owner.size:=by
  by_cases q:j<owner.size
  ·exact q
  ·have h:owner.getD j (some 0)=none:=h;simp[Array.getD,q] at h
 have h':owner.toList[j]'(by simpa using hj)=none:=by
  have h:owner.getD j (some 0)=none:=h;simpa [Array.getD,hj] using h
 unfold C0;rw[Array.toList_setIfInBounds];have e:∀(l:List (Option Nat)) (j:Nat) (hj:j<l.length),l[j]=none->((l.set j (some k)).filterMap id).Perm (k::l.filterMap id):=by
  intro l
  induction l with
  | nil=>intro j hj;exact absurd hj (Py _)
  | cons o l ih=>
   intro j hj hn;cases j with
   | zero=>
    have:o=none:=hn;subst this;simp
   | succ j=>
    have:=ih j (by simpa using hj) (by simpa using hn);cases o with
    | none=>simpa using this
    | some v=>
     simp only[List.set_cons_succ,O1,id];exact(this.cons v).trans (List.Perm.swap k v _)
 exact e _ j (by simpa using hj) h'
def Xnn(hn:(C0 owner).length<owner.size):∃j,j<owner.size/\Free owner j:=by
 refine Classical.byContradiction λz=>?_;have all:∀o∈owner.toList,o≠none:=λo ho e=>by
  obtain⟨j,hj,e2⟩:=Pm.mp ho;have gu:j<owner.size:=by simpa using hj
  refine z ⟨j,gu,?_⟩;show owner.getD j (some 0)=none;rw[<-e,<-e2];simp[Array.getD,gu]
 have:(C0 owner).length=owner.toList.length:=by
  unfold C0;generalize owner.toList=l at all;clear hn z
  induction l with
  | nil=>rfl
  | cons o l ih=>
   cases o with
   | none=>exact absurd rfl (all none Ny)
   | some v=>
    have:=ih λo ho=>all o (Nw _ ho);simp only[O1,id,Oe,this]
 exact absurd hn (by rw[this,N1];exact Ox _)
end
def Xno(h):ai.bits h<32 ^ 14:=by
 unfold ai.bits;have h1:h % (2 ^ 64:Int)<2 ^ 64:=Qv _ (by decide);have h2:0<=h % (2 ^ 64:Int):=Rh _ (by decide);have:(h % (2 ^ 64:Int)).toNat<2 ^ 64:=by lia
 exact Oc this (by decide)
def My (mask:Nat) (acc:Option (Array (Option Nat)×Nat)) (h:Int):Option (Array (Option Nat)×Nat):=do
 let (owner,k) <-acc
 let j <-ai.layClean.free mask owner (ai.turns mask) (ai.bits h % (mask+1)) (ai.bits h)
 pure (owner.setIfInBounds j (some k),k+1)
theorem Xey(hm:Mask mask):∀(hs:List Int) (owner:Array (Option Nat)) (k:Nat),owner.size=mask+1->(C0 owner).Perm (List.range k)->k+hs.length<=mask ->
  ∃iN,hs.foldl (My mask) (some (owner,k))=some (iN,k+hs.length)/\iN.size=mask+1/\(C0 iN).Perm (List.range (k+hs.length))
 | [],owner,k,h1,h2,_=>⟨owner,rfl,h1,h2⟩
 | h::hs,owner,k,h1,h2,h3=>by
  have hl:(C0 owner).length=k:=by rw[h2.length_eq,Pk]
  rw[Oe] at h3;obtain⟨j0,wF,uJ⟩:=Xnn (owner:=owner) (by lia);obtain⟨j,e,hf⟩:=Xex (mask:=mask) (owner:=owner) 14 (mask+1) (ai.bits h % (mask+1)) (ai.bits h) (Xno h) (Sk _ (by lia)) λi hi=>by
   obtain⟨m,pr,uD⟩:=Xnl hm i hi j0 (by lia);exact⟨m,pr,by rw[uD];exact uJ⟩
  have e1:My mask (some (owner,k)) h=some (owner.setIfInBounds j (some k),k+1):=by
   show (do let j <-ai.layClean.free mask owner (ai.turns mask) (ai.bits h % (mask+1)) (ai.bits h);pure (owner.setIfInBounds j (some k),k+1))=_;have:ai.turns mask=mask+1+14:=by unfold ai.turns;lia
   rw[this,e];rfl
  rw[Qx,e1];obtain⟨o',a1,a2,a3⟩:=Xey hm hs (owner.setIfInBounds j (some k)) (k+1) (by simpa using h1) (by
   refine(Xnm hf).trans ((h2.cons k).trans ?_);rw[O5];exact(List.perm_append_singleton k (List.range k)).symm) (by lia)
  rw[show k+(h::hs).length=k+1+hs.length by rw[Oe];lia];exact⟨o',a1,a2,a3⟩
def Xnp(mask)(hs):ai.layClean mask hs=(hs.toList.foldl (My mask) (some (Array.replicate (mask+1) none,0))).map (·.1):=by
 unfold ai.layClean;rw[<-Array.foldl_toList];rfl
def Xez:∀owner,((List.range owner.size).filterMap λj=>(owner.getD j none).map (j, ·)).map (·.2)=C0 owner:=by
 intro owner;unfold C0;rw[List.map_filterMap];have e:owner.toList=(List.range owner.size).map λj=>owner.getD j none:=by
  refine Q7 (by simp) λi h1 h2=>?_;have:i<owner.size:=by simpa using h1
  simp[Array.getD,this]
 rw[e,R8];congr 1;funext j;show Option.map _ (Option.map _ (owner.getD j none))=owner.getD j none;cases owner.getD j none<;>rfl
def Xnq{mask finger moves}{led plain}{hs}(hm:Mask mask)(hn:hs.size<=mask):
  ∃t o,ai.laid mask finger moves led plain hs=some (t,o)/\o.toList.Perm (List.range hs.size)/\t.fits hs.size=true/\t.led=led/\t.plain=plain:=by
 obtain⟨owner,e1,e2,e3⟩:=Xey hm hs.toList (Array.replicate (mask+1) none) 0 (by simp) (by
  unfold C0;rw[Array.toList_replicate];have:∀n,(List.replicate n (none:Option Nat)).filterMap id=[]:=λn=>by
   induction n with
   | zero=>rfl
   | succ n ih=>rw[P2];simpa using ih
  rw[this];exact Px _) (by simpa using hn)
 rw[N1,P0] at e1 e3;have ec:ai.layClean mask hs=some owner:=by rw[Xnp,e1];rfl
 unfold ai.laid;rw[ec];refine⟨_,_,rfl,?_,?_,rfl,rfl⟩
 ·show (((List.range (mask+1)).filterMap λj=>(owner.getD j none).map (j, ·)).map (·.2)).Perm _;rw[<-e2,Xez];exact e3
 ·have l1:(((List.range (mask+1)).filterMap λj=>(owner.getD j none).map (j, ·))).length=hs.size:=by
   have:=congrArg List.length (Xez owner);rw[Np,e2,e3.length_eq,Pk] at this;exact this
  simp only[ai.fits,ai.fill,N3,beq_iff_eq,decide_eq_true_eq,Nt,Np,l1];exact⟨trivial,by simpa using hn⟩
def Xnr{mask finger moves}{led plain}(hm:Mask mask):∃t,ai.laid mask finger moves led plain #[]=some (t, #[])/\t.mask=mask/\t.place = #[]/\t.dummies = #[]/\t.led=led/\t.plain=plain:=by
 have ec:ai.layClean mask #[]=some (Array.replicate (mask+1) none):=rfl;unfold ai.laid;rw[ec];have l0:((List.range (mask+1)).filterMap λj=>((Array.replicate (mask+1) (none:Option Nat)).getD j none).map (j, ·))=[]:=by
  rw[List.filterMap_eq_nil_iff];intro j hj;have:j<mask+1:=O6.mp hj;simp[Array.getD,this]
 refine⟨⟨mask, #[], #[],finger,led,moves,plain⟩,?_,rfl,rfl,rfl,rfl,rfl⟩;show some (_,_)=_;rw[l0];rfl
def reord (es:Array (Int×aa)) (laid:Option (ai×Array Nat)):fT (Array (Int×aa)×ai):=do
 let some (t,sN):=laid | unsupported "internal:set-table-without-room"
 let cN:=sN.filterMap (es[·]?)
 if cN.size != es.size then unsupported "internal:set-table-lost-an-element"
 pure (cN,t)
def Xns(a:ae)(iO:Nat):setRelay a iO=(do
  let (es,_,t) <-gZ a
  if ai.sizeAbove iO > sizeLine then unsupported "set:memory"
  let (es,t) <-reord es (t.relaid (es.map (·.1)) iO)
  gK a es t):=rfl
def Xnt(s o:ae)(iG:fT Unit):setMerge s o iG=(do
  if s==o then return
  let (eo,kW,to) <-gZ o
  if eo.isEmpty then return
  mS s eo.size
  let (_,_,ts) <-gZ s
  match ts.road to with
  | .slotForSlot=>gK s eo {to with finger:=ts.finger,led:=ts.led&&to.led,moves:=ts.moves,plain:=ts.plain&&to.plain}
  | .clean=>
   let (es,t) <-reord eo (ai.laid ts.mask ts.finger ts.moves (led:=ts.led&&to.led) (plain:=ts.plain&&to.plain) (eo.map (·.1)))
   gK s es t
  | .oneByOne=>
   for (h,x) in <-iP o [s] (some s) do
    let _ <-holding [x] (dz s x h)
    iG
    if (<-gZ o).2.1 != kW then unsupported "set.changed-during-merge"):=rfl
def Mz (es:Array (Int×aa)) (t:ai):fT Unit:=do
 if !t.led&&es.size > 1 then unsupported "set:maker-not-led"
def Xnu(a:ae):nX a=(do
  let (es,kW,t) <-gZ a
  if <-cx then return ce ((<-ask).params.setOrder a kW) es
  if !t.plain&&decide (es.size > 1) then return (<-jh es.size es.toList).toArray
  Mz es t
  return es):=rfl
def Xnv:∀m<16,5<=m->(ai.sizeAbove (m * 2) - 1=15\/ai.sizeAbove (m * 2) - 1=31)/\m<=ai.sizeAbove (m * 2) - 1/\¬ai.sizeAbove (m * 2) > sizeLine:=by decide +kernel
section
variable {P:ar}{w:aA}{A:av}{E:Zb}{s:ah}{a b c:ae}{ks ls:Za}
def wp_reord{es}   (h:o.toList.Perm (List.range es.size))(q:∀cN:Array (Int×aa),cN.toList.Perm es.toList->cN.size=es.size->Q (cN,t) s):
  af (ag P w) A (reord es (some (t,o))) Q E s:=by
 have p:(o.filterMap (es[·]?)).toList.Perm es.toList:=by
  rw[Array.toList_filterMap];have:=h.filterMap (λi=>es[i]?)
  rwa [filterMap_getElem?_range] at this
 have z:(o.filterMap (es[·]?)).size=es.size:=by rw[<-N1,p.length_eq,N1]
 unfold reord;k_in;rw[z];simp only[bne_self_eq_false,Os,if_false];exact Ss (q _ p z)
def Jw(hT:s.TypeIs (.ref a) "set")(h:Q true s):af (ag P w) A (aj.Frozenset.isAnySet (.ref a)) Q E s:=by
 unfold aj.Frozenset.isAnySet;show af _ _ (cK (.ref a) (.type "set") >>= λb=>_) _ _ s;refine Sr (cY hT ju ?_);exact Ss h
def Xnw(hT:s.TypeIs (.ref a) "set")(h:Q (.type "set") s):af (ag P w) A (aj.Frozenset.baseOf a) Q E s:=by
 unfold aj.Frozenset.baseOf;refine Sr (cY hT ju ?_);exact Ss h
def SSet.typeIs(S:SSet P w s.heap a ks):s.TypeIs (.ref a) "set" := by
 obtain⟨o,_,_,_,_,ho,hex,_⟩:=S;exact⟨o,ho,hex.1⟩
structure Nu (w:aA) (h:ak) (a:ae) (n:Nat):Prop where
 ex:∃o ep t,h.get? a=some o/\o.ExactSet/\o.data = .set #[] ep t/\t.place = #[]/\t.dummies = #[]/\Mask t.mask/\n<=t.mask/\t.led = !A3 w/\t.plain=true
def Xnx{t:ai}(h1:t.place = #[])(h2:t.dummies = #[]):t.fits 0=true:=by
 simp[ai.fits,ai.fill,h1,h2]
def Xny    (ho:s.heap.get? a=some o) (hex:o.ExactSet) (hd:o.data = .set #[] ep (.fresh 0 0 (!A3 w))) (hn:n<16)
  (h:∀h',ak.SameBut a s.heap h'->Nu w h' a n->Q () {s with heap:=h'}):af (ag P w) A (mS a n) Q E s:=by
 have hf:(ai.fresh 0 0 (!A3 w)).fits (#[]:Array (Int×aa)).size=true:=rfl;unfold mS;refine Sr (aE ho hd hf ?_);k_in;by_cases hr:n * 5 ≥ 21
 ·have e:(ai.fresh 0 0 (!A3 w)).roomFor n=some (n * 2):=by
   unfold ai.roomFor;rw[Sy (by show (0+0+n) * 5 ≥ 7 * 3;lia)];show some ((0+n) * 2)=_;rw[P0]
  rw[e];k_in;rw[Xns];refine Sr (aE ho hd hf ?_);k_in;obtain⟨m1,m2,m3⟩:=Xnv n hn (by lia);have hM:Mask (ai.sizeAbove (n * 2) - 1):=.inr m1;rw[Sx m3];obtain⟨t,e1,t1,t2,t3,t4,t5⟩:=Xnr (finger:=(ai.fresh 0 0 (!A3 w)).finger) (moves:=(ai.fresh 0 0 (!A3 w)).movedTo (ai.sizeAbove (n * 2) - 1)) (led := !A3 w) (plain:=true) hM;have e2:(ai.fresh 0 0 (!A3 w)).relaid ((#[]:Array (Int×aa)).map (·.1)) (n * 2)=some (t, #[]):=by
   unfold ai.relaid;rw[Array.map_empty];exact e1
  rw[e2];refine Sr (wp_reord (es := #[]) (by simp) λcN p z=>?_);have:cN = #[]:=Array.eq_empty_of_size_eq_zero z;subst this;refine bx ho hd ?_ (Ou _);have g:=ak.get?_update_self (aM.putSet #[] t) ho (by rw[cb #[] t hd];rfl);rw[cb #[] t hd] at g;exact h _ (S9 _ a _) ⟨_,ep+1,t,g,hex,rfl,t2,t3,by rw[t1];exact hM,by rw[t1];exact m2,t4,t5⟩
 ·have e:(ai.fresh 0 0 (!A3 w)).roomFor n=none:=by
   unfold ai.roomFor;rw[Sx (by show ¬(0+0+n) * 5 ≥ 7 * 3;lia)]
  rw[e];exact Ss (h _ (ak.SameBut.refl a _) ⟨o,ep,_,ho,hex,hd,rfl,rfl,.inl rfl,by show n<=7;lia,rfl,rfl⟩)
def Xnz{id}  {ep}(ho:s.heap.get? c=some o)(hex:o.ExactSet)(hd:o.data = .set #[] ep (.fresh 0 0 (!A3 w)))(S:SSet P w s.heap b ls)(hl:ls.length<16)(Go:c≠b)
  (h:∀h',ak.SameBut c s.heap h'->SSet P w h' c ls->Q () {s with heap:=h'}):af (ag P w) A (aj.Frozenset.merge id c b) Q E s:=by
 obtain⟨ob,eo,MK,to,ML,uH,G',zM,wG,sO,zN,iK,wH,jc,sP⟩:=S;have hz:eo.size=ls.length:=by
  have:=sO.length;rw[Np,N1] at this;rw[this,zN.length_eq]
 unfold aj.Frozenset.merge;refine Sr (ci uH zM wH ?_);rw[Xnt];rw[Sx (by simpa using Go)];refine Sr (aE uH zM wH ?_);k_in;by_cases he:eo.isEmpty=true
 ·rw[Sy he];have e0:eo = #[]:=by simpa using he
  have:ls=[]:=Pa.mp (by rw[<-hz,e0];rfl);subst this;exact Ss (h _ (ak.SameBut.refl c _) ⟨o, #[],ep,_,[],ho,hex,hd,λe he=>by simp at he,.nil,Px _,by decide,rfl,rfl,λ_=>rfl⟩)
 ·rw[Sx he];refine Sr (Xny ho hex hd (by rw[hz];exact hl) λh1 mT nu=>?_);obtain⟨o1,GA,t1,iJ,wI,sQ,p1,p2,hM,zO,l1,zP⟩:=nu.ex;have oV:t1.fits (#[]:Array (Int×aa)).size=true:=Xnx p1 p2;refine Sr (aE (s:={s with heap:=h1}) iJ sQ oV ?_);k_in;have fin:∀(cN:Array (Int×aa)) (t':ai),cN.toList.Perm eo.toList->t'.fits cN.size=true->t'.led = !A3 w->(t'.plain=true->cN.size=0)->Q () {s with heap:=h1.update c (aM.putSet cN t')}:=λcN t' pp ff fl fp=>by
   obtain⟨qB,aD,q'⟩:=Ix pp sO;have z':cN.size=eo.size:=by rw[<-N1,pp.length_eq,N1]
   have g:=ak.get?_update_self (aM.putSet cN t') iJ (by rw[cb cN t' sQ];rfl);rw[cb cN t' sQ] at g;exact h _ (mT.trans (S9 _ c _)) ⟨_,cN,GA+1,t',qB,g,wI,rfl,wG.perm pp,aD,q'.trans zN,by rw[z'];exact iK,ff,fl,fp⟩
  have sR:t1.road to=if (t1.mask==to.mask&&to.dummies.isEmpty)=true then ai.Road.slotForSlot else ai.Road.clean:=by
   unfold ai.road;have:(t1.fill != 0)=false:=by simp[ai.fill,p1,p2]
   rw[this,Sx (by decide)]
  rw[sR];by_cases hr:(t1.mask==to.mask&&to.dummies.isEmpty)=true
  ·rw[Sy hr];k_in;refine bx (s:={s with heap:=h1}) iJ sQ ?_ (be iK);exact fin eo _ (Px _) wH (by show (t1.led&&to.led)=_;rw[l1,jc,Rg]) (by show (t1.plain&&to.plain)=true->_;rw[zP,Pi];exact sP)
  ·rw[Sx hr];k_in;obtain⟨t2,od,e1,e2,e3,e4,e5⟩:=Xnq (finger:=t1.finger) (moves:=t1.moves) (led:=t1.led&&to.led) (plain:=t1.plain&&to.plain) (hs:=eo.map (·.1)) hM (by rw[Array.size_map];exact zO);rw[e1];rw[Array.size_map] at e2 e3;refine Sr (wp_reord e2 λcN pp zz=>?_);refine bx (s:={s with heap:=h1}) iJ sQ ?_ (be (by rw[zz];exact iK));exact fin cN t2 pp (by rw[zz];exact e3) (by rw[e4,l1,jc,Rg]) (by rw[e5,zP,Pi,zz];exact sP)
def Wl (P:ar) (w:aA) (wl:Array (Int×aa)) (ks:Za):Prop:=fo (PySem.strKind P w) wl.toList/\∃zs,aG (wl.toList.map (·.2)) zs/\zs.Perm ks
def Xn0{es wl:Array (Int×aa)}(eS:fo (PySem.strKind P w) es.toList)(hs:aG (es.toList.map (·.2)) zh)(hp:zh.Perm ks)(pp:wl.toList.Perm es.toList):Wl P w wl ks:=by
 obtain⟨zs,st,q⟩:=Ix pp hs;exact⟨eS.perm pp,zs,st,q.trans hp⟩
theorem Xe0  (hf:∀(x:Int×aa) (r:Option Bool×Unit),(∀p,x.2 ≠ .ref p)->f x r=pure (.yield (none,()))):
  ∀(l:List (Int×aa)),(∀e∈l,∀p,e.2 ≠ .ref p)->Q (none,()) s->af (ag P w) A (forIn l (none,()) f) Q E s
 | [],_,h=>by rw[Sg];exact Ss h
 | x::l,hn,h=>by
  rw[R1,hf x _ (hn x Ny)];exact Sr (Ss (Xe0 hf l (λe he=>hn e (Nw _ he)) h))
end
section
variable {P:ar}{w:aA}{A:av}{E:Zb}{s:ah}{a b c:ae}{ks ls:Za}
def Xe1(h:fo (PySem.strKind P w) l):∀e∈l,∀p,e.2 ≠ .ref p:=λe he p z=>by
 have:=(h e he).2;rw[z] at this;cases this
def Xe2  (hf:∀(x:Int×aa) (r:Option Bool×Unit),(∀p,x.2 ≠ .ref p)->f x r=pure (.yield (none,())))
  {es:Array (Int×aa)} (hn:∀e∈es.toList,∀p,e.2 ≠ .ref p) (h:Q (none,()) s):af (ag P w) A (forIn es (none,()) f) Q E s:=by
 rw[<-Ri];exact Xe0 hf _ hn h
def Xn1(S:SSet P w s.heap a ks)(F:SSet P w s.heap b ls)(h:Q true s):af (ag P w) A (MM [a,b]) Q E s:=by
 obtain⟨o,es,ep,t,l0,ho,hex,hd,eS,bH,hp,hb,hf,hl,bN⟩:=S;obtain⟨o',cN,l7,t',MN,eu,GB,io,wJ,GC,jM,dJ,GD,pc,GE⟩:=F;have hq:∀(x:Int×aa) (r:Option Bool×Unit),(∀p,x.2 ≠ .ref p)->(match x.2 with
   | aa.ref a=>do
    let j7 <-specialOf x.2 (ao.ofString "__eq__")
    if (j7 != some (aa.builtin "object.__eq__"))=true then pure (ForInStep.done (some false,())) else pure (ForInStep.yield (none,()))
   | x=>pure (ForInStep.yield (none,())):fT (ForInStep (Option Bool×Unit)))=pure (.yield (none,())):=λx r hx=>by
  split
  ·rename_i e;exact absurd e (hx _)
  ·rfl
 unfold MM;simp only[R1,Sg];refine Sr (Sr (Sr (cC ho hd hf (Sr (Xe2 hq (Xe1 eS) (Ss ?_))))));refine Sr (Sr (cC eu io GD (Sr (Xe2 hq (Xe1 wJ) (Ss ?_)))));exact Ss (Ss h)
def wp_unseen(S:SSet P w s.heap a ks)(F:SSet P w s.heap c ls)(lQ:a≠c)
  (h:∀wl h' d,Wl P w wl ks->ak.SameBut c s.heap h'->SSet P w h' c ls->Q wl {s with heap:=h',drawn:=d}):af (ag P w) A (iP a [c] (some c)) Q E s:=by
 obtain⟨o,es,ep,t,l0,ho,hex,hd,eS,bH,hp,hb,hf,hl,bN⟩:=id S;have sT:∀wl:Array (Int×aa),wl.toList.Perm es.toList->Wl P w wl ks:=λwl pp=>Xn0 eS bH hp pp;have walk:af (ag P w) A (nX a) Q E s:=by
  rw[Xnu];refine Sr (aE ho hd hf ?_);k_in;unfold cx;refine Sr (Sr (aS (Ss ?_)));show af _ _ (if A3 w=true then _ else _) _ _ s;cases hw:A3 w with
  | true=>
   rw[Sy rfl];refine Sr (aS (Ss ?_));exact h _ s.heap s.drawn (sT _ (Xcc _ es)) (ak.SameBut.refl c _) F
  | false=>
   gn_on;by_cases hc:(!t.plain&&decide (es.size > 1))=true
   ·rw[Sy hc];refine Sr (Xcd _ _ _ _ (N1) λos d po=>Ss ?_);exact h _ s.heap d (sT _ (by simpa using po)) (ak.SameBut.refl c _) F
   ·rw[Sx hc];have hm:Mz es t=pure ():=by
     unfold Mz;rw[hl,hw];rfl
    refine Sr (fQ hm (Ss ?_));exact h _ s.heap s.drawn (sT _ (Px _)) (ak.SameBut.refl c _) F
 unfold iP;refine Sr (aE ho hd hf ?_);k_in;unfold cx;refine Sr (Sr (aS (Ss ?_)));show af _ _ (if (A3 w||(t.led&&t.plain)||decide (es.size<=1))=true then nX a else _) _ _ s;by_cases hc:(A3 w||(t.led&&t.plain)||decide (es.size<=1))=true
 ·rw[Sy hc];exact walk
 ·rw[Sx hc];refine Sr (Xn1 S F ?_);simp only[Rf,Os,if_false];refine Sr (aT ?_);obtain⟨oc,ec,GF,tc,lc,me,mR,uK,wK,wL,GG,zQ,lM,GH,wM⟩:=id F;refine Sr (aE me uK lM ?_);k_in;by_cases hs:((tc.led && !t.led)||(tc.plain && !t.plain))=true
  ·rw[Sy hs];refine Sr (bx me uK (Ss ?_) (be zQ));obtain⟨g,S1⟩:_/\SSet P w (s.heap.update c (aM.putSet ec {tc with led:=tc.led&&t.led,plain:=tc.plain&&t.plain})) c ls:=by
    have g:=ak.get?_update_self (aM.putSet ec {tc with led:=tc.led&&t.led,plain:=tc.plain&&t.plain}) me (by rw[cb ec _ uK];rfl);rw[cb ec _ uK] at g;exact⟨g,_,ec,GF+1,_,lc,g,mR,rfl,wK,wL,GG,zQ,lM,by show (tc.led&&t.led)=_;rw[GH,hl,Rg],by
     show (tc.plain&&t.plain)=true->_;intro z;rw[N3] at z;exact wM z.1⟩
   exact h _ _ s.drawn (sT _ (Px _)) (S9 _ c _) S1
  ·rw[Sx hs];exact Ss (h _ s.heap s.drawn (sT _ (Px _)) (ak.SameBut.refl c _) F)
def xor1 (ks:Za) (x:ao):Za:=if x∈ks then ks.erase x else ks++[x]
def Jx{α : Type}(xs:Array α)(i):(ai.eraseAt xs i).toList=xs.toList.eraseIdx i:=by
 unfold ai.eraseAt;rw[Array.toList_append,Array.toList_extract,Array.toList_extract,List.eraseIdx_eq_take_drop_succ];simp[List.extract];exact O0 (by simp)
theorem Xe3:∀(l:Za),l.Nodup->∀(j:Nat) (hj:j<l.length),l.erase l[j]=l.eraseIdx j
 | x::l,nd,0,_=>by simp
 | x::l,nd,j+1,hj=>by
  obtain⟨h1,h2⟩:=Pd.mp nd;have gu:j<l.length:=by simpa using hj
  have ne:x≠l[j]:=λe=>h1 (e ▸ Ov gu);rw[List.getElem_cons_succ,List.eraseIdx_cons_succ,List.erase_cons_tail (by simpa using ne),Xe3 l h2 j gu]
theorem Xe4{α β : Type}(f : α -> β):∀(l:List α) (j:Nat),(l.eraseIdx j).map f=(l.map f).eraseIdx j
 | [],_=>rfl
 | x::l,0=>rfl
 | x::l,j+1=>by simp[Xe4 f l j]
theorem Xe5:∀{vs:List aa} {ls:Za} (i:Nat),aG vs ls->aG (vs.eraseIdx i) (ls.eraseIdx i)
 | _,_,_,.nil=>by simp;exact .nil
 | _,_,0,.cons x t h=>h
 | _,_,i+1,.cons x t h=>.cons x t (Xe5 i h)
def Xn2  (h:aG vs ls) {i} (hi:i<vs.length):∃t,vs[i] = .str (ls.getD i ao.empty) t:=by
 induction h generalizing i with
 | nil=>exact absurd hi (Py _)
 | cons x t _ ih=>
  cases i with
  | zero=>exact⟨t,rfl⟩
  | succ i=>exact ih (by simpa using hi)
def Xn3   (S:SSet P w s.heap a ks) (nd:ks.Nodup) (hr:ks.length+1<aW)
  (h:∀h',ak.SameBut a s.heap h'->SSet P w h' a (xor1 ks x)->Q () {s with heap:=h'}):
  af (ag P w) A (holding [.str x tk] do
   if !(<-fG a (.str x tk) ((PySem.strKind P w).hash x)) then
    let _ <-dz a (.str x tk) ((PySem.strKind P w).hash x)) Q E s:=by
 obtain⟨o,es,ep,t,l0,ho,hex,hd,eS,hs,hp,hb,hf,hl,bN⟩:=id S;have g9:(PySem.strKind P w).is x (.str x tk)=true:=gJ P w x tk;have dy:x∈ks ↔ ∃e∈es.toList,(PySem.strKind P w).is x e.2=true:=hp.mem_iff.symm.trans (Xb7 hs);have aV:es.size=ks.length:=by
  have:=hs.length;rw[Np,N1] at this;rw[this,hp.length_eq]
 refine aw (Sr ?_);unfold fG setFind setFindIn;refine Sr (Sr (aE ho hd hf ?_));k_in;rw[LX (knd:=PySem.strKind P w) rfl hb eS];simp only[↓reduceIte];refine Sr (aT (Sr (oU g9 ho hd hf eS ?_)));cases oV:List.findIdx? (λe=>(PySem.strKind P w).is x e.2) es.toList with
 | none=>
  k_in;have hx:x∉ks:=λz=>by
   obtain⟨e,he,q⟩:=dy.mp z;have:=List.findIdx?_eq_none_iff.mp oV e he;rw[q] at this;cases this
  refine Ss (Ss ?_);simp only[Bool.not_false,if_true];refine Sr (sset_add S hr λb h' sb S'=>Ss ?_);refine h h' sb ?_;unfold xor1;rw[Sx hx];rw[Sx hx] at S';exact S'
 | some j=>
  k_in;obtain⟨hj,rW,_⟩:=Rc.mp oV;have hx:x∈ks:=dy.mpr ⟨es.toList[j],Ov hj,rW⟩;rw[P0];refine Ss ?_;k_in;refine Sr (aE ho hd hf ?_);k_in;have GI:j<es.size:=by simpa using hj
  have zE:(ai.eraseAt es j).size=es.size - 1:=by
   rw[<-N1,Jx,Qc hj,N1]
  refine Sr (bx ho hd ?_ (be (by rw[zE];lia)));refine Sr (zA (Ss ?_));simp only[Rf,Os,if_false];refine Ss ?_;have g:=ak.get?_update_self (aM.putSet (ai.eraseAt es j) (t.drop j)) ho (by rw[cb _ _ hd];rfl);rw[cb _ _ hd] at g;have mU:t.place.size=es.size/\t.fill<=t.mask:=by
   simpa [ai.fits,N3] using hf
  have kX:(t.drop j).fits (es.size - 1)=true/\(t.drop j).led=t.led/\(t.drop j).plain=t.plain:=by
   unfold ai.drop;have zR:j<t.place.size:=by rw[mU.1];exact GI
   rw[getElem?_pos t.place j zR];k_in;refine⟨?_,rfl,rfl⟩;have z1:(ai.eraseAt t.place j).size=t.place.size - 1:=by
    rw[<-N1,Jx,Qc (by simpa using zR),N1]
   have z2:∀p v,(ai.insertAt t.dummies p v).size=t.dummies.size+1:=λp v=>by
    have:=(ai.insertAt_perm t.dummies p v).length_eq;simpa using this
   simp only[ai.fits,ai.fill,N3,beq_iff_eq,decide_eq_true_eq,z1,z2];have:=mU.2;unfold ai.fill at this
   lia
  have wO:l0.getD j ao.empty=x:=by
   obtain⟨tt,e⟩:=Xn2 hs (i:=j) (by simpa using hj);rw[Qd] at e;rw[e] at rW;obtain⟨t3,e3⟩:=aa.isStrOf_shape (x:=x) (v:=.str (l0.getD j ao.empty) tt) rW;injection e3
  have MO:l0.length=es.size:=by
   have:=hs.length;rw[Np,N1] at this;exact this.symm
  have GJ:l0.Nodup:=hp.nodup_iff.mpr nd;have GK:l0.eraseIdx j=l0.erase x:=by
   have wF:j<l0.length:=by lia
   have e:l0[j]=x:=by rw[<-wO];simp[List.getD,wF]
   rw[<-e];exact(Xe3 l0 GJ j wF).symm
  refine h _ (S9 _ a _) ⟨_,_,ep+1,_,l0.eraseIdx j,g,hex,rfl,?_,?_,?_,by rw[zE];lia,by rw[zE];exact kX.1,kX.2.1.trans hl,?_⟩
  ·intro e he;rw[Jx] at he;exact eS e (List.mem_of_mem_eraseIdx he)
  ·rw[Jx];have:(es.toList.eraseIdx j).map (·.2)=(es.toList.map (·.2)).eraseIdx j:=by
    exact Xe4 _ _ _
   rw[this];exact Xe5 j hs
  ·rw[GK];unfold xor1;rw[Sy hx];exact hp.erase x
  ·rw[kX.2.2,zE];intro z;rw[bN z]
end
def Xn4 (a:ae) (h:Int) (x:aa):fT Unit:=holding [x] do
 if !(<-fG a x h) then
  let _ <-dz a x h
def Xe6(ks)(x):(xor1 ks x).length<=ks.length+1:=by
 unfold xor1;split
 ·exact Nat.le_succ_of_le (List.length_erase_le ..)
 ·rw[Nx];exact Nr _
def Xe7  (h:ks.Nodup):(xor1 ks x).Nodup:=by
 unfold xor1;split
 ·exact h.erase x
 ·rename_i hx;exact Pp.mpr ⟨h,by simp,λa ha b hb e=>hx (by rw[Nv.mp hb] at e;exact e ▸ ha)⟩
def Xn5  (h:ks.Nodup):y∈xor1 ks x↔(y∈ks/\y≠x)\/(y=x/\x∉ks):=by
 unfold xor1;split
 ·rename_i hx;rw[h.mem_erase_iff];constructor
  ·exact λz=>.inl ⟨z.2,z.1⟩
  ·rintro (z | z)
   ·exact⟨z.2,z.1⟩
   ·exact absurd hx z.2
 ·rename_i hx;rw[N0,Nv];constructor
  ·rintro (z | z)
   ·exact .inl ⟨z,λe=>hx (e ▸ z)⟩
   ·exact .inr ⟨z,hx⟩
  ·rintro (z | z)
   ·exact .inl z.1
   ·exact .inr z.1
theorem Xe8:∀(zs ms:Za),ms.Nodup->zs.Nodup->(zs.foldl xor1 ms).Nodup/\(zs.foldl xor1 ms).length<=ms.length+zs.length/\∀y,y∈zs.foldl xor1 ms↔(y∈ms/\y∉zs)\/(y∉ms/\y∈zs)
 | [],ms,h,_=>⟨h,Nr _,λy=>by simp⟩
 | z::zs,ms,h,hz=>by
  obtain⟨n1,n2⟩:=Pd.mp hz;obtain⟨a1,a2,a3⟩:=Xe8 zs (xor1 ms z) (Xe7 h) n2;refine⟨a1,?_,λy=>?_⟩
  ·have:=Xe6 ms z;rw[Oe];rw[Qx]
   lia
  ·rw[Qx,a3,Xn5 h,N4];by_cases e:y=z
   ·subst e;by_cases g:y∈ms<;>simp[g,n1]
   ·by_cases g:y∈ms<;>simp[g,e]
section
variable {P:ar}{w:aA}{A:av}{E:Zb}{s:ah}{a b c:ae}{ks ls:Za}
theorem Xe9{id}   (hf:∀x u,f x u=(do Xn4 c x.1 x.2; aj.Frozenset.unchanged id a ep;pure (.yield ⟨⟩)))   (hd:o.data = .set es ep t)(lG:t.fits es.size=true)(lQ:a≠c):
  ∀l zs ms s Q,s.heap.get? a=some o->fo (PySem.strKind P w) l->aG (l.map (·.2)) zs->SSet P w s.heap c ms->ms.Nodup->ms.length+l.length<aW ->
   (∀h',ak.SameBut c s.heap h'->SSet P w h' c (zs.foldl xor1 ms)->Q ⟨⟩ {s with heap:=h'})->af (ag P w) A (forIn l PUnit.unit f) Q E s
 | [],zs,ms,s,Q,_,_,hz,hS,_,_,h=>by
  rw[Sg];cases hz;exact Ss (h s.heap (ak.SameBut.refl c _) hS)
 | (hh,x)::l,zs,ms,s,Q,ho,eS,hz,hS,nd,hb,h=>by
  have GL:aG (x::l.map (·.2)) zs:=hz;clear hz;cases GL with
  | cons y t' hz=>
   obtain⟨⟨k,hk,he⟩,_⟩:=eS.head;have hk:(PySem.strKind P w).is k (.str y t')=true:=hk;obtain⟨t3,e3⟩:=aa.isStrOf_shape (x:=k) (v:=.str y t') hk;injection e3 with e3 _
   subst e3;have he:hh=(PySem.strKind P w).hash y:=he;subst he;rw[Oe] at hb;rw[R1,hf];refine Sr (Sr (Xn3 hS nd (by lia) λh1 mT S1=>?_));have iJ:h1.get? a=some o:=(mT.2 a lQ).trans ho;refine Sr ?_;unfold aj.Frozenset.unchanged;refine Sr (ci (s:={s with heap:=h1}) iJ hd lG ?_);simp only[bne_self_eq_false,Os,if_false];refine Ss (Ss ?_);have hl:=Xe6 ms y;exact Xe9 hf hd lG lQ l _ (xor1 ms y) {s with heap:=h1} Q iJ eS.tail hz S1 (Xe7 nd) (by lia) λh2 sU S2=>h h2 (mT.trans sU) S2
def Xfa (i:String) (l:ae) (r:aa):fT aa:=do
 let iQ <-aj.Frozenset.newFrom i (<-aj.Frozenset.baseOf l) r
 holding [iQ] (aj.Frozenset.symmetricDifferenceUpdate i (<-aj.Frozenset.addrOf iQ) (.ref l))
 return iQ
def Xn6(x y:aa):aj.«frozenset.__xor__» ⟨[x,y],[]⟩=(do
  let (self,dE) <-aj.Frozenset.slot1 "__xor__" ⟨[x,y],[]⟩
  let (l,r):=if false then (dE,self) else (self,dE)
  if !(<-aj.Frozenset.isAnySet l <&&> aj.Frozenset.isAnySet r) then rule s!"frozenset.{"__xor__"}.declined"; return <-ret .notImplemented
  ret (<-Xfa s!"frozenset.{"__xor__"}" (<-aj.Frozenset.addrOf l) r)):=rfl
def Xn7   (S:SSet P w s.heap a ks) (F:SSet P w s.heap c ms) (lQ:a≠c) (hk:ks.Nodup) (hm:ms.Nodup) (l1:ks.length<16) (l2:ms.length<16)
  (h:∀h' d zs,ak.SameBut c s.heap h'->SSet P w h' c zs->zs.Nodup->zs.length<=32->(∀y,y∈zs↔(y∈ms/\y∉ks)\/(y∉ms/\y∈ks))->Q () {s with heap:=h',drawn:=d}):
  af (ag P w) A (aj.Frozenset.symmetricDifferenceUpdate i c (.ref a)) Q E s:=by
 obtain⟨o,es,ep,t,l0,ho,hex,hd,eS,bH,hp,hb,hf,hl,bN⟩:=id S;unfold aj.Frozenset.symmetricDifferenceUpdate;rw[Sx (by simpa using lQ)];refine Sr (aX (T := "set") S.typeIs ?_);gn_on;refine Sr (Jw S.typeIs ?_);rw[Sy rfl];refine Sr (Ss ?_);refine Sr (Ss ?_);refine Sr (ci ho hd hf ?_);refine aw (Sr (wp_unseen S F lQ λwl h1 d W mT S1=>?_));obtain⟨wP,zs,jt,q1⟩:=W;rw[<-Ri];have iJ:h1.get? a=some o:=(mT.2 a lQ).trans ho;have rJ:wl.toList.length=ks.length:=by
  have:=jt.length;rw[Np] at this;rw[this,q1.length_eq]
 have wQ:zs.Nodup:=q1.nodup_iff.mpr hk;obtain⟨x1,x2,x3⟩:=Xe8 zs ms hm wQ;refine Sr (Xe9 (id:=i) (c:=c) (a:=a) (s:={s with heap:=h1,drawn:=d}) (λx u=>rfl) hd hf lQ wl.toList zs ms _ iJ wP jt S1 hm (by rw[rJ];unfold aW;lia) λh2 sU S2=>Ss ?_);refine h h2 d _ (mT.trans sU) S2 x1 ?_ λy=>?_
 ·have:=q1.length_eq
  lia
 ·rw[x3,q1.mem_iff]
def Xn8(S:SSet P w s.heap a ks)(F:SSet P w s.heap b ls)(hk:ks.Nodup)(hl:ls.Nodup)(l1:ks.length<16)(l2:ls.length<16)
  (h:∀h' d zs,(∀e o,s.heap.get? e=some o->h'.get? e=some o)->SSet P w h' s.heap.objs.size zs->zs.Nodup->zs.length<=32->(∀y,y∈zs↔(y∈ls/\y∉ks)\/(y∉ls/\y∈ks))->Q (.ref s.heap.objs.size) {s with heap:=h',drawn:=d}):
  af (ag P w) A (bv .BitXor (.ref a) (.ref b)) Q E s:=by
 have ha:=S.typeIs;have hb:=F.typeIs;have la:a<s.heap.objs.size:=by obtain⟨o,_,_,_,_,g,_⟩:=S;exact S7 g
 have lb:b<s.heap.objs.size:=by obtain⟨o,_,_,_,_,g,_⟩:=F;exact S7 g
 have eX:gO table "set.__xor__" = some aj.«frozenset.__xor__»:=gP (id' := "frozenset.__xor__") (by kernel_rfl) rfl (by decide +kernel) (by kernel_rfl);refine wpAny_binaryOp_same (T := "set") (id := "set.__xor__") ha hb PySem.F.fills_set_xor PySem.F.slot_set_xor (aR PySem.F.slot_set_xor ha eX ?_ (PySem.F.args_set_xor_2 _ _));rw[Xn6];unfold aj.Frozenset.slot1 se;simp only[List.isEmpty_nil,Rf,Os, ↓reduceIte,bind_assoc,Pw,Oe,bne_self_eq_false,pure_bind];refine Sr ?_;show af _ _ (aj.Frozenset.isAnySet (.ref a) >>= λb1=>_) _ _ s;refine Sr (Jw ha ?_);show af _ _ (aj.Frozenset.isAnySet (.ref b)) _ _ s;refine Jw hb ?_;simp only[Rf,Os, ↓reduceIte];refine Sr ?_;show af _ _ (pure a) _ _ s;refine Ss ?_;refine Sr ?_;unfold Xfa;refine Sr (Xnw ha ?_);refine Sr ?_;unfold aj.Frozenset.newFrom newSet cx;refine Sr (Sr (Sr (aS (Ss ?_))));k_in;simp only[newObj];refine Sr (kF (Ss ?_));have keep:∀e o,s.heap.get? e=some o->(s.heap.push {cls:=.type "set",dict:=none,data:=.set #[] 0 (.fresh 0 0 (!A3 w))}).get? e=some o:=λe o q=>S8 _ q;refine Sr ?_;show af _ _ (pure s.heap.objs.size) _ _ _;refine Ss ?_;refine Sr (aw ?_);unfold aj.Frozenset.updateFrom;have F1:SSet P w (s.heap.push {cls:=.type "set",dict:=none,data:=.set #[] 0 (.fresh 0 0 (!A3 w))}) b ls:=F.stay λo q=>keep b o q;refine Sr (Jw (s:={s with heap:=s.heap.push {cls:=.type "set",dict:=none,data:=.set #[] 0 (.fresh 0 0 (!A3 w))} }) F1.typeIs ?_);rw[Sy rfl];unfold aj.Frozenset.addrOf;refine Sr (Ss ?_);refine Xnz (s:={s with heap:=s.heap.push {cls:=.type "set",dict:=none,data:=.set #[] 0 (.fresh 0 0 (!A3 w))} }) (c:=s.heap.objs.size) (ep:=0) (ak.get?_push_size _ rfl) ⟨rfl,rfl,rfl⟩ rfl F1 l2 (Qw lb) λh1 mT S1=>?_;refine Ss ?_;have k1:∀e o,s.heap.get? e=some o->h1.get? e=some o:=λe o q=>(mT.2 e (Nz (S7 q))).trans (keep e o q);refine Sr (Ss ?_);refine Sr (aw (Xn7 (s:={s with heap:=h1}) (S.stay λo q=>k1 a o q) S1 (Nz la) hk hl l1 l2 λh2 d zs sU S2 n2 z2 m2=>?_));refine Ss (Ss ⟨_,rfl,by simp,?_⟩);exact h h2 d zs (λe o q=>(sU.2 e (Nz (S7 q))).trans (k1 e o q)) S2 n2 z2 m2
end
section
variable {X:Cx}
def Xn9:OpR X (bv .BitXor) (λx y H Q=>∃a b ks ls,x = .ref a/\y = .ref b/\H a=some (Cj X.prog X.w a ks)/\H b=some (Cj X.prog X.w b ls)/\ks.Nodup/\ls.Nodup/\ks.length<16/\ls.length<16 /\
  ∀c zs,H c=none->zs.Nodup->zs.length<=32->(∀y,y∈zs↔(y∈ls/\y∉ks)\/(y∉ls/\y∈ks))->Q (.ref c) (upd H c (Cj X.prog X.w c zs))):=by
 k_go;obtain⟨a,b,ks,ls,rfl,rfl,ha,hb,nk,nl,l1,l2,q⟩:=h;cases rx;cases ry;obtain⟨S,_⟩:=(show Av X.prog X.w H s.heap a (.ext λh=>SSet X.prog X.w h a ks) from I.hok a _ ha);obtain⟨F,_⟩:=(show Av X.prog X.w H s.heap b (.ext λh=>SSet X.prog X.w h b ls) from I.hok b _ hb);refine Xn8 S F nk nl l1 l2 λh' d zs k S' n' z' m'=>?_;refine⟨.ref s.heap.objs.size,_,I.laidM (s':={s with heap:=h',drawn:=d}) k rfl rfl (Nr _) ?_,rfl,q _ zs (I.hok.fresh (Nr _)) n' z' m'⟩;exact⟨S',by obtain⟨o,_,_,_,_,g,_⟩:=S';exact⟨o,g⟩,λh1 h2 S1 kk=>S1.stay kk⟩
end
end L2
set_option maxHeartbeats 4000000
namespace SH
open L2
def Eu (a b:Za):Za:=srt ((a.filter λx => !decide (x∈b))++(b.filter λx => !decide (x∈a)))
def Xoa  : x∈Eu a b↔(x∈a/\x∉b)\/(x∈b/\x∉a):=by
 unfold Eu;rw[Fd,N0,N6,N6];simp
def Xfb{a b:Za}(ha:a.Nodup)(hb:b.Nodup):((a.filter λx => !decide (x∈b))++(b.filter λx => !decide (x∈a))).Nodup:=by
 rw[Pp];refine⟨ha.filter _,hb.filter _,λx hx y hy e=>?_⟩;subst e;have h1:=(N6.mp hx).1;have h2:=(N6.mp hy).2;simp[h1] at h2
def Xob(ha:a.Nodup)(hb:b.Nodup):(Eu a b).Pairwise ltS:=by
 have GM:(Eu a b).Nodup:=(Cw _).nodup_iff.mpr (Xfb ha hb);exact(List.pairwise_and_iff.mpr ⟨D6 _,GM⟩).imp λ{x y} (h:leS x y/\x≠y)=>ltS_of h.1 h.2
def xor_srt(ha:a.Nodup)(hb:b.Nodup)(hz:zs.Nodup)(h:∀y,y∈zs↔(y∈b/\y∉a)\/(y∉b/\y∈a)):srt zs=Eu a b:=by
 refine Xcr (G7 hz (Xfb ha hb) λy=>?_);rw[h,N0,N6,N6];simp;by_cases h1:y∈a<;>by_cases h2:y∈b<;>simp[h1,h2]
def spParting:Sp:=λvs H Q _=>∃(p q:ae) (a b:Za),vs=[.ref p,.ref q]/\H p=some (.tup (a.map V.str))/\H q=some (.tup (b.map V.str))/\a.Nodup/\b.Nodup/\a.length<16/\b.length<16 /\
 ∀l H',H l=none->H' l=some (.lst ((Eu a b).map V.str))->Same H H'->Q (.ref l) H'
structure Two (H:Hp) (r p q:ae) (row a b:Za):Prop where
 hr:H r=some (.lst (row.map V.str))
 r2:Row2 row
 hd:(dit row).length<=14
 hp:H p=some (.tup (a.map V.str))
 hq:H q=some (.tup (b.map V.str))
 oa:∀y∈a,okN y
 ob:∀y∈b,okN y
 la:a.length<=24
 lb:b.length<=24
def Jy(h:Ag row a=true):a.Nodup:=Ea (Co h).2
end SH
namespace L2
def tSset (K:NO) (te:TE):TE:=fun Z H Q=>te Z H λv H1=>∃p ss,v = .ref p/\(SqL K H1 p (ss.map V.str)\/SqT K H1 p (ss.map V.str))/\ss.length<=60/\∀l H',H1 l=none->H' l=some (.lst ((dit ss).map V.str))->Same H1 H'->Q (.ref l) H'
end L2
namespace SH
open L2
def Xfc (a b:Za):Za:=(dit (a++b)).filter λx => !(decide (x∈a)&&decide (x∈b))
structure First (a b:Za) (x y:ao):Prop where
 hx:x∈a
 hy:y∈a
 lt:ltS x y
 df:lieR a x y≠lieR b x y
 fst:∀x' y',x'∈a->y'∈a->ltS x' y'->lieR a x' y'≠lieR b x' y'->ltS x x'\/(x'=x/\(y'=y\/ltS y y'))
inductive Due (a b:Za):Option (Za)->Prop
 | ditch (x:ao) (h:x∈Xfc a b) (f:∀y∈Xfc a b,y=x\/ltS x y):Due a b (some [ao.ofString "ditch",x])
 | lie (x y:ao) (h:∀z,z∈a↔z∈b) (f:First a b x y):Due a b (some [ao.ofString "lie",x,y])
 | none (h:∀z,z∈a↔z∈b) (f:∀x y,x∈a->y∈a->ltS x y->lieR a x y=lieR b x y):Due a b none
structure Two2 (H:Hp) (p q:ae) (a b:Za):Prop where
 hp:H p=some (.lst (a.map V.str))
 hq:H q=some (.lst (b.map V.str))
 ra:Row2 a
 rb:Row2 b
 la:a.length<=28
 lb:b.length<=28
 da:(ddup a).length<16
 db:(ddup b).length<16
def DueAt (H:Hp):Option (Za)->V->Prop
 | none,v=>v = .non
 | some ss,v=>∃l,v = .ref l/\H l=some (.tup (ss.map V.str))
end SH
namespace L2
open PySem
def Xoc (s:aP):List aP:=match s with
 | .ClassDef _ _ _ b _ _ _ _ _ _ _=>b
 | _=>[]
end L2
namespace SH
open L2
def Gc (t:ao):Bool:=(decide (1<=t.length)&&decide (t.length<=8))&&t.cps.toList.all λc=>decide (97<=c)&&decide (c<=122)
structure Asc (t:ao):Prop where
 MP:t.cps.all (· < 128)=true
 len:t.length<=20
structure IsT (row:Za) (x y z:ao):Prop where
 hx:x∈row
 hy:y∈row
 hz:z∈row
 MQ:ltS x y
 MR:ltS y z
 xy:lieR row x y = "cross"
 yz:lieR row y z = "cross"
 xz:lieR row x z = "cross"
structure First3 (row:Za) (x y z:ao):Prop where
 t:IsT row x y z
 fst:∀x' y' z',IsT row x' y' z'->ltS x x'\/(x'=x/\(ltS y y'\/(y'=y/\(z'=z\/ltS z z'))))
def noT (row:Za):Prop:=∀x y z,¬IsT row x y z
def ltP2 (p q:ao×ao):Prop:=ltS p.1 q.1\/(p.1=q.1/\ltS p.2 q.2)
def Xsg (H:Hp) (dx:ae) (x y z:ao):Prop:=∃t,H dx=some (.ext (xdP dx [(ao.ofString "three",.ref t)]))/\H t=some (.tup [.str x,.str y,.str z])
inductive PO
 | name | taken | full | place
 | barred (x y z:ao)
 | told
def Xsh (row:Za) (x:ao) (a b:Int):PO->Prop
 | .name=>Gc x=false
 | .taken=>Gc x=true/\x∈row
 | .full=>Gc x=true/\x∉row/\14<=(dit row).length
 | .place=>Gc x=true/\x∉row/\(dit row).length<14/\¬(0<=a/\a<=b/\b<=row.length)
 | .barred u v w=>Gc x=true/\x∉row/\(dit row).length<14/\(0<=a/\a<=b/\b<=row.length)/\First3 (Dq row x a.toNat b.toNat) u v w
 | .told=>Gc x=true/\x∉row/\(dit row).length<14/\(0<=a/\a<=b/\b<=row.length)/\noT (Dq row x a.toNat b.toNat)
structure PutC where
 name:ae
 taken:ae
 full:ae
 place:ae
 barred:ae
def PutC.of (C:PutC):PO->ae
 | .name=>C.name
 | .taken=>C.taken
 | .full=>C.full
 | .place=>C.place
 | .barred ..=>C.barred
 | .told=>0
def Fq:PO->Bool
 | .barred ..=>false
 | .told=>false
 | _=>true
def Jz:PO->Nat
 | .name=>0
 | .taken=>1
 | .full=>2
 | .place=>3
 | .barred ..=>4
 | .told=>5
structure PutK (K:NO) (C:PutC) (S:ae):Prop where
 fn:ExcF K C.name
 ft:ExcF K C.taken
 ff:ExcF K C.full
 fp:ExcF K C.place
 fb:ExcF K C.barred
 kb:ExK K C.barred "three"
 eb:NV K (.ref C.barred) (.ref C.barred)=some true
 nb:∀o,Fq o=true->NV K (.ref (C.of o)) (.ref C.barred)=some false
 es:∀o,Fq o=true->NV K (.ref (C.of o)) (.ref S)=some true
 v:∀o,Fq o=true->NS K (.ref (C.of o)) (.type "ValueError")=some true
 kn:∀o,Fq o=true->NS K (.ref (C.of o)) (.ref C.name)=some (decide (Jz o=0))
 kt:∀o,Fq o=true->NS K (.ref (C.of o)) (.ref C.taken)=some (decide (Jz o=1))
 kf:∀o,Fq o=true->NS K (.ref (C.of o)) (.ref C.full)=some (decide (Jz o=2))
 kp:∀o,Fq o=true->NS K (.ref (C.of o)) (.ref C.place)=some (decide (Jz o=3))
structure LR (st:Nat) (aY:Bool) (a:Za):Prop where
 lt:st<26
 sub:∀y∈a,y∈Bc st aY 14
 two:∀y∈a,a.count y=2
 len:a.length<=28
def pass2X:Passes (CX2 X.prog X.w) X E0:=λ_ _ _ _ _ _ _ h=>by
 obtain⟨_,_,_,_,_,_,_,_,_,_,h⟩:=h;exact h.elim
end SH
namespace L2
def M0 (K:NO) (C S:ae):Bool:=(OK K C).any λcd=>cd.hasDict&&cd.mro==aa.ref C::aa.ref S::Fp
structure InitAt (K:NO) (x q:ao) (st:aP) (f:ao) (C fI S:ae):Prop where
 a:NU K aq x=some (some (.ref C))
 m:∃fd,Fun K "__init__" q st fI fd
 e:excInI K C fI=true
 ga:NR K (.ref C) "__getattribute__" = some (some (.builtin "BaseException.__getattribute__"))
 gn:NR K (.ref C) "__getattr__" = some none
 cl:NR K (.ref C) "__class__" = some (some (.builtin "object.__class__"))
 sb:NT K (.ref C) (.type "BaseException")=some true
 so:NT K (.ref C) (.type "object")=some true
 ss:NT K (.ref C) (.ref C)=some true
 ic:O' K C=true
 ty:OF K (.ref C)=some (.type "type")
 sa:NR K (.ref C) "__setattr__" = some (some (.builtin "object.__setattr__"))
 no:NR K (.ref C) f=some none
 mr:M0 K C S=true
section
variable {K:NO}{x q f:ao}{st:aP}{C fI S:ae}
def InitAt.of   {kV cW pm cdv ct} (a:NU K aq x=some (some (.ref C))) (i:NR K (.ref C) "__init__" = some (some (.ref fI)))
  (l:K.lookup fI=some ⟨oc,od,.func (OA "__init__" q (Di st) (B8 st) (defScope st) .none kV cW pm an cdv ct),gr⟩) (c:OD K cdv q=true) (k:NW K (.ref fI)=true) (e:excInI K C fI=true)
  (ga:NR K (.ref C) "__getattribute__" = some (some (.builtin "BaseException.__getattribute__"))) (gn:NR K (.ref C) "__getattr__" = some none) (cl:NR K (.ref C) "__class__" = some (some (.builtin "object.__class__")))
  (sb:NT K (.ref C) (.type "BaseException")=some true) (so:NT K (.ref C) (.type "object")=some true) (ss:NT K (.ref C) (.ref C)=some true) (ic:O' K C=true) (ty:OF K (.ref C)=some (.type "type"))
  (sa:NR K (.ref C) "__setattr__" = some (some (.builtin "object.__setattr__"))) (no:NR K (.ref C) f=some none) (mr:M0 K C S=true):InitAt K x q st f C fI S:=
 ⟨a,⟨_,K8 l c k⟩,e,ga,gn,cl,sb,so,ss,ic,ty,sa,no,mr⟩
def InitAt.ef(E:InitAt K x q st f C fI S):ExcF K C:=⟨E.ga,E.gn,E.cl,E.sb,E.so,E.ic⟩
def InitAt.k(E:InitAt K x q st f C fI S):ExK K C f:=by
 refine⟨?_,E.sa,E.no⟩;have h:=E.mr;unfold M0 at h;cases hc:OK K C with
 | none=>rw[hc] at h;cases h
 | some cd=>
  rw[hc] at h;have h':(cd.hasDict&&cd.mro==aa.ref C::aa.ref S::Fp)=true:=h;rw[N3,beq_iff_eq] at h';exact⟨cd,[C,S],rfl,h'.2,h'.1⟩
end
def Xfd(K)(C):NS K (.ref C) (.ref C)=some true:=by
 unfold NS;rw[Sy (beq_self_eq_true _)]
end L2
namespace SH
open L2
end SH
namespace L2
section
variable {X:Cx}{pos np js:cF}{b0:aP}{suite:List aP}{x:ao}{Cc:ae}{th:TS}{rest:THd}{hs:List cS}
def tHdN (K:NO) (Cc:ae) (th:TS) (rest:THd):THd:=λC dd D Z H=>∃b,NV K (.ref C) (.ref Cc)=some b/\if b=true then th D Z H else rest C dd D Z H
end
section
variable {X:Cx}
end
end L2
namespace SH
open L2
def J3  : n∈Aj S x↔(n∈S/\n≠x)\/(x∉S/\n=x):=by
 unfold Aj;rw[Fd,N0,N6,decide_eq_true_eq];by_cases h:x∈S
 ·rw[Sy h];simp[h]
 ·rw[Sx h];simp[h]
def M3(S)(x):Eu S [x]=Aj S x:=by
 unfold Eu Aj;have e1:(S.filter λy => !decide (y∈[x]))=S.filter λy=>decide (y≠x):=by
  congr 1;funext y;by_cases z:y=x<;>simp[z]
 have e2:([x].filter λy => !decide (y∈S))=if x∈S then [] else [x]:=by
  by_cases z:x∈S<;>simp[z]
 rw[e1,e2]
def M4(x)(h:S.Nodup):(Aj S x).Pairwise ltS:=by
 rw[<-M3];exact Xob h (by simp)
def spAcross:Sp:=λvs H Q _=>∃(p:ae) (ss:Za) (x:ao),vs=[.ref p,.str x]/\H p=some (.tup (ss.map V.str))/\ss.Nodup/\ss.length<16 /\
 ∀q H',H q=none->H' q=some (.tup ((Aj ss x).map V.str))->Same H H'->Q (.ref q) H'
def Xfe  (hS:Ag row S=true) (hx:x∈row):∀y∈Aj S x,y∈row:=λy hy=>by
 rcases J3.mp hy with h | h
 ·exact(Co hS).1 y h.1
 ·rw[h.2];exact hx
def Xod  (h2:∀y∈row,row.count y=2) (hS:Ag row S=true) (hx:x∈row):Ck (bars row) (Aj S x)=Ag row (Aj S x):=by
 rw[<-Jp h2];unfold Ep;have e:Aj S x=(dit row).filter λy=>decide (y∈Aj S x):=by
  refine Mx (M4 x (Jy hS)) ((D7 row).filter _) λy=>?_;rw[N6,Ai,decide_eq_true_eq];exact⟨λh=>⟨Xfe hS hx y h,h⟩,λh=>h.2⟩
 rw[Sz e,Pi]
def Xoe (row:Za):Za->Nat->Za->Nat ⊕ Za
 | S,_,[]=>.inr S
 | S,i,x::r=>if Ag row (Aj S x)=true then Xoe row (Aj S x) (i+1) r else .inl i
def M5 (H:Hp) (dx:ae) (n:Nat):Prop:=H dx=some (.ext (xdP dx [(ao.ofString "at",.int n)]))
def Xff (C:ae):Sp:=λvs H Q E=>∃(r p:ae) (row S:Za) (x:ao) (n:Nat),vs=[.ref r,.ref p,.str x,.int n]/\H r=some (.lst (row.map V.str))/\Row2 row/\(dit row).length<=14/\H p=some (.tup (S.map V.str))/\Ag row S=true/\x∈row /\
 (Ag row (Aj S x)=true->∀q H',H' q=some (.tup ((Aj S x).map V.str))->Same H H'->Q (.ref q) H')/\(Ag row (Aj S x)=false->∀dx H',M5 H' dx n->Same H H'->E (.ref C) (some dx) H')
structure LedC where
 plot:ae
 ditch:ae
 beside:ae
abbrev NSt:Za:=["row", "plot", "name", "at", "over"]
end SH
namespace L2
section
variable {X:Cx}
end
end L2
namespace SH
open L2
abbrev dN:ao×Za:=(ao.empty,[])
def Nbs (H:Hp) (qs:List ae) (xs:List (ao×Za)):Prop:=qs.length=xs.length/\∀i,i<qs.length->∃p,H (qs.getD i 0)=some (.tup [.str (xs.getD i dN).1,.ref p])/\H p=some (.tup ((xs.getD i dN).2.map V.str))
def Nbs.keep   (h:Nbs H qs xs) (k:∀b w,H b=some (.tup w)->H' b=some (.tup w)):Nbs H' qs xs:=⟨h.1,λi hi=>let ⟨p,a,b⟩:=h.2 i hi; ⟨p,k _ _ a,k _ _ b⟩⟩
def Nbs.same  {xs} (h:Nbs H qs xs) (s:Same H H'):Nbs H' qs xs:=h.keep λ_ _ e=>s _ _ e
def Nbs.nil(H):Nbs H [] []:=⟨rfl,λi hi=>absurd hi (Py _)⟩
def Nbs.snoc     (h:Nbs H qs xs) (h1:H q=some (.tup [.str x.1,.ref p])) (h2:H p=some (.tup (x.2.map V.str))):Nbs H (qs++[q]) (xs++[x]):=by
 refine⟨by rw[Nx,Nx,h.1];rfl,λi hi=>?_⟩;rw[Nx] at hi;have hi:i<qs.length+1:=hi;by_cases z:i<qs.length
 ·have z2:i<xs.length:=by rw[<-h.1];exact z
  rw[List.getD,List.getD,Pj z,Pj z2];exact h.2 i z
 ·have e:i=qs.length:=by lia
  subst e;refine⟨p,?_,?_⟩
  ·rw[List.getD,Ph (Nr _),Nat.sub_self,List.getD,h.1,Ph (Nr _),Nat.sub_self];exact h1
  ·rw[List.getD,h.1,Ph (Nr _),Nat.sub_self];exact h2
def dNb (q:ao×Za):am:=.tuple [.str q.1,tupD q.2]
theorem Xfg:∀{qs:List ae} {xs:List (ao×Za)},Nbs H qs xs->DAll H (xs.map dNb) (qs.map V.ref)
 | [],[],_=>Da
 | [],x::xs,h=>by have:=h.1;simp at this
 | q::qs,[],h=>by have:=h.1;simp at this
 | q::qs,x::xs,h=>by
  obtain⟨p,h1,h2⟩:=h.2 0 (by simp);have h1:H q=some (.tup [.str x.1,.ref p]):=h1;have h2:H p=some (.tup (x.2.map V.str)):=h2;refine Dn ?_ (Xfg ⟨by simpa using h.1,λi hi=>h.2 (i+1) (by simpa using hi)⟩);unfold dNb DAt;exact⟨q,_,rfl,h1,Dn (by unfold DAt;rfl) (Dn (Cl h2) Da)⟩
def J4    (h:H l=some (.lst (qs.map V.ref))) (n:Nbs H qs xs):DAt H (.list (xs.map dNb)) (.ref l):=L4 h (Xfg n)
def Xof{xs:List (ao×Za)}(h:∀q∈xs,okN q.1/\∀y∈q.2,okN y):A9 (.list (xs.map dNb))=true:=plainAll_map dNb xs λq hq=>by
 show (A9 (.str q.1)&&(A9 (tupD q.2)&&true))=true;have a:(A9 (.str q.1)&&true)=true:=Xds (ss:=[q.1]) λy hy=>by rw[Nv.mp hy];exact(h q hq).1
 rw[Bool.and_true] at a;have b:A9 (tupD q.2)=true:=Db (h q hq).2;rw[a,b];rfl
def Nbs.at{H}{qs}{xs}(h:Nbs H qs xs){i}(hi:i<qs.length):∃q∈xs,∃p,H (qs.getD i 0)=some (.tup [.str q.1,.ref p])/\H p=some (.tup (q.2.map V.str)):=by
 obtain⟨p,a,b⟩:=h.2 i hi;have eW:i<xs.length:=by rw[<-h.1];exact hi
 exact⟨xs.getD i dN,by rw[show xs.getD i dN=xs[i] by simp[List.getD,eW]];exact Ov eW,p,a,b⟩
def Wys (row:Za) (xs:List (ao×Za)):Prop:=∀z∈xs,z.1∈row/\Ag row z.2=true
def Xsi (H:Hp) (t:ae):Nat ⊕ Za->Prop
 | .inl i=>H t=some (.tup [.str "beside",.int i])
 | .inr S=>∃q,H t=some (.tup [.str "told",.ref q])/\H q=some (.tup (S.map V.str))
abbrev NWy:Za:=["_law_bars_here", "_law_names_here", "_law_plot", "_law_told", "_law_name", "_law_other"]
def Xog{t u}{D}{Z}{H}(P:L2.St->Hp->Prop)(h2:∀Z' H',P Z' H'->u D Z' H')(h1:∀nx,(∀Z' H',P Z' H'->nx Z' H')->t {D with nx:=nx} Z H):Gq t u D Z H:=h1 (u D) h2
inductive O16 where
 | plot
 | ditch
 | beside (i:Nat)
 | told (S:Za)
def o16D:O16->am
 | .plot=>.tuple [.str "plot",.none]
 | .ditch=>.tuple [.str "ditch",.none]
 | .beside i=>.tuple [.str "beside",.int i]
 | .told S=>.tuple [.str "told",tupD S]
open Classical in
def Ev     (h:H t=some (.tup [.str w,v])) (hv:DAt H d v):DAt H (.tuple [.str w,d]) (.ref t):=Jf h (Dn (by unfold DAt;rfl) (Dn hv Da))
structure LedK (K:NO) (C:LedC) (S:ae):Prop where
 fb:ExcF K C.beside
 kb:ExK K C.beside "at"
 eb:NV K (.ref C.beside) (.ref C.beside)=some true
 db:NV K (.ref C.ditch) (.ref C.beside)=some false
 pb:NV K (.ref C.plot) (.ref C.beside)=some false
 dd:NV K (.ref C.ditch) (.ref C.ditch)=some true
 pd:NV K (.ref C.plot) (.ref C.ditch)=some false
 pp:NV K (.ref C.plot) (.ref C.plot)=some true
 ks:NS K (.ref C.beside) (.ref S)=some true
 kv:NS K (.ref C.beside) (.type "ValueError")=some true
 kn:PySem.W.kitAny K (.ref C.beside) ([C.ditch,C.plot].map aa.ref)=some false
end SH
namespace L2
def Ew (c:ae) (q:ao):ak->Prop:=λh=>h.CodeRec (.ref c) q
def Ex (f:ae) (fd:bJ):ak->Prop:=λh=>∃o,h.get? f=some o/\o.data = .func fd
def Xoh  : ∀h1 h2:ak,Ew c q h1->(∀o,h1.get? c=some o->h2.get? c=some o)->Ew c q h2:=by
 rintro h1 h2 ⟨c1,o,vs,t,e,ho,r⟩ k;cases e;exact⟨c,o,vs,t,rfl,k _ ho,r⟩
def Xfh  : ∀h1 h2:ak,Ex f fd h1->(∀o,h1.get? f=some o->h2.get? f=some o)->Ex f fd h2:=by
 rintro h1 h2 ⟨o,ho,r⟩ k;exact⟨o,k _ ho,r⟩
def Xoi    {K}                 {Q}  (hf:H f=some (.ext (Ex f (OG name qual params body scope [] pm (.ref c) j8)))) (hc:H c=some (.ext (Ew c qual))) (S:FnScope N ps scope) (hr:Room (k+1) A) (e0:Env0 P w K mg base A outer s H)
  (hl:vs.length=ps.length) (r:Vals vs us) (hb:fe (OG name qual params body scope [] pm (.ref c) j8) ⟨us,[]⟩=pure (ps.zip us))
  (ht:PE (Bj CX P w K mg base N qual scope f (.ref c) A outer s H E) body t) (hq:t (start N vs) H Q):
  bc (ag P w) A (.call (.ref f) ⟨us,[]⟩) (CR CX outer P w H s Q E) s:=by
 obtain⟨⟨of,GN,wD⟩,_⟩:=e0.hok f _ hf;obtain⟨wR,_⟩:=e0.hok c _ hc;have vB:s.heap.NoLimit:=e0.mod.nolimit.keeps λb o e=>(e0.bs b o e).1;have fP:∀y∈ps.zip us,scope.names.lookup y.1=some .local\/(scope.names.lookup y.1=some .cell/\((bP (s.heap.objs.size+1) scope.names []).lookup y.1).isSome=true):=λ⟨n,v⟩ hy=>by
  rcases S.par n (R0 hy).1 with q | q
  ·exact .inl q
  ·exact .inr ⟨q,NY _ _ _ (.inl q)⟩
 refine PySem.W.kla_callFunE hr.depth GN wD S.co S.gen rfl wR ?_;rw[hb];refine Ss ?_;refine gB S.kind fP λenv he s1 x=>?_;subst he;refine⟨vB.keeps x.toInCall.keep,PySem.W.kla_codeExpr ?_⟩;have I:Inv (Bj CX P w K mg base N qual scope f (.ref c) A outer s H E) [] (start N vs) H s1:=Xa3 S hr.hd e0 hl r x;refine aF (ht [] s1 (start N vs) H _ I hq) (λu s' hs=>?_) λe s' hs=>hs;obtain⟨v,H',J,rv,q⟩:=hs;exact⟨v,H',J.os,J.bare,J.base,J.hok,rv,q⟩
def BmOk (mg:ao->Option aa) (base:ak):Prop:=∃bm ob,mg "__builtins__" = some (.ref bm)/\bm≠dg/\base.get? bm=some ob/\ob.cls = .type "module" /\ ob.dict=some dg/\ob.data = .plain
def Au (T:ae) (pos:cF) (q:ao) (H:Hp):Prop:=H T=some (.tbl #[]) \/ ∃c,H T=some (.tbl #[aO pos.line,aO pos.col,.ref c])/\H c=some (.ext (Ew c q))
def tLam (T:ae) (q:ao) (params:oO) (body:aL) (scope:cw) (pos:cF):TE:=λ_ H Q=>Au T pos q H /\
 ∀(f c:ae) (pm j8:aa) (H':Hp),H f=none->H' f=some (.ext (Ex f (OG "<lambda>" q params body scope [] pm (.ref c) j8)))->H' c=some (.ext (Ew c q))->Au T pos q H'->(∀b o,H b=some o->b≠T->H' b=some o)->Q (.ref f) H'
section
variable {X:Cx}{T c0:ae}{params:oO}{body:aL}{scope:cw}{pos:cF}{q:ao}
def Xoj    {h':ak} {tk} {fd} {o} (I:Inv X pins Z H s) (k:∀b o,s.heap.get? b=some o->h'.get? b=some o) (hsz:s.heap.objs.size<=h'.objs.size) (ho:o.data = .func fd) (dI:o.isFreed=false):
  Inv X pins Z (upd H h'.objs.size (.ext (Ex h'.objs.size fd))) {s with heap:=h'.push o,toks:=tk}:=by
 refine I.laid (t':=tk) (h':=h'.push o) (λb ob e=>S8 _ (k b ob e)) hsz ?_;exact⟨⟨o,ak.get?_push_size _ dI,ho⟩,⟨o,ak.get?_push_size _ dI⟩,Xfh⟩
def Xok      {tk}  {o}  (I:Inv X pins Z H s) (hT:H T=some (.tbl #[])) (hx:ak.ExtBut T s.heap h') (qN:s.heap.objs.size<=c) (b7:c<h'.objs.size)
  (pF:h'.CodeRec (.ref c) q) (wS:h'.get? T=some (OB (#[]++ps))) (ho:o.data = .func fd) (dI:o.isFreed=false):
  Inv X pins Z (upd (upd (upd H T (.tbl ps)) c (.ext (Ew c q))) h'.objs.size (.ext (Ex h'.objs.size fd))) {s with heap:=h'.push o,toks:=tk}:=by
 have sV:h'.get? T=some {cls:=.none,data:=.fields ps}:=by simpa using wS
 have nf:∀b u,s.heap.get? b=some u->b≠c/\b≠h'.objs.size:=λb u e=>by
  have z:=Oc (S7 e) qN;exact⟨Nz z,Nz (Qe z b7)⟩
 have nH:∀b u,H b=some u->b≠c/\b≠h'.objs.size:=λb u e=>by
  have z:=Oc (I.hok.lt e) qN;exact⟨Nz z,Nz (Qe z b7)⟩
 have nT:∀b,H b=none->b≠T:=λb n z=>by rw[z,hT] at n;cases n
 have kp:∀b u,b≠T->s.heap.get? b=some u->(h'.push o).get? b=some u:=λb u n e=>S8 _ (hx b u n e);have up:∀b u,H b=some u->b≠T->(upd (upd (upd H T (.tbl ps)) c (.ext (Ew c q))) h'.objs.size (.ext (Ex h'.objs.size fd))) b=some u:=λb u e n=>by
  rw[Ab (nH b u e).2,Ab (nH b u e).1,Ab n];exact e
 refine I.step (g':=s.gens) (d':=s.drawn) (t':=tk) (h':=h'.push o) (ch:=[]) (λ_ z=>nomatch z) (λb u _ _ _ e n=>kp b u (nT b n) e) (λb u _ _ _ e n=>⟨u.slots,kp b u (nT b n) e⟩) (λb u _ e n=>?_) (λb u _ e=>?_)
  (λb xs e=>up b _ e λz=>by rw[z,hT] at e;cases e) (λb u v e=>up b _ e λz=>by rw[z,hT] at e;cases e) (λb pz e=>?_) (λm hn=>(hn.extBut hx (nT _ I.free)).push _) ?_ I.bare
 ·rw[Ab (nf b u e).2,Ab (nf b u e).1,Ab (nT b n)];exact n
 ·by_cases z:b=T
  ·exact⟨_,z ▸ S8 _ sV⟩
  ·exact⟨u,kp b u z e⟩
 ·by_cases z:b=T
  ·subst z;rw[hT] at e;cases e;refine⟨ps,?_⟩;rw[Ab (nH b _ hT).2,Ab (nH b _ hT).1,Aa];simp
  ·exact⟨#[],by rw[up b _ e z];simp⟩
 ·intro b u e;by_cases z1:b=h'.objs.size
  ·subst z1;rw[Aa] at e;cases e;exact⟨⟨o,ak.get?_push_size _ dI,ho⟩,⟨o,ak.get?_push_size _ dI⟩,Xfh⟩
  ·rw[Ab z1] at e;by_cases z2:b=c
   ·subst z2;rw[Aa] at e;cases e;obtain⟨c1,oc,vs,t,e1,me,r⟩:=pF;cases e1;exact⟨⟨b,oc,vs,t,rfl,S8 _ me,r⟩,⟨oc,S8 _ me⟩,Xoh⟩
   ·rw[Ab z2] at e;by_cases z3:b=T
    ·subst z3;rw[Aa] at e;cases e;exact S8 _ sV
    ·rw[Ab z3] at e;refine(I.hok b u e).stay (λd v hd g=>kp d v ?_ g) (λd g=>up d _ g λz=>by rw[z,hT] at g;cases g) λd xs g=>up d _ g λz=>by rw[z,hT] at g;cases g
     rcases hd with rfl | hd
     ·exact z3
     ·intro z;rw[z,hT] at hd;cases hd
def Xol(pG:BmOk X.mg X.base)(wT:defaultsOf params X.env=([],[]))(ip:m5 scope X.env=pure [])(oj:X.env.code = .ref c0)(hhd:Of X.K c0 T=true)(hq:X.env.qual ++ "<lambda>" = q):
  PE X (.Lambda params body scope pos) (tLam T q params body scope pos):=by
 k_ne;obtain⟨tab,k⟩:=h;obtain⟨bm,ob,b1,b2,b3,b4,b5,b6⟩:=pG;have hg:s.heap.Ns aq X.mg:=I.mod.glob.keeps I.bk;have C:PySem.W.CodeHd s.heap c0 T:=OM I.kIn hhd;have nb:bm≠T:=λz=>by
  have n:=(I.bs bm ob b3).2;rw[z] at n;rcases tab with e | ⟨c,e,_⟩<;>(rw[e] at n;cases n)
 have GO:bm≠aq:=λz=>by
  obtain⟨o,es,ep,e,hd,_⟩:=I.mod.glob;rw[z,e] at b3;cases b3;rw[hd] at b6;cases b6
 have hB:s.heap.BuiltinsAt X.mg T:=⟨bm,ob,b1,b2,GO,nb,I.bk _ _ b3,b4,b5,b6⟩;refine PySem.W.kla_eval wT ?_;rw[hq];rcases tab with e | ⟨c,e,ec⟩
 ·have hP:s.heap.get? T=some (OB #[]):=I.hok T _ e;have GP:aq≠T:=λz=>by
   obtain⟨o,es,ep,e2,hd,_⟩:=hg;rw[z,hP] at e2;cases e2;cases hd
  refine PySem.W.kla_makeFunction (mg:=X.mg) (clos:=[]) ip I.ok.glob hg oj C hP trivial rfl GP hB λc' j8 h' tk hx qN b7 pF wS=>?_;have J:=Xok (tk:=tk) (o:=PySem.W.kla_obj "<lambda>" q params body scope [] ((X.mg "__name__").getD .none) c' j8) I e hx qN b7 pF wS rfl rfl;have uL:∀b o,H b=some o->b<c':=λb o eb=>Oc (I.hok.lt eb) qN;have GQ:c'≠T:=(Nz (uL _ _ e)).symm;have zS:c'≠h'.objs.size:=Nz b7;have GR:T≠h'.objs.size:=Nz (Qe (uL _ _ e) b7);refine⟨.ref h'.objs.size,_,J,rfl,k _ c' _ j8 _ (I.hok.fresh (Rb (Sb qN b7))) Aa (by rw[Ab zS,Aa]) (.inr ⟨c',by rw[Ab GR,Ab GQ.symm,Aa],by rw[Ab zS,Aa]⟩) λb o eb nb=>?_⟩;rw[Ab (Nz (Qe (uL _ _ eb) b7)),Ab (Nz (uL _ _ eb)),Ab nb];exact eb
 ·have hP:s.heap.get? T=some (OB #[aO pos.line,aO pos.col,.ref c]):=I.hok T _ e;refine PySem.W.kla_makeFunctionHit (mg:=X.mg) (clos:=[]) (cv:=.ref c) ip I.ok.glob hg oj C hP trivial (by simp[codeAmong,aO]) hB λj8 h' tk hk hsz=>?_;have J:=Xoj (tk:=tk) (fd:=OG "<lambda>" q params body scope [] ((X.mg "__name__").getD .none) (.ref c) j8) (o:={cls:=.type "function",data:=.func (OG "<lambda>" q params body scope [] ((X.mg "__name__").getD .none) (.ref c) j8)}) I hk hsz rfl rfl;have nf:∀b o,H b=some o->b≠h'.objs.size:=λb o eb=>Nz (Oc (I.hok.lt eb) hsz);refine⟨.ref h'.objs.size,_,J,rfl,k _ c _ j8 _ (I.hok.fresh hsz) Aa (by rw[Ab (nf _ _ ec)];exact ec) (.inr ⟨c,by rw[Ab (nf _ _ e)];exact e,by rw[Ab (nf _ _ ec)];exact ec⟩) λb o eb _=>?_⟩;rw[Ab (nf b o eb)];exact eb
end
open PySem.W (KasT kas_asc kas_desc kas_rev kas_tail3 kas_descPart kas_count kas_place kas_bin kas_sort kas_ask kas_item kat_run kat_snds kat_kind kat_lt KatLex kat_cons kat_go kat_yes kat_no kat_one kat_nil KatTups)
def Ba {α : Type} (lt:Nat->Nat->Bool):KasT α -> α
 | .ret a=>a
 | .ask i j k=>Ba lt (k (lt i j))
theorem Ge{α β : Type}{lt}{f : α->KasT β}:∀t:KasT α,Ba lt (t.bind f)=Ba lt (f (Ba lt t))
 | .ret _=>rfl
 | .ask i j k=>Ge (k (lt i j))
theorem Xfi{α : Type}{n}{lt}{P}{G}  (hc:∀i j C,i<n->j<n->C (lt i j) s->wf i j C s):
  ∀{t:KasT α},KAll n P t->G (Ba lt t) s->t.kasWp wf G s
 | .ret a,_,h=>h
 | .ask i j k,h,g=>hc i j _ h.1 h.2.1 (Xfi hc (h.2.2 _) g)
theorem KAll.run{α : Type}  {P}:∀{t:KasT α},KAll n P t->P (Ba lt t)
 | .ret a,h=>h
 | .ask i j k,h=>KAll.run (t:=k (lt i j)) (h.2.2 (lt i j))
structure Lin (n:Nat) (lt:Nat->Nat->Bool):Prop where
 irr:∀i,lt i i=false
 tr:∀i j k,lt i j=true->lt j k=true->lt i k=true
 tot:∀i j,i<n->j<n->i≠j->lt i j=true\/lt j i=true
section
variable {n:Nat}{lt:Nat->Nat->Bool}{p:Array Nat}
def Cd (lt:Nat->Nat->Bool) (p:Array Nat) (m:Nat):Prop:=∀i j,i<j->j<m->lt (p.getD i 0) (p.getD j 0)=true
def Xfj (lt:Nat->Nat->Bool) (p:Array Nat) (m:Nat):Prop:=∀i j,i<j->j<m->lt (p.getD j 0) (p.getD i 0)=true
def Gd.size(h:Gd n p):p.size=n:=by
 have:=h.size_eq;simpa using this
def Gd.inj  (h:Gd n p) (hi:i<n) (hj:j<n) (ne:i≠j):p.getD i 0≠p.getD j 0:=λe=>by
 have sz:=h.size;have nd:p.toList.Nodup:=by
  have q:p.toList.Perm (List.range n):=by simpa using h.toList
  exact q.nodup_iff.mpr List.nodup_range
 have eW:i<p.toList.length:=by rw[N1,sz];exact hi
 have gu:j<p.toList.length:=by rw[N1,sz];exact hj
 have e1:p.getD i 0=p.toList[i]:=by simp[Array.getD,sz,hi]
 have e2:p.getD j 0=p.toList[j]:=by simp[Array.getD,sz,hj]
 rw[e1,e2] at e;exact ne ((Ru nd).mp e)
def Lin.flip(L:Lin n lt)(h:Gd n p)(hi:i<n)(hj:j<n)(ne:i≠j)(e:lt (p.getD i 0) (p.getD j 0)=false):lt (p.getD j 0) (p.getD i 0)=true:=by
 have hn:0<n:=by lia
 rcases L.tot _ _ (h.lt hn i) (h.lt hn j) (h.inj hi hj ne) with z | z
 ·rw[z] at e;cases e
 ·exact z
theorem M6(L:Lin n lt)(h:Gd n p):∀f m,1<=m->m+f<=n->Cd lt p m->m<=Ba lt (kas_asc p f m)/\Ba lt (kas_asc p f m)<=m+f/\Cd lt p (Ba lt (kas_asc p f m)) /\
  (Ba lt (kas_asc p f m)<m+f->lt (p.getD (Ba lt (kas_asc p f m)) 0) (p.getD (Ba lt (kas_asc p f m) - 1) 0)=true)
 | 0,m,_,_,so=>⟨Nr _,Nr _,so,λz=>absurd z (by show ¬m<m+0;lia)⟩
 | f+1,m,h1,hn,so=>by
  have e:Ba lt (kas_asc p (f+1) m)=Ba lt (if lt (p.getD m 0) (p.getD (m - 1) 0)=true then KasT.ret m else kas_asc p f (m+1)):=rfl;cases c:lt (p.getD m 0) (p.getD (m - 1) 0) with
  | true=>
   rw[e,c,Sy rfl];exact⟨Nr _,by show m<=_;lia,so,λ_=>c⟩
  | false=>
   rw[e,c,Sx (by decide)];have c':=L.flip h (by lia) (by lia) (by lia) c;obtain⟨a1,a2,a3,a4⟩:=M6 L h f (m+1) (by lia) (by lia) (λi j jU hj=>by
    by_cases wU:j<m
    ·exact so i j jU wU
    ·have:j=m:=by lia
     subst this;by_cases hi:i=j - 1
     ·subst hi;exact c'
     ·exact L.tr _ _ _ (so i (j - 1) (by lia) (by lia)) c')
   exact⟨by lia,by lia,a3,λz=>a4 (by lia)⟩
theorem Xfk(L:Lin n lt)(h:Gd n p):∀f m,1<=m->m+f<=n->Xfj lt p m->∃r,Ba lt (kas_desc f p m 0)=(p,r,0)/\m<=r/\r<=m+f/\Xfj lt p r
 | 0,m,_,_,so=>⟨m,rfl,Nr _,Nr _,so⟩
 | f+1,m,h1,hn,so=>by
  have e:Ba lt (kas_desc (f+1) p m 0)=Ba lt (if lt (p.getD m 0) (p.getD (m - 1) 0)=true then (if 0 > 0 then kas_desc f (kas_rev p (m - (0+1)) m) (m+1) 0 else kas_desc f p (m+1) 0)
   else .ask (p.getD (m - 1) 0) (p.getD m 0) λd=>if d=true then .ret (p,m,0) else kas_desc f p (m+1) (0+1)):=rfl
  cases c:lt (p.getD m 0) (p.getD (m - 1) 0) with
  | true=>
   rw[e,c,Sy rfl,Sx (by lia)];obtain⟨r,a1,a2,a3,a4⟩:=Xfk L h f (m+1) (by lia) (by lia) (λi j jU hj=>by
    by_cases wU:j<m
    ·exact so i j jU wU
    ·have:j=m:=by lia
     subst this;by_cases hi:i=j - 1
     ·subst hi;exact c
     ·exact L.tr _ _ _ c (so i (j - 1) (by lia) (by lia)))
   exact⟨r,a1,by lia,by lia,a4⟩
  | false=>
   rw[e,c,Sx (by decide)];have c':=L.flip h (by lia) (by lia) (by lia) c;refine⟨m,?_,Nr _,by lia,so⟩;show Ba lt (if lt (p.getD (m - 1) 0) (p.getD m 0)=true then _ else _)=_;rw[Sy c'];rfl
def Hn(p:Array Nat)(i):p.getD i 0=(p[i]?).getD 0:=by simp
def Xfl  (hm:m<=p.size) (hi:i<m):(kas_rev p 0 m).getD i 0=p.getD (m - 1 - i) 0:=by
 rw[Hn,Hn];show ((mirror p 0 m ((m - 0) / 2))[i]?).getD 0=_;rw[lR hm,Sy (by lia)];congr 2
 lia
def Xom(L:Lin n lt)(h:Gd n p)(hn:1<=n):∃m p',Ba lt (kas_count n p)=(m,p')/\1<=m/\m<=n/\Gd n p'/\Cd lt p' m:=by
 have sz:=h.size;unfold kas_count;rw[Ge];obtain⟨a1,a2,a3,a4⟩:=M6 (lt:=lt) L h (n - 1) 1 (Nr _) (by lia) (λi j jU hj=>by lia);generalize Ba lt (kas_asc p (n - 1) 1)=r at *;by_cases e1:(r==n)=true
 ·rw[Sy e1];exact⟨r,p,rfl,a1,by lia,h,a3⟩
 ·rw[Sx e1];have rn:r≠n:=λz=>e1 (by rw[z];exact beq_self_eq_true _);by_cases e2:r > 1
  ·rw[Sy e2];refine⟨r,p,?_,a1,by lia,h,a3⟩;show Ba lt (if lt (p.getD 0 0) (p.getD (r - 1) 0)=true then _ else _)=_;rw[Sy (a3 0 (r - 1) (by lia) (by lia))];rfl
  ·rw[Sx e2];obtain rfl:r=1:=by lia
   have a4:=a4 (by lia);unfold kas_descPart;rw[Ge];obtain⟨r2,b1,b2,b3,b4⟩:=Xfk (lt:=lt) L h (n - (1+1)) (1+1) (by lia) (by lia) (λi j jU hj=>by
    have:j=1:=by lia
    subst this;have:i=0:=by lia
    subst this;exact a4)
   rw[b1];k_in;rw[Sx (by lia)];unfold kas_tail3;rw[Ge];have zT:=h.rev 0 r2;obtain⟨c1,c2,c3,_⟩:=M6 (lt:=lt) L zT (n - r2) r2 (by lia) (by lia) (λi j jU hj=>by
    rw[Xfl (by lia) (by lia),Xfl (by lia) (by lia)];exact b4 _ _ (by lia) (by lia))
   exact⟨_,_,rfl,by lia,by lia,zT,c3⟩
theorem M7(L:Lin n lt)(h:Gd n p){k}(hk:k<n)(so:Cd lt p k):∀f l r,r - l<=f->l<=r->r<=k->(∀i,i<l->lt (p.getD i 0) (p.getD k 0)=true)->(∀i,r<=i->i<k->lt (p.getD k 0) (p.getD i 0)=true) ->
  Ba lt (kas_place p k f l r)<=k/\(∀i,i<Ba lt (kas_place p k f l r)->lt (p.getD i 0) (p.getD k 0)=true)/\(∀i,Ba lt (kas_place p k f l r)<=i->i<k->lt (p.getD k 0) (p.getD i 0)=true)
 | 0,l,r,hf,GS,hr,hl,hg=>by
  have:l=r:=by lia
  subst this;exact⟨hr,hl,hg⟩
 | f+1,l,r,hf,GS,hr,hl,hg=>by
  unfold kas_place;by_cases e:l ≥ r
  ·rw[Sy e];have:l=r:=by lia
   subst this;exact⟨hr,hl,hg⟩
  ·rw[Sx e];have e2:Ba lt (KasT.ask (p.getD k 0) (p.getD ((l+r) / 2) 0) λc=>if c=true then kas_place p k f l ((l+r) / 2) else kas_place p k f ((l+r) / 2+1) r)=Ba lt (if lt (p.getD k 0) (p.getD ((l+r) / 2) 0)=true then kas_place p k f l ((l+r) / 2) else kas_place p k f ((l+r) / 2+1) r):=rfl;rw[e2];have pr:l<=(l+r) / 2:=by lia
   have uD:(l+r) / 2<r:=by lia
   generalize (l+r) / 2=md at *;cases c:lt (p.getD k 0) (p.getD md 0) with
   | true=>
    rw[Sy rfl];refine M7 L h hk so f l md (by lia) (by lia) (by lia) hl λi h1 h2=>?_;by_cases e3:i=md
    ·rw[e3];exact c
    ·exact L.tr _ _ _ c (so md i (by lia) h2)
   | false=>
    gn_on;have c':=L.flip h hk (by lia) (by lia) c;refine M7 L h hk so f (md+1) r (by lia) (by lia) hr (λi hi=>?_) hg;by_cases e3:i=md
    ·rw[e3];exact c'
    ·exact L.tr _ _ _ (so i md (by lia) (by lia)) c'
def Xfm(hk:k<p.size)(hl:l<=k)(i):(bubble p k (k - l)).getD i 0=if i=l then p.getD k 0 else if l<i/\i<=k then p.getD (i - 1) 0 else p.getD i 0:=by
 simp only[Hn];rw[qO hk _ (by lia),show k - (k - l)=l by lia];by_cases h1:i=l
 ·rw[Sy h1,Sy h1]
 ·rw[Sx h1,Sx h1];by_cases h2:l<i/\i<=k
  ·rw[Sy h2,Sy h2]
  ·rw[Sx h2,Sx h2]
theorem Xfn(L:Lin n lt):∀f (p:Array Nat) k,Gd n p->k+f<=n->Cd lt p k->Cd lt (Ba lt (kas_bin f p k)) (k+f)
 | 0,p,k,_,_,so=>so
 | f+1,p,k,h,hk,so=>by
  have sz:=h.size;have e:Ba lt (kas_bin (f+1) p k)=Ba lt ((kas_place p k k 0 k).bind λl=>kas_bin f (bubble p k (k - l)) (k+1)):=rfl;rw[e,Ge];obtain⟨a1,a2,a3⟩:=M7 (lt:=lt) L h (k:=k) (by lia) so k 0 k (by lia) (by lia) (Nr _) (λi z=>absurd z (Py _)) (λi h1 h2=>by lia);generalize Ba lt (kas_place p k k 0 k)=l at *;have:=Xfn L f (bubble p k (k - l)) (k+1) ((kT p k _).trans h) (by lia) (λi j jU hj=>by
   rw[Xfm (by lia) a1,Xfm (by lia) a1];by_cases i1:i=l
   ·rw[Sy i1,Sx (by lia),Sy (by lia)];exact a3 _ (by lia) (by lia)
   ·rw[Sx i1];by_cases i2:l<i/\i<=k
    ·rw[Sy i2,Sx (by lia),Sy (by lia)];exact so _ _ (by lia) (by lia)
    ·rw[Sx i2];by_cases j1:j=l
     ·rw[Sy j1];exact a2 i (by lia)
     ·rw[Sx j1];by_cases j2:l<j/\j<=k
      ·rw[Sy j2];by_cases z:i=j - 1
       ·lia
       ·exact so _ _ (by lia) (by lia)
      ·rw[Sx j2];exact so _ _ jU (by lia))
  rw[show k+(f+1)=k+1+f by lia];exact this
def Xon(L:Lin n lt)(hn:0<n):Cd lt (Ba lt (kas_sort n)) n:=by
 unfold kas_sort;rw[Ge];obtain⟨m,p',e,h1,h2,h3,h4⟩:=Xom (lt:=lt) L (p:=List.toArray (List.range n)) (Array.Perm.refl _) hn;rw[e];k_in;by_cases hm:m<n
 ·rw[Sy hm];have:=Xfn L (n - max m 1) p' (max m 1) h3 (by lia) (by rw[show max m 1=m by lia];exact h4)
  rwa [show max m 1+(n - max m 1)=n by lia] at this
 ·rw[Sx hm];have:m=n:=by lia
  subst this;exact h4
end
open PySem.W (KasT kas_asc kas_desc kas_rev kas_tail3 kas_descPart kas_count kas_place kas_bin kas_sort kas_ask kas_item kat_run kat_snds kat_kind kat_lt KatLex kat_cons kat_go kat_yes kat_no kat_one kat_nil KatTups)
def ltL:Za->Za->Bool
 | [],[]=>false
 | [],_::_=>true
 | _::_,[]=>false
 | x::a,y::b=>if x=y then ltL a b else decide (ltS x y)
theorem M8:∀a,ltL a a=false
 | []=>rfl
 | x::a=>by
  show (if x=x then ltL a a else _)=false;rw[Sy rfl];exact M8 a
theorem Xfo:∀a b c,ltL a b=true->ltL b c=true->ltL a c=true
 | [],[],c,h,_=>by cases h
 | [],_::_,[],_,g=>by cases g
 | [],_::_,_::_,_,_=>rfl
 | _::_,[],_,h,_=>by cases h
 | _::_,_::_,[],_,g=>by cases g
 | x::a,y::b,z::c,h,g=>by
  have h:(if x=y then ltL a b else decide (ltS x y))=true:=h;have g:(if y=z then ltL b c else decide (ltS y z))=true:=g;show (if x=z then ltL a c else decide (ltS x z))=true;by_cases e1:x=y
  ·subst e1;rw[Sy rfl] at h;by_cases e2:x=z
   ·rw[Sy e2] at g ⊢;exact Xfo a b c h g
   ·rw[Sx e2] at g ⊢;exact g
  ·rw[Sx e1] at h;by_cases e2:y=z
   ·subst e2;rw[Sx e1];exact h
   ·rw[Sx e2] at g;have q:=Ja (S5 h) (S5 g);rw[Sx (G6 q)];exact Sz q
theorem Xfp:∀a b,a≠b->ltL a b=true\/ltL b a=true
 | [],[],n=>absurd rfl n
 | [],_::_,_=>.inl rfl
 | _::_,[],_=>.inr rfl
 | x::a,y::b,n=>by
  show (if x=y then ltL a b else decide (ltS x y))=true\/(if y=x then ltL b a else decide (ltS y x))=true;by_cases e:x=y
  ·subst e;rw[Sy rfl,Sy rfl];exact Xfp a b λz=>n (by rw[z])
  ·rw[Sx e,Sx (λz=>e z.symm)];rcases Ls x y with z | z
   ·exact .inl (Sz (ltS_of z e))
   ·exact .inr (Sz (ltS_of z λq=>e q.symm))
section
variable {prog:ar}{w:aA}{A:av}{E:Zb}{s:ah}
def Xfq (h:ak) (v:aa) (ss:Za):Prop:=∃a o xs n,v = .ref a/\h.get? a=some o/\o.cls = .type "tuple" /\ o.data = .seq xs n/\aG xs.toList ss
def TupsO (h:ak) (vs:List aa) (Ts:List (Za)):Prop:=vs.length=Ts.length/\∀i,i<vs.length->Xfq h (vs.getD i .none) (Ts.getD i [])
end
section
variable {X:Cx}
end
def Xoo(x y)(xs ys):ltL (x::xs) (y::ys)=if x=y then ltL xs ys else decide (ltS x y):=rfl
def Xop:ltL [] []=false:=rfl
def Xoq(y)(ys):ltL [] (y::ys)=true:=rfl
def Xor(x)(xs):ltL (x::xs) []=false:=rfl
def Xos(A)(s)(a)(t)(c)(u):∃e,SeqAt.EqAt A s (.str a t) (.str c u) e/\(e=true↔a=c):=
 ⟨(a==c),SeqAt.EqAt.str_str a t c u,by simp⟩
def Xot(A)(s)(a)(t)(c)(u)(prog)(w)(E)(Q)(h:Q (.bool (decide (ltS a c))) s):
  af (ag prog w) A (richCompare .Lt (.str a t) (.str c u)) Q E s:=
 (PyProof.Rows.lt_str h:af (ag prog w) A (aH .Lt (.str a t) (.str c u)) Q E s)
section
open PySem.SeqAt
open PySem.AutoSeq1 (wpAny_loadPart')
open PySem.MeetsSeq PySem.MeetsSeq2 PySem.MeetsSeq3
def Xou(l b)(ax cO)(n n2)(dd l9)(sl nR)(ns ms)(hi:aG ax.toList ns)(hj:aG cO.toList ms):
  Meets (aj.«tuple.__lt__» ⟨[.ref l,.ref b],[]⟩)
   (λ_ R s=>s.heap.get? l=some {cls:=.type "tuple",dict:=dd,data:=.seq ax n,slots:=sl}/\s.heap.get? b=some {cls:=.type "tuple",dict:=l9,data:=.seq cO n2,slots:=nR} /\
    R (.ok (.ret (.bool (ltL ns ms)))) s):=
 .of_wp λprog w A R s h=>by
  obtain⟨hp,g,d,tk,os⟩:=s;obtain⟨hl,hb,h⟩:=h;have f2:=AutoSeq1.sub_tuple_tuple;have z1:ax.size=ns.length:=by rw[<-hi.length];simp
  have z2:cO.size=ms.length:=by rw[<-hj.length];simp
  wp_walk using wpAny_loadPart' hl,wpAny_loadPart' hb,wpAny_forIn_list _ (λrest b s'=>b.1=none/\s'=⟨hp,g,d,tk,os⟩/\∃(vs ws:List aa) (qP qQ:Za),rest=vs.zip ws /\
   aG vs qP/\aG ws qQ/\qP.length+cO.size=qQ.length+ax.size/\R (.ok (.ret (.bool (ltL qP qQ)))) ⟨hp,g,d,tk,os⟩) _
  case turn=>
   rintro ⟨y,x⟩ rest b s' ⟨dJ,rfl,vs,ws,qP,qQ,hz,wV,uM,aV,hR⟩;cases wV with
   | nil=>rw[List.zip_nil_left] at hz;cases hz
   | cons a t wW=>
    cases uM with
    | nil=>rw[List.zip_nil_right] at hz;cases hz
    | cons c u wX=>
     rw[List.zip_cons_cons] at hz;injection hz with GT hrest
     injection GT with hy hx
     subst hy hx;rw[Xoo] at hR;simp only[Oe] at aV;obtain⟨e,he,sW⟩:=Xos A.in1 ⟨hp,g,d,tk,os⟩ a t c u;refine Sr (he prog w _ _ ?_);cases e with
     | true=>
      rw[Sy (sW.mp rfl)] at hR
      wp_walk
      exact⟨rfl,rfl,_,_,_,_,hrest,wW,wX,by lia,hR⟩
     | false=>
      rw[Sx (λq=>absurd (sW.mpr q) N9)] at hR;have GU:=Xot A.in1 ⟨hp,g,d,tk,os⟩ a t c u prog w
      wp_walk using GU
      exact⟨_,rfl,by simpa using hR⟩
  case fin=>
   rintro ⟨b1,b2⟩ s' ⟨dJ,rfl,vs,ws,qP,qQ,hz,wV,uM,aV,hR⟩;simp only at dJ;subst dJ;have hv:ltL qP qQ=decide (ax.size<cO.size):=by
    cases wV with
    | nil=>
     cases uM with
     | nil=>
      simp only[Pw] at aV;rw[Xop];exact(S0 (by lia)).symm
     | cons c u hw=>
      simp only[Pw,Oe] at aV;rw[Xoq];exact(Sz (by lia)).symm
    | cons a t hv=>
     cases uM with
     | nil=>
      simp only[Pw,Oe] at aV;rw[Xor];exact(S0 (by lia)).symm
     | cons c u hw=>
      rw[List.zip_cons_cons] at hz;cases hz
   rw[hv] at hR
   wp_walk
   exact⟨_,rfl,by simpa [aj.Tuple.tupleCompareSizes] using hR⟩
  case h=>
   exact⟨rfl,rfl,ax.toList,cO.toList,ns,ms,rfl,hi,hj,by lia,h⟩
end
open PySem.W (KasT kas_sort kas_ask kas_item kat_run kat_snds kat_kind kat_lt KatLex kat_cons kat_go kat_yes kat_no kat_one kat_nil KatTups)
section
variable {prog:ar}{w:aA}{A:av}{E:Zb}{s:ah}
def Xov    (hl:dA s.heap l ax) (hb:dA s.heap b cO) (hi:aG ax.toList ns) (hj:aG cO.toList ms)
  (hu:A.units<bA) (h:Q (.bool (ltL ns ms)) s):af (ag prog w) A (aH .Lt (.ref l) (.ref b)) Q E s:=by
 obtain⟨⟨cls,dd,data,sl⟩,ho,hc,n,hd⟩:=id hl;obtain⟨⟨rF,l9,data2,nR⟩,jL,gC,n2,du⟩:=id hb;simp only at hc hd gC du;subst hc hd gC du;exact richCompare_meets_room (op:=.Lt) ⟨_,ho,rfl⟩ ⟨_,jL,rfl⟩ PySem.F.slot_tuple_lt PySem.F.entry_tuple_lt (PySem.F.args_tuple_lt_2 _ _) (Xou l b ax cO n n2 dd l9 sl nR ns ms hi hj)
  ⟨ho,jL,show aa.bool (ltL ns ms)≠aa.notImplemented/\Q (.bool (ltL ns ms)) s from ⟨(λx=>nomatch x),h⟩⟩ hu
def Cq (n:Nat) (a:Za) (m:Nat) (b:Za):Bool:=if n=m then ltL a b else decide (n<m)
def Xfr  (h:aG vs ss):ItemsAre (A5 prog w) (ss.map Sum.inr) vs:=by
 induction h with
 | nil=>exact .nil
 | cons x t r ih=>exact .cons (show Dw (.inr x) (.str x t)=true by simp[Dw,aa.isStrOf]) ih
def Ho (h:ak) (v:aa) (n:Nat) (ss:Za):Prop:=∃a o xs k t u,v = .ref a/\h.get? a=some o/\o.cls = .type "tuple" /\ o.data = .seq xs k/\xs.toList=[.int n t,u]/\Xfq h u ss
def Xow    (hu:A.units<bA) (hx:Ho s.heap x n as) (hy:Ho s.heap y m bs) (h:C (Cq n as m bs) s):af (ag prog w) A (sG (tuples' true) x y) C E s:=by
 obtain⟨a,o,xs,k,t,u,rfl,h1,h2,h3,h4,h5⟩:=hx;obtain⟨b,o',ys,k',t',u',rfl,g1,g2,g3,g4,g5⟩:=hy;refine kat_lt h1 h3 g1 g3 ?_;rw[h4,g4];have ef:decide (xs.size<ys.size)=false:=by
  have e1:xs.size=2:=by rw[<-N1,h4];rfl
  have e2:ys.size=2:=by rw[<-N1,g4];rfl
  rw[e1,e2];decide
 rw[ef];show KatLex prog w A true false C [(.int n t,.int m t'),(u,u')] 0 s;unfold Cq at h;refine kat_cons (oC ?_);refine kat_go (λe=>kat_yes ?_) (λe=>kat_no ?_)
 ·have e:n=m:=by have:=S5 e;lia
  rw[Sy e] at h;obtain⟨c,oc,cs,kc,rfl,c1,c2,c3,c4⟩:=h5;obtain⟨d,od,ds,kd,rfl,d1,d2,d3,d4⟩:=g5;refine kat_cons (wpAny_eqBool_tuple (knd:=A5 prog w) hu ⟨oc,cs,kc,c1,c2,c3,Xfr c4⟩ ⟨od,ds,kd,d1,d2,d3,Xfr d4⟩ ?_);refine kat_go (λe2=>kat_yes (kat_nil ?_)) (λe2=>kat_no ?_)
  ·have e2:as=bs:=by
    have:=S5 e2;exact List.map_inj_right (λ_ _ q=>Qh q) |>.mp this
   rw[e2,M8] at h;exact h
  ·exact kat_one _ _ (Xov ⟨oc,c1,c2,kc,c3⟩ ⟨od,d1,d2,kd,d3⟩ c4 d4 hu h)
 ·have e:¬n=m:=λz=>by
   have:=S6 e
   lia
  rw[Sx e] at h;refine oneLt_int ?_;have:decide ((n:Int)<(m:Int))=decide (n<m):=by simp
  rw[this];exact h
end
open PySem.W (KasT kas_sort kas_ask kas_item kat_run kat_snds kat_kind KatTups)
section
variable {X:Cx}{pins:List (ae×aM)}{Z:List (Option V)}{H:Hp}{s:ah}
def Inv.unpin(I:Inv X (p::pins) Z H s):Inv X pins Z H s:=
 I.pins_of λq hq=>I.pin q (Oo _ (Nw _ hq))
def Xox    (I:Inv X ((D,a8 "list" #[] e1)::pins) Z H s) (hD:X.s₀.heap.objs.size<=D) (lT:∀p∈X.pn++pins,p.1≠D) (hv:Vals ys out) (hz:ys.length<=sizeLine):
  Inv X pins Z (upd H D (.lst ys)) {s with heap:=s.heap.update D (aM.mapSeq λ_=>out.toArray)}:=by
 obtain⟨hg,hn,hl,hf,_⟩:=I.pin (D,a8 "list" #[] e1) (Oo _ Ny);have J:=I.unpin;have sb:=S9 s.heap D (aM.mapSeq λ_=>out.toArray);obtain⟨c2,gC⟩:∃c2,(s.heap.update D (aM.mapSeq λ_=>out.toArray)).get? D=some (a8 "list" out.toArray c2):=⟨_,fZ hg λ_=>out.toArray⟩;have kp:∀b o,b≠D->s.heap.get? b=some o->(s.heap.update D (aM.mapSeq λ_=>out.toArray)).get? b=some o:=λb o n e=>(sb.2 b n).trans e;have nD:∀b u,H b=some u->b≠D:=λb u e z=>by rw[z,hn] at e;cases e
 have up:∀b u,H b=some u->(upd H D (.lst ys)) b=some u:=λb u e=>by rw[Ab (nD b u e)];exact e
 refine J.step (g':=s.gens) (d':=s.drawn) (t':=s.toks) (ch:=[D]) (λb hb=>?_) (λb o _ _ hc e _=>kp b o (λz=>hc (by rw[z];exact P1 _)) e) (λb o _ _ hc e _=>⟨o.slots,kp b o (λz=>hc (by rw[z];exact P1 _)) e⟩)
  (λb o hc e n=>?_) (λb o hc e=>⟨o,kp b o (λz=>hc (by rw[z];exact P1 _)) e⟩) (λb xs e=>up b _ e) (λb o u e=>up b _ e) (λb pz e=>⟨#[],by rw[up b _ e];simp⟩) (λm hm=>hm.sameBut sb (Ne.symm hl)) ?_ J.bare
 ·rw[Nv.mp hb];refine⟨.inr hD,hl,λx c e z=>?_,λp hp=>lT p hp⟩;obtain⟨v,o,ho,hd⟩:=J.cell x c e;rw[z,hg] at ho;cases ho;cases hd
 ·rw[Ab (λz=>hc (by rw[z];exact P1 _))];exact n
 ·intro b u e;by_cases z:b=D
  ·subst z;rw[Aa] at e;cases e;exact⟨hz,out,c2,hv,gC⟩
  ·rw[Ab z] at e;refine(J.hok b u e).stay (λd v hd g=>kp d v ?_ g) (λd g=>up d _ g) λd xs g=>up d _ g;rcases hd with rfl | hd
   ·exact z
   ·exact nD d _ hd
end
abbrev SM:=StateT br fT
def C2:Bool->ay->Array ay->Nat->Nat->Nat->SM (Option Nat):=sortPriv% PySem.Builtin.gallop
def bey (l:Bool) (k:ay) (c:Array ay) (i:Nat):SM (Option Bool):=do
 let x <-elem' c i
 if l then lt' x k else
  let r <-lt' k x
  return r.map (!·)
def J5 (l:Bool) (k:ay) (c:Array ay) (b n u0 v0:Nat):SM (Option Nat):=do
 let mut u:=u0
 let mut v:=v0
 for _ in [0:n] do
  if u ≥ v then break
  let q:=u+(v - u) / 2
  let some m <-bey l k c (b+q) | return none
  if m then u:=q+1 else v:=q
 return some v
def Xoy(l:Bool)(k:ay)(c:Array ay)(b n h:Nat):C2 l k c b n h=(do
  let some r <-bey l k c (b+h) | return none
  if r then
   let mut la:=0
   let mut o:=1
   for _ in [0:n] do
    if o ≥ n - h then break
    let some m <-bey l k c (b+(h+o)) | return none
    if !m then break
    la:=o
    o:=2 * o+1
   J5 l k c b n (h+la+1) (h+min o (n - h))
  else
   let mut la:=0
   let mut o:=1
   for _ in [0:n] do
    if o ≥ h+1 then break
    let some m <-bey l k c (b+(h - o)) | return none
    if m then break
    la:=o
    o:=2 * o+1
   J5 l k c b n (h+1 - min o (h+1)) (h - la)):=rfl
open PySem.W (kas_item kas_cmp)
structure CmS (prog:ar) (w:aA) (A:av) (s:ah) (κ : cn) (it:Array ay) (n:Nat) (lt:Nat->Nat->Bool):Prop where
 L:Lin n lt
 c:∀i j (C:Bool->ah->Prop),i<n->j<n->C (lt i j) s->kas_cmp prog w A κ it i j C s
def Fk (it:Array ay) (l:List Nat):Array ay:=(l.map (kas_item it)).toArray
section
variable {prog:ar}{w:aA}{A:av}{E:Zb}{s:ah}{κ : cn}{it:Array ay}{n:Nat}{lt:Nat->Nat->Bool}
def Hq(hc:CmS prog w A s κ it n lt)  (hx:x<n)(hy:y<n){st}(hk:kindOf st = κ)(h:Q (some (lt x y)) st):f8 (ag prog w) A E s (lt' (kas_item it x) (kas_item it y)) Q st:=by
 rw[lt'_eq];refine Su (bQ ?_);rw[hk];refine Su (dc (eI (aF (hc.c x y (λb s'=>s'=s/\b=lt x y) hx hy ⟨rfl,rfl⟩) (λb s' e=>?_) λ_ _ hF=>hF.elim)));obtain⟨rfl,rfl⟩:=e;exact⟨rfl,Sv h⟩
def Bg   (hi:l[i]? = some x) {st} (h:Q (kas_item it x) st):f8 (ag prog w) A E s (elem' (Fk it l) i) Q st:=by
 rw[elem'_eq];have e:(Fk it l)[i]? = some (kas_item it x):=by
  unfold Fk;rw[Qg,Oa,hi];rfl
 rw[e];exact Sv h
def beyB (lt:Nat->Nat->Bool) (l:Bool) (k x:Nat):Bool:=if l then lt x k else !lt k x
def Gf(hc:CmS prog w A s κ it n lt)  {left}  (hi:l[i]? = some x)(hx:x<n)(hk:k<n){st}(lU:kindOf st = κ)(h:Q (some (beyB lt left k x)) st):f8 (ag prog w) A E s (bey left (kas_item it k) (Fk it l) i) Q st:=by
 unfold bey;refine Su (Bg hi ?_);cases left with
 | true=>
  rw[Sy rfl];exact Hq hc hx hk lU h
 | false=>
  gn_on;exact Su (Hq hc hk hx lU (Sv h))
structure Mono (m:Nat) (P:Nat->Bool):Prop where
 dn:∀i j,i<j->j<m->P j=true->P i=true
def Mono.up   (M:Mono m P) (h:i<=j) (hj:j<m) (e:P i=false):P j=false:=by
 by_cases z:i=j
 ·rw[<-z];exact e
 ·cases q:P j with
  | false=>rfl
  | true=>rw[M.dn i j (by lia) hj q] at e;cases e
def Gg     {P} {st} (M:Mono m P) (hh:h<m)
  (ask:∀i,i<m->∀Q:Option Bool->br->Prop,Q (some (P i)) st->f8 (ag prog w) A E s (bey left eg zU (b+i)) Q st) (hq:∀r,r<=m->(∀i,i<r->P i=true)->(∀i,r<=i->i<m->P i=false)->Q (some r) st):f8 (ag prog w) A E s (C2 left eg zU b m h) Q st:=by
 rw[Xoy];have gf:∀(u v:Nat),u<=v->v<=m->(∀i,i<u->P i=true)->(∀i,v<=i->i<m->P i=false) ->
   f8 (ag prog w) A E s (J5 left eg zU b m u v) Q st:=by
  intro u v mI hv hu GV;unfold J5;refine Su (bi (aK (I:=λx c aD=>aD=st/\∃u v,c=(none,u,v)/\u<=v/\v<=m/\v - u<=m - x/\(∀i,i<u->P i=true)/\(∀i,v<=i->i<m->P i=false)) (Q:=λc aD=>aD=st/\∃u,c=(none,u,u)/\u<=m/\(∀i,i<u->P i=true)/\(∀i,u<=i->i<m->P i=false)) ?step ?fin ⟨rfl,u,v,rfl,mI,hv,by lia,hu,GV⟩) ?post)
  case fin=>
   rintro c aD ⟨rfl,u,v,rfl,h1,h2,h3,h4,h5⟩;have:u=v:=by lia
   subst this;exact⟨rfl,u,rfl,h2,h4,h5⟩
  case step=>
   rintro x c aD _ hx ⟨rfl,u,v,rfl,h1,h2,h3,h4,h5⟩;k_in;by_cases e:u ≥ v
   ·rw[Sy e];have:u=v:=by lia
    subst this;exact Sv ⟨rfl,u,rfl,h2,h4,h5⟩
   ·rw[Sx e];refine Su (ask _ (by lia) _ ?_);k_in;cases q:P (u+(v - u) / 2) with
    | true=>
     rw[Sy rfl];refine Sv ⟨rfl,_,v,rfl,by lia,h2,by lia,λi hi=>?_,h5⟩;by_cases z:i=u+(v - u) / 2
     ·rw[z];exact q
     ·exact M.dn i _ (by lia) (by lia) q
    | false=>
     gn_on;refine Sv ⟨rfl,u,_,rfl,by lia,by lia,by lia,h4,λi hi hm=>M.up hi hm q⟩
  case post=>
   rintro c aD ⟨rfl,u,rfl,h2,h4,h5⟩;exact Sv (hq u h2 h4 h5)
 refine Su (ask h hh _ ?_);k_in;cases q:P h with
 | true=>
  rw[Sy rfl];refine Su (bi (aK (I:=λx c aD=>aD=st/\∃la o,c=(none,la,o)/\P (h+la)=true/\h+la<m/\la<o/\x+1<=o) (Q:=λc aD=>aD=st/\∃la o,c=(none,la,o)/\P (h+la)=true/\h+la<m/\la<o/\(h+min o (m - h)<m->P (h+min o (m - h))=false)) ?step ?fin ⟨rfl,0,1,rfl,q,hh,by lia,by lia⟩) ?post)
  case fin=>
   rintro c aD ⟨rfl,la,o,rfl,h1,h2,h3,h4⟩;exact⟨rfl,la,o,rfl,h1,h2,h3,λz=>by lia⟩
  case step=>
   rintro x c aD _ hx ⟨rfl,la,o,rfl,h1,h2,h3,h4⟩;k_in;by_cases e:o ≥ m - h
   ·rw[Sy e];exact Sv ⟨rfl,la,o,rfl,h1,h2,h3,λz=>by lia⟩
   ·rw[Sx e];refine Su (ask _ (by lia) _ ?_);k_in;cases q2:P (h+o) with
    | true=>exact Sv ⟨rfl,o,2 * o+1,rfl,q2,by lia,by lia,by lia⟩
    | false=>exact Sv ⟨rfl,la,o,rfl,h1,h2,h3,λz=>by rw[show min o (m - h)=o by lia];exact q2⟩
  case post=>
   rintro c aD ⟨rfl,la,o,rfl,h1,h2,h3,h4⟩;k_in;refine gf (h+la+1) (h+min o (m - h)) (by lia) (by lia) (λi hi=>?_) (λi hi hm=>M.up hi hm (h4 (by lia)));by_cases z:i=h+la
   ·rw[z];exact h1
   ·exact M.dn i _ (by lia) h2 h1
 | false=>
  gn_on;refine Su (bi (aK (I:=λx c aD=>aD=st/\∃la o,c=(none,la,o)/\P (h - la)=false/\la<=h/\la<o/\x+1<=o) (Q:=λc aD=>aD=st/\∃la o,c=(none,la,o)/\P (h - la)=false/\la<=h/\la<o/\(o<h+1->P (h - o)=true)) ?step ?fin ⟨rfl,0,1,rfl,q,by lia,by lia,by lia⟩) ?post)
  case fin=>
   rintro c aD ⟨rfl,la,o,rfl,h1,h2,h3,h4⟩;exact⟨rfl,la,o,rfl,h1,h2,h3,λz=>by lia⟩
  case step=>
   rintro x c aD _ hx ⟨rfl,la,o,rfl,h1,h2,h3,h4⟩;k_in;by_cases e:o ≥ h+1
   ·rw[Sy e];exact Sv ⟨rfl,la,o,rfl,h1,h2,h3,λz=>by lia⟩
   ·rw[Sx e];refine Su (ask _ (by lia) _ ?_);k_in;cases q2:P (h - o) with
    | true=>exact Sv ⟨rfl,la,o,rfl,h1,h2,h3,λz=>q2⟩
    | false=>exact Sv ⟨rfl,o,2 * o+1,rfl,q2,by lia,by lia,by lia⟩
  case post=>
   rintro c aD ⟨rfl,la,o,rfl,h1,h2,h3,h4⟩;k_in;refine gf (h+1 - min o (h+1)) (h - la) (by lia) (by lia) (λi hi=>?_) (λi hi hm=>M.up hi hm h1);have ho:o<h+1:=by lia
   have:=h4 ho;rw[show min o (h+1)=o by lia] at hi;by_cases z:i=h - o
   ·rw[z];exact this
   ·exact M.dn i _ (by lia) (by lia) this
end
open PySem.W (kas_item kas_cmp)
def mLo:Array ay->Array ay->SM (Array ay):=sortPriv% PySem.Builtin.mergeLo
def Dt:Nat->SM Unit:=sortPriv% PySem.Builtin.setMinGallop
def Xoz(g):Dt g=modify λst=>br.mk' (kindOf st) (bB st) (bf st) g (bI st):=rfl
def dnL (a b o:Array ay) (i j:Nat):Array ay:=o++a.extract i a.size++b.extract j b.size
def lsL (a b o:Array ay) (i j:Nat):Array ay:=o++b.extract j b.size++a.extract i a.size
abbrev MTO:=Option (Array ay)×Array ay×Nat×Nat×Nat
abbrev MTI:=Option (Array ay)×Array ay×Nat×Nat×Nat×Nat
abbrev MTG:=Option (Array ay)×Array ay×Nat×Nat×Nat×Nat×Nat
def M9 (a b:Array ay) (g:Nat) (d:MTI):SM (ForInStep MTI):=do
 let y <-elem' b d.2.2.2.1
 let x <-elem' a d.2.2.1
 let r <-lt' y x
 match r with
 | some c=>
  if c=true then do
   let y <-elem' b d.2.2.2.1
   if (d.2.2.2.1+1==b.size)=true then pure (.done (some (dnL a b (d.2.1.push y) d.2.2.1 (d.2.2.2.1+1)),d.2.1.push y,d.2.2.1,d.2.2.2.1+1,0,d.2.2.2.2.2+1))
   else if d.2.2.2.2.2+1 ≥ g then pure (.done (none,d.2.1.push y,d.2.2.1,d.2.2.2.1+1,0,d.2.2.2.2.2+1))
   else pure (.yield (none,d.2.1.push y,d.2.2.1,d.2.2.2.1+1,0,d.2.2.2.2.2+1))
  else do
   let x <-elem' a d.2.2.1
   if (d.2.2.1+1+1==a.size)=true then pure (.done (some (lsL a b (d.2.1.push x) (d.2.2.1+1) d.2.2.2.1),d.2.1.push x,d.2.2.1+1,d.2.2.2.1,d.2.2.2.2.1+1,0))
   else if d.2.2.2.2.1+1 ≥ g then pure (.done (none,d.2.1.push x,d.2.2.1+1,d.2.2.2.1,d.2.2.2.2.1+1,0))
   else pure (.yield (none,d.2.1.push x,d.2.2.1+1,d.2.2.2.1,d.2.2.2.2.1+1,0))
 | _=>pure (.done (some (dnL a b d.2.1 d.2.2.1 d.2.2.2.1),d.2.1,d.2.2.1,d.2.2.2.1,d.2.2.2.2.1,d.2.2.2.2.2))
def gV3 (a b o:Array ay) (i j g p q:Nat):SM (ForInStep MTG):=do
 let x <-elem' a i
 if (i+1+1==a.size)=true then pure (.done (some (lsL a b (o.push x) (i+1) j),o.push x,i+1,j,g,p,q))
 else if (decide (p<7)&&decide (q<7))=true then pure (.done (none,o.push x,i+1,j,g,p,q))
 else pure (.yield (none,o.push x,i+1,j,g,p,q))
def gV2 (a b o:Array ay) (i j g p q:Nat):SM (ForInStep MTG):=do
 let y <-elem' b j
 if (j+1==b.size)=true then pure (.done (some (dnL a b (o.push y) i (j+1)),o.push y,i,j+1,g,p,q))
 else do
  let x <-elem' a i
  let r <-C2 true x b (j+1) (b.size - (j+1)) 0
  match r with
  | some k=>
   if k > 0 then
    if (j+1+k==b.size)=true then pure (.done (some (dnL a b (o.push y++b.extract (j+1) (j+1+k)) i (j+1+k)),o.push y++b.extract (j+1) (j+1+k),i,j+1+k,g,p,k))
    else gV3 a b (o.push y++b.extract (j+1) (j+1+k)) i (j+1+k) g p k
   else gV3 a b (o.push y) i (j+1) g p k
  | _=>pure (.done (some (dnL a b (o.push y) i (j+1)),o.push y,i,j+1,g,p,q))
def gV1 (a b o:Array ay) (i j g p q:Nat):SM (ForInStep MTG):=do
 Dt g
 let y <-elem' b j
 let r <-C2 false y a i (a.size - i) 0
 match r with
 | some k=>
  if k > 0 then
   if (i+k+1==a.size)=true then pure (.done (some (lsL a b (o++a.extract i (i+k)) (i+k) j),o++a.extract i (i+k),i+k,j,g,k,q))
   else if (i+k==a.size)=true then pure (.done (some (dnL a b (o++a.extract i (i+k)) (i+k) j),o++a.extract i (i+k),i+k,j,g,k,q))
   else gV2 a b (o++a.extract i (i+k)) (i+k) j g k q
  else gV2 a b o i j g k q
 | _=>pure (.done (some (dnL a b o i j),o,i,j,g,p,q))
def J6 (a b:Array ay) (c:MTO):SM (ForInStep MTO):=do
 let d <-forIn [0:a.size+b.size] ((none,c.2.1,c.2.2.1,c.2.2.2.1,0,0):MTI) λ_ d=>M9 a b c.2.2.2.2 d
 match d.1 with
 | some r=>pure (.done (some r,d.2.1,d.2.2.1,d.2.2.2.1,c.2.2.2.2))
 | none=>do
  liftM (rule "list.sort.gallop")
  let e <-forIn [0:a.size+b.size] ((none,d.2.1,d.2.2.1,d.2.2.2.1,c.2.2.2.2+1,d.2.2.2.2.1,d.2.2.2.2.2):MTG) λ_ e=>
   if e.2.2.2.2.1 > 1 then gV1 a b e.2.1 e.2.2.1 e.2.2.2.1 (e.2.2.2.2.1 - 1) e.2.2.2.2.2.1 e.2.2.2.2.2.2 else gV1 a b e.2.1 e.2.2.1 e.2.2.2.1 e.2.2.2.2.1 e.2.2.2.2.2.1 e.2.2.2.2.2.2
  match e.1 with
  | some r=>pure (.done (some r,e.2.1,e.2.2.1,e.2.2.2.1,e.2.2.2.2.1))
  | none=>do
   Dt (e.2.2.2.2.1+1)
   pure (.yield (none,e.2.1,e.2.2.1,e.2.2.2.1,e.2.2.2.2.1+1))
def Xo0(a b:Array ay):mLo a b=(do
  liftM (rule "list.sort.merge-lo")
  let x0 <-elem' b 0
  let mut o:Array ay := #[x0]
  let mut i:=0
  let mut j:=1
  if j==b.size then return dnL a b o i j
  if i+1==a.size then return lsL a b o i j
  let mut g:=dW (<-get)
  for _ in [0:a.size+b.size] do
   let mut p:=0
   let mut q:=0
   for _ in [0:a.size+b.size] do
    let some c <-lt' (<-elem' b j) (<-elem' a i) | return dnL a b o i j
    if c then
     o:=o.push (<-elem' b j)
     j:=j+1
     q:=q+1
     p:=0
     if j==b.size then return dnL a b o i j
     if q ≥ g then break
    else
     o:=o.push (<-elem' a i)
     i:=i+1
     p:=p+1
     q:=0
     if i+1==a.size then return lsL a b o i j
     if p ≥ g then break
   liftM (rule "list.sort.gallop")
   g:=g+1
   for _ in [0:a.size+b.size] do
    if g > 1 then g:=g - 1
    Dt g
    let some k <-C2 false (<-elem' b j) a i (a.size - i) 0 | return dnL a b o i j
    p:=k
    if k > 0 then
     o:=o++a.extract i (i+k)
     i:=i+k
     if i+1==a.size then return lsL a b o i j
     if i==a.size then return dnL a b o i j
    o:=o.push (<-elem' b j)
    j:=j+1
    if j==b.size then return dnL a b o i j
    let some k <-C2 true (<-elem' a i) b j (b.size - j) 0 | return dnL a b o i j
    q:=k
    if k > 0 then
     o:=o++b.extract j (j+k)
     j:=j+k
     if j==b.size then return dnL a b o i j
    o:=o.push (<-elem' a i)
    i:=i+1
    if i+1==a.size then return lsL a b o i j
    if p<7&&q<7 then break
   g:=g+1
   Dt g
  unsupported "internal:list.sort.merge-bound"):=rfl
def Xo1(a b:Array ay):mLo a b=(do
  liftM (rule "list.sort.merge-lo")
  let x0 <-elem' b 0
  if (1==b.size)=true then pure (dnL a b #[x0] 0 1)
  else if (0+1==a.size)=true then pure (lsL a b #[x0] 0 1)
  else do
   let st <-get
   let c <-forIn [0:a.size+b.size] ((none, #[x0],0,1,dW st):MTO) λ_ c=>J6 a b c
   match c.1 with
   | some r=>pure r
   | none=>unsupported "internal:list.sort.merge-bound"):=by
 rw[Xo0];congr 1;funext _u;congr 1;funext x0;k_in;congr 1;congr 1;congr 1;funext st;congr 1
 ·congr 1;funext _x c;unfold J6;congr 1;funext d;obtain⟨r,d⟩:=d;cases r with
  | some r=>rfl
  | none=>
   k_in;congr 1;funext _v;congr 1;funext e;obtain⟨r,e⟩:=e;cases r<;>rfl
 ·funext c;obtain⟨r,c⟩:=c;cases r<;>rfl
open PySem.W (kas_item kas_cmp)
section
variable {it:Array ay}
def Hr(l)(x):(Fk it l).push (kas_item it x)=Fk it (l++[x]):=by
 unfold Fk;rw[List.push_toArray,N2];rfl
def Dd(l m):Fk it l++Fk it m=Fk it (l++m):=by
 unfold Fk;rw[List.append_toArray,N2]
def Du(l)(i j):(Fk it l).extract i j=Fk it ((l.drop i).take (j - i)):=by
 unfold Fk;rw[List.extract_toArray,List.map_take,List.map_drop]
def Bo(l):(Fk it l).size=l.length:=by
 unfold Fk;rw[Nt,Np]
def Hs(la lb lo)(i j):dnL (Fk it la) (Fk it lb) (Fk it lo) i j=Fk it (lo++la.drop i++lb.drop j):=by
 unfold dnL;rw[Du,Du,Bo,Bo,Dd,Dd,O0 (by rw[O4];exact Nr _),O0 (by rw[O4];exact Nr _)]
def J7(la lb lo)(i j):lsL (Fk it la) (Fk it lb) (Fk it lo) i j=Fk it (lo++lb.drop j++la.drop i):=by
 unfold lsL;rw[Du,Du,Bo,Bo,Dd,Dd,O0 (by rw[O4];exact Nr _),O0 (by rw[O4];exact Nr _)]
end
structure Two (lt:Nat->Nat->Bool) (n:Nat) (la lb:List Nat):Prop where
 L:Lin n lt
 an:∀x∈la,x<n
 bn:∀x∈lb,x<n
 dj:∀x∈la,∀y∈lb,x≠y
 sa:la.Pairwise λx y=>lt x y=true
 sb:lb.Pairwise λx y=>lt x y=true
structure MI (lt:Nat->Nat->Bool) (la lb lo:List Nat) (i j:Nat):Prop where
 so:lo.Pairwise λx y=>lt x y=true
 pm:lo.Perm (la.take i++lb.take j)
 ba:∀x∈lo,∀y∈la.drop i,lt x y=true
 bb:∀x∈lo,∀y∈lb.drop j,lt x y=true
section
variable {lt:Nat->Nat->Bool}{n:Nat}{la lb lo:List Nat}{i j k:Nat}
def Two.flip(T:Two lt n la lb)(hx:x∈la)(hy:y∈lb)(h:lt y x=false):lt x y=true:=by
 rcases T.L.tot x y (T.an x hx) (T.bn y hy) (T.dj x hx y hy) with z | z
 ·exact z
 ·rw[z] at h;cases h
def drop_split(l:List Nat)(i k):l.drop i=(l.drop i).take k++l.drop (i+k):=by
 rw[<-List.drop_drop,Ol]
def take_split(l:List Nat)(i k):l.take (i+k)=l.take i++(l.drop i).take k:=by
 rw[List.take_add]
def MI.chA(T:Two lt n la lb)(m:MI lt la lb lo i j)(h:∀x∈(la.drop i).take k,∀y∈lb.drop j,lt x y=true):MI lt la lb (lo++(la.drop i).take k) (i+k) j:=by
 have sp:=drop_split la i k;have sd:=T.sa.sublist (P3 i la);rw[sp] at sd;obtain⟨s1,s2,s3⟩:=Om.mp sd;refine⟨Om.mpr ⟨m.so,s1,λx hx y hy=>m.ba x hx y (O3 hy)⟩,?_,λx hx y hy=>?_,λx hx y hy=>?_⟩
 ·rw[take_split];refine(m.pm.append_right _).trans ?_;rw[Oi,Oi];exact Pg _ P4
 ·rcases N0.mp hx with z | z
  ·exact m.ba x z y (by rw[sp];exact Oo _ hy)
  ·exact s3 x z y hy
 ·rcases N0.mp hx with z | z
  ·exact m.bb x z y hy
  ·exact h x z y hy
def MI.chB(T:Two lt n la lb)(m:MI lt la lb lo i j)(h:∀x∈(lb.drop j).take k,∀y∈la.drop i,lt x y=true):MI lt la lb (lo++(lb.drop j).take k) i (j+k):=by
 have sp:=drop_split lb j k;have sd:=T.sb.sublist (P3 j lb);rw[sp] at sd;obtain⟨s1,s2,s3⟩:=Om.mp sd;refine⟨Om.mpr ⟨m.so,s1,λx hx y hy=>m.bb x hx y (O3 hy)⟩,?_,λx hx y hy=>?_,λx hx y hy=>?_⟩
 ·rw[take_split,<-Oi];exact m.pm.append_right _
 ·rcases N0.mp hx with z | z
  ·exact m.ba x z y hy
  ·exact h x z y hy
 ·rcases N0.mp hx with z | z
  ·exact m.bb x z y (by rw[sp];exact Oo _ hy)
  ·exact s3 x z y hy
def Xfs(la lb)(h:lo.Perm (la.take i++lb.take j)):(lo++la.drop i++lb.drop j).Perm (la++lb):=by
 refine((h.append_right _).append_right _).trans ?_;rw[Oi,Oi];have e:la++lb=la.take i++(la.drop i++(lb.take j++lb.drop j)):=by rw[Ol,<-Oi,Ol]
 rw[e];refine Pg _ ?_;rw[<-Oi,<-Oi];exact P4.append_right _
def Mrg (lt:Nat->Nat->Bool) (la lb r:List Nat):Prop:=r.Perm (la++lb)/\r.Pairwise λx y=>lt x y=true
def MI.endB(T:Two lt n la lb)(m:MI lt la lb lo i j)(h:∀x∈la.drop i,∀y∈lb.drop j,lt x y=true):Mrg lt la lb (lo++la.drop i++lb.drop j):=by
 refine⟨Xfs la lb m.pm,Om.mpr ⟨Om.mpr ⟨m.so,T.sa.sublist (P3 ..),m.ba⟩,T.sb.sublist (P3 ..),λx hx y hy=>?_⟩⟩;rcases N0.mp hx with z | z
 ·exact m.bb x z y hy
 ·exact h x z y hy
def MI.endA(T:Two lt n la lb)(m:MI lt la lb lo i j)(h:∀x∈lb.drop j,∀y∈la.drop i,lt x y=true):Mrg lt la lb (lo++lb.drop j++la.drop i):=by
 refine⟨?_,Om.mpr ⟨Om.mpr ⟨m.so,T.sb.sublist (P3 ..),m.bb⟩,T.sa.sublist (P3 ..),λx hx y hy=>?_⟩⟩
 ·refine List.Perm.trans ?_ (Xfs la lb m.pm);rw[Oi,Oi];exact Pg _ P4
 ·rcases N0.mp hx with z | z
  ·exact m.ba x z y hy
  ·exact h x z y hy
def Gh{l:List Nat}(L:Lin n lt)(so:l.Pairwise λx y=>lt x y=true)(hz:l[i]? = some z)(h:lt x z=true):∀y∈l.drop i,lt x y=true:=by
 intro y hy;obtain⟨hi,e⟩:=N7.mp hz;rw[Qi hi,e] at hy;have sd:=so.sublist (P3 i l);rw[Qi hi,e] at sd;rcases N4.mp hy with q | q
 ·rw[q];exact h
 ·exact L.tr _ _ _ h (List.rel_of_pairwise_cons sd q)
end
section
variable {lt:Nat->Nat->Bool}{n:Nat}{la lb lo:List Nat}{i j k:Nat}
def Be{l:List Nat}(h:i<l.length):l[i]? = some (l.getD i 0):=by
 rw[Ob,Nq h];rfl
def Bp{l:List Nat}(h:i<l.length):l.getD i 0∈l:=Pr (Be h)
def De{l:List Nat}(h:i<l.length):(l.drop i).take 1=[l.getD i 0]:=by
 rw[Qi h];show [l[i]]=_;rw[Ob,Nq h];rfl
def J8{l:List Nat}(h:i+1=l.length):l.drop i=[l.getD (l.length - 1) 0]:=by
 have hi:i<l.length:=by lia
 rw[Qi hi,Pt (by lia),show l.length - 1=i by lia,Ob,Nq hi];rfl
def C3{l:List Nat}(h:x∈(l.drop i).take k):∃t,t<k/\i+t<l.length/\x=l.getD (i+t) 0:=by
 obtain⟨t,ht,e⟩:=Pm.mp h;rw[N8,O4] at ht;rw[Rr,Sl] at e;have hl:i+t<l.length:=by lia
 exact⟨t,by lia,hl,by rw[<-e,Ob,Nq hl];rfl⟩
def Gi{l:List Nat}  (h:l.Pairwise R)(fS:a<b)(hb:b<l.length):R (l.getD a 0) (l.getD b 0):=by
 have:=Q6.mp h a b (by lia) hb fS
 rwa [show l.getD a 0=l[a] by rw[Ob,Nq (show a<l.length by lia)];rfl,show l.getD b 0=l[b] by rw[Ob,Nq hb];rfl]
def MI.nil:MI lt la lb [] 0 0:=⟨.nil,.nil,λ_ h=>(nomatch h),λ_ h=>(nomatch h)⟩
end
structure SG (c7 st:br):Prop where
 k:kindOf st=kindOf c7
 a:bB st=bB c7
 p:bf st=bf c7
 f:bI st=bI c7
def RsI {τ : Type} (it:Array ay) (lt:Nat->Nat->Bool) (la lb:List Nat) (c:Option (Array ay)×Array ay×Nat×Nat × τ):Prop:=∃res,c.1=some (Fk it res)/\Mrg lt la lb res
def NxI {τ : Type} (it:Array ay) (lt:Nat->Nat->Bool) (la lb:List Nat) (m:Nat) (c:Option (Array ay)×Array ay×Nat×Nat × τ):Prop:=∃lo i j t,c=(none,Fk it lo,i,j,t)/\MI lt la lb lo i j/\i+1<la.length/\j<lb.length/\m<i+j
def StI {τ : Type} (it:Array ay) (lt:Nat->Nat->Bool) (la lb:List Nat) (m:Nat) (r:ForInStep (Option (Array ay)×Array ay×Nat×Nat × τ)):Prop:=match r with
 | .done c=>RsI it lt la lb c\/NxI it lt la lb m c
 | .yield c=>NxI it lt la lb m c
def StO {τ : Type} (it:Array ay) (lt:Nat->Nat->Bool) (la lb:List Nat) (m:Nat) (r:ForInStep (Option (Array ay)×Array ay×Nat×Nat × τ)):Prop:=match r with
 | .done c=>RsI it lt la lb c
 | .yield c=>NxI it lt la lb m c
def NxI.mono{τ : Type}    {c:Option (Array ay)×Array ay×Nat×Nat × τ}(h:NxI it lt la lb m c)(hm:m'<=m):NxI it lt la lb m' c:=by
 obtain⟨lo,i,j,t,e,a1,a2,a3,a4⟩:=h;exact⟨lo,i,j,t,e,a1,a2,a3,by lia⟩
section
variable {prog:ar}{w:aA}{A:av}{E:Zb}{s:ah}{κ : cn}{it:Array ay}{n:Nat}{lt:Nat->Nat->Bool}{la lb lo:List Nat}{i j k g p q:Nat}{c7 st:br}
def wS_setG(sg:SG c7 st)(h:∀aD,SG c7 aD->Q () aD):f8 (ag prog w) A E s (Dt g) Q st:=by
 rw[Xoz];exact bY (h _ ⟨sg.k,sg.a,sg.p,sg.f⟩)
def Xo2(hc:CmS prog w A s κ it n lt)(T:Two lt n la lb)(top:∀x∈lb,lt x (la.getD (la.length - 1) 0)=true)(hk:kindOf c7 = κ)(sg:SG c7 st)(m:MI lt la lb lo i j)(hi:i+1<la.length)(hj:j<lb.length)(h:∀r,StI it lt la lb (i+j) r->Q r st):f8 (ag prog w) A E s (M9 (Fk it la) (Fk it lb) g (none,Fk it lo,i,j,p,q)) Q st:=by
 unfold M9;k_in;have eW:i<la.length:=by lia
 have ea:=Be eW;have eb:=Be hj;have ma:=Bp eW;have mb:=Bp hj;refine Su (Bg eb (Su (Bg ea (Su (Hq hc (T.bn _ mb) (T.an _ ma) (sg.k.trans hk) ?_)))));k_in;cases c:lt (lb.getD j 0) (la.getD i 0) with
 | true=>
  rw[Sy rfl];refine Su (Bg eb ?_);rw[Hr,Hs,Bo];have m':=MI.chB (k:=1) T m (by rw[De hj];intro x hx y hy;rw[Nv.mp hx];exact Gh T.L T.sa ea c y hy);rw[De hj] at m';by_cases e:(j+1==lb.length)=true
  ·rw[Sy e];have e':j+1=lb.length:=by simpa using e
   exact Sv (h _ (.inl ⟨_,rfl,m'.endB T (by rw[Pt (by lia:lb.length<=j+1)];intro _ _ y hy;cases hy)⟩))
  ·rw[Sx e];have e':j+1≠lb.length:=by simpa using e
   by_cases e2:q+1 ≥ g
   ·rw[Sy e2];exact Sv (h _ (.inr ⟨_,_,_,_,rfl,m',hi,by lia,by lia⟩))
   ·rw[Sx e2];exact Sv (h _ ⟨_,_,_,_,rfl,m',hi,by lia,by lia⟩)
 | false=>
  gn_on;have c':=T.flip ma mb c;refine Su (Bg ea ?_);rw[Hr,J7,Bo];have m':=MI.chA (k:=1) T m (by rw[De eW];intro x hx y hy;rw[Nv.mp hx];exact Gh T.L T.sb eb c' y hy);rw[De eW] at m';by_cases e:(i+1+1==la.length)=true
  ·rw[Sy e];have e':i+1+1=la.length:=by simpa using e
   exact Sv (h _ (.inl ⟨_,rfl,m'.endA T (by rw[J8 e'];intro x hx y hy;rw[Nv.mp hy];exact top x (O7 hx))⟩))
  ·rw[Sx e];have e':i+1+1≠la.length:=by simpa using e
   by_cases e2:p+1 ≥ g
   ·rw[Sy e2];exact Sv (h _ (.inr ⟨_,_,_,_,rfl,m',by lia,hj,by lia⟩))
   ·rw[Sx e2];exact Sv (h _ ⟨_,_,_,_,rfl,m',by lia,hj,by lia⟩)
def Xft(T:Two lt n la lb)(top:∀x∈lb,lt x (la.getD (la.length - 1) 0)=true)(m:MI lt la lb lo i j)(hi:i+1<la.length)(hj:j<lb.length)(c:lt (la.getD i 0) (lb.getD j 0)=true)  (hm:m0<=i+j)(h:∀r,StI it lt la lb m0 r->Q r st):f8 (ag prog w) A E s (gV3 (Fk it la) (Fk it lb) (Fk it lo) i j g p q) Q st:=by
 unfold gV3;have eW:i<la.length:=by lia
 refine Su (Bg (Be eW) ?_);rw[Hr,J7,Bo];have m':=MI.chA (k:=1) T m (by rw[De eW];intro x hx y hy;rw[Nv.mp hx];exact Gh T.L T.sb (Be hj) c y hy);rw[De eW] at m';by_cases e:(i+1+1==la.length)=true
 ·rw[Sy e];have e':i+1+1=la.length:=by simpa using e
  exact Sv (h _ (.inl ⟨_,rfl,m'.endA T (by rw[J8 e'];intro x hx y hy;rw[Nv.mp hy];exact top x (O7 hx))⟩))
 ·rw[Sx e];have e':i+1+1≠la.length:=by simpa using e
  by_cases e2:(decide (p<7)&&decide (q<7))=true
  ·rw[Sy e2];exact Sv (h _ (.inr ⟨_,_,_,_,rfl,m',by lia,hj,by lia⟩))
  ·rw[Sx e2];exact Sv (h _ ⟨_,_,_,_,rfl,m',by lia,hj,by lia⟩)
def Xfu(hc:CmS prog w A s κ it n lt)(T:Two lt n la lb)(top:∀x∈lb,lt x (la.getD (la.length - 1) 0)=true)(hk:kindOf c7 = κ)(sg:SG c7 st)(m:MI lt la lb lo i j)(hi:i+1<la.length)(hj:j<lb.length)(c:lt (lb.getD j 0) (la.getD i 0)=true)  (hm:m0<=i+j)(h:∀r,StI it lt la lb m0 r->Q r st):f8 (ag prog w) A E s (gV2 (Fk it la) (Fk it lb) (Fk it lo) i j g p q) Q st:=by
 unfold gV2;have eW:i<la.length:=by lia
 have ea:=Be eW;have ma:=Bp eW;refine Su (Bg (Be hj) ?_);rw[Hr,Hs,Bo];have m':=MI.chB (k:=1) T m (by rw[De hj];intro x hx y hy;rw[Nv.mp hx];exact Gh T.L T.sa ea c y hy);rw[De hj] at m';by_cases e:(j+1==lb.length)=true
 ·rw[Sy e];have e':j+1=lb.length:=by simpa using e
  exact Sv (h _ (.inl ⟨_,rfl,m'.endB T (by rw[Pt (by lia:lb.length<=j+1)];intro _ _ y hy;cases hy)⟩))
 rw[Sx e];have e':j+1≠lb.length:=by simpa using e
 refine Su (Bg ea ?_);refine Su (Gg (P:=λt=>lt (lb.getD (j+1+t) 0) (la.getD i 0)) ⟨λa b fS hb e=>?_⟩ (by lia) (λt ht Q' hq=>?_) λr hr jc lV=>?_)
 ·exact T.L.tr _ _ _ (Gi T.sb (by lia) (by lia)) e
 ·exact Gf hc (Be (by lia)) (T.bn _ (Bp (by lia))) (T.an _ ma) (sg.k.trans hk) (left:=true) hq
 k_in;by_cases kY:r > 0
 ·rw[Sy kY,Du,Dd,Hs,show j+1+r - (j+1)=r by lia];have m2:=MI.chB (k:=r) T m' (λx hx y hy=>by
   obtain⟨t,h1,h2,rfl⟩:=C3 hx;exact Gh T.L T.sa ea (jc t h1) y hy)
  by_cases e3:(j+1+r==lb.length)=true
  ·rw[Sy e3];have mV:j+1+r=lb.length:=by simpa using e3
   exact Sv (h _ (.inl ⟨_,rfl,m2.endB T (by rw[Pt (by lia:lb.length<=j+1+r)];intro _ _ y hy;cases hy)⟩))
  ·rw[Sx e3];have mV:j+1+r≠lb.length:=by simpa using e3
   have zV:j+1+r<lb.length:=by lia
   exact Xft T top m2 hi zV (T.flip ma (Bp zV) (lV r (Nr _) (by lia))) (by lia) h
 ·rw[Sx kY];have hz:=lV 0 (by lia) (by lia);exact Xft T top m' hi (by lia) (T.flip ma (Bp (by lia)) hz) (by lia) h
def Xfv(hc:CmS prog w A s κ it n lt)(T:Two lt n la lb)(top:∀x∈lb,lt x (la.getD (la.length - 1) 0)=true)(hk:kindOf c7 = κ)(sg:SG c7 st)(m:MI lt la lb lo i j)(hi:i+1<la.length)(hj:j<lb.length)(h:∀r aD,SG c7 aD->StI it lt la lb (i+j) r->Q r aD):f8 (ag prog w) A E s (gV1 (Fk it la) (Fk it lb) (Fk it lo) i j g p q) Q st:=by
 unfold gV1;refine Su (wS_setG sg λaD cP=>?_);have eb:=Be hj;have mb:=Bp hj;refine Su (Bg eb ?_);rw[Bo];refine Su (Gg (P:=λt => !lt (lb.getD j 0) (la.getD (i+t) 0)) ⟨λa b fS hb e=>?_⟩ (by lia) (λt ht Q' hq=>?_) λr hr jc lV=>?_)
 ·have e:lt (lb.getD j 0) (la.getD (i+b) 0)=false:=by simpa using e
  cases q:lt (lb.getD j 0) (la.getD (i+a) 0) with
  | false=>rfl
  | true=>
   have:=T.L.tr _ _ _ q (Gi T.sa (show i+a<i+b by lia) (by lia));rw[this] at e;cases e
 ·exact Gf hc (Be (by lia)) (T.an _ (Bp (by lia))) (T.bn _ mb) (cP.k.trans hk) (left:=false) hq
 k_in;have tp:=top _ mb;have cH:r<la.length - i:=by
  rcases Nat.lt_or_ge r (la.length - i) with z | z
  ·exact z
  ·have:=jc (la.length - 1 - i) (by lia);rw[show i+(la.length - 1 - i)=la.length - 1 by lia,tp] at this;cases this
 have lW:lt (lb.getD j 0) (la.getD (i+r) 0)=true:=by
  have:=lV r (Nr _) cH;simpa using this
 by_cases kY:r > 0
 ·rw[Sy kY,Du,Dd,Hs,J7,show i+r - i=r by lia];have m2:=MI.chA (k:=r) T m (λx hx y hy=>by
   obtain⟨t,h1,h2,rfl⟩:=C3 hx;have:=jc t h1;exact Gh T.L T.sb eb (T.flip (Bp h2) mb (by simpa using this)) y hy)
  by_cases e3:(i+r+1==la.length)=true
  ·rw[Sy e3];have mV:i+r+1=la.length:=by simpa using e3
   exact Sv (h _ _ cP (.inl ⟨_,rfl,m2.endA T (by rw[J8 mV];intro x hx y hy;rw[Nv.mp hy];exact top x (O7 hx))⟩))
  ·rw[Sx e3];have mV:i+r+1≠la.length:=by simpa using e3
   have e4:¬(i+r==la.length)=true:=by
    simp
    lia
   rw[Sx e4];exact Xfu hc T top hk cP m2 (by lia) hj lW (by lia) λr' pH=>h r' _ cP pH
 ·rw[Sx kY];have:r=0:=by lia
  subst this;exact Xfu hc T top hk cP m hi hj lW (Nr _) λr' pH=>h r' _ cP pH
def Xo3(hc:CmS prog w A s κ it n lt)(T:Two lt n la lb)(top:∀x∈lb,lt x (la.getD (la.length - 1) 0)=true)(hk:kindOf c7 = κ)(sg:SG c7 st)(m:MI lt la lb lo i j)(hi:i+1<la.length)(hj:j<lb.length)(h:∀r aD,SG c7 aD->StO it lt la lb (i+j) r->Q r aD):f8 (ag prog w) A E s (J6 (Fk it la) (Fk it lb) (none,Fk it lo,i,j,g)) Q st:=by
 unfold J6;k_in;rw[Bo,Bo];refine Su (bi (aK (I:=λx c aD=>SG c7 aD/\∃jV i' j' t,c=(none,Fk it jV,i',j',t)/\MI lt la lb jV i' j'/\i'+1<la.length/\j'<lb.length/\i+j+x<=i'+j') (Q:=λc aD=>SG c7 aD/\(RsI it lt la lb c\/NxI it lt la lb (i+j) c)) ?step ?fin ⟨sg,lo,i,j,_,rfl,m,hi,hj,Nr _⟩) ?post)
 case fin=>
  rintro c aD ⟨cP,jV,i',j',t,rfl,m',h1,h2,h3⟩;exact⟨cP,.inr ⟨jV,i',j',t,rfl,m',h1,h2,by lia⟩⟩
 case step=>
  rintro x c aD _ hx ⟨cP,jV,i',j',t,rfl,m',h1,h2,h3⟩;refine Xo2 hc T top hk cP m' h1 h2 λr hr=>?_;cases r with
  | done c=>
   rcases hr with z | z
   ·exact⟨cP,.inl z⟩
   ·exact⟨cP,.inr (z.mono (by lia))⟩
  | yield c=>
   obtain⟨sX,i2,j2,t2,e,a1,a2,a3,a4⟩:=hr;exact⟨cP,sX,i2,j2,t2,e,a1,a2,a3,by lia⟩
 case post=>
  rintro ⟨r,o1,i1,j1,p1,q1⟩ jt ⟨sY,z⟩;rcases z with ⟨res,e,mr⟩ | ⟨lo1,i2,j2,t,e,m1,a1,a2,a3⟩
  ·obtain rfl:r=some (Fk it res):=e;exact Sv (h _ _ sY ⟨res,rfl,mr⟩)
  ·cases e;k_in;refine Su (dc (aT ⟨rfl,?_⟩));refine Su (bi (aK (I:=λx c aD=>SG c7 aD/\NxI it lt la lb (i+j) c) (Q:=λc aD=>SG c7 aD/\(RsI it lt la lb c\/NxI it lt la lb (i+j) c)) ?step ?fin ⟨sY,lo1,i1,j1,_,rfl,m1,a1,a2,a3⟩) ?post)
   case fin=>exact λc aD z=>⟨z.1,.inr z.2⟩
   case step=>
    rintro x c aD _ hx ⟨cP,jV,i',j',⟨g',p',q'⟩,rfl,m',h1,h2,h3⟩;k_in;have go:∀(r:ForInStep MTG) cq,SG c7 cq->StI it lt la lb (i'+j') r->(match r with
     | .done c'=>SG c7 cq/\(RsI it lt la lb c'\/NxI it lt la lb (i+j) c')
     | .yield c'=>SG c7 cq/\NxI it lt la lb (i+j) c'):=λr cq eC hr=>by
     cases r with
     | done c=>
      rcases hr with z | z
      ·exact⟨eC,.inl z⟩
      ·exact⟨eC,.inr (z.mono (by lia))⟩
     | yield c=>exact⟨eC,NxI.mono hr (by lia)⟩
    by_cases e:g' > 1
    ·rw[Sy e];exact Xfv hc T top hk cP m' h1 h2 λr cq s1 s2=>by have:=go r cq s1 s2;cases r<;>exact this
    ·rw[Sx e];exact Xfv hc T top hk cP m' h1 h2 λr cq s1 s2=>by have:=go r cq s1 s2;cases r<;>exact this
   case post=>
    rintro ⟨r,o2,i2,j2,g2,p2,q2⟩ eE ⟨mW,z⟩;rcases z with ⟨res,e,mr⟩ | ⟨sX,i3,j3,t,e,m2,b1,b2,b3⟩
    ·obtain rfl:r=some (Fk it res):=e;exact Sv (h _ _ mW ⟨res,rfl,mr⟩)
    ·cases e;k_in;exact Su (wS_setG mW λqy wY=>Sv (h _ _ wY ⟨sX,i2,j2,_,rfl,m2,b1,b2,b3⟩))
def Xo4(hc:CmS prog w A s κ it n lt)(T:Two lt n la lb)(ha:1<=la.length)(hb:1<=lb.length)(h0:∀y∈la,lt (lb.getD 0 0) y=true)(top:∀x∈lb,lt x (la.getD (la.length - 1) 0)=true)
  (hk:kindOf st = κ) (h:∀res aD,Mrg lt la lb res->SG st aD->Q (Fk it res) aD):f8 (ag prog w) A E s (mLo (Fk it la) (Fk it lb)) Q st:=by
 rw[Xo1];have pI:SG st st:=⟨rfl,rfl,rfl,rfl⟩;refine Su (dc (aT ⟨rfl,?_⟩));have dJ:0<lb.length:=hb;refine Su (Bg (Be dJ) ?_);have e0:(#[kas_item it (lb.getD 0 0)]:Array ay)=Fk it [lb.getD 0 0]:=rfl;rw[e0,Hs,J7,Bo,Bo];have m1:=MI.chB (k:=1) T (MI.nil (lt:=lt) (la:=la) (lb:=lb)) (by rw[De dJ];intro x hx y hy;rw[Nv.mp hx];exact h0 y (O7 hy));rw[De dJ,Qj,P0] at m1;by_cases e1:(1==lb.length)=true
 ·rw[Sy e1];have pJ:1=lb.length:=by simpa using e1
  exact Sv (h _ _ (m1.endB T (by rw[Pt (by lia:lb.length<=1)];intro _ _ y hy;cases hy)) pI)
 rw[Sx e1];have pJ:1≠lb.length:=by simpa using e1
 by_cases e2:(0+1==la.length)=true
 ·rw[Sy e2];have uN:0+1=la.length:=by simpa using e2
  exact Sv (h _ _ (m1.endA T (by rw[J8 uN];intro x hx y hy;rw[Nv.mp hy];exact top x (O7 hx))) pI)
 rw[Sx e2];have uN:0+1≠la.length:=by simpa using e2
 refine Su (bQ ?_);refine Su (bi (aK (I:=λx c aD=>SG st aD/\NxI it lt la lb x c) (Q:=λc aD=>SG st aD/\RsI it lt la lb c) ?step ?fin ⟨pI,_,_,_,_,rfl,m1,by lia,by lia,by lia⟩) ?post)
 case fin=>
  rintro c aD ⟨cP,jV,i',j',t,rfl,m',h1,h2,h3⟩
  lia
 case step=>
  rintro x c aD _ hx ⟨cP,jV,i',j',t,rfl,m',h1,h2,h3⟩;refine Xo3 hc T top hk cP m' h1 h2 λr cq eC hr=>?_;cases r with
  | done c=>exact⟨eC,hr⟩
  | yield c=>exact⟨eC,NxI.mono hr (by lia)⟩
 case post=>
  rintro ⟨r,o2,i2,j2,g2⟩ eE ⟨mW,res,e,mr⟩;obtain rfl:r=some (Fk it res):=e;exact Sv (h res _ mr mW)
end
open PySem.W (kas_item kas_cmp)
def mHi:Array ay->Array ay->SM (Array ay):=sortPriv% PySem.Builtin.mergeHi
def dnH (a b o:Array ay) (i j:Nat):Array ay:=a.extract 0 i++b.extract 0 j++o.reverse
def fsH (a b o:Array ay) (i j:Nat):Array ay:=b.extract 0 j++a.extract 0 i++o.reverse
abbrev HTO:=Option (Array ay)×Nat×Nat×Array ay×Nat
abbrev HTI:=Option (Array ay)×Nat×Nat×Array ay×Nat×Nat
abbrev HTG:=Option (Array ay)×Nat×Nat×Array ay×Nat×Nat×Nat
def Na (a b:Array ay) (g:Nat) (d:HTI):SM (ForInStep HTI):=do
 let y <-elem' b (d.2.2.1 - 1)
 let x <-elem' a (d.2.1 - 1)
 let r <-lt' y x
 match r with
 | some c=>
  if c=true then do
   let x <-elem' a (d.2.1 - 1)
   if (d.2.1 - 1==0)=true then pure (.done (some (dnH a b (d.2.2.2.1.push x) (d.2.1 - 1) d.2.2.1),d.2.1 - 1,d.2.2.1,d.2.2.2.1.push x,d.2.2.2.2.1+1,0))
   else if d.2.2.2.2.1+1 ≥ g then pure (.done (none,d.2.1 - 1,d.2.2.1,d.2.2.2.1.push x,d.2.2.2.2.1+1,0))
   else pure (.yield (none,d.2.1 - 1,d.2.2.1,d.2.2.2.1.push x,d.2.2.2.2.1+1,0))
  else do
   let y <-elem' b (d.2.2.1 - 1)
   if (d.2.2.1 - 1==1)=true then pure (.done (some (fsH a b (d.2.2.2.1.push y) d.2.1 (d.2.2.1 - 1)),d.2.1,d.2.2.1 - 1,d.2.2.2.1.push y,0,d.2.2.2.2.2+1))
   else if d.2.2.2.2.2+1 ≥ g then pure (.done (none,d.2.1,d.2.2.1 - 1,d.2.2.2.1.push y,0,d.2.2.2.2.2+1))
   else pure (.yield (none,d.2.1,d.2.2.1 - 1,d.2.2.2.1.push y,0,d.2.2.2.2.2+1))
 | _=>pure (.done (some (dnH a b d.2.2.2.1 d.2.1 d.2.2.1),d.2.1,d.2.2.1,d.2.2.2.1,d.2.2.2.2.1,d.2.2.2.2.2))
def gH3 (a b o:Array ay) (i j g p q:Nat):SM (ForInStep HTG):=do
 let x <-elem' a (i - 1)
 if (i - 1==0)=true then pure (.done (some (dnH a b (o.push x) (i - 1) j),i - 1,j,o.push x,g,p,q))
 else if (decide (p<7)&&decide (q<7))=true then pure (.done (none,i - 1,j,o.push x,g,p,q))
 else pure (.yield (none,i - 1,j,o.push x,g,p,q))
def gH2 (a b o:Array ay) (i j g p q:Nat):SM (ForInStep HTG):=do
 let y <-elem' b (j - 1)
 if (j - 1==1)=true then pure (.done (some (fsH a b (o.push y) i (j - 1)),i,j - 1,o.push y,g,p,q))
 else do
  let x <-elem' a (i - 1)
  let r <-C2 true x b 0 (j - 1) (j - 1 - 1)
  match r with
  | some r=>
   if j - 1 - r > 0 then
    if (r==1)=true then pure (.done (some (fsH a b (o.push y++(b.extract r (j - 1)).reverse) i r),i,r,o.push y++(b.extract r (j - 1)).reverse,g,p,j - 1 - r))
    else if (r==0)=true then pure (.done (some (dnH a b (o.push y++(b.extract r (j - 1)).reverse) i r),i,r,o.push y++(b.extract r (j - 1)).reverse,g,p,j - 1 - r))
    else gH3 a b (o.push y++(b.extract r (j - 1)).reverse) i r g p (j - 1 - r)
   else gH3 a b (o.push y) i (j - 1) g p (j - 1 - r)
  | _=>pure (.done (some (dnH a b (o.push y) i (j - 1)),i,j - 1,o.push y,g,p,q))
def gH1 (a b o:Array ay) (i j g p q:Nat):SM (ForInStep HTG):=do
 Dt g
 let y <-elem' b (j - 1)
 let r <-C2 false y a 0 i (i - 1)
 match r with
 | some r=>
  if i - r > 0 then
   if (r==0)=true then pure (.done (some (dnH a b (o++(a.extract r i).reverse) r j),r,j,o++(a.extract r i).reverse,g,i - r,q))
   else gH2 a b (o++(a.extract r i).reverse) r j g (i - r) q
  else gH2 a b o i j g (i - r) q
 | _=>pure (.done (some (dnH a b o i j),i,j,o,g,p,q))
def J9 (a b:Array ay) (c:HTO):SM (ForInStep HTO):=do
 let d <-forIn [0:a.size+b.size] ((none,c.2.1,c.2.2.1,c.2.2.2.1,0,0):HTI) λ_ d=>Na a b c.2.2.2.2 d
 match d.1 with
 | some r=>pure (.done (some r,d.2.1,d.2.2.1,d.2.2.2.1,c.2.2.2.2))
 | none=>do
  liftM (rule "list.sort.gallop")
  let e <-forIn [0:a.size+b.size] ((none,d.2.1,d.2.2.1,d.2.2.2.1,c.2.2.2.2+1,d.2.2.2.2.1,d.2.2.2.2.2):HTG) λ_ e=>
   if e.2.2.2.2.1 > 1 then gH1 a b e.2.2.2.1 e.2.1 e.2.2.1 (e.2.2.2.2.1 - 1) e.2.2.2.2.2.1 e.2.2.2.2.2.2 else gH1 a b e.2.2.2.1 e.2.1 e.2.2.1 e.2.2.2.2.1 e.2.2.2.2.2.1 e.2.2.2.2.2.2
  match e.1 with
  | some r=>pure (.done (some r,e.2.1,e.2.2.1,e.2.2.2.1,e.2.2.2.2.1))
  | none=>do
   Dt (e.2.2.2.2.1+1)
   pure (.yield (none,e.2.1,e.2.2.1,e.2.2.2.1,e.2.2.2.2.1+1))
def Xo5(a b:Array ay):mHi a b=(do
  liftM (rule "list.sort.merge-hi")
  let mut i:=a.size - 1
  let mut j:=b.size
  let x0 <-elem' a i
  let mut o:Array ay := #[x0]
  if i==0 then return dnH a b o i j
  if j==1 then return fsH a b o i j
  let mut g:=dW (<-get)
  for _ in [0:a.size+b.size] do
   let mut p:=0
   let mut q:=0
   for _ in [0:a.size+b.size] do
    let some c <-lt' (<-elem' b (j - 1)) (<-elem' a (i - 1)) | return dnH a b o i j
    if c then
     i:=i - 1
     o:=o.push (<-elem' a i)
     p:=p+1
     q:=0
     if i==0 then return dnH a b o i j
     if p ≥ g then break
    else
     j:=j - 1
     o:=o.push (<-elem' b j)
     q:=q+1
     p:=0
     if j==1 then return fsH a b o i j
     if q ≥ g then break
   liftM (rule "list.sort.gallop")
   g:=g+1
   for _ in [0:a.size+b.size] do
    if g > 1 then g:=g - 1
    Dt g
    let some r <-C2 false (<-elem' b (j - 1)) a 0 i (i - 1) | return dnH a b o i j
    let k:=i - r
    p:=k
    if k > 0 then
     o:=o++(a.extract r i).reverse
     i:=r
     if i==0 then return dnH a b o i j
    j:=j - 1
    o:=o.push (<-elem' b j)
    if j==1 then return fsH a b o i j
    let some r <-C2 true (<-elem' a (i - 1)) b 0 j (j - 1) | return dnH a b o i j
    let k:=j - r
    q:=k
    if k > 0 then
     o:=o++(b.extract r j).reverse
     j:=r
     if j==1 then return fsH a b o i j
     if j==0 then return dnH a b o i j
    i:=i - 1
    o:=o.push (<-elem' a i)
    if i==0 then return dnH a b o i j
    if p<7&&q<7 then break
   g:=g+1
   Dt g
  unsupported "internal:list.sort.merge-bound"):=rfl
def Xo6(a b:Array ay):mHi a b=(do
  liftM (rule "list.sort.merge-hi")
  let x0 <-elem' a (a.size - 1)
  if (a.size - 1==0)=true then pure (dnH a b #[x0] (a.size - 1) b.size)
  else if (b.size==1)=true then pure (fsH a b #[x0] (a.size - 1) b.size)
  else do
   let st <-get
   let c <-forIn [0:a.size+b.size] ((none,a.size - 1,b.size, #[x0],dW st):HTO) λ_ c=>J9 a b c
   match c.1 with
   | some r=>pure r
   | none=>unsupported "internal:list.sort.merge-bound"):=by
 rw[Xo5];congr 1;funext _u;k_in;congr 1;funext x0;congr 1;congr 1;congr 1;funext st;congr 1
 ·congr 1;funext _x c;unfold J9;congr 1;funext d;obtain⟨r,d⟩:=d;cases r with
  | some r=>rfl
  | none=>
   k_in;congr 1;funext _v;congr 1;funext e;obtain⟨r,e⟩:=e;cases r<;>rfl
 ·funext c;obtain⟨r,c⟩:=c;cases r<;>rfl
open PySem.W (kas_item kas_cmp)
section
variable {it:Array ay}
def Nb(l):(Fk it l).reverse=Fk it l.reverse:=by
 unfold Fk;rw[List.reverse_toArray,List.map_reverse]
def Ka(l)(j):(Fk it l).extract 0 j=Fk it (l.take j):=by
 rw[Du,Qs,Sc]
def Xfw(l lo)(r i):Fk it lo.reverse++((Fk it l).extract r i).reverse=Fk it (((l.take i).drop r)++lo).reverse:=by
 rw[Du,Nb,Dd,List.reverse_append,Rt]
def Kb(lo)(x):(Fk it lo.reverse).push (kas_item it x)=Fk it (x::lo).reverse:=by
 rw[Hr,Si]
def Ht(la lb lo)(i j):dnH (Fk it la) (Fk it lb) (Fk it lo.reverse) i j=Fk it (la.take i++lb.take j++lo):=by
 unfold dnH;rw[Ka,Ka,Nb,List.reverse_reverse,Dd,Dd]
def Kc(la lb lo)(i j):fsH (Fk it la) (Fk it lb) (Fk it lo.reverse) i j=Fk it (lb.take j++la.take i++lo):=by
 unfold fsH;rw[Ka,Ka,Nb,List.reverse_reverse,Dd,Dd]
end
structure MJ (lt:Nat->Nat->Bool) (la lb lo:List Nat) (i j:Nat):Prop where
 so:lo.Pairwise λx y=>lt x y=true
 pm:lo.Perm (la.drop i++lb.drop j)
 ba:∀x∈la.take i,∀y∈lo,lt x y=true
 bb:∀x∈lb.take j,∀y∈lo,lt x y=true
section
variable {lt:Nat->Nat->Bool}{n:Nat}{la lb lo:List Nat}{i j k r:Nat}
def Kd{l:List Nat}(h:r<=i):l.take i=l.take r++(l.take i).drop r:=by
 have:=Ol r (l.take i);rw[List.take_take,P8 h] at this;exact this.symm
def Xfx{l:List Nat}(h:r<=i)(hi:i<=l.length):l.drop r=(l.take i).drop r++l.drop i:=by
 have e:=Ol i l;have:=congrArg (List.drop r) e;rw[List.drop_append_of_le_length (by rw[N8];lia)] at this;exact this.symm
def MJ.chA(T:Two lt n la lb)(m:MJ lt la lb lo i j)(hr:r<=i)(hi:i<=la.length)(h:∀x∈lb.take j,∀y∈(la.take i).drop r,lt x y=true):MJ lt la lb ((la.take i).drop r++lo) r j:=by
 have sd:=T.sa.sublist (Pe i la);rw[Kd hr] at sd;obtain⟨s1,s2,s3⟩:=Om.mp sd;refine⟨Om.mpr ⟨s2,m.so,λx hx y hy=>m.ba x (O7 hx) y hy⟩,?_,λx hx y hy=>?_,λx hx y hy=>?_⟩
 ·rw[Xfx hr hi,Oi];exact Pg _ m.pm
 ·rcases N0.mp hy with z | z
  ·exact s3 x hx y z
  ·exact m.ba x (by rw[Kd hr];exact Pl _ hx) y z
 ·rcases N0.mp hy with z | z
  ·exact h x hx y z
  ·exact m.bb x hx y z
def MJ.chB(T:Two lt n la lb)(m:MJ lt la lb lo i j)(hr:r<=j)(hj:j<=lb.length)(h:∀x∈la.take i,∀y∈(lb.take j).drop r,lt x y=true):MJ lt la lb ((lb.take j).drop r++lo) i r:=by
 have sd:=T.sb.sublist (Pe j lb);rw[Kd hr] at sd;obtain⟨s1,s2,s3⟩:=Om.mp sd;refine⟨Om.mpr ⟨s2,m.so,λx hx y hy=>m.bb x (O7 hx) y hy⟩,?_,λx hx y hy=>?_,λx hx y hy=>?_⟩
 ·rw[Xfx hr hj];refine(Pg _ m.pm).trans ?_;rw[<-Oi,<-Oi];exact P4.append_right _
 ·rcases N0.mp hy with z | z
  ·exact h x hx y z
  ·exact m.ba x hx y z
 ·rcases N0.mp hy with z | z
  ·exact s3 x hx y z
  ·exact m.bb x (by rw[Kd hr];exact Pl _ hx) y z
def Xfy(h:lo.Perm (la.drop i++lb.drop j)):(la.take i++lb.take j++lo).Perm (la++lb):=by
 refine(Pg _ h).trans ?_;have e:la++lb=la.take i++(la.drop i++(lb.take j++lb.drop j)):=by rw[Ol,<-Oi,Ol]
 rw[e,Oi];refine Pg _ ?_;rw[<-Oi,<-Oi];exact P4.append_right _
def MJ.endD(T:Two lt n la lb)(m:MJ lt la lb lo i j)(h:∀x∈la.take i,∀y∈lb.take j,lt x y=true):Mrg lt la lb (la.take i++lb.take j++lo):=by
 refine⟨Xfy m.pm,Om.mpr ⟨Om.mpr ⟨T.sa.sublist (Pe ..),T.sb.sublist (Pe ..),h⟩,m.so,λx hx y hy=>?_⟩⟩;rcases N0.mp hx with z | z
 ·exact m.ba x z y hy
 ·exact m.bb x z y hy
def MJ.endF(T:Two lt n la lb)(m:MJ lt la lb lo i j)(h:∀x∈lb.take j,∀y∈la.take i,lt x y=true):Mrg lt la lb (lb.take j++la.take i++lo):=by
 refine⟨?_,Om.mpr ⟨Om.mpr ⟨T.sb.sublist (Pe ..),T.sa.sublist (Pe ..),h⟩,m.so,λx hx y hy=>?_⟩⟩
 ·refine List.Perm.trans ?_ (Xfy m.pm);exact P4.append_right _
 ·rcases N0.mp hx with z | z
  ·exact m.bb x z y hy
  ·exact m.ba x z y hy
def Hu{l:List Nat}(L:Lin n lt)(so:l.Pairwise λx y=>lt x y=true)(hi:1<=i)(hl:i<=l.length)(h:lt (l.getD (i - 1) 0) x=true):∀y∈l.take i,lt y x=true:=by
 intro y hy;obtain⟨t,ht,e⟩:=Pm.mp hy;rw[N8] at ht;rw[Rr] at e;have GW:t<l.length:=by lia
 have ey:y=l.getD t 0:=by rw[<-e,Ob,Nq GW];rfl
 by_cases z:t=i - 1
 ·rw[ey,z];exact h
 ·rw[ey];exact L.tr _ _ _ (Gi so (by lia) (by lia)) h
def Dv{l:List Nat}(h1:1<=i)(h:i<=l.length):(l.take i).drop (i - 1)=[l.getD (i - 1) 0]:=by
 rw[Rt,show i - (i - 1)=1 by lia];exact De (by lia)
def Nc{l:List Nat}(h:x∈(l.take i).drop r)(hi:i<=l.length):∃t,r<=t/\t<i/\x=l.getD t 0:=by
 rw[Rt] at h;obtain⟨t,h1,h2,e⟩:=C3 h;exact⟨r+t,by lia,by lia,e⟩
def Fr{l:List Nat}(h:x∈l.take i)(hi:i<=l.length):∃t,t<i/\x=l.getD t 0:=by
 obtain⟨t,_,h2,e⟩:=Nc (r:=0) (by rw[Qs];exact h) hi;exact⟨t,h2,e⟩
end
def RsH {τ : Type} (it:Array ay) (lt:Nat->Nat->Bool) (la lb:List Nat) (c:Option (Array ay) × τ):Prop:=∃res,c.1=some (Fk it res)/\Mrg lt la lb res
def NxH {τ : Type} (it:Array ay) (lt:Nat->Nat->Bool) (la lb:List Nat) (m:Nat) (c:Option (Array ay)×Nat×Nat×Array ay × τ):Prop:=∃lo i j t,c=(none,i,j,Fk it lo.reverse,t)/\MJ lt la lb lo i j/\1<=i/\2<=j/\i<=la.length/\j<=lb.length/\i+j<m
def StH {τ : Type} (it:Array ay) (lt:Nat->Nat->Bool) (la lb:List Nat) (m:Nat) (r:ForInStep (Option (Array ay)×Nat×Nat×Array ay × τ)):Prop:=match r with
 | .done c=>RsH it lt la lb c\/NxH it lt la lb m c
 | .yield c=>NxH it lt la lb m c
def SuH {τ : Type} (it:Array ay) (lt:Nat->Nat->Bool) (la lb:List Nat) (m:Nat) (r:ForInStep (Option (Array ay)×Nat×Nat×Array ay × τ)):Prop:=match r with
 | .done c=>RsH it lt la lb c
 | .yield c=>NxH it lt la lb m c
def NxH.mono{τ : Type}    {c:Option (Array ay)×Nat×Nat×Array ay × τ}(h:NxH it lt la lb m c)(hm:m<=m'):NxH it lt la lb m' c:=by
 obtain⟨lo,i,j,t,e,a1,a2,a3,a4,a5,a6⟩:=h;exact⟨lo,i,j,t,e,a1,a2,a3,a4,a5,by lia⟩
section
variable {prog:ar}{w:aA}{A:av}{E:Zb}{s:ah}{κ : cn}{it:Array ay}{n:Nat}{lt:Nat->Nat->Bool}{la lb lo:List Nat}{i j k g p q:Nat}{c7 st:br}
def Xo7(hc:CmS prog w A s κ it n lt)(T:Two lt n la lb)(h8:∀y∈la,lt (lb.getD 0 0) y=true)(hk:kindOf c7 = κ)(sg:SG c7 st)(m:MJ lt la lb lo i j)(hi:1<=i)(hj:2<=j)(ha:i<=la.length)(hb:j<=lb.length)(h:∀r,StH it lt la lb (i+j) r->Q r st):f8 (ag prog w) A E s (Na (Fk it la) (Fk it lb) g (none,i,j,Fk it lo.reverse,p,q)) Q st:=by
 unfold Na;k_in;have ea:=Be (show i - 1<la.length by lia);have eb:=Be (show j - 1<lb.length by lia);have ma:=Bp (show i - 1<la.length by lia);have mb:=Bp (show j - 1<lb.length by lia);refine Su (Bg eb (Su (Bg ea (Su (Hq hc (T.bn _ mb) (T.an _ ma) (sg.k.trans hk) ?_)))));k_in;cases c:lt (lb.getD (j - 1) 0) (la.getD (i - 1) 0) with
 | true=>
  rw[Sy rfl];refine Su (Bg ea ?_);rw[Kb,Ht];have m':=MJ.chA (r:=i - 1) T m (by lia) ha (by rw[Dv hi ha];intro x hx y hy;rw[Nv.mp hy];exact Hu T.L T.sb (by lia) hb c x hx);rw[Dv hi ha] at m';by_cases e:(i - 1==0)=true
  ·rw[Sy e];have e':i - 1=0:=by simpa using e
   exact Sv (h _ (.inl ⟨_,rfl,m'.endD T (by rw[e'];intro _ hx;simp at hx)⟩))
  ·rw[Sx e];have e':i - 1≠0:=by simpa using e
   by_cases e2:p+1 ≥ g
   ·rw[Sy e2];exact Sv (h _ (.inr ⟨_,_,_,_,rfl,m',by lia,hj,by lia,hb,by lia⟩))
   ·rw[Sx e2];exact Sv (h _ ⟨_,_,_,_,rfl,m',by lia,hj,by lia,hb,by lia⟩)
 | false=>
  gn_on;have c':=T.flip ma mb c;refine Su (Bg eb ?_);rw[Kb,Kc];have m':=MJ.chB (r:=j - 1) T m (by lia) hb (by rw[Dv (by lia) hb];intro x hx y hy;rw[Nv.mp hy];exact Hu T.L T.sa hi ha c' x hx);rw[Dv (by lia) hb] at m';by_cases e:(j - 1==1)=true
  ·rw[Sy e];have e':j - 1=1:=by simpa using e
   refine Sv (h _ (.inl ⟨_,rfl,m'.endF T λx hx y hy=>?_⟩));obtain⟨t,ht,rfl⟩:=Fr hx (by lia);rw[show t=0 by lia];exact h8 y (O3 hy)
  ·rw[Sx e];have e':j - 1≠1:=by simpa using e
   by_cases e2:q+1 ≥ g
   ·rw[Sy e2];exact Sv (h _ (.inr ⟨_,_,_,_,rfl,m',hi,by lia,ha,by lia,by lia⟩))
   ·rw[Sx e2];exact Sv (h _ ⟨_,_,_,_,rfl,m',hi,by lia,ha,by lia,by lia⟩)
def Xfz(T:Two lt n la lb)(m:MJ lt la lb lo i j)(hi:1<=i)(hj:2<=j)(ha:i<=la.length)(hb:j<=lb.length)(c:∀x∈lb.take j,lt x (la.getD (i - 1) 0)=true)  (hm:i+j<=m0)(h:∀r,StH it lt la lb m0 r->Q r st):f8 (ag prog w) A E s (gH3 (Fk it la) (Fk it lb) (Fk it lo.reverse) i j g p q) Q st:=by
 unfold gH3;refine Su (Bg (Be (show i - 1<la.length by lia)) ?_);rw[Kb,Ht];have m':=MJ.chA (r:=i - 1) T m (by lia) ha (by rw[Dv hi ha];intro x hx y hy;rw[Nv.mp hy];exact c x hx);rw[Dv hi ha] at m';by_cases e:(i - 1==0)=true
 ·rw[Sy e];have e':i - 1=0:=by simpa using e
  exact Sv (h _ (.inl ⟨_,rfl,m'.endD T (by rw[e'];intro _ hx;simp at hx)⟩))
 ·rw[Sx e];have e':i - 1≠0:=by simpa using e
  by_cases e2:(decide (p<7)&&decide (q<7))=true
  ·rw[Sy e2];exact Sv (h _ (.inr ⟨_,_,_,_,rfl,m',by lia,hj,by lia,hb,by lia⟩))
  ·rw[Sx e2];exact Sv (h _ ⟨_,_,_,_,rfl,m',by lia,hj,by lia,hb,by lia⟩)
def Xf0(hc:CmS prog w A s κ it n lt)(T:Two lt n la lb)(h8:∀y∈la,lt (lb.getD 0 0) y=true)(hk:kindOf c7 = κ)(sg:SG c7 st)(m:MJ lt la lb lo i j)(hi:1<=i)(hj:2<=j)(ha:i<=la.length)(hb:j<=lb.length)(c:lt (la.getD (i - 1) 0) (lb.getD (j - 1) 0)=true)  (hm:i+j<=m0)(h:∀r,StH it lt la lb m0 r->Q r st):f8 (ag prog w) A E s (gH2 (Fk it la) (Fk it lb) (Fk it lo.reverse) i j g p q) Q st:=by
 unfold gH2;have ea:=Be (show i - 1<la.length by lia);have ma:=Bp (show i - 1<la.length by lia);refine Su (Bg (Be (show j - 1<lb.length by lia)) ?_);rw[Kb,Kc];have m':=MJ.chB (r:=j - 1) T m (by lia) hb (by rw[Dv (by lia) hb];intro x hx y hy;rw[Nv.mp hy];exact Hu T.L T.sa hi ha c x hx);rw[Dv (by lia) hb] at m';by_cases e:(j - 1==1)=true
 ·rw[Sy e];have e':j - 1=1:=by simpa using e
  refine Sv (h _ (.inl ⟨_,rfl,m'.endF T λx hx y hy=>?_⟩));obtain⟨t,ht,rfl⟩:=Fr hx (by lia);rw[show t=0 by lia];exact h8 y (O3 hy)
 rw[Sx e];have e':j - 1≠1:=by simpa using e
 refine Su (Bg ea ?_);refine Su (Gg (P:=λt=>lt (lb.getD t 0) (la.getD (i - 1) 0)) ⟨λa b fS dJ e=>?_⟩ (by lia) (λt ht Q' hq=>?_) λr hr jc lV=>?_)
 ·exact T.L.tr _ _ _ (Gi T.sb fS (by lia)) e
 ·rw[P0];exact Gf hc (Be (by lia)) (T.bn _ (Bp (by lia))) (T.an _ ma) (sg.k.trans hk) (left:=true) hq
 k_in;have below:∀z≤r,∀x∈lb.take z,lt x (la.getD (i - 1) 0)=true:=λz hz x hx=>by
  obtain⟨t,ht,rfl⟩:=Fr hx (by lia);exact jc t (by lia)
 by_cases kY:j - 1 - r > 0
 ·rw[Sy kY,Xfw,Ht,Kc];have m2:=MJ.chB (r:=r) T m' hr (by lia) (λx hx y hy=>by
   obtain⟨t,h1,h2,rfl⟩:=Nc hy (by lia);exact Hu T.L T.sa hi ha (T.flip ma (Bp (by lia)) (lV t h1 h2)) x hx)
  by_cases e3:(r==1)=true
  ·rw[Sy e3];have mV:r=1:=by simpa using e3
   refine Sv (h _ (.inl ⟨_,rfl,m2.endF T λx hx y hy=>?_⟩));obtain⟨t,ht,rfl⟩:=Fr hx (by lia);rw[show t=0 by lia];exact h8 y (O3 hy)
  ·rw[Sx e3];have mV:r≠1:=by simpa using e3
   by_cases e4:(r==0)=true
   ·rw[Sy e4];have zW:r=0:=by simpa using e4
    exact Sv (h _ (.inl ⟨_,rfl,m2.endD T (by rw[zW];intro _ _ y hy;simp at hy)⟩))
   ·rw[Sx e4];have zW:r≠0:=by simpa using e4
    exact Xfz T m2 hi (by lia) ha (by lia) (below r (Nr _)) (by lia) h
 ·rw[Sx kY];exact Xfz T m' hi (by lia) ha (by lia) (below (j - 1) (by lia)) (by lia) h
def Xf1(hc:CmS prog w A s κ it n lt)(T:Two lt n la lb)(h8:∀y∈la,lt (lb.getD 0 0) y=true)(hk:kindOf c7 = κ)(sg:SG c7 st)(m:MJ lt la lb lo i j)(hi:1<=i)(hj:2<=j)(ha:i<=la.length)(hb:j<=lb.length)(h:∀r aD,SG c7 aD->StH it lt la lb (i+j) r->Q r aD):f8 (ag prog w) A E s (gH1 (Fk it la) (Fk it lb) (Fk it lo.reverse) i j g p q) Q st:=by
 unfold gH1;refine Su (wS_setG sg λaD cP=>?_);have eb:=Be (show j - 1<lb.length by lia);have mb:=Bp (show j - 1<lb.length by lia);refine Su (Bg eb ?_);refine Su (Gg (P:=λt => !lt (lb.getD (j - 1) 0) (la.getD t 0)) ⟨λa b fS dJ e=>?_⟩ (by lia) (λt ht Q' hq=>?_) λr hr jc lV=>?_)
 ·have e:lt (lb.getD (j - 1) 0) (la.getD b 0)=false:=by simpa using e
  cases q:lt (lb.getD (j - 1) 0) (la.getD a 0) with
  | false=>rfl
  | true=>
   have:=T.L.tr _ _ _ q (Gi T.sa fS (by lia));rw[this] at e;cases e
 ·rw[P0];exact Gf hc (Be (by lia)) (T.an _ (Bp (by lia))) (T.bn _ mb) (cP.k.trans hk) (left:=false) hq
 k_in;have gf:1<=r->lt (la.getD (r - 1) 0) (lb.getD (j - 1) 0)=true:=λh1=>by
  have:=jc (r - 1) (by lia);exact T.flip (Bp (by lia)) mb (by simpa using this)
 by_cases kY:i - r > 0
 ·rw[Sy kY,Xfw,Ht];have m2:=MJ.chA (r:=r) T m hr ha (λx hx y hy=>by
   obtain⟨t,h1,h2,rfl⟩:=Nc hy (by lia);have:=lV t h1 h2;exact Hu T.L T.sb (by lia) hb (by simpa using this) x hx)
  by_cases e3:(r==0)=true
  ·rw[Sy e3];have mV:r=0:=by simpa using e3
   exact Sv (h _ _ cP (.inl ⟨_,rfl,m2.endD T (by rw[mV];intro _ hx;simp at hx)⟩))
  ·rw[Sx e3];have mV:r≠0:=by simpa using e3
   exact Xf0 hc T h8 hk cP m2 (by lia) hj (by lia) hb (gf (by lia)) (by lia) λr' pH=>h r' _ cP pH
 ·rw[Sx kY];have:r=i:=by lia
  subst this;exact Xf0 hc T h8 hk cP m hi hj ha hb (gf hi) (Nr _) λr' pH=>h r' _ cP pH
def Xo8(hc:CmS prog w A s κ it n lt)(T:Two lt n la lb)(h8:∀y∈la,lt (lb.getD 0 0) y=true)(hk:kindOf c7 = κ)(sg:SG c7 st)(m:MJ lt la lb lo i j)(hi:1<=i)(hj:2<=j)(ha:i<=la.length)(hb:j<=lb.length)(h:∀r aD,SG c7 aD->SuH it lt la lb (i+j) r->Q r aD):f8 (ag prog w) A E s (J9 (Fk it la) (Fk it lb) (none,i,j,Fk it lo.reverse,g)) Q st:=by
 unfold J9;k_in;rw[Bo,Bo];refine Su (bi (aK (I:=λx c aD=>SG c7 aD/\NxH it lt la lb (i+j+1 - x) c) (Q:=λc aD=>SG c7 aD/\(RsH it lt la lb c\/NxH it lt la lb (i+j) c)) ?step ?fin ⟨sg,lo,i,j,_,rfl,m,hi,hj,ha,hb,by lia⟩) ?post)
 case fin=>
  rintro c aD ⟨cP,z⟩;exact⟨cP,.inr (z.mono (by lia))⟩
 case step=>
  rintro x c aD _ hx ⟨cP,jV,i',j',t,rfl,m',h1,h2,h3,h4,h5⟩;refine Xo7 hc T h8 hk cP m' h1 h2 h3 h4 λr hr=>?_;cases r with
  | done c=>
   rcases hr with z | z
   ·exact⟨cP,.inl z⟩
   ·exact⟨cP,.inr (z.mono (by lia))⟩
  | yield c=>exact⟨cP,NxH.mono hr (by lia)⟩
 case post=>
  rintro ⟨r,i1,j1,o1,p1,q1⟩ jt ⟨sY,z⟩;rcases z with ⟨res,e,mr⟩ | ⟨lo1,i2,j2,t,e,m1,a1,a2,a3,a4,a5⟩
  ·obtain rfl:r=some (Fk it res):=e;exact Sv (h _ _ sY ⟨res,rfl,mr⟩)
  ·cases e;k_in;refine Su (dc (aT ⟨rfl,?_⟩));refine Su (bi (aK (I:=λx c aD=>SG c7 aD/\NxH it lt la lb (i+j) c) (Q:=λc aD=>SG c7 aD/\(RsH it lt la lb c\/NxH it lt la lb (i+j) c)) ?step ?fin ⟨sY,lo1,i1,j1,_,rfl,m1,a1,a2,a3,a4,a5⟩) ?post)
   case fin=>exact λc aD z=>⟨z.1,.inr z.2⟩
   case step=>
    rintro x c aD _ hx ⟨cP,jV,i',j',⟨g',p',q'⟩,rfl,m',h1,h2,h3,h4,h5⟩;k_in;have go:∀(r:ForInStep HTG) cq,SG c7 cq->StH it lt la lb (i'+j') r->(match r with
     | .done c'=>SG c7 cq/\(RsH it lt la lb c'\/NxH it lt la lb (i+j) c')
     | .yield c'=>SG c7 cq/\NxH it lt la lb (i+j) c'):=λr cq eC hr=>by
     cases r with
     | done c=>
      rcases hr with z | z
      ·exact⟨eC,.inl z⟩
      ·exact⟨eC,.inr (z.mono (by lia))⟩
     | yield c=>exact⟨eC,NxH.mono hr (by lia)⟩
    by_cases e:g' > 1
    ·rw[Sy e];exact Xf1 hc T h8 hk cP m' h1 h2 h3 h4 λr cq s1 s2=>by have:=go r cq s1 s2;cases r<;>exact this
    ·rw[Sx e];exact Xf1 hc T h8 hk cP m' h1 h2 h3 h4 λr cq s1 s2=>by have:=go r cq s1 s2;cases r<;>exact this
   case post=>
    rintro ⟨r,i2,j2,o2,g2,p2,q2⟩ eE ⟨mW,z⟩;rcases z with ⟨res,e,mr⟩ | ⟨sX,i3,j3,t,e,m2,b1,b2,b3,b4,b5⟩
    ·obtain rfl:r=some (Fk it res):=e;exact Sv (h _ _ mW ⟨res,rfl,mr⟩)
    ·cases e;k_in;exact Su (wS_setG mW λqy wY=>Sv (h _ _ wY ⟨sX,i2,j2,_,rfl,m2,b1,b2,b3,b4,b5⟩))
def Xo9(hc:CmS prog w A s κ it n lt)(T:Two lt n la lb)(ha:1<=la.length)(hb:1<=lb.length)(h8:∀y∈la,lt (lb.getD 0 0) y=true)(top:∀x∈lb,lt x (la.getD (la.length - 1) 0)=true)
  (hk:kindOf st = κ) (h:∀res aD,Mrg lt la lb res->SG st aD->Q (Fk it res) aD):f8 (ag prog w) A E s (mHi (Fk it la) (Fk it lb)) Q st:=by
 rw[Xo6];have pI:SG st st:=⟨rfl,rfl,rfl,rfl⟩;refine Su (dc (aT ⟨rfl,?_⟩));rw[Bo,Bo];refine Su (Bg (Be (show la.length - 1<la.length by lia)) ?_);have e0:(#[kas_item it (la.getD (la.length - 1) 0)]:Array ay)=Fk it [la.getD (la.length - 1) 0].reverse:=rfl;rw[e0,Ht,Kc];have mn:MJ lt la lb [] la.length lb.length:=⟨.nil,by rw[Pt (Nr _),Pt (Nr _)];exact .nil,λ_ _ _ h=>(nomatch h),λ_ _ _ h=>(nomatch h)⟩;have m1:=MJ.chA (r:=la.length - 1) T mn (by lia) (Nr _) (by rw[Dv ha (Nr _)];intro x hx y hy;rw[Nv.mp hy];exact top x (O3 hx));rw[Dv ha (Nr _),Oy] at m1;by_cases e1:(la.length - 1==0)=true
 ·rw[Sy e1];have pJ:la.length - 1=0:=by simpa using e1
  exact Sv (h _ _ (m1.endD T (by rw[pJ];intro _ hx;simp at hx)) pI)
 rw[Sx e1];have pJ:la.length - 1≠0:=by simpa using e1
 by_cases e2:(lb.length==1)=true
 ·rw[Sy e2];have uN:lb.length=1:=by simpa using e2
  refine Sv (h _ _ (m1.endF T λx hx y hy=>?_) pI);obtain⟨t,ht,rfl⟩:=Fr hx (Nr _);rw[show t=0 by lia];exact h8 y (O3 hy)
 rw[Sx e2];have uN:lb.length≠1:=by simpa using e2
 refine Su (bQ ?_);refine Su (bi (aK (I:=λx c aD=>SG st aD/\NxH it lt la lb (la.length+lb.length - x) c) (Q:=λc aD=>SG st aD/\RsH it lt la lb c) ?step ?fin ⟨pI,_,_,_,_,rfl,m1,by lia,by lia,by lia,by lia,by lia⟩) ?post)
 case fin=>
  rintro c aD ⟨cP,jV,i',j',t,rfl,m',h1,h2,h3,h4,h5⟩
  lia
 case step=>
  rintro x c aD _ hx ⟨cP,jV,i',j',t,rfl,m',h1,h2,h3,h4,h5⟩;refine Xo8 hc T h8 hk cP m' h1 h2 h3 h4 λr cq eC hr=>?_;cases r with
  | done c=>exact⟨eC,hr⟩
  | yield c=>exact⟨eC,NxH.mono hr (by lia)⟩
 case post=>
  rintro ⟨r,o2,i2,j2,g2⟩ eE ⟨mW,res,e,mr⟩;obtain rfl:r=some (Fk it res):=e;exact Sv (h res _ mr mW)
end
open PySem.W (kas_item kas_cmp kas_swaps_map)
def SoL (lt:Nat->Nat->Bool) (l:List Nat) (u v:Nat):Prop:=∀i j,u<=i->i<j->j<v->lt (l.getD i 0) (l.getD j 0)=true
def DeL (lt:Nat->Nat->Bool) (l:List Nat) (u v:Nat):Prop:=∀i j,u<=i->i<j->j<v->lt (l.getD j 0) (l.getD i 0)=true
structure SA (κ : cn) (it:Array ay) (pd:Array (Nat×Nat×Nat)) (l:List Nat) (st:br):Prop where
 k:kindOf st = κ
 a:bB st=Fk it l
 f:bI st=none
 p:bf st=pd
section
variable {κ : cn}{it:Array ay}{pd:Array (Nat×Nat×Nat)}{l:List Nat}{st:br}
def Gj:Fk it l=l.toArray.map (kas_item it):=by
 unfold Fk;rw[List.map_toArray]
def Hv(l:List Nat)(k):l.getD k 0=(l.toArray[k]?).getD 0:=by
 rw[Qg,Ob]
def Xf2(p:Array Nat)(k):p.toList.getD k 0=(p[k]?).getD 0:=by
 rw[Ob,Qz]
def Xpa(bH:SA κ it pd l st){i j}(hj:j<=l.length):∃l',SA κ it pd l' (j9 st (mirror (bB st) i j ((j - i) / 2)))/\l'.Perm l/\∀k,l'.getD k 0=if i<=k/\k<j then l.getD (i+j - 1 - k) 0 else l.getD k 0:=by
 refine⟨(mirror l.toArray i j ((j - i) / 2)).toList,⟨bH.k,?_,bH.f,bH.p⟩,?_,λk=>?_⟩
 ·show mirror (bB st) i j ((j - i) / 2)=_;rw[bH.a,Gj,Gj];exact kas_swaps_map (kas_item it) (λk=>i+k) (λk=>j - 1 - k) _ l.toArray
 ·have:=(zw l.toArray i j ((j - i) / 2)).toList;simpa using this
 ·rw[Xf2,lR (by simpa using hj)];split<;>rw[Hv]
def Xpb(bH:SA κ it pd l st){k d}(hk:k<l.length)(hd:d<=k):∃l',SA κ it pd l' (j9 st (bubble (bB st) k (k - d)))/\l'.Perm l/\∀i,l'.getD i 0=if i=d then l.getD k 0 else if d<i/\i<=k then l.getD (i - 1) 0 else l.getD i 0:=by
 refine⟨(bubble l.toArray k (k - d)).toList,⟨bH.k,?_,bH.f,bH.p⟩,?_,λi=>?_⟩
 ·show bubble (bB st) k (k - d)=_;rw[bH.a,Gj,Gj];exact kas_swaps_map (kas_item it) (λi=>k - i) (λi=>k - i - 1) _ l.toArray
 ·have:=(kT l.toArray k (k - d)).toList;simpa using this
 ·rw[Xf2,qO (by simpa using hk) _ (by lia),show k - (k - d)=d by lia];split
  ·rw[Hv]
  ·split<;>rw[Hv]
end
section
variable {prog:ar}{w:aA}{A:av}{E:Zb}{s:ah}{κ : cn}{it:Array ay}{n:Nat}{lt:Nat->Nat->Bool}{pd:Array (Nat×Nat×Nat)}{l:List Nat}{st:br}
structure Al (n:Nat) (l:List Nat):Prop where
 pm:l.Perm (List.range n)
def Al.len(h:Al n l):l.length=n:=by rw[h.pm.length_eq,Pk]
def Al.ltn(h:Al n l)(hi:i<n):l.getD i 0<n:=O6.mp (h.pm.mem_iff.mp (Bp (by rw[h.len];exact hi)))
def Al.nd(h:Al n l):l.Nodup:=h.pm.nodup_iff.mpr List.nodup_range
def Al.ne(h:Al n l)(hi:i<n)(hj:j<n)(ne:i≠j):l.getD i 0≠l.getD j 0:=λe=>by
 have hl:=h.len;have e1:l.getD i 0=l[i]'(by lia):=by rw[Ob,Nq (by lia)];rfl
 have e2:l.getD j 0=l[j]'(by lia):=by rw[Ob,Nq (by lia)];rfl
 rw[e1,e2] at e;exact ne ((Ru h.nd).mp e)
def Al.flip(L:Lin n lt)(h:Al n l)(hi:i<n)(hj:j<n)(ne:i≠j)(e:lt (l.getD i 0) (l.getD j 0)=false):lt (l.getD j 0) (l.getD i 0)=true:=by
 rcases L.tot _ _ (h.ltn hi) (h.ltn hj) (h.ne hi hj ne) with z | z
 ·rw[z] at e;cases e
 ·exact z
def Gk(hc:CmS prog w A s κ it n lt)(bH:SA κ it pd l st)(al:Al n l)  (hi:i<n)(hj:j<n)(h:Q (some (lt (l.getD i 0) (l.getD j 0))) st):f8 (ag prog w) A E s (ltAt' i j) Q st:=by
 rw[ltAt'_eq];refine Su (bQ ?_)
 show f8 _ _ _ _ (do  let x <-elem' (bB st) i;let y <-elem' (bB st) j;lt' x y) Q st;rw[bH.a];have hl:=al.len;exact Su (Bg (Be (by lia)) (Su (Bg (Be (by lia)) (Hq hc (al.ltn hi) (al.ltn hj) bH.k h))))
def Xf3(L:Lin n lt){u v}(so:SoL lt l u v)(mI:u<v)(h:lt (l.getD (v - 1) 0) (l.getD v 0)=true):SoL lt l u (v+1):=λi j h1 h2 h3=>by
 by_cases e:j<v
 ·exact so i j h1 h2 e
 ·have:j=v:=by lia
  subst this;by_cases z:i=j - 1
  ·rw[z];exact h
  ·exact L.tr _ _ _ (so i (j - 1) h1 (by lia) (by lia)) h
def Xf4(L:Lin n lt){u v}(so:DeL lt l u v)(mI:u<v)(h:lt (l.getD v 0) (l.getD (v - 1) 0)=true):DeL lt l u (v+1):=λi j h1 h2 h3=>by
 by_cases e:j<v
 ·exact so i j h1 h2 e
 ·have:j=v:=by lia
  subst this;by_cases z:i=j - 1
  ·rw[z];exact h
  ·exact L.tr _ _ _ h (so i (j - 1) h1 (by lia) (by lia))
def Xf5(hc:CmS prog w A s κ it n lt)(bH:SA κ it pd l st)(al:Al n l){lo r}(hr:1<=r)(hn:lo+r=n)(h:∀m l' aD,SA κ it pd l' aD->l'.Perm l->1<=m->m<=r->SoL lt l' lo (lo+m)->(∀i,i<lo->l'.getD i 0=l.getD i 0)->Q (some m) aD):f8 (ag prog w) A E s (countRun' lo r) Q st:=by
 have L:=hc.L;have hl:=al.len;rw[countRun'_eq];refine Su (bi (aK (I:=λx c aD=>st=aD/\c=(none,x)/\SoL lt l lo (lo+x)) (Q:=λc aD=>st=aD/\∃m,c=(none,m)/\1<=m/\m<=r/\SoL lt l lo (lo+m)/\(m<r->lt (l.getD (lo+m) 0) (l.getD (lo+m - 1) 0)=true)) ?step ?fin ⟨rfl,rfl,λi j h1 h2 h3=>by lia⟩) ?post)
 case fin=>
  rintro c aD ⟨rfl,rfl,so⟩;exact⟨rfl,_,rfl,by lia,by lia,so,λz=>by lia⟩
 case step=>
  rintro x c aD lC hx ⟨rfl,rfl,so⟩;k_in;refine Su (Gk hc bH al (by lia) (by lia) ?_);k_in;cases e:lt (l.getD (lo+x) 0) (l.getD (lo+x - 1) 0) with
  | true=>
   rw[Sy rfl];exact Sv ⟨rfl,x,rfl,lC,by lia,so,λ_=>e⟩
  | false=>
   gn_on;exact Sv ⟨rfl,rfl,Xf3 (v:=lo+x) L so (by lia) (al.flip L (by lia) (by lia) (by lia) e)⟩
 case post=>
  rintro c aD ⟨rfl,m,rfl,m1,m2,so,nx⟩;k_in;by_cases e1:(m==r)=true
  ·rw[Sy e1];exact Sv (h m l _ bH (.refl _) m1 m2 so λ_ _=>rfl)
  rw[Sx e1];have pJ:m≠r:=by simpa using e1
  by_cases e2:m > 1
  ·rw[Sy e2];refine Su (Gk hc bH al (by lia) (by lia) ?_);k_in;rw[so lo (lo+m - 1) (Nr _) (by lia) (by lia),Sy rfl];exact Sv (h m l _ bH (.refl _) m1 m2 so λ_ _=>rfl)
  rw[Sx e2];obtain rfl:m=1:=by lia
  have nx:=nx (by lia);refine Su (dc (aT ⟨rfl,?_⟩));refine Su (bi (aK (I:=λx c aD=>st=aD/\c=(none,x,0)/\DeL lt l lo (lo+x)) (Q:=λc aD=>st=aD/\∃m,c=(none,m,0)/\2<=m/\m<=r/\DeL lt l lo (lo+m)) ?step ?fin ⟨rfl,rfl,Xf4 (v:=lo+1) L (λi j h1 h2 h3=>by lia) (by lia) nx⟩) ?post)
  case fin=>
   rintro c aD ⟨rfl,rfl,so⟩;exact⟨rfl,_,rfl,by lia,by lia,so⟩
  case step=>
   rintro x c aD lC hx ⟨rfl,rfl,so⟩;k_in;refine Su (Gk hc bH al (by lia) (by lia) ?_);k_in;cases e:lt (l.getD (lo+x) 0) (l.getD (lo+x - 1) 0) with
   | true=>
    rw[Sy rfl,Sx (by lia)];exact Sv ⟨rfl,rfl,Xf4 (v:=lo+x) L so (by lia) e⟩
   | false=>
    gn_on;refine Su (Gk hc bH al (by lia) (by lia) ?_);k_in;rw[al.flip L (by lia) (by lia) (by lia) e,Sy rfl];exact Sv ⟨rfl,x,rfl,by lia,by lia,so⟩
  case post=>
   rintro c aD ⟨rfl,m,rfl,m1,m2,de⟩;k_in;rw[Sx (by lia)];obtain⟨l',jt,iR,g1⟩:=Xpa bH (i:=lo) (j:=lo+m) (by lia);refine Su (wpS_reverse ?_);have qR:Al n l':=⟨iR.trans al.pm⟩;have h9:SoL lt l' lo (lo+m):=λi j h1 h2 h3=>by
    rw[g1,g1,Sy (by lia),Sy (by lia)];exact de _ _ (by lia) (by lia) (by lia)
   have pre:∀i,i<lo->l'.getD i 0=l.getD i 0:=λi hi=>by rw[g1,Sx (by lia)]
   refine Su (bi (aK (I:=λx c aD=>SA κ it pd l' aD/\c=(none,x)/\SoL lt l' lo (lo+x)) (Q:=λc aD=>SA κ it pd l' aD/\∃m,c=(none,m)/\1<=m/\m<=r/\SoL lt l' lo (lo+m)) ?step ?fin ⟨jt,rfl,h9⟩) ?post)
   case fin=>
    rintro c aD ⟨s1,rfl,so⟩;exact⟨s1,_,rfl,by lia,by lia,so⟩
   case step=>
    rintro x c aD lC hx ⟨s1,rfl,so⟩;k_in;refine Su (Gk hc s1 qR (by lia) (by lia) ?_);k_in;cases e:lt (l'.getD (lo+x) 0) (l'.getD (lo+x - 1) 0) with
    | true=>
     rw[Sy rfl];exact Sv ⟨s1,x,rfl,by lia,by lia,so⟩
    | false=>
     gn_on;exact Sv ⟨s1,rfl,Xf3 (v:=lo+x) L so (by lia) (qR.flip L (by lia) (by lia) (by lia) e)⟩
   case post=>
    rintro c aD ⟨s1,m',rfl,a1,a2,a3⟩;exact Sv (h m' l' _ s1 iR a1 a2 a3 pre)
def Xf6(hc:CmS prog w A s κ it n lt)(bH:SA κ it pd l st)(al:Al n l){lo m ok}(h1:1<=ok)(h2:ok<=m)(hn:lo+m<=n)(so:SoL lt l lo (lo+ok))(h:∀l' aD,SA κ it pd l' aD->l'.Perm l->SoL lt l' lo (lo+m)->(∀i,i<lo->l'.getD i 0=l.getD i 0)->Q true aD):f8 (ag prog w) A E s (binarySort' lo m ok) Q st:=by
 have L:=hc.L;have hl:=al.len;rw[binarySort'_eq];refine Su (bi (aK (I:=λx c aD=>c=(none,())/\∃l',SA κ it pd l' aD/\l'.Perm l/\SoL lt l' lo (lo+x)/\(∀i,i<lo->l'.getD i 0=l.getD i 0)) (Q:=λc aD=>c=(none,())/\∃l',SA κ it pd l' aD/\l'.Perm l/\SoL lt l' lo (lo+m)/\(∀i,i<lo->l'.getD i 0=l.getD i 0)) ?step ?fin ⟨rfl,l,bH,.refl _,by rw[show max ok 1=ok by lia];exact so,λ_ _=>rfl⟩) ?post)
 case fin=>
  rintro c aD ⟨rfl,l',s1,pm,h9,pre⟩;exact⟨rfl,l',s1,pm,by rw[show max (max ok 1) m=m by lia] at h9;exact h9,pre⟩
 case post=>
  rintro c aD ⟨rfl,l',s1,pm,h9,pre⟩;exact Sv (h l' _ s1 pm h9 pre)
 case step=>
  rintro k c aD MS hk ⟨rfl,l',s1,pm,h9,pre⟩;have qR:Al n l':=⟨pm.trans al.pm⟩;have pc:=qR.len;refine Su (bi (aK (I:=λx c cq=>aD=cq/\∃u v,c=(none,u,v)/\u<=v/\v<=k/\v - u<=k - x/\(∀i,i<u->lt (l'.getD (lo+i) 0) (l'.getD (lo+k) 0)=true)/\(∀i,v<=i->i<k->lt (l'.getD (lo+k) 0) (l'.getD (lo+i) 0)=true))
   (Q:=λc cq=>aD=cq/\∃u,c=(none,u,u)/\u<=k/\(∀i,i<u->lt (l'.getD (lo+i) 0) (l'.getD (lo+k) 0)=true)/\(∀i,u<=i->i<k->lt (l'.getD (lo+k) 0) (l'.getD (lo+i) 0)=true)) ?step ?fin ⟨rfl,0,k,rfl,by lia,by lia,by lia,λi hi=>by lia,λi h1 h2=>by lia⟩) ?post)
  case fin=>
   rintro c cq ⟨rfl,u,v,rfl,b1,b2,b3,b4,b5⟩;have:u=v:=by lia
   subst this;exact⟨rfl,u,rfl,b2,b4,b5⟩
  case step=>
   rintro x c cq _ hx ⟨rfl,u,v,rfl,b1,b2,b3,b4,b5⟩;k_in;by_cases e:u ≥ v
   ·rw[Sy e];have:u=v:=by lia
    subst this;exact Sv ⟨rfl,u,rfl,b2,b4,b5⟩
   ·rw[Sx e];refine Su (Gk hc s1 qR (by lia) (by lia) ?_);k_in;have q1:u<=(u+v) / 2:=by lia
    have q2:(u+v) / 2<v:=by lia
    generalize (u+v) / 2=md at q1 q2;cases c:lt (l'.getD (lo+k) 0) (l'.getD (lo+md) 0) with
    | true=>
     rw[Sy rfl];refine Sv ⟨rfl,u,md,rfl,q1,by lia,by lia,b4,λi z1 z2=>?_⟩;by_cases z:i=md
     ·rw[z];exact c
     ·exact L.tr _ _ _ c (h9 _ _ (by lia) (by lia) (by lia))
    | false=>
     gn_on;have c':=qR.flip L (by lia) (by lia) (by lia) c;refine Sv ⟨rfl,md+1,v,rfl,by lia,b2,by lia,λi z1=>?_,b5⟩;by_cases z:i=md
     ·rw[z];exact c'
     ·exact L.tr _ _ _ (h9 _ _ (by lia) (by lia) (by lia)) c'
  case post=>
   rintro c cq ⟨rfl,u,rfl,b2,b4,b5⟩;k_in;obtain⟨l2,s2,hJ,g2⟩:=Xpb s1 (k:=lo+k) (d:=lo+u) (by lia) (by lia);have wm:∀{Q:Unit->br->Prop},Q () (j9 aD (bubble (bB aD) (lo+k) (lo+k - (lo+u))))->f8 (ag prog w) A E s (moveDown' (lo+k) (lo+u)) Q aD:=λhq=>by
    rw[moveDown'_eq];exact bY hq
   refine Su (wm (Sv ⟨rfl,l2,s2,hJ.trans pm,λi j h1 h2 h3=>?_,λi hi=>?_⟩))
   ·rw[g2,g2];by_cases i1:i=lo+u
    ·rw[Sy i1,Sx (by lia),Sy (by lia)];have:=b5 (j - 1 - lo) (by lia) (by lia)
     rwa [show lo+(j - 1 - lo)=j - 1 by lia] at this
    ·rw[Sx i1];by_cases i2:lo+u<i/\i<=lo+k
     ·rw[Sy i2,Sx (by lia),Sy (by lia)];exact h9 _ _ (by lia) (by lia) (by lia)
     ·rw[Sx i2];by_cases j1:j=lo+u
      ·rw[Sy j1];have:=b4 (i - lo) (by lia)
       rwa [show lo+(i - lo)=i by lia] at this
      ·rw[Sx j1];by_cases j2:lo+u<j/\j<=lo+k
       ·rw[Sy j2];exact h9 _ _ (by lia) (by lia) (by lia)
       ·rw[Sx j2];exact h9 _ _ (by lia) h2 (by lia)
   ·rw[g2,Sx (by lia),Sx (by lia)];exact pre i hi
end
open PySem.W (kas_item kas_cmp kas_swaps_map)
def Gm (m:Array ay) (u:Nat) (c:Array ay):Array ay:=m.toList.zipIdx.foldl (λa z=>a.setIfInBounds (u+z.2) z.1) c
def Xf7 (c:Array ay) (u v m r:Nat):SM Bool:=do
 let z <-if m<=r then mLo (c.extract u v) (c.extract v (v+r)) else mHi (c.extract u v) (c.extract v (v+r))
 modify λs=>j9 s (Gm z u (bB s))
 return (bI (<-get)).isNone
def Xpc(i:Nat):sZ i=(do
  let s <-get
  let (some (u,m,pw),some (v,r,_)):=((bf s)[i]?,(bf s)[i+1]?) | unsupported "internal:list.sort.pending"
  set (br.mk' (kindOf s) (bB s) (((bf s).setIfInBounds i (u,m+r,pw)).eraseIdxIfInBounds (i+1)) (dW s) (bI s))
  let some k <-C2 false (<-elem' (bB s) v) (bB s) u m 0 | return false
  if m - k==0 then return true
  let some q <-C2 true (<-elem' (bB s) (u+k+(m - k) - 1)) (bB s) v r (r - 1) | return false
  if q==0 then return true
  Xf7 (bB s) (u+k) v (m - k) q):=rfl
theorem Xf8(k):∀(xs:List ay) (o:Nat) (c:Array ay) (m:Nat),k+o+xs.length<=c.size->((xs.zipIdx o).foldl (λa z=>a.setIfInBounds (k+z.2) z.1) c)[m]? = if k+o<=m/\m<k+o+xs.length then xs[m - (k+o)]? else c[m]?
 | [],o,c,m,_=>by rw[Sx (by simp)];rfl
 | x::xs,o,c,m,h=>by
  have hl:(x::xs).length=xs.length+1:=rfl;rw[List.zipIdx_cons,Qx,Xf8 k xs (o+1) _ m (by rw[Array.size_setIfInBounds];lia),Array.getElem?_setIfInBounds];by_cases h1:k+(o+1)<=m/\m<k+(o+1)+xs.length
  ·rw[Sy h1,Sy (by lia),show m - (k+o)=m - (k+(o+1))+1 by lia,List.getElem?_cons_succ]
  ·rw[Sx h1];by_cases h2:k+o=m
   ·rw[Sy h2,Sy (by lia),Sy (by lia),show m - (k+o)=0 by lia];rfl
   ·rw[Sx h2,Sx (by lia)]
def Xpd   (h:k+res.length<=l.length):Gm (Fk it res) k (Fk it l)=Fk it (l.take k++res++l.drop (k+res.length)):=by
 have e1:(Fk it res).toList=res.map (kas_item it):=by unfold Fk;rfl
 unfold Gm;rw[e1];apply Array.ext_getElem?;intro m;rw[Xf8 k _ 0 _ m (by rw[Np,Bo];lia),Np,Nat.add_zero];unfold Fk;rw[Qg,Qg,Oa,Oa,Oa];by_cases h1:k<=m/\m<k+res.length
 ·rw[Sy h1,Pj (by rw[Nx,N8];lia),Ph (by rw[N8];lia),N8,P8 (by lia)]
 ·rw[Sx h1];by_cases h2:m<k
  ·rw[Pj (by rw[Nx,N8];lia),Pj (by rw[N8];lia),Sf,Sy h2]
  ·rw[Ph (by rw[Nx,N8];lia),Nx,N8,Rj];congr 2
   lia
def Ke{lt}{l}{u v}(h:SoL lt l u v)(hv:v<=l.length):((l.take v).drop u).Pairwise λx y=>lt x y=true:=by
 rw[Q6];intro i j hi hj jU;rw[O4,N8] at hi hj;rw[Sl,Sl,Rr,Rr];have:=h (u+i) (u+j) (by lia) (by lia) (by lia)
 rwa [Ob,Ob,Nq (by lia),Nq (by lia)] at this
section
variable {prog:ar}{w:aA}{A:av}{E:Zb}{s:ah}{κ : cn}{it:Array ay}{n:Nat}{lt:Nat->Nat->Bool}{l:List Nat}{st:br}
def wS_mAt(hc:CmS prog w A s κ it n lt)  (bH:SA κ it #[(0,n1,pw),(n1,n2,0)] l st)(al:Al n l)(h1:1<=n1)(h2:1<=n2)(hn:n1+n2=n)(jA:SoL lt l 0 n1)(jB:SoL lt l n1 n)(h:∀l' aD,SA κ it #[(0,n,pw)] l' aD->l'.Perm l->SoL lt l' 0 n->Q true aD):f8 (ag prog w) A E s (sZ 0) Q st:=by
 have L:=hc.L;have hl:=al.len;rw[Xpc];refine Su (bQ ?_);rw[bH.p,bH.a];have e0:(#[(0,n1,pw),(n1,n2,0)]:Array (Nat×Nat×Nat))[0]? = some (0,n1,pw):=rfl;have e1:(#[(0,n1,pw),(n1,n2,0)]:Array (Nat×Nat×Nat))[0+1]? = some (n1,n2,0):=rfl;have ep:((#[(0,n1,pw),(n1,n2,0)]:Array (Nat×Nat×Nat)).setIfInBounds 0 (0,n1+n2,pw)).eraseIdxIfInBounds (0+1) = #[(0,n1+n2,pw)]:=by simp
 rw[e0,e1];k_in;rw[ep];clear e0 e1 ep;have s1:SA κ it #[(0,n,pw)] l (br.mk' (kindOf st) (Fk it l) #[(0,n1+n2,pw)] (dW st) (bI st)):=⟨bH.k,rfl,bH.f,by rw[<-hn]⟩;have wZ:∀{Q:PUnit->br->Prop} {x y:br},Q ⟨⟩ x->f8 (ag prog w) A E s (set x:StateT br fT PUnit) Q y:=λhq=>by
  unfold f8;rw[StateT.run_set];exact Ss ⟨rfl,hq⟩
 refine Su (wZ ?_);generalize br.mk' (kindOf st) (Fk it l) #[(0,n1+n2,pw)] (dW st) (bI st)=jt at s1;have m1:l.getD n1 0∈l:=Bp (by lia);refine Su (Bg (Be (show n1<l.length by lia)) ?_);refine Su (Gg (P:=λt => !lt (l.getD n1 0) (l.getD t 0)) ⟨λa b fS hb e=>?_⟩ (by lia) (λt ht Q' hq=>?_) λk hk jc lV=>?_)
 ·have e:lt (l.getD n1 0) (l.getD b 0)=false:=by simpa using e
  cases q:lt (l.getD n1 0) (l.getD a 0) with
  | false=>rfl
  | true=>
   have:=L.tr _ _ _ q (jA a b (Ou _) fS hb);rw[this] at e;cases e
 ·rw[P0];exact Gf hc (Be (by lia)) (al.ltn (by lia)) (al.ltn (by lia)) s1.k (left:=false) hq
 k_in;have lo1:∀t,t<k->lt (l.getD t 0) (l.getD n1 0)=true:=λt ht=>by
  have:=jc t ht;exact al.flip L (by lia) (by lia) (by lia) (by simpa using this)
 have zX:∀t,k<=t->t<n1->lt (l.getD n1 0) (l.getD t 0)=true:=λt ht iu=>by
  have:=lV t ht iu;simpa using this
 have ge:∀{x t:Nat},n1<=t->t<n->lt x (l.getD n1 0)=true->lt x (l.getD t 0)=true:=λ{x t} h1 h2 hx=>by
  by_cases z:t=n1
  ·rw[z];exact hx
  ·exact L.tr _ _ _ hx (jB n1 t (Nr _) (by lia) h2)
 by_cases e1:(n1 - k==0)=true
 ·rw[Sy e1];have pJ:n1 - k=0:=by simpa using e1
  refine Sv (h l _ s1 (.refl _) λi j a1 a2 a3=>?_);by_cases c1:j<n1
  ·exact jA i j a1 a2 c1
  ·by_cases c2:n1<=i
   ·exact jB i j c2 a2 a3
   ·exact ge (by lia) a3 (lo1 i (by lia))
 rw[Sx e1];have pJ:n1 - k≠0:=by simpa using e1
 rw[show 0+k+(n1 - k) - 1=n1 - 1 by lia,P0];refine Su (Bg (Be (show n1 - 1<l.length by lia)) ?_);refine Su (Gg (P:=λt=>lt (l.getD (n1+t) 0) (l.getD (n1 - 1) 0)) ⟨λa b fS hb e=>?_⟩ (by lia) (λt ht Q' hq=>?_) λr hr xa xb=>?_)
 ·exact L.tr _ _ _ (jB _ _ (by lia) (by lia) (by lia)) e
 ·exact Gf hc (Be (by lia)) (al.ltn (by lia)) (al.ltn (by lia)) s1.k (left:=true) hq
 k_in;have fR:∀t,r<=t->t<n2->lt (l.getD (n1 - 1) 0) (l.getD (n1+t) 0)=true:=λt a b=>al.flip L (by lia) (by lia) (by lia) (xb t a b);have le:∀{x t:Nat},t<n1->lt (l.getD (n1 - 1) 0) x=true->lt (l.getD t 0) x=true:=λ{x t} h1 hx=>by
  by_cases z:t=n1 - 1
  ·rw[z];exact hx
  ·exact L.tr _ _ _ (jA t (n1 - 1) (Ou _) (by lia) (by lia)) hx
 have r1:1<=r:=by
  rcases Nat.eq_zero_or_pos r with z | z
  ·have a:=fR 0 (by lia) (by lia);have b:=zX (n1 - 1) (by lia) (by lia);have:=L.tr _ _ _ a b;rw[L.irr] at this;cases this
  ·exact z
 rw[Sx (by simp;lia)];unfold Xf7;rw[Du,Du,show n1+r - n1=r by lia];have GX:(l.drop k).take (n1 - k)=(l.take n1).drop k:=(Rt ..).symm;have GY:(l.drop n1).take r=(l.take (n1+r)).drop n1:=by rw[Rt,show n1+r - n1=r by lia]
 have T:Two lt n ((l.drop k).take (n1 - k)) ((l.drop n1).take r):=by
  refine⟨L,λx hx=>?_,λx hx=>?_,λx hx y hy=>?_,?_,?_⟩
  ·obtain⟨t,b1,b2,rfl⟩:=C3 hx;exact al.ltn (by lia)
  ·obtain⟨t,b1,b2,rfl⟩:=C3 hx;exact al.ltn (by lia)
  ·obtain⟨t,b1,b2,rfl⟩:=C3 hx;obtain⟨t',c1,c2,rfl⟩:=C3 hy;exact al.ne (by lia) (by lia) (by lia)
  ·rw[GX];exact Ke (λi j a1 a2 a3=>jA i j (Ou _) a2 a3) (by lia)
  ·rw[GY];exact Ke (λi j a1 a2 a3=>jB i j a1 a2 (by lia)) (by lia)
 have tf:((l.drop k).take (n1 - k)).length=n1 - k:=by rw[N8,O4];lia
 have xc:((l.drop n1).take r).length=r:=by rw[N8,O4];lia
 have b0:((l.drop n1).take r).getD 0 0=l.getD n1 0:=by
  rw[Ob,Sf,Sy (by lia),Rj,<-Ob];rfl
 have a9:((l.drop k).take (n1 - k)).getD (((l.drop k).take (n1 - k)).length - 1) 0=l.getD (n1 - 1) 0:=by
  rw[tf,Ob,Sf,Sy (by lia),Rj,show k+(n1 - k - 1)=n1 - 1 by lia,<-Ob]
 have h8:∀y∈(l.drop k).take (n1 - k),lt (((l.drop n1).take r).getD 0 0) y=true:=λy hy=>by
  obtain⟨t,b1,b2,rfl⟩:=C3 hy;rw[b0];exact zX _ (by lia) (by lia)
 have top:∀x∈(l.drop n1).take r,lt x (((l.drop k).take (n1 - k)).getD (((l.drop k).take (n1 - k)).length - 1) 0)=true:=λx hx=>by
  obtain⟨t,b1,b2,rfl⟩:=C3 hx;rw[a9];exact xa t b1
 have fin:∀res aD,Mrg lt ((l.drop k).take (n1 - k)) ((l.drop n1).take r) res->SG jt aD->f8 (ag prog w) A E s (do
   modify λs=>j9 s (Gm (Fk it res) k (bB s))
   let z <-get
   pure (bI z).isNone) Q aD:=by
  intro res aD mr sg;have mX:res.length=n1 - k+r:=by rw[mr.1.length_eq,Nx,tf,xc]
  refine Su (bY (Su (bQ (Sv ?_))));have ef:bI (j9 aD (Gm (Fk it res) k (bB aD)))=none:=sg.f.trans s1.f;rw[ef];have tq:∀x∈res,(∃t,k<=t/\t<n1/\x=l.getD t 0)\/(∃t,t<r/\x=l.getD (n1+t) 0):=λx hx=>by
   rcases N0.mp (mr.1.mem_iff.mp hx) with z | z
   ·obtain⟨t,b1,b2,e⟩:=C3 z;exact .inl ⟨k+t,by lia,by lia,e⟩
   ·obtain⟨t,b1,b2,e⟩:=C3 z;exact .inr ⟨t,b1,e⟩
  refine h (l.take k++res++l.drop (k+res.length)) _ ⟨sg.k.trans s1.k,?_,ef,sg.p.trans s1.p⟩ ?_ ?_
  ·show Gm (Fk it res) k (bB aD)=_;rw[sg.a,s1.a,Xpd (by lia)]
  ·rw[show k+res.length=n1+r by lia];have e:l=l.take k++((l.drop k).take (n1 - k)++(l.drop n1).take r)++l.drop (n1+r):=by
    rw[<-Oi,<-take_split,show k+(n1 - k)=n1 by lia,<-take_split,Ol]
   refine List.Perm.trans ?_ (List.Perm.of_eq e.symm);exact(Pg _ mr.1).append_right _
  ·have pw:(l.take k++res++l.drop (k+res.length)).Pairwise λx y=>lt x y=true:=by
    refine Om.mpr ⟨Om.mpr ⟨?_,mr.2,λx hx y hy=>?_⟩,?_,λx hx y hy=>?_⟩
    ·have:=Ke (u:=0) (v:=k) (l:=l) (lt:=lt) (λi j a1 a2 a3=>jA i j a1 a2 (by lia)) (by lia)
     rwa [Qs] at this
    ·obtain⟨t,ht,rfl⟩:=Fr hx (by lia);rcases tq y hy with ⟨u,c1,c2,rfl⟩ | ⟨u,c1,rfl⟩
     ·exact jA _ _ (Ou _) (by lia) c2
     ·exact ge (by lia) (by lia) (lo1 t ht)
    ·have:=Ke (u:=k+res.length) (v:=n) (l:=l) (lt:=lt) (λi j a1 a2 a3=>jB i j (by lia) a2 a3) (by lia)
     rwa [O0 (by lia)] at this
    ·have jQ:y∈(l.drop (k+res.length)).take n:=by rw[O0 (by rw[O4];lia)];exact hy
     obtain⟨u,c1,c2,rfl⟩:=C3 jQ;have GZ:k+res.length+u=n1+(r+u):=by lia
     rw[GZ];have xf:=fR (r+u) (by lia) (by lia);rcases N0.mp hx with z | z
     ·obtain⟨t,ht,rfl⟩:=Fr z (by lia);exact ge (by lia) (by lia) (lo1 t ht)
     ·rcases tq x z with ⟨t,c1,c2,rfl⟩ | ⟨t,c1,rfl⟩
      ·exact le c2 xf
      ·exact jB _ _ (by lia) (by lia) (by lia)
   have len:(l.take k++res++l.drop (k+res.length)).length=n:=by
    rw[Nx,Nx,N8,O4]
    lia
   exact λi j a1 a2 a3=>Gi pw a2 (by lia)
 by_cases e5:n1 - k<=r
 ·rw[Sy e5];exact Su (Xo4 hc T (by lia) (by lia) h8 top s1.k λres aD mr sg=>fin res aD mr sg)
 ·rw[Sx e5];exact Su (Xo9 hc T (by lia) (by lia) h8 top s1.k λres aD mr sg=>fin res aD mr sg)
end
open PySem.W (KasT kas_item kas_cmp kas_ask kas_sort kat_run kat_snds kat_ask_eq kas_range)
section
variable {prog:ar}{w:aA}{A:av}{E:Zb}{s:ah}{κ : cn}{it:Array ay}{lt:Nat->Nat->Bool}{l:List Nat}{st:br}
def Rn (κ : cn) (it:Array ay) (lt:Nat->Nat->Bool) (l:List Nat) (st:br):Prop:=∃l',l'.Perm l/\((SA κ it #[(0,64,0)] l' st/\SoL lt l' 0 64) \/ ∃n1 n2 pw,1<=n1/\1<=n2/\n1+n2=64/\SA κ it #[(0,n1,pw),(n1,n2,0)] l' st/\SoL lt l' 0 n1/\SoL lt l' n1 64)
def Xpe(hc:CmS prog w A s κ it 64 lt)(bH:SA κ it #[] l st)(al:Al 64 l){Q}(h:∀l' aD pd,SA κ it pd l' aD->l'.Perm l->SoL lt l' 0 64->Q () aD):f8 (ag prog w) A E s MT Q st:=by
 have hl:=al.len;rw[sortRuns'_eq];refine Su (bQ ?_);have hsz:(bB st).size=64:=by rw[bH.a,Bo,hl]
 have wn:minRun' 64 64 0=32:=by
  rw[minRun'_succ,Sx (by decide)];rfl
 k_in;rw[hsz,wn];refine Su (bi (aK (I:=λx c aD=>(x=0/\c=(none,0)/\SA κ it #[] l aD)\/(x=1/\∃l' n1,c=(none,n1)/\SA κ it #[(0,n1,0)] l' aD/\l'.Perm l/\32<=n1/\n1<=64/\SoL lt l' 0 n1)\/(2<=x/\c=(none,64)/\Rn κ it lt l aD)) (Q:=λc aD=>c=(none,64)/\Rn κ it lt l aD) ?step ?fin (.inl ⟨rfl,rfl,bH⟩)) ?post)
 case fin=>
  rintro c aD (⟨z,_⟩ | ⟨z,_⟩ | ⟨_,z⟩)
  ·exact absurd z (by decide)
  ·exact absurd z (by decide)
  ·exact z
 case step=>
  rintro x c aD _ hx (⟨rfl,rfl,s0⟩ | ⟨rfl,l1,n1,rfl,s1,iR,b1,b2,jA⟩ | ⟨x2,rfl,z⟩)
  ·k_in;rw[Sx (by lia),Sc];refine Su (Xf5 hc s0 al (by lia) (by lia) λm l1 jt s1 iR m1 m2 so _=>?_);have pL:Al 64 l1:=⟨iR.trans al.pm⟩;k_in;rw[P0] at so;by_cases hm:m<32
   ·rw[Sy hm];refine Su (dc (aT ⟨rfl,?_⟩));refine Su (Xf6 hc s1 pL m1 (by lia) (by lia) (by rw[P0];exact so) λl2 eE s2 hJ jB _=>?_);gn_on;refine Su (bQ ?_);rw[s2.p];refine Su (bY (Sv (.inr (.inl ⟨rfl,l2,32,rfl,⟨s2.k,s2.a,s2.f,?_⟩,hJ.trans iR,by lia,by lia,jB⟩))));show (bf eE).push _=_;rw[s2.p];rfl
   ·rw[Sx hm];refine Su (bQ ?_);rw[s1.p];refine Su (bY (Sv (.inr (.inl ⟨rfl,l1,m,by rw[P0],⟨s1.k,s1.a,s1.f,?_⟩,iR,by lia,by lia,so⟩))));show (bf jt).push _=_;rw[s1.p];rfl
  ·k_in;by_cases e:n1 ≥ 64
   ·rw[Sy e];obtain rfl:n1=64:=by lia
    exact Sv ⟨rfl,l1,iR,.inl ⟨s1,jA⟩⟩
   rw[Sx e];have pL:Al 64 l1:=⟨iR.trans al.pm⟩;have fin:∀l2 eE,SA κ it #[(0,n1,0)] l2 eE->l2.Perm l1->SoL lt l2 n1 64->(∀i,i<n1->l2.getD i 0=l1.getD i 0)->∀pw,SA κ it #[(0,n1,pw),(n1,64 - n1,0)] l2 (mY (mY eE ((bf eE).modify ((bf eE).size - 1) λx=>(x.fst,x.2.fst,pw))) ((bf (mY eE ((bf eE).modify ((bf eE).size - 1) λx=>(x.fst,x.2.fst,pw)))).push (n1,64 - n1,0)))/\SoL lt l2 0 n1:=by
    intro l2 eE s2 hJ jB pre pw;refine⟨⟨s2.k,s2.a,s2.f,?_⟩,λi j a1 a2 a3=>?_⟩
    ·show ((bf eE).modify ((bf eE).size - 1) λx=>(x.fst,x.2.fst,pw)).push (n1,64 - n1,0)=_;rw[s2.p];simp[Array.modify,Array.modifyM]
    ·rw[pre i (by lia),pre j (by lia)];exact jA i j a1 a2 a3
   refine Su (Xf5 hc s1 pL (by lia) (by lia) λm l2 eE s2 hJ m1 m2 so pre=>?_);have tw:Al 64 l2:=⟨hJ.trans pL.pm⟩;k_in;by_cases hm:m<32
   ·rw[Sy hm];refine Su (dc (aT ⟨rfl,?_⟩));rw[show min (64 - n1) 32=64 - n1 by lia];refine Su (Xf6 hc s2 tw m1 (by lia) (by lia) so λl3 qy s3 t6 uO xg=>?_);gn_on;have t7:SoL lt l3 n1 64:=by rw[show n1+(64 - n1)=64 by lia] at uO;exact uO
    refine Su (bQ ?_);rw[s3.p];have eb:(#[(0,n1,0)]:Array (Nat×Nat×Nat)).back? = some (0,n1,0):=rfl;rw[eb];k_in;refine Su (bi (aK (I:=λx c aD=>c=(none,())/\SA κ it #[(0,n1,0)] l3 aD) (Q:=λc aD=>c=(none,())/\SA κ it #[(0,n1,0)] l3 aD) ?_ (λc aD z=>z) ⟨rfl,s3⟩) ?_)
    ·rintro x c aD _ _ ⟨rfl,q⟩;refine Su (bQ ?_);rw[q.p,Sx (by show ¬ 1 > 1;decide)];exact Sv ⟨rfl,q⟩
    ·rintro c aD ⟨rfl,q⟩;k_in;obtain⟨q1,q2⟩:=fin l3 aD q (t6.trans hJ) t7 (λi hi=>(xg i hi).trans (pre i hi)) (power' 64 (2 * 0+n1) (2 * 0+n1+n1+(64 - n1)) 64);refine Su (bY (Su (bY (Sv (.inr (.inr ⟨by lia,by rw[show n1+(64 - n1)=64 by lia],l3,((t6.trans hJ)).trans iR,.inr ⟨n1,64 - n1,_,by lia,by lia,by lia,q1,q2,t7⟩⟩))))))
   ·rw[Sx hm];obtain rfl:m=64 - n1:=by lia
    have h9:SoL lt l2 n1 64:=by rw[show n1+(64 - n1)=64 by lia] at so;exact so
    refine Su (bQ ?_);rw[s2.p];have eb:(#[(0,n1,0)]:Array (Nat×Nat×Nat)).back? = some (0,n1,0):=rfl;rw[eb];k_in;refine Su (bi (aK (I:=λx c aD=>c=(none,())/\SA κ it #[(0,n1,0)] l2 aD) (Q:=λc aD=>c=(none,())/\SA κ it #[(0,n1,0)] l2 aD) ?_ (λc aD z=>z) ⟨rfl,s2⟩) ?_)
    ·rintro x c aD _ _ ⟨rfl,q⟩;refine Su (bQ ?_);rw[q.p,Sx (by show ¬ 1 > 1;decide)];exact Sv ⟨rfl,q⟩
    ·rintro c aD ⟨rfl,q⟩;k_in;obtain⟨q1,q2⟩:=fin l2 aD q hJ h9 pre (power' 64 (2 * 0+n1) (2 * 0+n1+n1+(64 - n1)) 64);refine Su (bY (Su (bY (Sv (.inr (.inr ⟨by lia,by rw[show n1+(64 - n1)=64 by lia],l2,(hJ).trans iR,.inr ⟨n1,64 - n1,_,by lia,by lia,by lia,q1,q2,h9⟩⟩))))))
  ·k_in;rw[Sy (Nr _)];exact Sv ⟨rfl,z⟩
 case post=>
  rintro c aD ⟨rfl,l1,iR,z⟩;k_in;have pL:Al 64 l1:=⟨iR.trans al.pm⟩;refine Su (bi (aK (I:=λx c aD=>c=(none,())/\∃l2 pd,l2.Perm l/\Al 64 l2/\SA κ it pd l2 aD/\((pd.size<=1/\SoL lt l2 0 64)\/(x=0/\∃n1 n2 pw,1<=n1/\1<=n2/\n1+n2=64/\pd = #[(0,n1,pw),(n1,n2,0)]/\SoL lt l2 0 n1/\SoL lt l2 n1 64))) (Q:=λc aD=>c=(none,())/\∃l2 pd,l2.Perm l/\SA κ it pd l2 aD/\SoL lt l2 0 64) ?step ?fin ?init) ?post)
  case init=>
   rcases z with ⟨s1,so⟩ | ⟨n1,n2,pw,a1,a2,a3,s1,jA,jB⟩
   ·exact⟨rfl,l1,_,iR,pL,s1,.inl ⟨by show 1<=1;decide,so⟩⟩
   ·exact⟨rfl,l1,_,iR,pL,s1,.inr ⟨rfl,n1,n2,pw,a1,a2,a3,rfl,jA,jB⟩⟩
  case fin=>
   rintro c aD ⟨rfl,l2,pd,hJ,tw,s2,⟨_,so⟩ | ⟨e,_⟩⟩
   ·exact⟨rfl,l2,pd,hJ,s2,so⟩
   ·exact absurd e (by decide)
  case step=>
   rintro x c aD _ _ ⟨rfl,l2,pd,hJ,tw,s2,⟨e,so⟩ | ⟨rfl,n1,n2,pw,a1,a2,a3,rfl,jA,jB⟩⟩
   ·refine Su (bQ ?_);rw[s2.p,Sy e];exact Sv ⟨rfl,l2,pd,hJ,s2,so⟩
   ·refine Su (bQ ?_);rw[s2.p,Sx (by show ¬ 2<=1;decide)]
    show f8 _ _ _ _ (do
     let b <-sZ 0
     if (!b)=true then pure (ForInStep.done (some (),())) else pure (ForInStep.yield (none,()))) _ _
    refine Su (wS_mAt hc s2 tw a1 a2 a3 jA jB λl3 qy s3 t6 uO=>?_);gn_on;exact Sv ⟨rfl,l3,_,t6.trans hJ,⟨t6.trans tw.pm⟩,s3,.inl ⟨by show 1<=1;decide,uO⟩⟩
  case post=>
   rintro c aD ⟨rfl,l2,pd,hJ,s2,so⟩;exact Sv (h l2 _ pd s2 hJ so)
end
section
variable {prog:ar}{w:aA}{A:av}{E:Zb}{s:ah}{κ : cn}{ks vs:List aa}{lt:Nat->Nat->Bool}
def Xpf{Q:br->ah->Prop}(hl:ks.length=vs.length)(h2:2<=vs.length)(d0:vs.length<=64)(L:Lin vs.length lt)
  (hc:∀i j (C:Bool->ah->Prop),i<vs.length->j<vs.length->C (lt i j) s->kas_ask prog w A κ ks i j C s)
  (h:∀p aD,Gd vs.length p->Cd lt p vs.length->bB aD=p.map (kas_item (ks.toArray.zip vs.toArray))->bI aD=none->Q aD s):
  af (ag prog w) A ((MT).run (br.mk' κ (ks.toArray.zip vs.toArray) #[] 7 none)) (λr s'=>Q r.2 s') E s:=by
 by_cases e:vs.length<64
 ·exact kat_run (G:=λp s'=>s'=s/\Gd vs.length p/\Cd lt p vs.length) hl h2 e (λp aD s' _ b1 b2 ⟨e1,b3,b4⟩=>by subst e1;exact h p aD b3 b4 b1 b2)
   (Xfi (n:=vs.length) (lt:=lt) (λi j C hi hj hC=>hc i j C hi hj hC) (Ms (n:=vs.length) (by lia)) ⟨rfl,(Ms (n:=vs.length) (by lia)).run,Xon L (by lia)⟩)
 ·have uP:vs.length=64:=by lia
  have hz:(ks.toArray.zip vs.toArray).size=64:=by simp[hl,uP]
  rw[uP] at L;have cm:CmS prog w A s κ (ks.toArray.zip vs.toArray) 64 lt:=⟨L,λi j C hi hj hC=>by
   have:=hc i j C (by lia) (by lia) hC;rw[kat_ask_eq hl] at this;exact this⟩
  have ea:(ks.toArray.zip vs.toArray)=Fk (ks.toArray.zip vs.toArray) (List.range 64):=by
   have:=kas_range (ks.toArray.zip vs.toArray);rw[hz] at this;rw[Gj];exact this.symm
  have s0:SA κ (ks.toArray.zip vs.toArray) #[] (List.range 64) (br.mk' κ (ks.toArray.zip vs.toArray) #[] 7 none):=⟨rfl,ea,rfl,rfl⟩;have run:=Xpe (E:=E) (Q:=λ_ aD=>Q aD s) cm s0 ⟨.refl _⟩ λl' aD pd s1 pm so=>by
   refine h l'.toArray aD ?_ ?_ ?_ s1.f
   ·rw[uP];exact(List.perm_iff_toArray_perm).mp pm
   ·rw[uP];intro i j h1 h2;have:=so i j (Ou _) h1 h2;show lt (l'.toArray.getD i 0) (l'.toArray.getD j 0)=true;rw[Hn,Hn,<-Hv,<-Hv];exact this
   ·rw[s1.a,Gj]
  exact aF run (λr s' q=>by obtain⟨rfl,q⟩:=q;exact q) λ_ _ z=>z
end
open PySem.W (KasT kas_sort kas_ask kas_item kat_run kat_snds kat_kind KatTups)
def Ey (Ts:List (Za)) (i j:Nat):Bool:=Cq (Ts.getD i []).length (Ts.getD i []) (Ts.getD j []).length (Ts.getD j [])
def Xpg(n)(a):Cq n a n a=false:=by unfold Cq;rw[Sy rfl];exact M8 a
def Xph  (h:Cq n a m b=true) (g:Cq m b k c=true):Cq n a k c=true:=by
 unfold Cq at *;by_cases e1:n=m
 ·rw[Sy e1] at h;by_cases e2:m=k
  ·rw[Sy e2] at g;rw[Sy (e1.trans e2)];exact Xfo _ _ _ h g
  ·rw[Sx e2] at g;rw[Sx (by lia)];have:=S5 g;exact Sz (by lia)
 ·rw[Sx e1] at h;have h:=S5 h;by_cases e2:m=k
  ·rw[Sx (by lia)];exact Sz (by lia)
  ·rw[Sx e2] at g;have g:=S5 g;rw[Sx (by lia)];exact Sz (by lia)
def Xpi  (h:a≠b):Cq n a m b=true\/Cq m b n a=true:=by
 unfold Cq;by_cases e:n=m
 ·rw[Sy e,Sy e.symm];exact Xfp _ _ h
 ·rw[Sx e,Sx (Ne.symm e)];rcases Nat.lt_or_ge n m with z | z
  ·exact .inl (Sz z)
  ·exact .inr (Sz (by lia))
def linP{Ts:List (Za)}(nd:Ts.Nodup):Lin Ts.length (Ey Ts) where
 irr i:=Xpg _ _
 tr i j k:=Xph
 tot i j hi hj ne:=Xpi λe=>ne (by
  have e1:Ts.getD i []=Ts[i]:=by simp[List.getD,hi]
  have e2:Ts.getD j []=Ts[j]:=by simp[List.getD,hj]
  rw[e1,e2] at e;exact(Ru nd).mp e)
def Turns (X:Cx) (f:ae) (H:Hp) (ps:List ae) (Ts:List (Za)):Prop:=
 ∀(pins:List (ae×aM)) (Z:L2.St) (s1:ah) (H1:Hp) (i:Nat),i<ps.length->Same H H1->Inv X pins Z H1 s1 ->
  af (ag X.prog X.w) X.A.in1.in1 (call (.ref f) [.ref (ps.getD i 0)]) (λu s'=>∃t H2,u = .ref t/\Inv X pins Z H2 s'/\H2 t=some (.tup [.int (Ts.getD i []).length,.ref (ps.getD i 0)])/\Same H1 H2) (λ_ _=>False) s1
section
variable {X:Cx}{pins:List (ae×aM)}{Z:L2.St}{H:Hp}{s:ah}
def Xpj  {n:Nat} (I:Inv X pins Z H s) (ht:H t=some (.tup [.int n,.ref p])) (hp:H p=some (.tup (ss.map V.str))):Ho s.heap (.ref t) n ss:=by
 obtain⟨aB,r,⟨o,ho,hc,k,hd⟩,_⟩:=I.tuple (SqT.of (K:=X.K) ht);obtain⟨gD,r2,⟨o2,jL,gC,k2,du⟩,_⟩:=I.tuple (SqT.of (K:=X.K) hp);cases r with
 | cons r1 r'=>
  cases r' with
  | cons HF wE=>
   cases wE;obtain⟨tk,rfl⟩:∃tk,_=aa.int n tk:=r1;cases HF;exact⟨t,o,_,k,tk,.ref p,rfl,ho,hc,hd,rfl,p,o2,_,k2,rfl,jL,gC,du,by simpa using F0 r2⟩
def Xf9    {st} {out:List ae}   (I:Inv X ((D,a8 "list" #[] e1)::pins) Z H s) (hD:X.s₀.heap.objs.size<=D) (lT:∀p∈X.pn++pins,p.1≠D)
  (hk:H kS=some (.lst ks)) (ho:(bB st).map (·.2)=(out.map aa.ref).toArray) (hf:bI st=none) (hz:out.length<=64) (h:∀s',Inv X pins Z (upd (upd H kS (.lst [])) D (.lst (out.map V.ref))) s'->P (.done (.ret .none)) s'):
  af (ag X.prog X.w) A (ksk_tail D false e1 (.ref kS) st) P E s:=by
 obtain⟨z,aB,n,r,hl,e⟩:=I.lstM hk;have J:=I.lset (its':=[]) (f:=λ_ => #[]) (ys:=[]) (t':=s.toks) hk e rfl .nil (by decide);unfold ksk_tail
 try dsimp only
 rw[ho];simp only[Os,if_false];refine Sr (bU e rfl ?_ (by rw[Nt,<-hl];exact z) (Ou _));refine Sr (wpAny_letGo ?_);obtain⟨hg,_⟩:=J.pin (D,a8 "list" #[] e1) (Oo _ Ny);refine Sr (dU hg rfl ?_);refine Sr (bU hg rfl ?_ (Ou _) (by rw[Nt,Np,Sw];lia));rw[hf];simp only[bne_self_eq_false,Os,if_false];refine Ss (h _ ?_);have vr:Vals (out.map V.ref) (out.map aa.ref):=by
  clear ho hz h
  induction out with
  | nil=>exact .nil
  | cons p t ih=>exact .cons rfl ih
 exact Xox J hD lT vr (by rw[Np,Sw];lia)
def Xpk   {ks} {ps:List ae}  {aB:List aa}   (I:Inv X ((D,a8 "list" #[] e1)::pins) Z H s) (hu:A.units<bA) (hD:X.s₀.heap.objs.size<=D) (lT:∀p∈X.pn++pins,p.1≠D)
  (hk:H kS=some (.lst ks)) (aV:aB.length=ps.length) (hT:ps.length=Ts.length) (nd:Ts.Nodup) (hp:∀i,i<ps.length->Ho s.heap (aB.getD i .none) (Ts.getD i []).length (Ts.getD i [])) (d0:ps.length<=64)
  (h:∀(p:Array Nat) s',Gd ps.length p->Cd (Ey Ts) p ps.length->Inv X pins Z (upd (upd H kS (.lst [])) D (.lst ((p.toList.map λi=>ps.getD i 0).map V.ref))) s'->P (.done (.ret .none)) s'):
  af (ag X.prog X.w) A (ksk_end D false (ps.map aa.ref).toArray e1 (.ref kS) aB.toArray) P E s:=by
 have hsz:(ps.map aa.ref).toArray.size=ps.length:=by simp
 have L:=linP nd;rw[<-hT] at L;have t8:∀p:Array Nat,Gd ps.length p->(p.toList.map λi=>(ps.map aa.ref).getD i aa.none)=((p.toList.map λi=>ps.getD i 0).map aa.ref):=λp g=>by
  rw[O2];refine Pn λi hi=>?_;have eW:i<ps.length:=by
   have:=(Array.perm_iff_toList_perm.mp g).mem_iff.mp hi;simpa using this
  simp[List.getD,eW]
 unfold ksk_end
 try dsimp only
 simp only[Os,if_false];by_cases h2:(ps.map aa.ref).toArray.size<2
 ·rw[Sy h2,Sy h2];refine Sr (Ss ?_);rw[StateT.run_pure];refine Sr (Ss ?_)
  try dsimp only
  have g0:Gd ps.length (List.toArray (List.range ps.length)):=Array.Perm.refl _;refine Xf9 (st:=br.mk' general' (aB.toArray.zip (ps.map aa.ref).toArray) #[] 7 none) (out:=(List.toArray (List.range ps.length)).toList.map λi=>ps.getD i 0) I hD lT hk ?_ rfl (by simpa using d0) λs' J=>h _ s' g0 (λi j jU hj=>by lia) J;rw[<-t8 _ g0];show ((aB.toArray.zip (ps.map aa.ref).toArray).map (·.2))=_;apply Array.toList_inj.mp;simp only[Array.toList_map,List.zip_toArray];rw[List.map_snd_zip (by simp[aV])];refine Q7 (by simp) λi h1 h2=>?_;simp[List.getD] at h1 ⊢;simp[h1]
 ·rw[Sx h2,Sx h2];have fst:∀(l:List aa) (q:∀v∈l,∃n ss,Ho s.heap v n ss),∃fs,KatTups s.heap l fs/\fs.length=l.length/\∀f∈fs,∃(x:Int) (t:vw),f = .int x t:=by
   intro l
   induction l with
   | nil=>exact λ_=>⟨[],KatTups.nil,rfl,λ_ h=>by cases h⟩
   | cons v l ih=>
    intro q;obtain⟨fs,t1,t2,t3⟩:=ih λu hm=>q u (Nw _ hm);obtain⟨n,ss,a,o,xs,k,t,u,rfl,g1,g2,g3,g4,_⟩:=q v Ny;refine⟨.int n t::fs,KatTups.cons g1 g2 g3 ?_ t1,by simp[t2],λf hf=>?_⟩
    ·have:xs[0]? = xs.toList[0]?:=by simp
     rw[this,g4];rfl
    ·rcases N4.mp hf with e | e
     ·exact⟨_,_,e⟩
     ·exact t3 f e
  obtain⟨fs,t1,t2,t3⟩:=fst aB λv hv=>by
   obtain⟨i,hi,rfl⟩:=Pm.mp hv;have:=hp i (by lia);have e:aB.getD i .none=aB[i]:=by simp[List.getD,hi]
   rw[e] at this;exact⟨_,_,this⟩
  refine Sr (kat_kind (T:=.type "int") t1 (by lia) (λv hm=>?_) (by decide) ?_)
  ·obtain⟨x,t,rfl⟩:=t3 v hm;exact .now
  have eb:((aa.type "int") != aa.type "tuple")=true:=by decide
  rw[eb];refine Sr (aF (Xpf (lt:=Ey Ts) (κ:=tuples' true) (ks:=aB) (vs:=ps.map aa.ref) (Q:=λaD s'=>s'=s/\bI aD=none/\∃p,Gd ps.length p/\Cd (Ey Ts) p ps.length/\(bB aD).map (·.2)=(p.toList.map λi=>(ps.map aa.ref).getD i aa.none).toArray)
   (by simp[aV]) (by rw[Np];lia) (by rw[Np];exact d0) (by rw[Np];exact L) (λi j C hi hj hC=>?_) (λp aD g so a2 a3=>by rw[Np] at g so;exact⟨rfl,a3,p,g,so,kat_snds (by simp[aV]) a2⟩)) ?_ λ_ _ e=>e)
  ·rw[Np] at hi hj;show af _ _ (sG (tuples' true) (aB.getD i aa.none) (aB.getD j aa.none)) C _ _;exact Xow hu (hp i hi) (hp j hj) hC
  rintro ⟨⟨⟩,aD⟩ s' ⟨rfl,hf,p,g,so,ea⟩
  try dsimp only
  refine Xf9 (out:=p.toList.map λi=>ps.getD i 0) I hD lT hk (by rw[ea,t8 p g]) hf (by rw[Np,N1,g.size];exact d0) λs' J=>h p s' g so J
end
section
variable {X:Cx}{pins:List (ae×aM)}{Z:L2.St}{H:Hp}{s:ah}
def Xpl{D kS f}      (hA:A=X.A.in1.in1)(I:Inv X ((D,a8 "list" #[] e1)::pins) Z (upd H kS (.lst [])) s)(qS:H kS=none)(hu:A.units<bA)(hD:X.s₀.heap.objs.size<=D)(lT:∀p∈X.pn++pins,p.1≠D)(ph:H D=none)
  (hT:Tups H ps Ts) (nd:Ts.Nodup) (d0:ps.length<=64) (turn:Turns X f H ps Ts)
  (h:∀(p:Array Nat) (H':Hp) s',Gd ps.length p->Cd (Ey Ts) p ps.length->Same H H'->H' D=some (.lst ((p.toList.map λi=>ps.getD i 0).map V.ref))->Inv X pins Z H' s'->P (.done (.ret .none)) s'):
  af (ag X.prog X.w) A (ksk_rest D (.ref f) false (ps.map aa.ref).toArray e1 (.ref kS)) P E s:=by
 subst hA;unfold ksk_rest;refine Sr (aT ?_)
 first
  | rw[List.forIn_toArray]
  | (rw[<-Ri];simp only[List.toList_toArray])
  | rw[<-Ri]
 refine Sr (ksk_fold (λi s'=>∃(H':Hp) (ks:List V),Inv X ((D,a8 "list" #[] e1)::pins) Z H' s'/\Same H H'/\H' kS=some (.lst ks)/\ks.length=i/\∀j,j<i->∃t,ks[j]? = some (.ref t)/\H' t=some (.tup [.int (Ts.getD j []).length,.ref (ps.getD j 0)])) (ps.map aa.ref) 0 s
  ⟨_,[],I,Same.upd0 qS,Aa,rfl,λj hj=>absurd hj (Py _)⟩ ?step ?done)
 case step=>
  rintro j x s' hx ⟨H',ks,J,sm,hk,lI,lU⟩;simp only[P0] at lI lU ⊢;obtain⟨hj,ex⟩:=N7.mp hx;rw[Np] at hj;have yT:x = .ref (ps.getD j 0):=by rw[<-ex];simp[List.getD,hj]
  subst yT;refine Sr (eI (aF (turn _ Z s' H' j hj sm J) (λv mj he=>?_) λ_ _ hF=>hF.elim));obtain⟨t,H2,rfl,J2,ht,xh⟩:=he
  try dsimp only
  have xi:=xh _ _ hk;obtain⟨z,aB,n,r,hl,e⟩:=J2.lstM xi;have HG:t≠kS:=λq=>by rw[q,xi] at ht;cases ht
  refine Sr (bU e rfl ?_ (by rw[Nt,<-hl];exact z) (by rw[Array.size_push,Nt,<-hl,lI,Sw];lia));refine Ss ⟨rfl,_,ks++[.ref t],J2.lset (ys:=ks++[.ref t]) (its':=aB++[.ref t]) (t':=mj.toks) xi e (by simp) (r.append (.cons (show Ae (.ref t) (.ref t) from rfl) .nil)) (by rw[Nx,Oz,lI,Sw];lia),(sm.trans xh).upd qS,Aa,by simp[lI],λi hi=>?_⟩;by_cases q:i=j
  ·subst q;exact⟨t,by rw[Ph (by lia),lI];simp,by rw[Ab HG];exact ht⟩
  ·obtain⟨t',a1,a2⟩:=lU i (by lia);refine⟨t',by rw[Pj (by lia)];exact a1,?_⟩;rw[Ab λq=>by rw[q,hk] at a2;cases a2];exact xh _ _ a2
 case done=>
  rintro s' ⟨H',ks,J,sm,hk,lI,lU⟩;simp only[P0,Np] at lI lU
  try dsimp only
  obtain⟨z,aB,n,r,hl,e⟩:=J.lstM hk;refine Sr (jz e rfl ?_);have lB:=hT.same sm;have MU:kS≠D:=λq=>by
   obtain⟨_,hn,_⟩:=J.pin (D,a8 "list" #[] e1) (Oo _ Ny);have hn:H' D=none:=hn;rw[<-q,hk] at hn;cases hn
  refine Xpk (ks:=ks) J hu hD lT hk (by lia) hT.1 nd (λi hi=>?_) d0 λp s2 g so J2=>h p _ s2 g so ((sm.upd qS).upd ph) Aa J2;obtain⟨t,a1,a2⟩:=lU i hi;obtain⟨u,HH,qT⟩:=r.get a1;have qT:u=aa.ref t:=qT;have e2:aB.getD i .none = .ref t:=by simp[List.getD,HH,qT]
  rw[e2];exact Xpj J a2 (lB.2 i hi)
def Xpm    (I:Inv X pins Z H s) (hu:X.A.in1.in1.units<bA) (hl:H l=some (.lst (ps.map V.ref))) (hT:Tups H ps Ts) (nd:Ts.Nodup) (d0:ps.length<=64) (turn:Turns X f H ps Ts)
  (h:∀(D:ae) (p:Array Nat) (H':Hp),H D=none->Gd ps.length p->Cd (Ey Ts) p ps.length->Same H H'->H' D=some (.lst ((p.toList.map λi=>ps.getD i 0).map V.ref))->Q (.ref D) H'):
  af (ag X.prog X.w) X.A (call (.builtin "sorted") [.ref l] [(ao.ofString "key",.ref f)]) (EP X pins Z Q) X.xe s:=by
 obtain⟨aB,rv,pl,hz⟩:=I.list (SqL.of hl);have p0:aB=ps.map aa.ref:=by
  clear hT d0 turn h pl hl hz
  induction ps generalizing aB with
  | nil=>cases rv;rfl
  | cons p t ih=>
   cases rv with
   | cons r t'=>cases r;rw[ih _ t'];rfl
 subst p0;refine call_function_entry_kw kO jx jy (ksk_s1 _ _) ?_;unfold aj.«sorted»;refine Sr (m:=mE "sorted" 1 1 _) (Ss ?_);refine Sr (wj pl.isList ?_ (by rw[Np,Sw];lia));refine Sr (cR ?_ (by rw[Np,Sw];lia));generalize zY:ps.map aa.ref=vs at *;have mC:vs.length=ps.length:=by rw[<-zY,Np]
 have hsz:((s.heap.push (a8 "list" #[] 0)).update s.heap.objs.size (aM.mapSeq (· ++ vs.toArray))).objs.size=s.heap.objs.size+1:=by
  rw[ak.size_update,bX]
 have lZ:(((s.heap.push (a8 "list" #[] 0)).update s.heap.objs.size (aM.mapSeq (· ++ vs.toArray))).push (a8 "list" vs.toArray 0)).get? (s.heap.objs.size+1)=some (a8 "list" vs.toArray 0):=by
  rw[<-hsz];exact ak.get?_push_size _ rfl
 have keep:∀b o,s.heap.get? b=some o->(((s.heap.push (a8 "list" #[] 0)).update s.heap.objs.size (aM.mapSeq (· ++ vs.toArray))).push (a8 "list" vs.toArray 0)).get? b=some o:=λb o q=>by
  have b7:b<s.heap.objs.size:=S7 q;rw[ak.get?_push_ne _ _ _ (by rw[hsz];exact Nz (Po b7)),ak.get?_update_ne _ _ _ _ (Nz b7),ak.get?_push_ne _ _ _ (Nz b7)];exact q
 have xj:(((s.heap.push (a8 "list" #[] 0)).update s.heap.objs.size (aM.mapSeq (· ++ vs.toArray))).push (a8 "list" vs.toArray 0)).objs.size=s.heap.objs.size+2:=by
  rw[bX,hsz]
 show af _ _ _ _ _ {s with heap:=((s.heap.push (a8 "list" #[] 0)).update s.heap.objs.size (aM.mapSeq (· ++ vs.toArray))).push (a8 "list" vs.toArray 0)};rw[hsz];generalize MV:((s.heap.push (a8 "list" #[] 0)).update s.heap.objs.size (aM.mapSeq (· ++ vs.toArray))).push (a8 "list" vs.toArray 0)=hA at *;refine Sr (aw (wpAny_call_entry_kw gU ⟨_,lZ,rfl⟩ fX ?body (ksk_l1 _ _)))
 case body=>
  show af (ag X.prog X.w) X.A.in1.in1 (aj.«list.sort» ⟨[.ref (s.heap.objs.size+1)],[(ao.ofString "key",.ref f)]⟩) _ _ _;rw[ksk_t1];unfold ksk_tree;refine Sr (jz lZ rfl ?_);refine Sr (bU lZ rfl ?_ (by rw[Nt,mC,Sw];lia) (Ou _));obtain⟨e1,iJ⟩:∃e1,(hA.update (s.heap.objs.size+1) (aM.mapSeq λ_=>(#[]:Array aa))).get? (s.heap.objs.size+1)=some (a8 "list" #[] e1):=⟨_,fZ lZ λ_ => #[]⟩;refine Sr (dU iJ rfl ?_);refine Sr (gQ ?_ (by show vs.length<=_;rw[mC,Sw];lia));refine Sr (cR ?_ (Ou _));refine aw ?_;have qS:((hA.update (s.heap.objs.size+1) (aM.mapSeq λ_=>(#[]:Array aa))).push (a8 "tuple" vs.toArray 0)).objs.size=s.heap.objs.size+3:=by rw[bX,ak.size_update,xj]
  have k6:∀b o,s.heap.get? b=some o->(((hA.update (s.heap.objs.size+1) (aM.mapSeq λ_=>(#[]:Array aa))).push (a8 "tuple" vs.toArray 0)).push (a8 "list" #[] 0)).get? b=some o:=λb o e=>by
   refine S8 _ (S8 _ ?_);rw[ak.get?_update_ne _ _ _ _ (Nz (Po (S7 e)))];exact keep b o e
  have qH:(((hA.update (s.heap.objs.size+1) (aM.mapSeq λ_=>(#[]:Array aa))).push (a8 "tuple" vs.toArray 0)).push (a8 "list" #[] 0)).get? (s.heap.objs.size+1)=some (a8 "list" #[] e1):=S8 _ (S8 _ iJ);have HI:(((hA.update (s.heap.objs.size+1) (aM.mapSeq λ_=>(#[]:Array aa))).push (a8 "tuple" vs.toArray 0)).push (a8 "list" #[] 0)).get? (s.heap.objs.size+3)=some (a8 "list" #[] 0):=by rw[<-qS];exact ak.get?_push_size _ rfl
  have J0:Inv X pins Z (upd H (s.heap.objs.size+3) (.lst [])) {s with heap:=((hA.update (s.heap.objs.size+1) (aM.mapSeq λ_=>(#[]:Array aa))).push (a8 "tuple" vs.toArray 0)).push (a8 "list" #[] 0)}:=
   I.laid (t':=s.toks) (o:=.lst []) k6 (by lia) ⟨by decide,[],0,.nil,HI⟩
  have ph:H (s.heap.objs.size+1)=none:=I.hok.fresh (Ps _);have lT:∀p∈X.pn++pins,p.1≠s.heap.objs.size+1:=λp hp=>Nz (Po (S7 (I.pin p hp).1));have J1:Inv X ((s.heap.objs.size+1,a8 "list" #[] e1)::pins) Z (upd H (s.heap.objs.size+3) (.lst [])) {s with heap:=((hA.update (s.heap.objs.size+1) (aM.mapSeq λ_=>(#[]:Array aa))).push (a8 "tuple" vs.toArray 0)).push (a8 "list" #[] 0)}:=by
   refine J0.pins_of λp hp=>?_;rcases N4.mp hp with rfl | hp
   ·exact⟨qH,by rw[Ab (by show s.heap.objs.size+1≠s.heap.objs.size+3;lia)];exact ph,Qw (Po I.lt),I.nofs (Ps _),λv q=>by cases q⟩
   ·exact J0.pin p (Oo _ hp)
  rw[qS];subst zY;refine Xpl (f:=f) rfl J1 (I.hok.fresh (by lia)) hu (Oq I.sz (Ps _)) lT ph hT nd d0 turn λp H' s' g so sm fz J=>⟨_,rfl,?_⟩;exact Ss ⟨_,rfl,⟨.ref (s.heap.objs.size+1),H',J,rfl,h _ p H' ph g so sm fz⟩⟩
end
structure FunT (K:NO) (x:ao) (st:aP) (f:ae) (fd:bJ) (T:ae):Prop where
 ex:∃(oc:aa) (od:Option ae) (kV cW pm:aa) (an:Option ae) (c0:ae) (ct:aa) (gr:Array (Option aa)),
  fd=OA x x (Di st) (B8 st) (defScope st) .none kV cW pm an (.ref c0) ct/\K.lookup f=some ⟨oc,od,.func fd,gr⟩/\OD K (.ref c0) x=true/\Of K c0 T=true
 kp:NW K (.ref f)=true
structure DefT (K:NO) (x:ao) (st:aP) (T:ae):Prop where
 ex:∃f fd,NU K aq x=some (some (.ref f))/\NW K (.ref f)=true/\FunT K x st f fd T/\Fun K x x st f fd
def DefT.of{K}{x}{st}    {kV cW pm ct}(a:NU K aq x=some (some (.ref f)))
  (l:K.lookup f=some ⟨oc,od,.func (OA x x (Di st) (B8 st) (defScope st) .none kV cW pm an (.ref c0) ct),gr⟩) (c:OD K (.ref c0) x=true) (k:NW K (.ref f)=true) (t:Of K c0 T=true):DefT K x st T:=
 ⟨⟨f,_,a,k,⟨⟨oc,od,kV,cW,pm,an,c0,ct,gr,rfl,l,c,t⟩,k⟩,K8 l c k⟩⟩
section
variable {P:ar}{w:aA}{K:NO}{mg:ao->Option aa}{base:ak}
def FunT.ok{x}{st}  {fd}   (F:FunT K x st f fd T)(S:FnScope N ps (defScope st))(len:∀vs H Q E,sp vs H Q E->vs.length=ps.length)
  (dM:∀(c0:ae),Of K c0 T=true->∀(A:av) (outer:List Env) (s:ah) (H:Hp) (vs:List V) (Q:VK) (E:XK),Room k (A.deeper (au x (defScope st) s.heap.objs.size f (.ref c0)))->sp vs H Q E ->
   ∃t,PSs (Bj CX0 P w K mg base N x (defScope st) f (.ref c0) A outer s H E).nox (B8 st) t/\t {nx:=λ_ H'=>Q .non H',rt:=Q} (start N vs) H):FnOk P w K mg base CX0 (k+1) f fd ps sp:=by
 obtain⟨oc,od,kV,cW,pm,an,c0,ct,gr,rfl,lk,eR,hhd⟩:=F.ex;refine Ij lk eR S len λA outer s H vs Q E hr gt=>?_;obtain⟨t,h,q⟩:=dM c0 hhd A outer s H vs Q E hr gt;exact⟨t,h.nox,q⟩
end
section
variable {X:Cx}
def Xpn (X:Cx) (ta tk:TA):TE:=fun Z H Q=>ta Z H λvs H1=>tk Z H1 λzs H2=>∃(l f:ae) (ps:List ae) (Ts:List (Za)),vs=[.ref l]/\zs=[.ref f]/\H2 l=some (.lst (ps.map V.ref))/\Tups H2 ps Ts/\Ts.Nodup/\ps.length<=64/\Turns X f H2 ps Ts /\
 ∀(D:ae) (p:Array Nat) (H':Hp),H2 D=none->Gd ps.length p->Cd (Ey Ts) p ps.length->Same H2 H'->H' D=some (.lst ((p.toList.map λi=>ps.getD i 0).map V.ref))->Q (.ref D) H'
def Xpo      (hu:X.A.in1.in1.units<bA) (hg:Gl X x) (hm:X.mg x=none) (hv:bO x=some (.builtin "sorted")) (ha:PA X (e::es) ta) (wx:PK X l8 tk)
  (lU:(cI pos (bK l8 X.env)).filterMap (·.1)=[ao.ofString "key"]:=by rfl)
  (hn:x ≠ "__name__" := by decide) (fU:(x==("__debug__" : ao))=false:=by decide)
  (he:bq pos (az (e::es) X.env)=(false,eval e X.env)::bq pos (az es X.env):=by rfl)
  (dG:(bq pos (az (e::es) X.env)).any (·.1)=false:=by rfl)
  (cG:(cI pos (bK l8 X.env)).all (·.1.isSome)=true:=by rfl)
  (dZ:(cI pos (bK l8 X.env)).any (·.1.isNone)=false:=by rfl):PE X (.Call (.Name x p) (e::es) l8 pos) (Xpn X ta tk):=by
 k_ne;refine bV (Ft I hg hm hv ?_ hn fU);refine callWith_kw (thn (ha pos pins s Z H _ I h) λus s1 ⟨vs,H1,I1,r1,q1⟩=>thn (wx pos pins s1 Z H1 _ I1 q1) λws s2 ⟨zs,H2,I2,r2,q2⟩=>?_) he dG cG dZ;rw[lU];obtain⟨l,f,ps,Ts,rfl,rfl,hl,hT,nd,d0,turn,k⟩:=q2;obtain⟨u,rfl,rx⟩:=B0 r1;obtain⟨v,rfl,rf⟩:=B0 r2;cases rx;cases rf;exact Xpm I2 hu hl hT nd d0 turn k
def Xpp{k}  {x qual}       (hf:H f=some (.ext (Ex f (OG "<lambda>" qual params body scope [] pm (.ref c) j8))))(hc:H c=some (.ext (Ew c qual)))
  (S:FnScope [x] [x] scope) (hr:Room (k+3) X.A) (hb:∀u,fe (OG "<lambda>" qual params body scope [] pm (.ref c) j8) ⟨[u],[]⟩=pure ([x].zip [u]))
  (g9:∀(A:av) (outer:List Env) (s1:ah) (H1:Hp) (i:Nat),i<ps.length->Same H H1->Room k (A.deeper (au qual scope s1.heap.objs.size f (.ref c)))->∃t,PE (Bj CX0 X.prog X.w X.K X.mg X.base [x] qual scope f (.ref c) A outer s1 H1 E0) body t /\
   ∀Q:VK,(∀t H2,H2 t=some (.tup [.int (Ts.getD i []).length,.ref (ps.getD i 0)])->Same H1 H2->Q (.ref t) H2)->t (start [x] [.ref (ps.getD i 0)]) H1 Q):Turns X f H ps Ts:=by
 intro pins Z s1 H1 i hi sm I;have cH:Room (k+1) X.A.in1.in1:=(Room.in1 (k:=k+2) hr).in1;obtain⟨t,ht,hq⟩:=g9 X.A.in1.in1 X.stack s1 H1 i hi sm (cH.deeper _);refine dq (bw (Xoi (Q:=λv H2=>∃t,v = .ref t/\H2 t=some (.tup [.int (Ts.getD i []).length,.ref (ps.getD i 0)])/\Same H1 H2) (sm _ _ hf) (sm _ _ hc) S cH I.env0.in1.in1 rfl (.cons (show Ae (.ref (ps.getD i 0)) (.ref (ps.getD i 0)) from rfl) .nil) (hb _) ht (hq _ λt H2 a b=>⟨t,rfl,a,b⟩)) λr s' j4=>?_);cases r with
 | error e=>exact j4.elim
 | ok fl=>
  cases fl with
  | next=>exact False.elim j4
  | brk=>exact False.elim j4
  | cont=>exact False.elim j4
  | ret u=>
   obtain⟨v,H2,J,rv,t,rfl,a,b⟩:=I.after j4;exact⟨t,H2,rv,J,a,b⟩
end
end L2
namespace SH
open L2
def Nd (a b:Za):Bool:=Cq a.length a b.length b
def Xpq{Ts}(g:Gd Ts.length p)(so:Cd (Ey Ts) p Ts.length):
  (p.toList.map λi=>Ts.getD i []).Perm Ts/\(p.toList.map λi=>Ts.getD i []).Pairwise λa b=>Nd a b=true:=by
 constructor
 ·have e:((List.range Ts.length).map λi=>Ts.getD i [])=Ts:=by
   refine Q7 (by simp) λi h1 h2=>?_;simp[Qd,List.getElem_range,List.getD,h2]
  have q:p.toList.Perm (List.range Ts.length):=by
   have:=g.toList;simpa using this
  have:=q.map λi=>Ts.getD i [];rw[e] at this;exact this
 ·rw[Q6];intro i j hi hj jU;have sz:=g.size;rw[Np,N1,sz] at hi hj;have:=so i j jU hj;rw[Qd,Qd];have e1:p.getD i 0=p.toList[i]'(by rw[N1,sz];exact hi):=by simp[Array.getD,sz,hi]
  have e2:p.getD j 0=p.toList[j]'(by rw[N1,sz];exact hj):=by simp[Array.getD,sz,hj]
  rw[e1,e2] at this;exact this
def Xga{α : Type}(f:Nat -> α)(d : α)(l:List Nat)(hi:i<l.length):(l.map f).getD i d=f l[i]:=by simp[List.getD,hi]
def Xpr    (h:Tups H ps Ts) (g:Gd ps.length p):Tups H (p.toList.map λi=>ps.getD i 0) (p.toList.map λi=>Ts.getD i []):=by
 refine⟨by simp,λi hi=>?_⟩;rw[Np] at hi;have e1:(p.toList.map λi=>ps.getD i 0).getD i 0=ps.getD p.toList[i] 0:=Xga _ _ _ hi;have e2:(p.toList.map λi=>Ts.getD i []).getD i []=Ts.getD p.toList[i] []:=Xga _ _ _ hi;rw[e1,e2];refine h.2 _ ?_;have q:p.toList.Perm (List.range ps.length):=by
  have:=g.toList;simpa using this
 simpa using q.mem_iff.mp (Ov hi)
abbrev qIn:ao:=(ao.ofString "in_order" ++ ao.ofString ".<locals>.")++ao.ofString "<lambda>"
def spInOrder (T:ae) (pos:cF):Sp:=λvs H Q _=>∃(l:ae) (ps:List ae) (Ts:List (Za)),vs=[.ref l]/\H l=some (.lst (ps.map V.ref))/\Tups H ps Ts/\Ts.Nodup/\ps.length<=64/\Au T pos qIn H /\
 ∀(D:ae) (jj:List ae) (t9:List (Za)) (H':Hp),H D=none->H' D=some (.lst (jj.map V.ref))->Tups H' jj t9->t9.Perm Ts->(t9.Pairwise λa b=>Nd a b=true)->Au T pos qIn H'->But T H H'->Q (.ref D) H'
def Au.same    (h:Au T pos q H) (s:Same H H'):Au T pos q H':=by
 rcases h with e | ⟨c,e,ec⟩
 ·exact .inl (s _ _ e)
 ·exact .inr ⟨c,s _ _ e,s _ _ ec⟩
def Au.but     (h:Au T pos q H) (hd:H dr=some (.lst o')) (b:But dr H H'):Au T pos q H':=by
 rcases h with e | ⟨c,e,ec⟩
 ·exact .inl (b _ _ e λz=>by rw[z,hd] at e;cases e)
 ·exact .inr ⟨c,b _ _ e (λz=>by rw[z,hd] at e;cases e),b _ _ ec λz=>by rw[z,hd] at ec;cases ec⟩
def lamPos (s:aP):cF:=match B8 s with
 | [.Return (some (.Call _ _ [⟨_,.Lambda _ _ _ p,_⟩] _)) _]=>p
 | _=>⟨0,0,0,0⟩
def Xps(h1:a<b)(h2:c<e)(n1:a≠c)(n2:a≠e)(n3:b≠c)(n4:b≠e)(h:lieT a b c e = "apart"):e<a\/b<c:=by
 unfold lieT at h;rw[Sx (by lia)] at h;split at h
 ·w_up
 ·split at h
  ·w_up
  ·split at h
   ·w_up
   ·rename_i q1 q2 q3;rw[B2] at q1 q2 q3;by_cases p1:c<a/\a<e
    ·by_cases p2:c<b/\b<e
     ·rw[Sy p1,Sy p2] at q2;lia
     ·rw[Sy p1,Sx p2] at q1;lia
    ·by_cases p2:c<b/\b<e
     ·rw[Sx p1,Sy p2] at q1;lia
     ·by_cases p3:a<c/\c<b
      ·by_cases p4:a<e/\e<b
       ·rw[Sy p3,Sy p4] at q3;lia
       ·lia
      ·lia
def Xgb(h1:a<b)(h:lieT a b c e = "cross"):a<e/\c<b:=by
 unfold lieT at h;split at h
 ·w_up
 ·split at h
  ·rename_i q;rw[B2] at q;by_cases p1:c<a/\a<e
   ·lia
   ·by_cases p2:c<b/\b<e
    ·lia
    ·rw[Sx p1,Sx p2] at q;lia
  ·split at h
   ·w_up
   ·split at h
    ·w_up
    ·w_up
def Xpt(h1:a<b)(h2:c<a)(h3:b<e):lieT a b c e = "within" := by
 unfold lieT;have q:nIn c e [a,b]=2:=by rw[B2,Sy ⟨h2,by lia⟩,Sy ⟨by lia,h3⟩]
 rw[Sx (by lia),q,Sx (by decide),Sy rfl]
section
variable {row:Za}
def Xgc(h:upB row a y=true):(pl row y).1<=(pl row a).1/\(pl row a).2<=(pl row y).2:=by
 unfold upB at h;rw[Q3] at h;rcases h with h | h
 ·rw[S5 h];exact⟨Int.le_refl _,Int.le_refl _⟩
 ·obtain⟨h1,h2,h3,h4⟩:=Mw (S5 h);exact⟨by lia,by lia⟩
def Xgd(hx:row.count x=2)(h:lieR row x y = "within")(g:lieR row y z = "within"):lieR row x z = "within" := by
 have l:=Ca hx;obtain⟨h1,h2,h3,h4⟩:=Mw h;obtain⟨g1,g2,g3,g4⟩:=Mw g;exact Xpt l (by lia) (by lia)
def Nf:lieR row x x ≠ "within" := by rw[Jl];decide
structure Core (row:Za) (cs:Za) (p:ao->Bool):Prop where
 inr:∀c∈cs,c∈row
 is:∀y,p y=true ↔ ∃c∈cs,upB row c y=true
 ov:∀c∈cs,∀d∈cs,(pl row c).1<(pl row d).2
 an:∀c∈cs,∀d∈cs,lieR row c d ≠ "within"
variable {cs zZ:Za}{p p':ao->Bool}
def Core.plot(h2:∀y∈row,row.count y=2)(C:Core row cs p):Ag row ((dit row).filter p)=true:=by
 refine Xnh.mpr ⟨(D7 row).filter p,λx hx=>Ai.mp (N6.mp hx).1,λx hx y hy e=>?_,λx hx y hy e=>?_⟩
 ·obtain⟨c,hc,hu⟩:=(C.is x).mp (N6.mp hx).2;refine N6.mpr ⟨Ai.mpr hy,(C.is y).mpr ⟨c,hc,?_⟩⟩;unfold upB at hu ⊢;rw[Q3] at hu ⊢;rcases hu with hu | hu
  ·rw[S5 hu] at e;exact .inr (Sz e)
  ·exact .inr (Sz (Xgd (h2 c (C.inr c hc)) (S5 hu) e))
 ·have mx:=N6.mp hx;have my:=N6.mp hy;obtain⟨c,hc,hu⟩:=(C.is x).mp mx.2;obtain⟨d,hd,hv⟩:=(C.is y).mp my.2;have jN:=h2 x (Ai.mp mx.1);have lL:=h2 y (Ai.mp my.1);have ne:x≠y:=λz=>by rw[z,Jl] at e;exact absurd e (by decide)
  obtain⟨n1,n2,n3,n4⟩:=Fl jN lL ne;have u1:=Xgc hu;have u2:=Xgc hv;have o1:=C.ov c hc d hd;have o2:=C.ov d hd c hc;rcases Xps (Ca jN) (Ca lL) n1 n2 n3 n4 e with z | z
  ·lia
  ·lia
def Core.min(h2:∀y∈row,row.count y=2)(C:Core row cs p)(x):x∈cs↔x∈(dit row).filter p/\∀y∈(dit row).filter p,lieR row y x ≠ "within" := by
 have self:∀c∈cs,c∈(dit row).filter p:=λc hc=>N6.mpr ⟨Ai.mpr (C.inr c hc),(C.is c).mpr ⟨c,hc,by unfold upB;simp⟩⟩;constructor
 ·intro hx;refine⟨self x hx,λy hy e=>?_⟩;obtain⟨c,hc,hu⟩:=(C.is y).mp (N6.mp hy).2;unfold upB at hu;rw[Q3] at hu;rcases hu with hu | hu
  ·rw[S5 hu] at e;exact C.an c hc x hx e
  ·exact C.an c hc x hx (Xgd (h2 c (C.inr c hc)) (S5 hu) e)
 ·rintro ⟨hx,hm⟩;obtain⟨c,hc,hu⟩:=(C.is x).mp (N6.mp hx).2;unfold upB at hu;rw[Q3] at hu;rcases hu with hu | hu
  ·rw[S5 hu];exact hc
  ·exact absurd (S5 hu) (hm c (self c hc))
def Core.eq(h2:∀y∈row,row.count y=2)(C:Core row cs p)(C':Core row zZ p')(e:(dit row).filter p=(dit row).filter p'):∀x,x∈cs↔x∈zZ:=λx=>by
 rw[C.min h2,C'.min h2,e]
def core1(h2:∀y∈row,row.count y=2){a:ao}(ha:a∈row):Core row [a] (upB row a) where
 inr c hc:=by rw[Nv.mp hc];exact ha
 is y:=by simp
 ov c hc d hd:=by rw[Nv.mp hc,Nv.mp hd];exact Ca (h2 a ha)
 an c hc d hd:=by rw[Nv.mp hc,Nv.mp hd];exact Nf
def Hw(h:q∈crs row):q.1∈row/\q.2∈row/\ltS q.1 q.2/\lieR row q.1 q.2 = "cross" := by
 unfold crs at h;obtain⟨x,hx,h⟩:=List.mem_flatMap.mp h;obtain⟨y,hy,rfl⟩:=Oj.mp h;obtain⟨h1,h3⟩:=N6.mp hy;rw[N3] at h3;exact⟨Ai.mp hx,Ai.mp h1,S5 h3.1,S5 h3.2⟩
def core2(h2:∀y∈row,row.count y=2)(h:q∈crs row):Core row [q.1,q.2] λy=>upB row q.1 y||upB row q.2 y:=by
 obtain⟨ha,hb,hl,hx⟩:=Hw h;have hy:lieR row q.2 q.1 = "cross" := Ds (h2 _ ha) (h2 _ hb) hx;have la:=Ca (h2 _ ha);have lb:=Ca (h2 _ hb);have c1:=Xgb la hx;have c2:=Xgb lb hy;refine⟨λc hc=>?_,λy=>by simp,λc hc d hd=>?_,λc hc d hd=>?_⟩
 ·simp at hc;rcases hc with rfl | rfl
  ·exact ha
  ·exact hb
 ·simp at hc hd;rcases hc with rfl | rfl<;>rcases hd with rfl | rfl
  ·exact la
  ·exact c1.1
  ·exact c2.1
  ·exact lb
 ·simp at hc hd;rcases hc with rfl | rfl<;>rcases hd with rfl | rfl
  ·exact Nf
  ·rw[hx];decide
  ·rw[hy];decide
  ·exact Nf
def Xpu(h2:∀y∈row,row.count y=2):∀S∈cands row,Ag row S=true:=λS hS=>by
 unfold cands at hS;rcases N0.mp hS with h | h
 ·obtain⟨a,ha,rfl⟩:=Oj.mp h;exact(core1 h2 (Ai.mp ha)).plot h2
 ·obtain⟨q,hq,rfl⟩:=Oj.mp h;exact(core2 h2 hq).plot h2
def Xpv(row):(crs row).Nodup:=by
 unfold crs;have nd:=Ea (D7 row);rw[List.Nodup,List.pairwise_flatMap];refine⟨λx hx=>?_,nd.imp λ{x y} ne a ha b hb e=>?_⟩
 ·rw[Rp];exact(nd.filter _).imp λne e=>ne (Prod.mk.inj e).2
 ·obtain⟨u,_,rfl⟩:=Oj.mp ha;obtain⟨v,_,rfl⟩:=Oj.mp hb;exact ne (Prod.mk.inj e).1
def Xpw(h2:∀y∈row,row.count y=2):(cands row).Nodup:=by
 have nd:=Ea (D7 row);unfold cands;rw[List.Nodup,Om];refine⟨?_,?_,?_⟩
 ·rw[Rp];refine nd.imp_of_mem λ{a b} ha hb ne e=>ne ?_;have:=(Core.eq h2 (core1 h2 (Ai.mp ha)) (core1 h2 (Ai.mp hb)) e a).mp (P1 _);exact Nv.mp this
 ·rw[Rp];refine(Xpv row).imp_of_mem λ{q r} hq hr ne e=>ne ?_;have E:=Core.eq h2 (core2 h2 hq) (core2 h2 hr) e;obtain⟨_,_,l1,_⟩:=Hw hq;obtain⟨_,_,l2,_⟩:=Hw hr;have e1:=(E q.1).mp (by simp);have e2:=(E q.2).mp (by simp);have e3:=(E r.1).mpr (by simp);simp at e1 e2 e3;obtain⟨a,b⟩:=q;obtain⟨c,d⟩:=r;simp only at *;rcases e1 with e1 | e1
  ·rcases e2 with e2 | e2
   ·exact absurd (e1.trans e2.symm) (G6 l1)
   ·rw[e1,e2]
  ·rcases e2 with e2 | e2
   ·rw[e1,e2] at l1;exact absurd (Ja l1 l2) (Iz _)
   ·exact absurd (e1.trans e2.symm) (G6 l1)
 ·intro A hA B hB e;obtain⟨a,ha,rfl⟩:=Oj.mp hA;obtain⟨q,hq,rfl⟩:=Oj.mp hB;have E:=Core.eq h2 (core1 h2 (Ai.mp ha)) (core2 h2 hq) e;obtain⟨_,_,l1,_⟩:=Hw hq;have e1:=Nv.mp ((E q.1).mpr (by simp));have e2:=Nv.mp ((E q.2).mpr (by simp));exact G6 l1 (e1.trans e2.symm)
def Xpx(h2:∀y∈row,row.count y=2)(h3:B3 row)(S):S∈[]::cands row↔Ag row S=true:=by
 constructor
 ·intro h;rcases N4.mp h with e | e
  ·rw[e];exact Mt row
  ·exact Xpu h2 S e
 ·intro h;by_cases e:S=[]
  ·rw[e];exact Ny
  ·exact Nw _ (Xd9 h2 h3 e h)
def Xpy(h2:∀y∈row,row.count y=2):[]∉cands row:=λh=>by
 unfold cands at h;rcases N0.mp h with h | h
 ·obtain⟨a,ha,e⟩:=Oj.mp h;have:=((core1 h2 (Ai.mp ha)).min h2 a).mp (P1 _);rw[e] at this;cases this.1
 ·obtain⟨q,hq,e⟩:=Oj.mp h;have:=((core2 h2 hq).min h2 q.1).mp (by simp);rw[e] at this;cases this.1
def Xpz(h2:∀y∈row,row.count y=2):([]::cands row).Nodup:=Pd.mpr ⟨Xpy h2,Xpw h2⟩
end
end SH
namespace L2
def Xge  {N:Za} {cap:List (Option Nat)}         {i:Nat}  (C:CompScope X N cap scope) (bd:X.calm=true) (hN:X.N.Nodup) (sE:X.N[i]? = some y) (hy:X.env.scope.names.lookup y=some .local) (hi:PI X tg iter wi)
  (hg:∀s0 H0 ex,PG (X.comp N scope s0 H0 ex) tg g) (ht:∀s0 H0 ex,PIfs (X.comp N scope s0 H0 ex) cA tt) (he:∀s0 H0 ex,PE (X.comp N scope s0 H0 ex) eT te)
  (sF:cV (.ListComp eT [⟨tg,iter,cA,0⟩] scope pos) (some (.Name y py)) kP.line X.env=pure true:=by rfl)
  (hs:∀x,aI iter X.env x=pure x:=by intro _;rfl):PS X (.Assign [.Name y py] (.ListComp eT [⟨tg,iter,cA,0⟩] scope pos) kP) (Xc4 i cap (.lst []) wi g tt (He te)):=
 Xc5 (act := fun D env => do let _ <- call (.builtin "list.append") [.ref D, <- eval eT env]) Jc (fun use => rfl) rfl C bd G9 hN sE hy hi (fun it D env => rfl) hg ht (fun D s0 H0 ex => Jb (he s0 H0 ex)) sF hs
end L2
namespace SH
open L2
def spPlotsA (T:ae) (pos:cF):Sp:=λvs H Q _=>∃(r:ae) (row:Za),vs=[.ref r]/\H r=some (.lst (row.map V.str))/\Row2 row/\B3 row/\(dit row).length<=14/\Au T pos qIn H /\
 ∀(D:ae) (ps:List ae) (Ts:List (Za)) (H':Hp),H D=none->H' D=some (.lst (ps.map V.ref))->Tups H' ps Ts->(∀S,S∈Ts↔Ag row S=true)->(Ts.Pairwise λa b=>Nd a b=true)->ps.length<=64->Au T pos qIn H'->But T H H'->Q (.ref D) H'
abbrev NPp:Za:=["row", "span", "off", "single", "double"]
abbrev NPo:Za:=["name", "span"]
abbrev NPi:Za:=["other", "name", "span"]
abbrev NPs:Za:=["name", "off"]
abbrev NPd:Za:=["one", "other", "off"]
structure Offs (H:Hp) (kvs:List (Key×V)) (row:Za) (ns:Za):Prop where
 keys:kvs.map (·.1)=ns.map (λx=>(Sum.inr x:Key))
 val:∀x∈ns,∃l,Ap kvs (Sum.inr x:Key)=some (.ref l)/\H l=some (.lst (((dit row).filter (upB row x)).map V.str))
def Offs.mono   (s:Offs H kvs row ns) (h:Same H H'):Offs H' kvs row ns:=⟨s.keys,λx hx=>let ⟨l,h1,h2⟩:=s.val x hx; ⟨l,h1,h _ _ h2⟩⟩
def Offs.snoc     (s:Offs H kvs row ns) (nx:x∉ns) (h:H' l=some (.lst (((dit row).filter (upB row x)).map V.str))) (k:∀b xs,H b=some (.lst xs)->H' b=some (.lst xs)):
  Offs H' (A8 kvs (Sum.inr x) (.ref l)) row (ns++[x]):=by
 have hn:Ap kvs (Sum.inr x:Key)=none:=by
  cases e:Ap kvs (Sum.inr x:Key) with
  | none=>rfl
  | some v=>
   exfalso;have:=Gz e;rw[s.keys] at this;obtain⟨y,hy,e2⟩:=Oj.mp this;rw[Qh e2] at hy;exact nx hy
 refine⟨by rw[Ip _ hn,N2,N2,s.keys];rfl,λy hy=>?_⟩;rw[Io];by_cases e:y=x
 ·subst e;exact⟨l,Sy rfl,h⟩
 ·have jQ:y∈ns:=by
   rcases N0.mp hy with z | z
   ·exact z
   ·exact absurd (Nv.mp z) e
  obtain⟨l0,h1,h2⟩:=s.val y jQ;exact⟨l0,by rw[Sx (λz=>e (Qh z))];exact h1,k _ _ h2⟩
def Offs.get    {x} (s:Offs H kvs row ns) (hd:Rd H d (.dK kvs)) (hx:x∈ns):∃l,DGet H d (.str x) (some (.ref l))/\H l=some (.lst (((dit row).filter (upB row x)).map V.str)):=by
 obtain⟨l,h1,h2⟩:=s.val x hx;exact⟨l,DGet.rd hd h1,h2⟩
def Offs.at{H}{kvs}(s:Offs H kvs row ns)(i)(hi:i<ns.length):(kvs.map λp=>kV p.1).getD i .non = .str (ns.getD i ao.empty):=by
 have e:(kvs.map λp=>kV p.1)=ns.map V.str:=by
  have:(kvs.map λp=>kV p.1)=(kvs.map (·.1)).map kV:=by rw[O2];rfl
  rw[this,s.keys,O2];rfl
 rw[e];exact Cg V.str ao.empty ns hi
def Offs.len   (s:Offs H kvs row ns):kvs.length=ns.length:=by
 have:=congrArg List.length s.keys;simpa using this
def Xp0{row}{x y}(hx:row.count x=2)(hy:row.count y=2):decide (lieR row x y∈[ao.ofString "same",ao.ofString "within"])=upB row x y:=by
 unfold upB;by_cases e:y=x
 ·subst e;rw[Jl];simp
 ·have n:lieR row x y ≠ "same" := λz=>e (Xd8 hx hy z).symm;simp[e,n]
def ltP (a b:Za):Prop:=a.length<b.length\/(a.length=b.length/\ltL a b=true)
structure IsPL (row:List ao) (Ts:List (List ao)):Prop where
 pw:Ts.Pairwise ltP
 mem:∀T,T∈Ts↔Ag row T=true
structure Lay (row:Za) (n:Nat) (Us:List (Za)):Prop where
 pw:Us.Pairwise λa b=>ltL a b=true
 mem:∀T,T∈Us↔Ag row T=true/\T.length=n
structure Upto (row:Za) (n:Nat) (Ts:List (Za)):Prop where
 pw:Ts.Pairwise ltP
 mem:∀T,T∈Ts↔Ag row T=true/\T.length<=n
end SH
set_option maxHeartbeats 8000000
namespace SH
open L2
def isin{U:List (Za)}(h1:∀W∈U,∀y∈W,okN y)(h2:∀y∈S,okN y):((U.map tupD).any λe=>am.eqv e (tupD S))=decide (S∈U):=by
 rw[List.any_map];by_cases hS:S∈U
 ·rw[Sz hS,P6];exact⟨S,hS,by show am.eqv (.tuple _) (.tuple _)=true;rw[Jq h2 h2];exact Sz rfl⟩
 ·rw[S0 hS,List.any_eq_false];intro W hW;show ¬am.eqv (.tuple _) (.tuple _)=true;rw[Jq (h1 W hW) h2];simp;exact λz=>hS (z ▸ hW)
def Xp1{U:List (Za)}(h:∀S∈U,∀y∈S,okN y):Cy (U.map tupD)=true:=plainAll_map tupD U λS hS=>Db (h S hS)
def Xp2    (h:H l=some (.lst (ps.map V.ref))) (t:Tups H ps Ts):DAt H (.list (Ts.map tupD)) (.ref l):=L4 h (Xes t)
end SH
set_option maxHeartbeats 4000000
namespace SH
open L2
def crsAt (row:Za) (x:ao) (ys:Za):List (ao×ao):=(ys.filter λy=>decide (lieR row x y = "cross")).map λy=>(x,y)
def Xsj:Sp:=λvs H Q _=>∃(l:ae) (ps:List ae) (Ts:List (Za)),vs=[.ref l]/\H l=some (.lst (ps.map V.ref))/\Tups H ps Ts/\(∀S∈Ts,S.length<=1000)/\ps.length<=1000/\∀H',Same H H'->Q (.bl true) H'
def nbL (row S:Za):List (ao×Za):=((dit row).filter λx=>Ag row (Aj S x)).map λx=>(x,Aj S x)
def Xgf        (n:Nat) (hn:n<sizeLine) (vs:Nat->V) (ok:Nat->Bool) (Us:Nat->ao×Za) (Es:L2.St->Prop) (h0:Es (Bw cap Z))
  (iF:∀i H2,i<n->Same H1 H2->J.go i H2/\∀x H3,J.yld i H2 x H3->H3=H2/\x=vs i)
  (bH:∀H2,Same H1 H2->J.stop n H2)
  (step:∀i Z1 H2 (Q1:L2.St->V->Hp->Prop) (Q0:L2.St->Hp->Prop),i<n->Es Z1->Same H1 H2->(∀Z2 t p H6,ok i=true->Es Z2->H6 t=some (.tup [.str (Us i).1,.ref p])->H6 p=some (.tup ((Us i).2.map V.str))->Same H2 H6->Q1 Z2 (.ref t) H6)->(∀Z2 H6,ok i=false->Es Z2->Same H2 H6->Q0 Z2 H6) ->
   g (vs i) Z1 H2 fun Z2 H4=>tt Z2 H4 λb H5=>if b=true then te Z2 H5 λy H6=>Q1 Z2 y H6 else Q0 Z2 H5)
  (hd:∀D ps H2,H1 D=none->Same H1 H2->H2 D=some (.lst (ps.map V.ref))->Nbs H2 ps (((List.range n).filter ok).map Us)->F D H2):E7 cap g tt te J Z H1 F:=by
 refine Iu n vs (λD i Z2 H2=>Es Z2/\Same H1 H2/\∃ps:List ae,ps.length<=i/\H2 D=some (.lst (ps.map V.ref))/\Nbs H2 ps (((List.range i).filter ok).map Us)) ?_ ?_ ?_ ?_ ?_
 ·intro D hD;exact⟨h0,(Same.refl H1).step hD,[],Nr _,Aa,Nbs.nil _⟩
 ·rintro D i Z2 H2 hD hi ⟨_,s2,_⟩;exact iF i H2 hi s2
 ·rintro D Z2 H2 hD ⟨_,s2,_⟩;exact bH H2 s2
 ·rintro D i Z2 H2 hD hi ⟨e,s2,ps,hl,hb,ht⟩;refine step i Z2 H2 _ _ hi e s2 (fun Z3 t p H4 hok e3 h4 h5 s4=>?_) (fun Z3 H4 hok e3 s4=>?_)
  ·have sr:=s4 _ _ hb;have kK:=ht.same s4;have keep:∀b w,H4 b=some (.tup w)->upd H4 D (.lst (ps.map V.ref++[.ref t])) b=some (.tup w):=λb w e=>by
    rw[Ab (λz=>by rw[z,sr] at e;cases e)];exact e
   refine wput hi sr (by rw[Np];lia) ⟨e3,λb u e'=>?_,ps++[t],by rw[Nx];show ps.length+1<=i+1;lia,by rw[Aa,N2];rfl,?_⟩
   ·rw[Ab (Ao e' hD)];exact s4 _ _ (s2 b u e')
   ·rw[O5,Og,N2];simp only[Ow,hok,if_true,R5,Op,Sa];exact(kK.keep keep).snoc (keep _ _ h4) (keep _ _ h5)
  ·refine wskip hi ⟨e3,s2.trans s4,ps,by lia,s4 _ _ hb,?_⟩;rw[O5,Og,N2];simp only[Ow,hok,R5,Os,if_false,Sa,Oy];exact ht.same s4
 ·rintro D Z2 H2 hD ⟨_,s2,ps,_,hb,ht⟩;exact hd D ps H2 hD s2 hb ht
def spNbs (T:ae) (pos:cF):Sp:=λvs H Q _=>∃(r p:ae) (row S:Za),vs=[.ref r,.ref p]/\H r=some (.lst (row.map V.str))/\Row2 row/\B3 row/\(dit row).length<=14/\Au T pos qIn H/\H p=some (.tup (S.map V.str))/\Ag row S=true /\
 ∀(D:ae) (qs:List ae) (H':Hp),H D=none->H' D=some (.lst (qs.map V.ref))->Nbs H' qs (nbL row S)->qs.length<=14->Au T pos qIn H'->But T H H'->Q (.ref D) H'
abbrev NNb:Za:=["row", "plot", "there", "sides"]
abbrev NNb1:Za:=["name", "plot"]
abbrev NNb2:Za:=["name", "over", "there"]
def Xgg  (ok:∀y∈row,okN y) (hS:Ag row S=true) (hx:x∈row):∀y∈Aj S x,okN y:=λy hy=>by
 rw[<-M3] at hy;rcases Xoa.mp hy with h | h
 ·exact ok y ((Co hS).1 y h.1)
 ·rw[Nv.mp h.1];exact ok x hx
def _root_.L2.Au.ne    {o} (tb:Au T pos q H) (e:H b=some o) (n:∀z,o ≠ .tbl z):b≠T:=λz=>by
 rcases tb with q | ⟨_,q,_⟩<;>(rw[z,q] at e;cases e;exact n _ rfl)
def spNb12 (C T:ae) (pos:cF):Sp:=λvs H Q E=>∃(r p:ae) (row S:Za),vs=[.ref r,.ref p]/\H r=some (.lst (row.map V.str))/\Row2 row/\B3 row/\(dit row).length<=14/\Au T pos qIn H/\H p=some (.tup (S.map V.str))/\(∀y∈S,okN y)/\S.length<=24 /\
 (Ag row S=true->∀(D:ae) (qs:List ae) (H':Hp),H D=none->H' D=some (.lst (qs.map V.ref))->Nbs H' qs (nbL row S)->qs.length<=14->Au T pos qIn H'->But T H H'->Q (.ref D) H')/\(Ag row S=false->∀H',Same H H'->E (.ref C) none H')
def Ng (C:LedC):Sp:=λvs H Q E=>∃(r p:ae) (row S:Za) (x:ao),vs=[.ref r,.ref p,.str x]/\H r=some (.lst (row.map V.str))/\Row2 row/\(dit row).length<=14/\H p=some (.tup (S.map V.str))/\(∀y∈S,okN y)/\S.length<=24/\okN x /\
 (Ag row S=false->∀H',Same H H'->E (.ref C.plot) none H')/\(Ag row S=true->x∉row->∀H',Same H H'->E (.ref C.ditch) none H') /\
 (Ag row S=true->x∈row->Ag row (Aj S x)=true->∀q H',H' q=some (.tup ((Aj S x).map V.str))->Same H H'->Q (.ref q) H')/\(Ag row S=true->x∈row->Ag row (Aj S x)=false->∀dx H',M5 H' dx 0->Same H H'->E (.ref C.beside) (some dx) H')
def nbT (row S:Za) (i:Nat):List (ao×Za):=(((dit row).take i).filter λx=>Ag row (Aj S x)).map λx=>(x,Aj S x)
def Xp3(row S):nbT row S (dit row).length=nbL row S:=by
 unfold nbT nbL;rw[O9]
def Xp4{row S}  (h:(dit row)[i]? = some x):nbT row S (i+1)=nbT row S i++(if Ag row (Aj S x)=true then [(x,Aj S x)] else []):=by
 obtain⟨hi,e⟩:=N7.mp h;unfold nbT;rw[Od hi,e,Og,N2];congr 1;rw[Ow];split<;>rfl
def spWaysX:Sp:=λvs H Q _=>∃(b l p:ae) (row S:Za) (xs:List V),vs=[.ref b,.ref l,.ref p]/\H b=some (.lst xs)/\DAll H ((bars row).map trD) xs/\H l=some (.lst ((dit row).map V.str))/\Row2 row/\(dit row).length<=14/\H p=some (.tup (S.map V.str))/\Ag row S=true /\
 ∀(D:ae) (qs:List ae) (H':Hp),H D=none->H' D=some (.lst (qs.map V.ref))->Nbs H' qs (nbL row S)->qs.length<=14->Same H H'->Q (.ref D) H'
def spOverX:Sp:=λvs H Q _=>∃(r p:ae) (row S:Za),vs=[.ref r,.ref p]/\H r=some (.lst (row.map V.str))/\Row2 row/\(dit row).length<=14/\H p=some (.tup (S.map V.str))/\Ag row S=true /\
 ∀(D:ae) (qs:List ae) (H':Hp),H D=none->H' D=some (.lst (qs.map V.ref))->Nbs H' qs (nbL row S)->qs.length<=14->Same H H'->Q (.ref D) H'
end SH
namespace L2
open PySem.Calls
section
variable {P:ar}{w:aA}{A:av}{E:Zb}{s:ah}
def Xp5:eL (.type "list") "keys" = pure none:=by rw[fW,dH];kernel_rfl
def Xp6    (hx:s.heap.get? a=some {cls:=.type "list",data:=.seq xs k}) (hA:A.handled=none)
  (h:∀h' tk,(∀b o,s.heap.get? b=some o->h'.get? b=some o)->Q none {s with heap:=h',toks:=tk}):af (ag P w) A (kM (.ref a) "keys") Q E s:=by
 obtain⟨hp,g,d,tk,os⟩:=s;have hT:∀lO,(⟨hp,g,d,lO,os⟩:ah).TypeIs (.ref a) "list" := λ_=>⟨_,hx,rfl⟩;have f1:=sub_AttributeError;have f3:=PySem.F.slot_list_getattribute.lookup;have f4:=PySem.F.slot_list_getattribute.bind (.ref a);have f5:=am_list_getattr_none;unfold kM CO oR
 repeat (any_goals (first | assumption | exact hT _ | ((with_reducible show af _ _ (call (aa.builtin "list.__getattribute__") _ _) _ _ _);refine dw PySem.F.slot_list_getattribute (hT _) am_entry_list_getattribute (PySem.F.args_list_getattribute_2 _ _) (meets_getattribute_miss_list a xs k #[] "keys" _ Xp5 (by decide +kernel)) ⟨hx,hA,λh' lO e iC=>?_⟩) | wp_step))
 obtain⟨t',u',he⟩:=iC.there;show af _ _ (mZ _ _ _ _ _ _ _) _ _ _;unfold mZ
 repeat (any_goals (first | assumption | wp_step))
 all_goals first | exact h _ _ iC.keeps | trace_state
def Xgh:gO table "dict.update.loop" = some aj.«dict.update.loop»:=oX (by kernel_rfl)
def Kf:plainId "dict.update.loop" = true:=by decide +kernel
def Cr (prs:List (Key×V)):List (Key×V):=prs.foldl (λm q=>A8 m q.1 q.2) []
def Xgi(prs)(q):Cr (prs++[q])=A8 (Cr prs) q.1 q.2:=by
 unfold Cr;rw[List.foldl_append];rfl
def Xgj(prs):(Cr prs).length<=prs.length:=by
 have:∀n,∀prs:List (Key×V),prs.length=n->(Cr prs).length<=n:=by
  intro n
  induction n with
  | zero=>intro prs h;rw[Pa.mp h];exact Nr _
  | succ n ih=>
   intro prs h;obtain⟨l,q,rfl⟩:∃l q,prs=l++[q]:=⟨prs.dropLast,prs.getLast (λe=>by rw[e] at h;cases h),(List.dropLast_concat_getLast _).symm⟩;rw[Xgi];have:=Gy (Cr l) q.1 q.2;have:=ih l (by simpa using h)
   lia
 exact this _ prs rfl
def Xp7     {St} (prs:List (Key×V)) (W:WalksS P w A.in1 I fp wr G prs.length Pv St) (d:ae) (nd:d∉fp) (h0:ak) (tD:Key×V)
  (gM:∀i v,i<prs.length->Pv i v->∃p o n kv vv,v = .ref p/\p≠d/\p∉wr/\h0.get? p=some o/\o.cls = .type "tuple" /\ o.data = .seq #[kv,vv] n/\Ae (kV (prs.getD i tD).1) kv/\Ae (prs.getD i tD).2 vv) (hb:prs.length<sizeLine):
  ∀(k i:Nat) (j:Int) (tj:vw) (s:ah),prs.length - i=k->i<=prs.length->St i s->(∀b o,b≠d->b∉wr->h0.get? b=some o->s.heap.get? b=some o)->(∃vs,KV (Cr (prs.take i)) vs/\s.heap.DictOf (A5 P w) d vs) ->
   (∀s',kN (d::wr) G s s'->(∃vs,KV (Cr prs) vs/\s'.heap.DictOf (A5 P w) d vs)->R (.ok (.ret .none)) s') ->
   bc (ag P w) A (.builtin "dict.update.loop" ⟨[.ref d,.ref I,.int j tj,.none],[]⟩) R s:=by
 have nw:d∉wr:=λz=>nd (W.sub _ z);have up:∀b∈wr,b∈d::wr:=λb z=>Nw _ z;intro k
 induction k with
 | zero=>
  intro i j tj s e hi st hk ⟨vs,cT,dd⟩ hR;have:i=prs.length:=by lia
  subst this;rw[O9] at cT;refine bg Xgh ?_;rw[av.under_plainId Kf _];show af _ A.in1 (dm (.ref I) >>= λ_=>_) _ _ s;refine Sr (W.done s _ _ st λs' mv=>?_);show af _ A.in1 (aj.Dict.addKeywords d [] >>= _) _ _ s';obtain⟨o,es,ep,ho,r⟩:=dd;exact Sr (Ss (Ss (hR s' (mv.mono up) ⟨vs,cT,o,es,ep,mv.heap d o nw ho,r⟩)))
 | succ k ih=>
  intro i j tj s e hi st hk ⟨vs,cT,dd⟩ hR;have lt:i<prs.length:=by lia
  refine bg Xgh ?_;rw[av.under_plainId Kf _];show af _ A.in1 (dm (.ref I) >>= λ_=>_) _ _ s;refine Sr (W.item i s _ _ lt st λv s' hP aD mv=>?_);obtain⟨p,o,n,kv,vv,rfl,pO,HJ,ho,hc,hd,rk,rv⟩:=gM i v lt hP;have iB:∀b o,b≠d->b∉wr->h0.get? b=some o->s'.heap.get? b=some o:=λb o h1 h2 h3=>mv.heap b o h2 (hk b o h1 h2 h3);have eu:=iB p o pO HJ ho;have mw:s'.heap.DictOf (A5 P w) d vs:=by
   obtain⟨o,es,ep,ho,r⟩:=dd;exact⟨o,es,ep,mv.heap d o nw ho,r⟩
  have hT:s'.TypeIs (.ref p) "tuple" := ⟨o,eu,hc⟩;have lE:vs.length<=i:=by
   have:=Xgj (prs.take i);rw[<-cT.length];rw[N8] at this
   lia
  show af _ A.in1 (holding [aa.ref p] _ >>= λ_=>_) _ _ s';refine Sr (aw (Sr (wpAny_tryCatch ?_)));unfold aj.Dict.pairItems;refine Sr (aX hT ?_);rw[Sy (by decide)];refine Sr (gT eu hd (Ss ?_));show af _ _ (holding [kv,vv] (dictSet d kv vv)) _ _ s';refine aw (lJ (knd:=A5 P w) (Ej rk) mw (λh' l9 hs=>?_) (by lia));have e3:Cr (prs.take (i+1))=A8 (Cr (prs.take i)) (prs.getD i tD).1 (prs.getD i tD).2:=by
   rw[Od lt,Xgi];have:prs.getD i tD=prs[i]:=by simp[List.getD,lt]
   rw[this]
  refine Ss ⟨bS Kf _,ih (i+1) _ _ _ (by lia) lt (W.frame _ s' _ _ aD (Ps _) λb hb o q=>?_) (λb o h1 h2 h3=>?_) ⟨_,by rw[e3];exact cT.put _ rv,l9⟩ λmj vJ S4=>?_⟩
  ·show h'.get? b=some o;rw[hs.2 b (λz=>nd (z ▸ hb))];exact q
  ·show h'.get? b=some o;rw[hs.2 b h1];exact iB b o h1 h2 h3
  ·refine hR mj (kN.trans W.gtrans ((mv.mono up).then_heap (Ps _) λb o hb q=>?_) vJ) S4;rw[hs.2 b (λz=>hb (z ▸ Ny))];exact q
abbrev dft0:Key×V:=(Sum.inl 0,.non)
abbrev Ez:aM:={cls:=.type "dict",data:=.dict #[]}
def Xp8    {prs} (hA:A.handled=none) (hl:s.heap.get? l=some {cls:=.type "list",data:=.seq ax k}) (hz:ax.size=prs.length) (hb:prs.length<sizeLine)
  (gM:∀i v,i<prs.length->ax[i]? = some v->∃p o n kv vv,v = .ref p/\s.heap.get? p=some o/\o.cls = .type "tuple" /\ o.data = .seq #[kv,vv] n/\Ae (kV (prs.getD i dft0).1) kv/\Ae (prs.getD i dft0).2 vv)
  (h:∀(h':ak) (tk:Nat),(∃vs,KV (Cr prs) vs/\h'.DictOf (A5 P w) s.heap.objs.size vs)->(∀b o,s.heap.get? b=some o->h'.get? b=some o)->Q (.ref s.heap.objs.size) {s with heap:=h',toks:=tk}):
  af (ag P w) A (call (.type "dict") [.ref l]) Q E s:=by
 refine callType_codes (Q₁:=λobj s₁=>obj = .ref s.heap.objs.size/\s₁ = {s with heap:=s.heap.push Ez}) PySem.F.kt_called_dict (PySem.F.kt_typeCall_dict_1 _) PySem.F.entry_dict_init (kt_code_dict_new _ ⟨rfl,rfl⟩) ?_;rintro obj s₁ ⟨rfl,rfl⟩;have fV:(s.heap.push Ez).DictOf (A5 P w) s.heap.objs.size []:=ak.DictOf.new s.heap;have lE:(s.heap.push Ez).get? l=some {cls:=.type "list",data:=.seq ax k}:=S8 _ hl;have HK:=S7 hl;refine⟨fV.typeIs,PySem.F.args_dict_init_2 _ _,?_⟩;unfold aj.«dict.__init__»;refine Sr ?_;unfold aj.Dict.selfAndRest;refine Sr (wpAny_notOrdered_dict fV.typeIs ?_);show af _ _ (pure (s.heap.objs.size,[aa.ref l])) _ _ _;refine Ss ?_;show af _ _ (aj.Dict.updateFrom "dict.__init__" s.heap.objs.size (.ref l) [] .none) _ _ _;unfold aj.Dict.updateFrom;refine Sr (aX (T := "list") ⟨_,lE,rfl⟩ ?_);rw[Sy (by decide)];refine Sr (Xp6 (s:={s with heap:=s.heap.push Ez}) lE (by simp[hA]) λh2 HL k2=>?_);rw[Sy (show (none:Option aa).isNone=true from rfl)];have iA:h2.get? l=some {cls:=.type "list",data:=.seq ax k}:=k2 _ _ lE;have gS:(s.heap.push Ez).get? s.heap.objs.size=some Ez:=ak.get?_push_size _ rfl;have ltS:=S7 (k2 _ _ gS);have xk:=S7 iA;have fR:h2.IsList l ax:=⟨_,iA,rfl,k,rfl⟩;refine Sr (aT (Sr (cg (s:={s with heap:=h2,toks:=HL}) fR ?_)));have nI:s.heap.objs.size∉[h2.objs.size,l]:=by simp only[N4,Q8,or_false,not_or];exact⟨Nz ltS,(Nz HK).symm⟩
 have W:=(ki.list (prog:=P) (w:=w) (A:=A.in1.in1) (by simp[hA]) h2.objs.size l (Nz xk) ax).toS;rw[hz] at W;refine Ss ⟨bS Kf _,?_⟩;refine Xp7 (A:=A.in1) prs W s.heap.objs.size nI s.heap dft0 (λi v hi hv=>?_) hb _ 0 _ _ _ rfl (Ou _) ⟨⟨_,ak.get?_push_size _ rfl,rfl,rfl⟩,fR.push _⟩ (λb o _ _ q=>S8 _ (k2 _ _ (S8 _ q))) ⟨[],.nil,?_⟩ λs' mv S'=>?_
 ·obtain⟨p,o,n,kv,vv,e,ho,hc,hd,rk,rv⟩:=gM i v hi hv;have HM:=S7 ho;have xl:=S7 (k2 _ _ (S8 Ez ho));exact⟨p,o,n,kv,vv,e,Nz HM,by simp only[N4,Q8,or_false];exact Nz xl,ho,hc,hd,rk,rv⟩
 ·obtain⟨o,es,ep,ho,r⟩:=fV;exact⟨o,es,ep,S8 _ (k2 _ _ ho),r⟩
 ·rw[kN.eq_with mv];refine⟨rfl,h s'.heap s'.toks S' λb o q=>mv.heap b o (λz=>?_) (S8 _ (k2 _ _ (S8 _ q)))⟩;have HN:=S7 q;rcases N4.mp z with z | z
  ·exact absurd HN (by rw[z];exact Ox _)
  ·have:=S7 (k2 _ _ (S8 Ez q));exact absurd this (by rw[Nv.mp z];exact Ox _)
end
section
variable {X:Cx}
def Xp9(bd:X.calm=true):Bh X (.type "dict") (λxs H Q=>∃(p:ae) (qs:List ae) (prs:List (Key×V)),xs=[.ref p]/\H p=some (.lst (qs.map V.ref))/\qs.length=prs.length/\prs.length<=1000 /\
  (∀i,i<qs.length->H (qs.getD i 0)=some (.tup [kV (prs.getD i dft0).1,(prs.getD i dft0).2]))/\∀d,H d=none->Q (.ref d) (upd H d (.dK (Cr prs)))):=by
 k_asm;obtain⟨p,qs,prs,rfl,hp,hz,hb,ht,q⟩:=h;f_int;obtain⟨_,aB,n,rv,hx⟩:(qs.map V.ref).length<=sizeLine/\∃(aB:List aa) (n:Nat),Vals (qs.map V.ref) aB/\s.heap.get? p=some {cls:=.type "list",data:=.seq aB.toArray n}:=I.hok p _ hp;have pQ:aB.length=qs.length:=by rw[<-rv.length,Np]
 have HP:(s.heap.objs.size==bF)=false:=by
  have:=I.big;exact beq_eq_false_iff_ne.mpr (Qw this)
 refine Xp8 (prs:=prs) (I.ok.hd bd) hx (by rw[Nt,pQ,hz]) (by rw[Sw];lia) (λi v hi hv=>?_) λh' tk ⟨vs,cT,dd⟩ k=>?_
 ·have eW:i<qs.length:=by lia
  obtain⟨u,hu,ru⟩:=rv.get (i:=i) (x:=.ref (qs.getD i 0)) (by rw[Oa,Nq eW];simp[List.getD,eW]);have:v=u:=by
   rw[Qg,hu] at hv;exact(N5 hv).symm
  subst this;obtain⟨gD,r2,pl,_⟩:=I.tuple (SqT.of (K:=X.K) (ht i eW));obtain⟨kv,vv,e2,rk,HQ⟩:=r2.two;subst e2;obtain⟨o,ho,hc,n2,hd⟩:=pl;exact⟨_,o,n2,kv,vv,ru,ho,hc,hd,rk,HQ⟩
 ·refine⟨.ref s.heap.objs.size,_,I.laidM (s':={s with heap:=h',toks:=tk}) k rfl rfl (Nr _) ?_,rfl,q _ (I.hok.fresh (Nr _))⟩;exact⟨by have:=Xgj prs;rw[Sw];lia,HP,vs,cT,dd⟩
end
end L2
namespace SH
open L2
open Classical in
noncomputable def out12 (row S:Za) (x:ao):O16:=if Ag row S=true then (if x∈row then (if Ag row (Aj S x)=true then .told (Aj S x) else .beside 0) else .ditch) else .plot
structure K12 (K:NO) (C:LedC) (S:ae):Prop where
 fb:ExcF K C.beside
 fd:ExcF K C.ditch
 fp:ExcF K C.plot
 kb:ExK K C.beside "at"
 eb:NV K (.ref C.beside) (.ref C.beside)=some true
 db:NV K (.ref C.ditch) (.ref C.beside)=some false
 pb:NV K (.ref C.plot) (.ref C.beside)=some false
 ds:NV K (.ref C.ditch) (.ref S)=some true
 ps:NV K (.ref C.plot) (.ref S)=some true
 dd:NS K (.ref C.ditch) (.ref C.ditch)=some true
 dp:NS K (.ref C.ditch) (.ref C.plot)=some false
 pd:NS K (.ref C.plot) (.ref C.ditch)=some false
 pp:NS K (.ref C.plot) (.ref C.plot)=some true
 dv:NS K (.ref C.ditch) (.type "ValueError")=some true
 pv:NS K (.ref C.plot) (.type "ValueError")=some true
def spSaid12 (T:ae) (pos:cF):Sp:=λvs H Q _=>∃(r p:ae) (row S:Za) (nm:V) (o:O16),vs=[.ref r,.ref p,nm]/\H r=some (.lst (row.map V.str))/\Row2 row/\B3 row/\(dit row).length<=14/\Au T pos qIn H/\H p=some (.tup (S.map V.str))/\(∀y∈S,okN y)/\S.length<=24 /\
 ((nm = .non/\Ag row S=false/\o = .plot) \/ ∃x,nm = .str x/\okN x/\o=out12 row S x) /\
 ∀(t:ae) (H':Hp),DAt H' (o16D o) (.ref t)->Same H H'->Q (.ref t) H'
def Nh  : q∈nbL row S↔q.1∈row/\q.2=Aj S q.1/\Ag row q.2=true:=by
 unfold nbL;rw[Oj];constructor
 ·rintro ⟨x,hx,rfl⟩;obtain⟨h1,h2⟩:=N6.mp hx;exact⟨Ai.mp h1,rfl,h2⟩
 ·rintro ⟨h1,h2,h3⟩;refine⟨q.1,N6.mpr ⟨Ai.mpr h1,by rw[<-h2];exact h3⟩,?_⟩;rw[<-h2]
def Xqa{row S}(R2:Row2 row):∀q∈nbL row S,okN q.1/\∀y∈q.2,okN y:=λq hq=>by
 obtain⟨h1,_,h3⟩:=Nh.mp hq;exact⟨R2.ok q.1 h1,λy hy=>R2.ok y ((Co h3).1 y hy)⟩
def Ni(row S):(nbL row S).map (·.1)=(dit row).filter λx=>Ag row (Aj S x):=by
 unfold nbL;rw[O2];exact List.map_id _
def Xgk(x)(hS:Ag row S=true):Aj (Aj S x) x=S:=by
 refine Mx (M4 x (Ea (M4 x (Jy hS)))) (Co hS).2 λy=>?_;rw[J3,J3,J3];by_cases z:y=x
 ·subst z;by_cases h:y∈S<;>simp[h]
 ·simp[z]
def Xqb(prs)(nd:(prs.map (·.1)).Nodup):Cr prs=prs:=by
 have eg:∀(prs acc:List (Key×V)),((acc++prs).map (·.1)).Nodup->prs.foldl (λm q=>A8 m q.1 q.2) acc=acc++prs:=by
  intro prs
  induction prs with
  | nil=>intro acc _;rw[Oy];rfl
  | cons q r ih=>
   intro acc h;have e:A8 acc q.1 q.2=acc++[q]:=by
    unfold A8;rw[Sx];intro z;obtain⟨u,hu,e⟩:=P6.mp z;rw[N2] at h;exact(Pp.mp h).2.2 _ (R6 hu) _ (R6 Ny) (S5 e)
   show r.foldl _ (A8 acc q.1 q.2)=_;rw[e,ih (acc++[q]) (by rw[Oi];exact h),Oi];rfl
 exact eg prs [] nd
def Xgl(q)(r)(k:Key):Ap (q::r) k=if q.1=k then some q.2 else Ap r k:=by
 unfold Ap;rw[Qk];by_cases h:q.1=k
 ·rw[Sz h,Sy h];rfl
 ·rw[S0 h,Sx h]
theorem Xgm:∀{qs:List ae} {xs:List (ao×Za)},Nbs H qs xs->(xs.map (·.1)).Nodup->∃prs:List (Key×V),qs.length=prs.length/\prs.map (·.1)=xs.map (λq=>(Sum.inr q.1:Key))/\(∀i,i<qs.length->H (qs.getD i 0)=some (.tup [kV (prs.getD i dft0).1,(prs.getD i dft0).2]))/\(∀x U,(x,U)∈xs->∃p,Ap prs (Sum.inr x)=some (.ref p)/\H p=some (.tup (U.map V.str)))/\∀x,x∉xs.map (·.1)->Ap prs (Sum.inr x)=none
 | [],[],_,_=>⟨[],rfl,rfl,λi hi=>absurd hi (Py _),λ_ _ h=>(Q8 h).elim,λ_ _=>rfl⟩
 | [],x::xs,h,_=>by have:=h.1;simp at this
 | q::qs,[],h,_=>by have:=h.1;simp at this
 | q::qs,x::xs,h,nd=>by
  obtain⟨p,h1,h2⟩:=h.2 0 (by simp);have h1:H q=some (.tup [.str x.1,.ref p]):=h1;have h2:H p=some (.tup (x.2.map V.str)):=h2;rw[Op,Pd] at nd;obtain⟨prs,l,ks,at_,kZ,lf⟩:=Xgm (qs:=qs) (xs:=xs) ⟨by simpa using h.1,λi hi=>h.2 (i+1) (by simpa using hi)⟩ nd.2;refine⟨((Sum.inr x.1:Key),V.ref p)::prs,by simp[l],by simp[ks],λi hi=>?_,λy U hm=>?_,λy hy=>?_⟩
  ·cases i with
   | zero=>exact h1
   | succ i=>exact at_ i (by simpa using hi)
  ·rw[Xgl];rcases N4.mp hm with e | hm
   ·subst e;rw[Sy rfl];exact⟨p,rfl,h2⟩
   ·rw[Sx (λz=>nd.1 (by injection z with z;rw[z];exact R6 (f:=(·.1)) hm))];exact kZ y U hm
  ·rw[Xgl,Sx (λz=>hy (by injection z with z;rw[<-z];exact Ny))];exact lf y λz=>hy (Nw _ z)
def Xqc{prs:List (Key×V)}(h:prs.map (·.1)=(nbL row S).map (λq=>(Sum.inr q.1:Key))):(prs.map (·.1)).Nodup:=by
 have e:(nbL row S).map (λq=>(Sum.inr q.1:Key))=((nbL row S).map (·.1)).map λz=>(Sum.inr z:Key):=by rw[O2];rfl
 rw[h,e,Ni];exact(Ry _ (Fe row)).map _ λa b n z=>n (by injection z)
def Xgn(xs:List (ao×Za)):(am.list (xs.map dNb)).depth<=3:=by
 have:∀xs:List (ao×Za),am.depthAll (xs.map dNb)<=2:=by
  intro xs
  induction xs with
  | nil=>decide
  | cons q r ih=>
   show max (max 0 (max (am.depthAll (q.2.map am.str)+1) 0)+1) (am.depthAll (r.map dNb))<=2;rw[Ga];exact Nat.max_le.mpr ⟨by decide,ih⟩
 exact Nat.succ_le_succ (this xs)
abbrev NSy:Za:=["_law_row_here", "_law_plot", "_law_name", "_law_said_here", "e", "_law_kinds"]
end SH
namespace K12
open L2 SH
def top (i:Nat):aP:=PySem.Challenge.pw_shoretold_k12_neighbours_of_a_plot.main.body.getD i (.Pass ⟨0,0,0,0⟩)
abbrev sInit:aP:=(Xoc (top 4)).getD 0 (.Pass ⟨0,0,0,0⟩)
abbrev sAsk:aP:=top 6
abbrev sDitches:aP:=top 7
abbrev sEnds:aP:=top 8
abbrev sSpans:aP:=top 9
abbrev sLieOf:aP:=top 10
abbrev sCross:aP:=top 11
abbrev sTold:aP:=top 13
abbrev s_in_order:aP:=top 14
abbrev sAllows:aP:=top 15
abbrev sIsPlot:aP:=top 16
abbrev s_ask_plot:aP:=top 17
abbrev s_plots:aP:=top 18
abbrev s_parting:aP:=top 20
abbrev s_across:aP:=top 21
abbrev s_stepped:aP:=top 22
abbrev s_beyond:aP:=top 23
abbrev s_neighbours:aP:=top 24
abbrev sBegin:aP:=top 26
abbrev sPick:aP:=top 27
abbrev sPut:aP:=top 28
abbrev sWhere:aP:=top 29
abbrev sWord:aP:=top 30
abbrev sBarred:aP:=top 31
abbrev sRow:aP:=top 32
abbrev sNames:aP:=top 33
abbrev sIsland:aP:=top 34
abbrev s__law_one:aP:=top 35
abbrev s__law_bars:aP:=top 36
abbrev s__law_fits:aP:=top 37
abbrev s__law_plots:aP:=top 38
abbrev s__law_stranger:aP:=top 39
abbrev s__law_flip:aP:=top 40
abbrev s__law_odd_plot:aP:=top 41
abbrev s__law_good_plot:aP:=top 42
abbrev s__law_ways:aP:=top 43
abbrev s__law_over:aP:=top 44
abbrev s__law_tuple:aP:=top 45
abbrev s__law_said:aP:=top 46
abbrev s_law:aP:=top 47
abbrev NWo:Za:=["_law_where_here", "_law_one_here", "_law_other", "_law_low", "_law_high", "_law_inner"]
abbrev NBc:Za:=["_law_one_here", "_law_name", "_law_where_here"]
abbrev NFl1:Za:=["_law_one_here", "_law_name"]
abbrev NFi:Za:=["_law_bars_here", "_law_plot", "_law_one_here", "_law_other", "_law_word_here"]
abbrev NBr:Za:=["_law_row_here", "_law_where_here", "_law_told", "_law_one_here", "_law_other", "_law_word_here"]
abbrev NPl:Za:=["_law_row_here", "_law_bars_here", "_law_names_here", "_law_told", "_law_layer", "_law_k", "_law_fresh", "_law_plot", "_law_name", "_law_over_here"]
section
variable {P:ar}{w:aA}{K:NO}{mg:ao->Option aa}{base:ak}
def Xqd:FnScope ["self", "at"] ["self", "at"] (defScope sInit):=by walk_at "s"
def Xqe  (F:Fun K "__init__" "NotBeside.__init__" sInit f fd):FnOk P w K mg base CX0 1 f fd ["self", "at"] (spInit K "at"):=by
 refine F.ok Xqd (by walk_at "l") ?_
 ·walk_at "i"
  obtain⟨a,C,y,rfl,ha,c,k⟩:=h;refine⟨_,Ad (Xmy rfl (pv 0) (pv 1) (by rfl)),?_⟩;exact⟨_,rfl,_,rfl,a,C,rfl,ha,c,k⟩
def Xgo:FnScope ["row", "name"] ["row", "name"] (defScope sAsk):=by walk_at "s"
def Xqf  (F:Fun K "ask_ditch" "ask_ditch" sAsk f fd) (hC:mg "NoDitch" = some (.ref C)) (hc:OI K C bmV "ValueError.__new__" = true):
  FnOk P w K mg base (CX1 P w) 1 f fd ["row", "name"] (spAsk C):=by
 refine F.ok1 Xgo (by walk_at "l") ?_
 ·walk_at "i"
  obtain⟨r,row,x,rfl,hR,⟨lC,jN⟩,kq,ke⟩:=h;refine⟨_,Ad (A4 (Aq Il (pv 1) (pv 0) (by rfl))
   (Ad (Xby (C:=C) (E:=E) hc rfl leaves1 (by rfl) hC (pa_cons (Lm (Fy (by decide +kernel) (Xck (pv 1) (Fy (by decide +kernel) Ll)))) pa_nil))) A7),?_⟩
  refine⟨_,rfl,_,rfl,r,_,rfl,.inl (SqL.of hR),rfl,Dm row,_,rfl,?_⟩;rw[Dl];by_cases hx:x∈row
  ·refine Xbr hx ?_;exact kq hx H (Same.refl H)
  ·rw[S0 hx];refine iteT ?_;refine⟨_,rfl,x,rfl,by lia,(λc h=>Qe (jN c h) (by decide)),λz=>?_⟩;exact⟨by show 1<=sizeLine;decide,ke hx H (Same.refl H)⟩
def Xqg  (F:Fun K "ask_ditch" "ask_ditch" sAsk f fd) (hC:mg "NoDitch" = some (.ref C)) (hc:OI K C bmV "ValueError.__new__" = true):
  FnOk P w K mg base (CX2 P w) 1 f fd ["row", "name"] (spAsk C):=by
 refine F.ok2 Xgo (by walk_at "l") ?_
 ·walk_at "i"
  obtain⟨r,row,x,rfl,hR,⟨lC,jN⟩,kq,ke⟩:=h;refine⟨_,Ad (A4 (Aq Il (pv 1) (pv 0) (by rfl))
   (Ad (Xeo (C:=C) (E:=E) hc rfl leaves2 (by rfl) hC (pa_cons (Lm (Fy (by decide +kernel) (Xck (pv 1) (Fy (by decide +kernel) Ll)))) pa_nil))) A7),?_⟩
  refine⟨_,rfl,_,rfl,r,_,rfl,.inl (SqL.of hR),rfl,Dm row,_,rfl,?_⟩;rw[Dl];by_cases hx:x∈row
  ·refine Xbr hx ?_;exact kq hx H (Same.refl H)
  ·rw[S0 hx];refine iteT ?_;refine⟨_,rfl,x,rfl,by lia,(λc h=>Qe (jN c h) (by decide)),λz=>?_⟩;exact⟨by show 1<=sizeLine;decide,ke hx H (Same.refl H)⟩
def Xqh:FnScope ["row"] ["row"] (defScope sDitches):=by walk_at "s"
def Xqi  (F:Fun K "ditches" "ditches" sDitches f fd) (T:Bl mg):FnOk P w K mg base CX0 1 f fd ["row"] spDitches:=by
 refine F.ok Xqh (by walk_at "l") ?_
 ·walk_at "i"
  obtain⟨r,row,rfl,hR,hl,k⟩:=h;refine⟨_,Ad (An (pe_callB (G5 rfl) (by rfl) T.sorted (by rfl) (pa_cons (Bq (F2 rfl) (by rfl) T.set (by rfl) (pa_cons (pv 0) pa_nil)) pa_nil))),?_⟩;refine⟨_,rfl,r,row,rfl,.inl (SqL.of hR),by unfold aW;lia,λa na=>?_⟩;have jR:=Fz row;refine⟨a,ddup row,rfl,Aa,by lia,λl ls nl hp hs=>?_⟩;have s1:Same H (upd H a (Cj P w a (ddup row))):=(Same.refl H).step na;refine k l _ (s1.free nl) ?_ (s1.step nl);rw[Aa,Fc hp hs];rfl
def Xgp:FnScope NEn ["row", "name"] (defScope sEnds):=by walk_at "s"
def Xqj  (F:Fun K "ends" "ends" sEnds f fd) (T:Bl mg) (FA:Fn P w K mg base (CX1 P w) 1 "ask_ditch" ["row", "name"] (spAsk C)):
  FnOk P w K mg base (CX1 P w) 2 f fd ["row", "name"] (Xdl C):=by
 refine F.ok1 Xgp (by walk_at "l") ?_
 ·walk_at "i"
  obtain⟨r,row,x,rfl,hR,hx,hl,kq,ke⟩:=h;refine⟨_,Ac (Dz (Af FA hr rfl pass1 (pa_cons (pv 0) (pa_cons (pv 1) pa_nil))))
   (Ac (Jd (i:=2) (N:=NEc) (cap:=[none,none,some 1]) (CompScope.of (defScope sEnds) NEn rfl rfl rfl (by decide +kernel)) rfl Xgp.nd rfl rfl
    (Xkc (by rfl) T.enum (pa_cons (pv 0) pa_nil))
    (λ_ _ _=>Lw K 2 rfl rfl (C5 (Aw (i:=0) (show NEc.Nodup by decide +kernel) rfl (.inl rfl) (.inr rfl)) (C5 (Aw (i:=1) (show NEc.Nodup by decide +kernel) rfl (.inl rfl) (.inr rfl)) Gr)))
    (λ_ _ _=>Em (Aq Bu (pv 1) (pv 2) (Ar _))) (λ_ _ _=>pv 0))
   (Ad (An (Bb (pa_cons (pe_ix Bf (pv 2) pe_int (λ_ _=>rfl)) (pa_cons (pe_ix Bf (pv 2) pe_int (λ_ _=>rfl)) pa_nil)))))),?_⟩
  refine⟨_,rfl,_,rfl,r,row,x,rfl,hR,hx,λdy H1 s1=>?_,ke⟩;obtain⟨a,b,fS,kq⟩:=kq dy;refine⟨_,rfl,r,rfl,⟨_,SqL.of (s1 _ _ hR)⟩,?_⟩;refine Xkl (K:=K) (p:=0) (q:=1) (by decide) (SqL.of (s1 _ _ hR)) (by rw[Np,Sw];lia) (λi=>decide (row.getD i ao.empty=x)) (λi=>.int i) ?_ ?_ ?_
  ·intro i v H2 Q' hv s2 k;obtain⟨y,rfl,hy⟩:∃y,v=V.str y/\row.getD i ao.empty=y:=by
    rw[Oa] at hv;cases q:row[i]? with
    | none=>rw[q] at hv;cases hv
    | some y=>rw[q] at hv;exact⟨y,(N5 hv).symm,by simp[List.getD,q]⟩
   refine⟨_,rfl,_,rfl,rfl,_,rfl,?_⟩;have:=k H2 (Same.refl _);rw[hy] at this;have e:decide (V.str y=V.str x)=decide (y=x):=by
    by_cases z:y=x
    ·rw[z];simp
    ·rw[S0 z,S0 (λq=>z (by injection q))]
   rw[e];exact this
  ·intro i v H2 Q' hv hk s2 k;exact⟨_,rfl,k H2 (Same.refl _)⟩
  ·intro D H2 nD s2 hD;have fz:H2 D=some (.lst [.int a,.int b]):=by
    rw[hD,Np];have:=congrArg (List.map V.int) ((Mf row x).trans fS);rw[O2] at this;rw[show ((List.range row.length).filter λi=>decide (row.getD i ao.empty=x)).map (λi:Nat=>V.int (i:Int))=_ from this];rfl
   refine⟨_,rfl,_,_,_,_,rfl,rfl,SqL.of fz,rfl,_,rfl,_,_,_,_,rfl,rfl,SqL.of fz,rfl,by show 2<=sizeLine;decide,λp np=>?_⟩;have s3:=s1.trans s2;exact kq p _ (s3.free np) Aa (s3.step np)
def Xqk:FnScope ["row"] ["row"] (defScope sSpans):=by walk_at "s"
def Xql  (F:Fun K "spans" "spans" sSpans f fd) (FD:Fn P w K mg base CX0 1 "ditches" ["row"] spDitches) (FE:Fn P w K mg base (CX1 P w) 2 "ends" ["row", "name"] (Xdl C)):
  FnOk P w K mg base CX0 3 f fd ["row"] spSpans:=by
 refine F.ok Xqk (by walk_at "l") ?_
 ·walk_at "i"
  obtain⟨r,row,rfl,hR,R2,k⟩:=h;z_go;refine⟨_,Ad (An (Xc6 (N:=NSp) (cap:=[none,some 0]) (CompScope.of (defScope sSpans) ["row"] rfl rfl rfl (by decide +kernel)) rfl
   (Bt (Af FD cH (by rfl) Ah (pa_cons (pv 0) pa_nil))) (λ_ _ _=>Aw (i:=0) (show NSp.Nodup by decide +kernel) rfl (.inl rfl) (.inr rfl)) (λ_ _ _=>C8)
   (λ_ _ _=>pv 0) (λ_ _ _=>Af (by exact FE) (by exact hr) (by rfl) Xkk (pa_cons (pv 1) (pa_cons (pv 0) pa_nil))))),?_⟩
  have hl:=R2.len;refine⟨_,rfl,r,row,rfl,hR,hl,λdi H1 MW xm s1=>?_⟩;refine⟨di,rfl,⟨_,SqL.of xm⟩,λD nD=>?_⟩;have hn:∀i,i<(dit row).length->((dit row).map V.str).getD i .non = .str ((dit row).getD i ao.empty):=λi hi=>Cg V.str ao.empty _ hi;have xn:=s1 _ _ hR;have jR:=Ff row;refine⟨wN (dit row).length λi Z2 H2=>(∃v, Z2=[v,some (.ref r)])/\Same H1 H2/\∃kvs,H2 D=some (.dK kvs)/\Spn H2 kvs row ((dit row).take i),⟨(dit row).length,by simp,Ou _,⟨none,rfl⟩,(Same.refl H1).step nD,[],Aa,⟨rfl,λx hx=>by simp at hx⟩⟩,?_⟩;rintro i m Z1 H2 ⟨rfl,hi,⟨v,rfl⟩,s2,kvs,hD,sp⟩;by_cases b7:i<(dit row).length
  ·have pR:i<((dit row).map V.str).length:=by rw[Np];exact b7
   obtain⟨g1,g2⟩:=E9 (K:=K) (SqL.of (s2 _ _ xm)) pR;refine .inr ⟨g1,λx H3 y=>?_⟩;obtain⟨e1,e2⟩:=g2 x H3 y;subst e1 e2;rw[hn i b7];generalize hx:(dit row).getD i ao.empty=x;have uQ:x∈dit row:=by rw[<-hx];exact Cb b7
   have jC:=Ai.mp uQ;have jK:(dit row).take (i+1)=(dit row).take i++[x]:=by
    rw[Od b7,<-hx];simp[List.getD,b7]
   have lW:x∉(dit row).take i:=by
    have nd:=Fe row;have h2:((dit row).take (i+1)).Nodup:=nd.sublist (Pe ..);rw[jK] at h2;exact λz=>(Pp.mp h2).2.2 x z x (by simp) rfl
   refine⟨_,rfl,_,rfl,_,rfl,r,row,x,rfl,s2 _ _ xn,R2.ok x jC,by lia,λ_=>⟨_,_,Fj (R2.two x jC),λl H4 nl iS s4=>?_⟩,λz=>absurd jC z⟩;have eU:=s4 _ _ hD;have kl:kvs.length<=60:=by
    have:=sp.len;rw[N8] at this
    lia
   refine⟨kvs,Sum.inr x,rfl,eU,by rw[Sw];lia,?_⟩;refine wskip b7 ⟨⟨_,rfl⟩,λb u e=>?_,_,Aa,?_⟩
   ·rw[Ab (Ao e nD)];exact s4 _ _ (s2 b u e)
   ·rw[jK];refine sp.snoc lW ?_ λb xs e=>?_
    ·rw[Ab (λz=>by rw[z,eU] at iS;cases iS)];exact iS
    ·have e4:=s4 _ _ e;rw[Ab (λz=>by rw[z,eU] at e4;cases e4)];exact e4
  ·have ei:i=(dit row).length:=by lia
   subst ei;refine .inl ⟨by have:=Fa (K:=K) (SqL.of (s2 _ _ xm));rwa [Np] at this,?_⟩;rw[O9] at sp;exact k D kvs H2 (s1.free nD) hD sp (s1.trans s2)
def Nj:FnScope NLo ["here", "there"] (defScope sLieOf):=by walk_at "s"
def Xqm  (F:Fun K "lie_of" "lie_of" sLieOf f fd):FnOk P w K mg base CX0 2 f fd ["here", "there"] spLieOf:=by
 refine F.ok Nj (by walk_at "l") ?_
 ·walk_at "i"
  obtain⟨p,q,a,b,c,e,rfl,hp,hq,l4,k⟩:=h;refine⟨_,Ac (A4 (Aq (Jh (hu3 hr)) (pv 0) (pv 1) (Ar _)) (Ad (An Az)) A7)
   (Ac (Ak (i:=2) Nj.nd rfl (.inl rfl) (Xav Cv Cv (pe_ix (Dk K (by rfl)) (pv 1) pe_int (λ_ _=>rfl)) (pe_ix (Dk K (by rfl)) (pv 0) pe_int (λ_ _=>rfl)) (pe_ix (Dk K (by rfl)) (pv 1) pe_int (λ_ _=>rfl))))
   (Ac (Ak (i:=3) Nj.nd rfl (.inl rfl) (Xav Cv Cv (pe_ix (Dk K (by rfl)) (pv 1) pe_int (λ_ _=>rfl)) (pe_ix (Dk K (by rfl)) (pv 0) pe_int (λ_ _=>rfl)) (pe_ix (Dk K (by rfl)) (pv 1) pe_int (λ_ _=>rfl))))
   (Ac (A4 (Aq Ih (pv 2) (pv 3) (Ar _)) (Ad (An Az)) A7)
   (Ac (A4 (pt_val (pv 2)) (Ad (An Az)) A7)
   (Ad (An (Gp (Xhn Cv Cv (pe_ix (Dk K (by rfl)) (pv 0) pe_int (λ_ _=>rfl)) (pe_ix (Dk K (by rfl)) (pv 1) pe_int (λ_ _=>rfl)) (pe_ix (Dk K (by rfl)) (pv 0) pe_int (λ_ _=>rfl))) Az Az))))))),?_⟩
  have d2:∀{r:ae} {x y:Int},H r=some (.tup [.int x,.int y])->DAt H (.tuple [.int x,.int y]) (.ref r):=λ{r x y} h=>Jf h (Xkt [x,y]);refine⟨_,rfl,_,rfl,.tuple [.int a,.int b],.tuple [.int c,.int e],d2 hp,d2 hq,rfl,rfl,(by show min (max 0 (max 0 0)+1) (max 0 (max 0 0)+1)<=3;decide),_,rfl,?_⟩;have ee:am.eqv (.tuple [.int a,.int b]) (.tuple [.int c,.int e])=decide (a=c/\b=e):=by
   rw[Pu,Dp _ _ rfl rfl];simp
  rw[ee];have kk:=k H (Same.refl H);refine Ax (λh1=>?_) (λh1=>?_)
  ·unfold lieT at kk;rw[Sy (S5 h1)] at kk;exact kk
  ·have h1:=S6 h1;dsimp only[Kp,Gq,Ks,A2];refine Mg (x:=c) (y:=a) (z:=e) (λQ' h=>⟨_,rfl,q,_,_,_,rfl,rfl,SqT.of hq,rfl,h⟩) (λQ' h=>⟨_,rfl,p,_,_,_,rfl,rfl,SqT.of hp,rfl,h⟩) (λQ' h=>⟨_,rfl,q,_,_,_,rfl,rfl,SqT.of hq,rfl,h⟩) ?_;refine Mg (x:=c) (y:=b) (z:=e) (λQ' h=>⟨_,rfl,q,_,_,_,rfl,rfl,SqT.of hq,rfl,h⟩) (λQ' h=>⟨_,rfl,p,_,_,_,rfl,rfl,SqT.of hp,rfl,h⟩) (λQ' h=>⟨_,rfl,q,_,_,_,rfl,rfl,SqT.of hq,rfl,h⟩) ?_;refine⟨_,rfl,_,rfl,rfl,_,rfl,?_⟩;rw[Ku];refine Ax (λh2=>?_) (λh2=>?_)
   ·rw[Xln h1 (by simpa using h2)] at kk;exact kk
   ·refine⟨_,rfl,_,rfl,?_⟩;refine Ax (λh3=>?_) (λh3=>?_)
    ·rw[Xlo h1 (by simpa using h2) h3] at kk;exact kk
    ·rw[Xlp l4 h1 (by simpa using h2) h3] at kk;dsimp only[Kp,Xag,tIf,Kv];refine Mg (x:=a) (y:=c) (z:=b) (λQ' h=>⟨_,rfl,p,_,_,_,rfl,rfl,SqT.of hp,rfl,h⟩) (λQ' h=>⟨_,rfl,q,_,_,_,rfl,rfl,SqT.of hq,rfl,h⟩) (λQ' h=>⟨_,rfl,p,_,_,_,rfl,rfl,SqT.of hp,rfl,h⟩) ⟨_,rfl,?_⟩;refine Ax (λh4=>?_) (λh4=>?_)
     ·rw[Sy h4] at kk;exact kk
     ·rw[Sx (by rw[h4];exact N9)] at kk;exact kk
def Xgq:FnScope NCr ["row"] (defScope sCross):=by walk_at "s"
def Xqn  (F:Fun K "crossings" "crossings" sCross f fd) (FS:Fn P w K mg base CX0 3 "spans" ["row"] spSpans) (FO:Fn P w K mg base CX0 2 "lie_of" ["here", "there"] spLieOf):
  FnOk P w K mg base CX0 4 f fd ["row"] Xdp:=by
 refine F.ok Xgq (by walk_at "l") ?_
 ·walk_at "i"
  obtain⟨r,row,rfl,hR,R2,k⟩:=h;have hu:=Dj hr;k_go0;refine⟨_,Ac (Ak (i:=1) Xgq.nd rfl (.inr rfl) (Af FS hr (by rfl) Ah (pa_cons (pv 0) pa_nil)))
   (Ad (An (Xc7 (N:=NCc) (cap:=[none,none,some 1]) (CompScope.of (defScope sCross) NCr rfl rfl rfl (by decide +kernel)) rfl
    (F6 (pv 1)) (λ_ _ _=>Aw (i:=0) (show NCc.Nodup by decide +kernel) rfl (.inl rfl) (.inr rfl)) (λ_ _ _=>C8)
    (λ_ _ _=>F6 (pv 2)) (λ_ _ _=>Aw (i:=1) (show NCc.Nodup by decide +kernel) rfl (.inl rfl) (.inr rfl))
    (λ_ _ _=>Em (Dy (Aq Xau (pv 0) (pv 1) (Ar _)) (Dx (Aq Bu (Af (by exact FO) (by exact fD) (by rfl) Ah (pa_cons (B7 hu (pv 2) (pv 0) (λ_ _=>rfl)) (pa_cons (B7 hu (pv 2) (pv 1) (λ_ _=>rfl)) pa_nil))) Az (Ar _)))).pt)
    (λ_ _ _=>Bb (pa_cons (pv 0) (pa_cons (pv 1) pa_nil)))))),?_⟩
  f_tup
  have du:H2 d=some (.frz o (.dK kvs)):=by rw[<-lg];exact Aa
  have jW:Spn H2 kvs row (dit row):=⟨sp.keys,λx hx=>let ⟨l,h1,h2⟩:=sp.val x hx; ⟨l,h1,by rw[<-lg,Ab (λz=>by rw[z,hd] at h2;cases h2)];exact h2⟩⟩;have kl:=jW.len;have go:∀i H3,i<(dit row).length->Same H2 H3->(Itd d o kvs).go i H3/\∀x H4,(Itd d o kvs).yld i H3 x H4->H4=H3/\x = .str ((dit row).getD i ao.empty):=λi H3 hi s3=>by
   have:=G2 (kvs:=kvs) (s3 _ _ du) (by lia:i<kvs.length);rw[jW.at i hi] at this;exact this
  have nY:∀H3,Same H2 H3->(Itd d o kvs).stop (dit row).length H3:=λH3 s3=>by
   have:=G3 (kvs:=kvs) (s3 _ _ du)
   rwa [kl] at this
  let ns:=dit row
  let ok:Nat->Nat->Bool:=λi j=>decide (ltS (ns.getD i ao.empty) (ns.getD j ao.empty))&&decide (lieR row (ns.getD i ao.empty) (ns.getD j ao.empty) = "cross")
  let part:Nat->List am:=λi=>((List.range ns.length).filter (ok i)).map λj=>prD (ns.getD i ao.empty,ns.getD j ao.empty)
  have bN:∀i,(part i).length<=60:=λi=>by
   show (List.map _ _).length<=60;rw[Np];refine Oq (Pb ..) ?_;rw[Pk];show (dit row).length<=60
   lia
  have eB:∀i,((List.range i).flatMap part).length<=60 * i:=λi=>by
   induction i with
   | zero=>simp
   | succ i ih=>
    rw[O5,Qp,Nx];have:=bN i;simp only[Qn,Q9,Oy]
    lia
  refine Xkx (H0:=H2) (xs0:=[]) (n:=ns.length) (λi=>.str (ns.getD i ao.empty)) (λi=>(List.range i).flatMap part) nD ((Same.refl H2).step nD) Aa Da (fun Z1=>∃v0 v1, Z1=[v0,v1,some (.ref d)]) ⟨none,none,rfl⟩ go nY ?_ ?_
  ·rintro i Z1 xs H3 Q' hi ⟨v0,v1,rfl⟩ s3 hD d7 kk;have uR:=Cb hi;refine⟨_,rfl,d,kvs,rfl,.inr ⟨o,s3 _ _ du,?_⟩⟩;refine L7 (H0:=H2) (n:=ns.length) (λj=>.str (ns.getD j ao.empty)) (ok i) (λj=>prD (ns.getD i ao.empty,ns.getD j ao.empty)) ((List.range i).flatMap part) nD s3 hD d7 ?_ go nY ?_ ?_ ?_
   ·have:=eB i;have h2:i<60:=by have:i<(dit row).length:=hi;lia
    have h3:ns.length<=60:=by show (dit row).length<=60;lia
    rw[Sw]
    lia
   ·intro j H4 Q2 hj s4 k2;have qU:=Cb hj;refine⟨_,rfl,_,rfl,_,_,rfl,rfl,_,rfl,?_⟩;refine Ax (λq1=>?_) (λq1=>?_)
    ·obtain⟨l1,g1,t1⟩:=(jW.mono s4).get (.inr ⟨o,s4 _ _ du⟩) uR;obtain⟨l2,g2,t2⟩:=(jW.mono s4).get (.inr ⟨o,s4 _ _ du⟩) qU;refine⟨_,rfl,_,rfl,d,_,rfl,g1,_,rfl,_,rfl,d,_,rfl,g2,l1,l2,_,_,_,_,rfl,t1,t2,lie4 (R2.two _ (Ai.mp uR)) (R2.two _ (Ai.mp qU)),λH5 s5=>?_⟩;refine⟨rfl,_,rfl,?_⟩;rw[Fi];have:=k2 H5 s5;have e1:ok i j=decide (lieR row (ns.getD i ao.empty) (ns.getD j ao.empty) = "cross"):=by
      show (decide _&&decide _)=_;have pS:decide (ltS (ns.getD i ao.empty) (ns.getD j ao.empty))=true:=q1;rw[pS,Pi]
     rw[e1] at this;exact this
    ·have:=k2 H4 (Same.refl _);have e1:ok i j=false:=by
      show (decide _&&decide _)=_;have pS:decide (ltS (ns.getD i ao.empty) (ns.getD j ao.empty))=false:=q1;rw[pS,Pf]
     rw[e1] at this;exact this
   ·intro j iI H4 Q2 hj hk s4 eU k2;refine⟨_,rfl,_,rfl,by show 2<=sizeLine;decide,λp np=>?_⟩;exact k2 _ _ ((Same.refl H4).step np) (Xc9 eU np (L3 [ns.getD i ao.empty,ns.getD j ao.empty]))
   ·intro Z' H4 iI e s4 eU mG;refine kk Z' H4 iI ?_ s4 eU ?_
    ·have l1 : Z'.length=3:=by
      have:=congrArg List.length (e none);simpa using this
     match Z',l1,e with
     | [w0,w1,w2],_,e=>
      have:=e none;simp at this;exact⟨w0,w1,by rw[this.2]⟩
    ·rw[O5,Qp,Qn,Q9,Oy];exact mG
  ·intro Z' H3 xs s3 hD d7;refine k D xs H3 (s2.free nD) hD ?_ (s2.trans s3);have e:(List.range ns.length).flatMap part=(crs row).map prD:=by
    have e1:crs row=(List.range ns.length).flatMap λi=>((List.range ns.length).filter (ok i)).map λj=>(ns.getD i ao.empty,ns.getD j ao.empty):=by
     have em:dit row=(List.range ns.length).map λi=>ns.getD i ao.empty:=by
      have:=C9 ao.empty (λ_=>true) (dit row);rw[Ot.mpr (λ_ _=>rfl),Ot.mpr (λ_ _=>rfl)] at this;exact this.symm
     show (dit row).flatMap _=_
     conv=>lhs;rw[em]
     rw[List.flatMap_map];congr 1;funext i;have:=C9 ao.empty (λy=>decide (ltS (ns.getD i ao.empty) y)&&decide (lieR row (ns.getD i ao.empty) y = "cross")) (dit row);rw[<-em,<-this,O2];rfl
    rw[e1,List.map_flatMap];congr 1;funext i;rw[O2];rfl
   rw[<-e];exact d7
def Xqo:FnScope ["names"] ["names"] (defScope sTold):=by walk_at "s"
def Xqp  (F:Fun K "told" "told" sTold f fd) (T:Bl mg):FnOk P w K mg base CX0 1 f fd ["names"] (spTold K):=by
 refine F.ok Xqo (by walk_at "l") ?_
 ·walk_at "i"
  obtain⟨p,ss,rfl,hR,hl,k⟩:=h;refine⟨_,Ad (An (Bq Gv (by rfl) T.tuple (by rfl) (pa_cons (pe_callB (G5 rfl) (by rfl) T.sorted (by rfl) (pa_cons (Bq (F2 rfl) (by rfl) T.set (by rfl) (pa_cons (pv 0) pa_nil)) pa_nil)) pa_nil))),?_⟩;refine⟨_,rfl,p,ss,rfl,hR,by unfold aW;lia,λa na=>?_⟩;have jR:=Fz ss;refine⟨a,ddup ss,rfl,Aa,by lia,λl ls nl hp hs=>?_⟩;have s1:Same H (upd H a (Cj P w a (ddup ss))):=(Same.refl H).step na;refine⟨l,_,rfl,.inl ⟨SqL.of Aa,λt nt=>?_⟩⟩;have s2:=s1.step (o:=.lst (ls.map V.str)) nl;refine k t _ (s2.free nt) ?_ (s2.step nt);rw[Aa,Fc hp hs];rfl
def Xqq:FnScope ["some"] ["some"] (defScope s_in_order):=by walk_at "s"
def Xqr  (F:FunT K "in_order" s_in_order f fd T) (B:Bl mg) (pG:BmOk mg base):FnOk P w K mg base CX0 4 f fd ["some"] (spInOrder T (lamPos s_in_order)):=by
 refine F.ok Xqq (λvs H Q E h=>?_) (λc0 hhd A outer s H vs Q E hr h=>?_)
 ·obtain⟨l,ps,Ts,rfl,_⟩:=h;rfl
 ·obtain⟨l,ps,Ts,rfl,hl,hT,nd,d0,tab,k⟩:=h;refine⟨_,Ad (An (Xpo (show (A.deeper (au "in_order" (defScope s_in_order) s.heap.objs.size f (.ref c0))).units+1+1<bA by have:=hr.un;lia) (by rfl) B.sorted (by rfl) (pa_cons (pv 0) pa_nil) (Xhy (Xol (T:=T) (c0:=c0) (q:=qIn) pG rfl rfl rfl hhd rfl) Xhx))),?_⟩;refine⟨_,rfl,⟨tab,λf' c pm j8 H' nf hf hc nh kp=>?_⟩⟩;have As:∀b o,H b=some o->(∀z,o ≠ .tbl z)->b≠T:=λb o e n z=>by
   rcases tab with q | ⟨_,q,_⟩<;>(rw[z,q] at e;cases e;exact n _ rfl)
  have om:Tups H' ps Ts:=⟨hT.1,λi hi=>kp _ _ (hT.2 i hi) (As _ _ (hT.2 i hi) λz=>by simp)⟩;refine⟨l,f',ps,Ts,rfl,rfl,kp _ _ hl (As _ _ hl λz=>by simp),om,nd,d0,?_,λD p H2 nD g so sm hD=>?_⟩
  ·refine Xpp (k:=0) (x := "plot") hf hc ⟨rfl,rfl,rfl,by decide +kernel,rfl,by decide +kernel,by decide +kernel⟩ hr (λu=>rfl) λA1 xo s1 H1 i hi sm cH=>?_;refine⟨_,Bb (pa_cons (pe_callB Ci (by rfl) B.len bM (pa_cons (pv 0) pa_nil)) (pa_cons (pv 0) pa_nil)),λQ1 kk=>?_⟩;have hp:=sm _ _ (om.2 i hi);refine⟨_,rfl,ps.getD i 0,_,rfl,.inr (SqT.of hp),_,rfl,by show 2<=sizeLine;decide,λt nt=>?_⟩;refine kk t _ ?_ (Same.upd0 nt);rw[Aa,Np]
  ·obtain⟨HR,h9⟩:=Xpq (Ts:=Ts) (by rw[<-hT.1];exact g) (by rw[<-hT.1];exact so);refine k D _ _ H2 ?_ hD ((Xpr om g).same sm) HR h9 (SH.Au.same nh sm) λb o e n=>sm _ _ (kp b o e n);cases e:H D with
   | none=>rfl
   | some o=>
    by_cases z:D=T
    ·rcases nh with q | ⟨_,q,_⟩<;>(rw[<-z,nD] at q;cases q)
    ·rw[kp D o e z] at nD;cases nD
def Xqs:FnScope ["how", "off"] ["how", "off"] (defScope sAllows):=by walk_at "s"
def Xqt  (F:Fun K "allows" "allows" sAllows f fd):FnOk P w K mg base CX0 1 f fd ["how", "off"] spAllows:=by
 refine F.ok Xqs (by walk_at "l") ?_
 ·walk_at "i"
  obtain⟨iw,lK,rfl,k⟩:=h;refine⟨_,Ac (A4 (Aq Bu (pv 0) Az (Ar _)) (Ad (An (pv 1))) A7)
   (Ad (An (Xhb (D0 Ih (pv 0) Az (Ar _)) (Ko (Xhc (pv 1)))))),?_⟩
  refine⟨_,rfl,rfl,_,rfl,?_⟩;rw[Fi];unfold Bs at k;refine Ax (λq=>?_) (λq=>?_)
  ·rw[Sy (S5 q)] at k;exact⟨_,rfl,k⟩
  ·rw[Sx (S6 q)] at k;refine⟨_,rfl,rfl,_,rfl,?_⟩;rw[Fi];refine Ax (λq2=>?_) (λq2=>?_)
   ·rw[q2,Bool.true_or] at k;exact k
   ·rw[q2,Bool.false_or] at k;exact⟨_,rfl,lK,rfl,k⟩
def Xgr:FnScope NIp ["row", "plot"] (defScope sIsPlot):=by walk_at "s"
def Xqu  (F:Fun K "is_plot" "is_plot" sIsPlot f fd) (T:Bl mg) (FS:Fn P w K mg base CX0 3 "spans" ["row"] spSpans) (FO:Fn P w K mg base CX0 2 "lie_of" ["here", "there"] spLieOf)
  (FT:Fn P w K mg base CX0 1 "told" ["names"] (spTold K)) (FA:Fn P w K mg base CX0 1 "allows" ["how", "off"] spAllows):FnOk P w K mg base CX0 4 f fd ["row", "plot"] spIsPlot:=by
 refine F.ok Xgr (by walk_at "l") ?_
 ·walk_at "i"
  obtain⟨r,p,row,ss,rfl,hR,R2,hP,hok,kH,k⟩:=h;have hu:=Dj hr;z_go;k_go0;refine⟨_,Ac (Ak (i:=2) Xgr.nd rfl (.inr rfl) (Af FS hr (by rfl) Ah (pa_cons (pv 0) pa_nil)))
   (Ac (A4 (pw_or (Aq (Ji (hu3 hr)) (pv 1) (Af FT cH (by rfl) Ah (pa_cons (pv 1) pa_nil)) (Ar _))
     (Fu (pt_val (pe_callB (Xkz rfl) (by rfl) T.any (by rfl) (pa_cons (Fg (N:=NI1) (cap:=[none,some 2]) (CompScope.of (defScope sIsPlot) NIp rfl rfl rfl (by decide +kernel)) rfl
      (Ia (pv 1)) (λ_ _ _=>Aw (i:=0) (show NI1.Nodup by decide +kernel) rfl (.inl rfl) (.inr rfl)) (λ_ _ _=>C8) (λ_ _ _=>Xg8 (Xio (by exact hu) (pv 0) (pv 1)) (by rfl))) pa_nil))))).pt
    (Ad (An Cu)) A7)
   (Ad (An (pe_callB (Lj rfl) (by rfl) T.all (by rfl) (pa_cons (Xc7 (N:=NI2) (cap:=[none,none,some 1,some 2]) (CompScope.of (defScope sIsPlot) NIp rfl rfl rfl (by decide +kernel)) rfl
    (Ia (pv 1)) (λ_ _ _=>Aw (i:=0) (show NI2.Nodup by decide +kernel) rfl (.inl rfl) (.inr rfl)) (λ_ _ _=>C8)
    (λ_ _ _=>F6 (pv 3)) (λ_ _ _=>Aw (i:=1) (show NI2.Nodup by decide +kernel) rfl (.inl rfl) (.inr rfl)) (λ_ _ _=>C8)
    (λ_ _ _=>Af (by exact FA) (by exact cH) (by rfl) Ah (pa_cons (Af (by exact FO) (by exact fD) (by rfl) Ah (pa_cons (B7 (by exact hu) (pv 3) (pv 0) (λ_ _=>rfl)) (pa_cons (B7 (by exact hu) (pv 3) (pv 1) (λ_ _=>rfl)) pa_nil)))
     (pa_cons (D0 (Lv K (by rfl)) (pv 1) (pv 2) (by rfl)) pa_nil)))) pa_nil))))),?_⟩
  have hl:=R2.len;have jR:=Ff row;refine⟨_,rfl,r,row,rfl,hR,R2,λd kvs H1 nd hd sp s1=>?_⟩;have on:=s1 _ _ hP;refine⟨_,rfl,_,rfl,p,ss,rfl,.inr (SqT.of on),kH,λt H2 nt ht s2=>?_⟩;have eV:=s1.trans s2;have jX:=s2 _ _ on;refine⟨_,_,Cl jX,Cl ht,Bm _ (Db hok),Bm _ (Db (Xdu hok)),Xdt _ _,_,rfl,?_⟩;rw[Jq hok (Xdu hok)];by_cases e1:ss=told ss
  ·rw[Sz e1];refine Bd ?_;refine⟨_,rfl,p,rfl,⟨_,SqT.of jX⟩,?_⟩;have du:=s2 _ _ hd;have jW:=sp.mono s2;refine Xcu (n:=ss.length) (by rw[Sw];lia) (λi=>(ss.map V.str).getD i .non) (λi=>.bl (!decide (ss.getD i ao.empty∈row))) ?_ ?_ ?_ ?_
   ·intro i H3 hi s3;exact Iv (SqT.of (s3 _ _ jX)) (by rw[Np];exact hi)
   ·intro H3 s3;have:=Iw (K:=K) (SqT.of (s3 _ _ jX))
    rwa [Np] at this
   ·intro i H3 Q' hi s3 kk;rw[Cg V.str ao.empty ss hi];refine⟨_,rfl,_,rfl,d,_,rfl,.inl ⟨kvs,Sum.inr _,.inl (s3 _ _ du),rfl,rfl⟩,?_⟩;rw[jW.has];exact kk H3 (Same.refl _)
   ·intro D H3 nD s3 hD;have fz:H3 D=some (.lst (((List.range ss.length).map λi => !decide (ss.getD i ao.empty∈row)).map V.bl)):=by rw[hD,O2];rfl
    refine⟨D,_,rfl,fz,_,rfl,?_⟩;rw[Xlt ao.empty (λx => !decide (x∈row)) ss];have fE:=eV.trans s3;have e2:(ss.any λx => !decide (x∈row)) = !(ss.all λx=>decide (x∈row)):=by rw[List.not_all_eq_any_not]
    rw[e2];cases e3:ss.all (λx=>decide (x∈row)) with
    | false=>
     refine iteT ?_;have:=k H3 fE;unfold Ag at this;rw[e3,Rs,Pf] at this;exact this
    | true=>
     refine Bd ?_;have dy:∀x∈ss,x∈row:=λx hx=>S5 (Oh.mp e3 x hx);have ix:=s3 _ _ jX;have mO:=s3 _ _ du;have xp:=jW.mono s3;refine⟨_,rfl,p,rfl,⟨_,SqT.of ix⟩,λD2 qV=>?_⟩;have kl:=xp.len;have pO:p≠d:=λz=>by rw[z,mO] at ix;cases ix
     have jY:D2≠d:=(Ao mO qV).symm;have tE:hid d H3 D2=none:=by
      unfold hid;rw[Sx jY];exact qV
     have pT:hid d H3 p=some (.tup (ss.map V.str)):=hid_ne ix pO
     let part:Nat->List Bool:=λi=>(dit row).map λy=>Bs (lieR row (ss.getD i ao.empty) y) (decide (y∈ss))
     refine Xky (H0:=hid d H3) (xs0:=[]) (n:=ss.length) (λi=>.str (ss.getD i ao.empty)) (λi=>((List.range i).flatMap part).map am.bool) (λH4=>Rd H4 d (.dK kvs)) tE ((Eo d H3).trans ((Same.refl H3).step qV)) (.inl (ku mO qV)) Aa Da
      (fun Z1=>∃v0 v1, Z1=[v0,v1,some (.ref p),some (.ref d)]) ⟨none,none,rfl⟩ ?_ ?_ ?_ ?_
     ·intro i H4 hi s4;have:=Iv (K:=K) (SqT.of (s4 _ _ pT)) (show i<(ss.map V.str).length by rw[Np];exact hi)
      rwa [Cg V.str ao.empty ss hi] at this
     ·intro H4 s4;have:=Iw (K:=K) (SqT.of (s4 _ _ pT))
      rwa [Np] at this
     ·rintro i Z1 xs H4 Q' hi ⟨v0,v1,rfl⟩ s4 g4 eU d7 kk;have jC:ss.getD i ao.empty∈row:=dy _ (Cb hi);have main:∀(xq:TE) (o:aM) (H5:Hp),(∀(j:Nat) (H6:Hp) (Q2:VK) (l1 l2:ae),j<(dit row).length->DGet H6 d (.str (ss.getD i ao.empty)) (some (.ref l1))->H6 l1=some (.tup [.int (pl row (ss.getD i ao.empty)).1,.int (pl row (ss.getD i ao.empty)).2]) ->
        DGet H6 d (.str ((dit row).getD j ao.empty)) (some (.ref l2))->H6 l2=some (.tup [.int (pl row ((dit row).getD j ao.empty)).1,.int (pl row ((dit row).getD j ao.empty)).2])->H6 p=some (.tup (ss.map V.str))->(∀H',Same H6 H'->Q2 (.bl (Bs (lieR row (ss.getD i ao.empty) ((dit row).getD j ao.empty)) (decide ((dit row).getD j ao.empty∈ss)))) H') ->
        xq [some (.str (ss.getD i ao.empty)),some (.str ((dit row).getD j ao.empty)),some (.ref p),some (.ref d)] H6 Q2)->H5 d=some (.frz o (.dK kvs))->Same (hid d H3) H5->H5 D2=some (.lst xs)->DAll (hid D2 H5) (((List.range i).flatMap part).map am.bool) xs ->
        tLp (A2 1) El (He xq D2) (Itd d o kvs) ([some (.str (ss.getD i ao.empty)),v1,some (.ref p),some (.ref d)]:L2.St) H5 Q':=λxq o H5 HS HU s5 tF xr=>by
       have bN:∀j,(part j).length<=60:=λj=>by
        show (List.map _ _).length<=60;rw[Np]
        lia
       have eB:∀j,(((List.range j).flatMap part).map am.bool).length<=60 * j:=λj=>by
        rw[Np]
        induction j with
        | zero=>simp
        | succ j ih=>
         rw[O5,Qp,Nx,Qn,Q9,Oy];have:=bN j
         lia
       have lh:hid D2 H5 d=some (.frz o (.dK kvs)):=hid_ne HU jY.symm;have gt:Spn (hid D2 H5) kvs row (dit row):=⟨xp.keys,λx hx=>let ⟨l,h1,h2⟩:=xp.val x hx; ⟨l,h1,hid_ne (s5 _ _ (hid_ne h2 (λz=>by rw[z,mO] at h2;cases h2))) (λz=>by rw[z,qV] at h2;cases h2)⟩⟩;have tG:hid D2 H5 p=some (.tup (ss.map V.str)):=hid_ne (s5 _ _ pT) (λz=>by rw[z,qV] at ix;cases ix);refine L7 (H0:=hid D2 H5) (n:=(dit row).length) (λj=>.str ((dit row).getD j ao.empty)) (λ_=>true) (λj=>.bool (Bs (lieR row (ss.getD i ao.empty) ((dit row).getD j ao.empty)) (decide ((dit row).getD j ao.empty∈ss)))) (((List.range i).flatMap part).map am.bool)
        (Sy rfl) (Eo D2 H5) tF xr (by have:=eB i;have h2:i<60:=(by lia);rw[Sw];lia) ?_ ?_ ?_ ?_ ?_
       ·intro j H6 hj s6;have:=G2 (kvs:=kvs) (s6 _ _ lh) (by lia:j<kvs.length)
        rwa [gt.at j hj] at this
       ·intro H6 s6;have:=G3 (kvs:=kvs) (s6 _ _ lh)
        rwa [kl] at this
       ·intro j H6 Q2 hj s6 k2;exact k2 H6 (Same.refl _)
       ·intro j iI H6 Q2 hj _ s6 tH k2;have HV:=Cb hj;obtain⟨l1,g1,t1⟩:=(gt.mono s6).get (.inr ⟨o,s6 _ _ lh⟩) (Ai.mpr jC);obtain⟨l2,g2,t2⟩:=(gt.mono s6).get (.inr ⟨o,s6 _ _ lh⟩) HV;exact HS j H6 Q2 l1 l2 hj g1 t1 g2 t2 (s6 _ _ tG) λH' s'=>k2 _ _ s' (by unfold DAt;rfl)
       ·intro Z' H6 iI e6 s6 tH jD;refine kk Z' H6 iI ?_ (λb u e=>?_) (.inr ⟨o,s6 _ _ lh⟩) tH ?_
        ·have l1 : Z'.length=4:=by
          have:=congrArg List.length (e6 none);simpa using this
         match Z',l1,e6 with
         | [w0,w1,w2,w3],_,e6=>
          have:=e6 none;simp at this;exact⟨w0,w1,by rw[this.2.1,this.2.2]⟩
        ·refine s6 _ _ (hid_ne (s5 _ _ e) (λz=>?_));rw[z,tE] at e;cases e
        ·rw[Ot.mpr (λ_ _=>rfl)] at jD;have em:(List.range (dit row).length).map (λj=>am.bool (Bs (lieR row (ss.getD i ao.empty) ((dit row).getD j ao.empty)) (decide ((dit row).getD j ao.empty∈ss))))=(part i).map am.bool:=by
          show _=((dit row).map _).map _;have this:=C9 ao.empty (λ_=>true) (dit row);rw[Ot.mpr (λ_ _=>rfl),Ot.mpr (λ_ _=>rfl)] at this
          conv=>rhs;rw[<-this]
          rw[O2,O2];rfl
         rw[em] at jD;rw[O5,Qp,N2,Qn,Q9,Oy];exact jD
      rcases g4 with g4 | ⟨o,g4⟩
      ·refine⟨_,rfl,d,kvs,rfl,.inl ⟨g4,λo=>?_⟩⟩;refine main _ o _ (λj H6 Q2 l1 l2 hj g1 t1 g2 t2 xt k2=>⟨_,rfl,_,rfl,d,_,rfl,g1,_,rfl,_,rfl,d,_,rfl,g2,l1,l2,_,_,_,_,rfl,t1,t2,lie4 (R2.two _ jC) (R2.two _ (Ai.mp (Cb hj))),λH7 s7=>⟨_,rfl,_,rfl,p,_,rfl,.inr (SqT.of (s7 _ _ xt)),rfl,Dm ss,_,_,rfl,by rw[Sx (by decide),Dl];exact k2 H7 s7⟩⟩) Aa (λb u e=>?_) (by rw[Ab jY];exact eU) ?_
       ·rw[Ab (λz=>by rw[z] at e;unfold hid at e;rw[Sy rfl] at e;cases e)];exact s4 _ _ e
       ·rw[Ml d7];have gb:∀bs:List Bool,DAll (hid D2 (upd H4 d (.frz o (.dK kvs)))) (bs.map am.bool) (bs.map V.bl):=λbs=>by
         induction bs with
         | nil=>exact Da
         | cons b bs ih=>exact Dn (by unfold DAt;rfl) ih
        exact gb _
      ·exact⟨_,rfl,d,kvs,rfl,.inr ⟨o,g4,main _ o H4 (λj H6 Q2 l1 l2 hj g1 t1 g2 t2 xt k2=>⟨_,rfl,_,rfl,d,_,rfl,g1,_,rfl,_,rfl,d,_,rfl,g2,l1,l2,_,_,_,_,rfl,t1,t2,lie4 (R2.two _ jC) (R2.two _ (Ai.mp (Cb hj))),λH7 s7=>⟨_,rfl,_,rfl,p,_,rfl,.inr (SqT.of (s7 _ _ xt)),rfl,Dm ss,_,_,rfl,by rw[Sx (by decide),Dl];exact k2 H7 s7⟩⟩) g4 s4 eU d7⟩⟩
     ·intro Z' H4 xs s4 g4 eU d7;have hx:=Ml d7;subst hx;refine⟨D2,_,rfl,eU,?_⟩;have ef:((List.range ss.length).flatMap part).all id=ss.all λx=>(dit row).all λy=>Bs (lieR row x y) (decide (y∈ss)):=by
       have e5:(List.range ss.length).flatMap part=ss.flatMap λx=>(dit row).map λy=>Bs (lieR row x y) (decide (y∈ss)):=Xlu ao.empty (λx=>(dit row).map λy=>Bs (lieR row x y) (decide (y∈ss))) ss;rw[e5,Xdv];congr 1;funext x;rw[List.all_map];rfl
      rw[ef];have mF:Same H H4:=λb u e=>s4 _ _ (hid_ne (fE _ _ e) (λz=>by rw[z,nd] at e;cases e));have:=k H4 mF;unfold Ag at this;rw[Sz e1,e3,Pi,Pi] at this;exact this
  ·rw[S0 e1];refine iteT ?_;have:=k H2 eV;unfold Ag at this;rw[S0 e1,Pf,Pf] at this;exact this
def Xqv:FnScope ["row", "plot"] ["row", "plot"] (defScope s_ask_plot):=by walk_at "s"
def Xqw  (F:Fun K "ask_plot" "ask_plot" s_ask_plot f fd) (hC:mg "NoPlot" = some (.ref C)) (hc:OI K C bmV "ValueError.__new__" = true) (FX:Fn P w K mg base CX0 4 "is_plot" ["row", "plot"] spIsPlot):
  FnOk P w K mg base (CX2 P w) 5 f fd ["row", "plot"] (spAskPlot C):=by
 refine F.ok2 Xqv (by walk_at "l") ?_
 ·walk_at "i"
  obtain⟨r,p,row,ss,rfl,hR,R2,hP,hok,kH,kq,ke⟩:=h;refine⟨_,Ad (A4 (pt_not (pt_val (Af FX hr (by rfl) Ah (pa_cons (pv 0) (pa_cons (pv 1) pa_nil)))))
   (Ad (Xeo (C:=C) (E:=E) hc rfl leaves2 (by rfl) hC (pa_cons (Lm (Fy (by decide +kernel) (Xlb hr (pv 1) (Fy (by decide +kernel) Ll)))) pa_nil))) A7),?_⟩
  refine⟨_,rfl,_,rfl,r,p,row,ss,rfl,hR,R2,hP,hok,by lia,λH1 s1=>⟨_,rfl,?_⟩⟩;cases e:Ag row ss with
  | true=>exact Bd (kq e H1 s1)
  | false=>
   refine iteT ⟨_,rfl,p,ss,rfl,s1 _ _ hP,kH,Xl3 hok,λz=>?_⟩;exact⟨by show 1<=sizeLine;decide,ke e H1 s1⟩
def Hx:FnScope NPp ["row"] (defScope s_plots):=by walk_at "s"
def Xqx  (F:Fun K "plots" "plots" s_plots f fd) (FS:Fn P w K mg base CX0 3 "spans" ["row"] spSpans) (FO:Fn P w K mg base CX0 2 "lie_of" ["here", "there"] spLieOf) (FT:Fn P w K mg base CX0 1 "told" ["names"] (spTold K)) (FC:Fn P w K mg base CX0 4 "crossings" ["row"] Xdp)
  (FI:Fn P w K mg base CX0 4 "in_order" ["some"] (spInOrder T (lamPos s_in_order))):FnOk P w K mg base CX0 5 f fd ["row"] (spPlotsA T (lamPos s_in_order)):=by
 refine F.ok Hx (by walk_at "l") ?_
 ·walk_at "i"
  obtain⟨r,row,rfl,hR,R2,h3,fH,tab,k⟩:=h;have hu:=Dj hr;z_go;k_go0;have tI:Room 3 _:=hr.mono (by decide);refine⟨_,Ac (Ak (i:=1) Hx.nd rfl (.inr rfl) (Af FS tI (by rfl) Ah (pa_cons (pv 0) pa_nil)))
   (Ac (Ak (i:=2) Hx.nd rfl (.inr rfl) (Xc6 (N:=NPo) (cap:=[none,some 1]) (CompScope.of (defScope s_plots) NPp rfl rfl rfl (by decide +kernel)) rfl
    (F6 (pv 1)) (λ_ _ _=>Aw (i:=0) (show NPo.Nodup by decide +kernel) rfl (.inr rfl) (.inl rfl)) (λ_ _ _=>C8) (λ_ _ _=>pv 0)
    (λs0 H0 ex=>Fg (N:=NPi) (cap:=[none,some 0,some 1]) (CompScope.of _ NPo rfl rfl rfl (by kernel_rfl)) rfl
     (F6 (pv 1)) (λ_ _ _=>Aw (i:=0) (show NPi.Nodup by decide +kernel) rfl (.inl rfl) (.inr rfl))
     (λ_ _ _=>Em (Aq (Lv K (by rfl)) (Af (by exact FO) (by exact fD) (by rfl) Ah (pa_cons (B7 hu (pv 2) (pv 1) (λ_ _=>rfl)) (pa_cons (B7 hu (pv 2) (pv 0) (λ_ _=>rfl)) pa_nil))) (Bb (pa_cons Az (pa_cons Az pa_nil))) (by rfl)))
     (λ_ _ _=>pv 0))))
   (Ac (Xge (i:=3) (N:=NPs) (cap:=[none,some 2]) (CompScope.of (defScope s_plots) NPp rfl rfl rfl (by decide +kernel)) rfl Hx.nd rfl rfl
    (F6 (pv 2)) (λ_ _ _=>Aw (i:=0) (show NPs.Nodup by decide +kernel) rfl (.inl rfl) (.inr rfl)) (λ_ _ _=>C8)
    (λ_ _ _=>Af (by exact FT) (by exact cH) (by rfl) Ah (pa_cons (B7 hu (pv 1) (pv 0) (λ_ _=>rfl)) pa_nil)))
   (Ac (Xge (i:=4) (N:=NPd) (cap:=[none,none,some 2]) (CompScope.of (defScope s_plots) NPp rfl rfl rfl (by decide +kernel)) rfl Hx.nd rfl rfl
    (Bt (Af FC hr (by rfl) Ah (pa_cons (pv 0) pa_nil))) (λ_ _ _=>Lw K 2 rfl rfl (C5 (Aw (i:=0) (show NPd.Nodup by decide +kernel) rfl (.inl rfl) (.inr rfl)) (C5 (Aw (i:=1) (show NPd.Nodup by decide +kernel) rfl (.inl rfl) (.inr rfl)) Gr))) (λ_ _ _=>C8)
    (λ_ _ _=>Af (by exact FT) (by exact cH) (by rfl) Ah (pa_cons (Am Bv (B7 hu (pv 2) (pv 0) (λ_ _=>rfl)) (B7 hu (pv 2) (pv 1) (λ_ _=>rfl))) pa_nil)))
   (Ad (An (Af FI hr (by rfl) Ah (pa_cons (Am Bv (Am Bv (Bi (pa_cons (Bb pa_nil) pa_nil)) (pv 3)) (pv 4)) pa_nil))))))),?_⟩
  f_tup
  have du:H2 d=some (.frz o (.dK kvs)):=by rw[<-lg];exact Aa
  have jW:Spn H2 kvs row (dit row):=⟨sp.keys,λx hx=>let ⟨l,h1,h2⟩:=sp.val x hx; ⟨l,h1,by rw[<-lg,Ab (λz=>by rw[z,hd] at h2;cases h2)];exact h2⟩⟩;have kl:=jW.len;have go:∀i H3,i<(dit row).length->Same H2 H3->(Itd d o kvs).go i H3/\∀x H4,(Itd d o kvs).yld i H3 x H4->H4=H3/\x = .str ((dit row).getD i ao.empty):=λi H3 hi s3=>by
   have:=G2 (kvs:=kvs) (s3 _ _ du) (by lia:i<kvs.length);rw[jW.at i hi] at this;exact this
  have nY:∀H3,Same H2 H3->(Itd d o kvs).stop (dit row).length H3:=λH3 s3=>by
   have:=G3 (kvs:=kvs) (s3 _ _ du)
   rwa [kl] at this
  refine⟨wN (dit row).length λi Z2 H3=>(∃v, Z2=[v,some (.ref d)])/\Same H2 H3/\∃jZ,H3 D=some (.dK jZ)/\Offs H3 jZ row ((dit row).take i),⟨(dit row).length,by simp,Ou _,⟨none,rfl⟩,(Same.refl H2).step nD,[],Aa,⟨rfl,λx hx=>by simp at hx⟩⟩,?_⟩;rintro i m Z1 H3 ⟨rfl,hi,⟨v,rfl⟩,s3,jZ,hD,tJ⟩;by_cases b7:i<(dit row).length
  ·obtain⟨g1,g2⟩:=go i H3 b7 s3;refine .inr ⟨g1,λx H4 y=>?_⟩;obtain⟨e1,e2⟩:=g2 x H4 y;subst e1 e2;generalize hx:(dit row).getD i ao.empty=x;have uQ:x∈dit row:=by rw[<-hx];exact Cb b7
   have jC:=Ai.mp uQ;have jK:(dit row).take (i+1)=(dit row).take i++[x]:=by
    rw[Od b7,<-hx];simp[List.getD,b7]
   have lW:x∉(dit row).take i:=by
    have nd:=Fe row;have h2:((dit row).take (i+1)).Nodup:=nd.sublist (Pe ..);rw[jK] at h2;exact λz=>(Pp.mp h2).2.2 x z x (by simp) rfl
   refine⟨_,rfl,_,rfl,d,kvs,rfl,.inr ⟨o,s3 _ _ du,?_⟩⟩;refine G8 (n:=(dit row).length) (by rw[Sw];lia) (λj=>.str ((dit row).getD j ao.empty)) (λj=>upB row x ((dit row).getD j ao.empty)) (λj=>.str ((dit row).getD j ao.empty)) ?_ ?_ ?_ ?_ ?_
   ·exact λj H5 hj s5=>go j H5 hj (s3.trans s5)
   ·exact λH5 s5=>nY H5 (s3.trans s5)
   ·intro j H5 Q' hj s5 kk;have pU:=s3.trans s5;have qU:=Cb hj;obtain⟨l1,xu,t1⟩:=(jW.mono pU).get (.inr ⟨o,pU _ _ du⟩) uQ;obtain⟨l2,xv,t2⟩:=(jW.mono pU).get (.inr ⟨o,pU _ _ du⟩) qU;refine⟨_,rfl,_,rfl,d,_,rfl,xu,_,rfl,_,rfl,d,_,rfl,xv,l1,l2,_,_,_,_,rfl,t1,t2,lie4 (R2.two x jC) (R2.two _ (Ai.mp qU)),λH6 s6=>?_⟩;refine⟨by show 2<=sizeLine;decide,λt nt=>?_⟩;refine⟨t,[ao.ofString "same",ao.ofString "within"].map V.str,rfl,.inr (SqT.of Aa),rfl,Dm _,_,rfl,?_⟩;rw[Sx (by decide),Dl];have e:=Xp0 (row:=row) (x:=x) (y:=(dit row).getD j ao.empty) (R2.two x jC) (R2.two _ (Ai.mp qU));unfold lieR at e;rw[e];exact kk _ (s6.step nt)
   ·intro j H5 Q' hj hk s5 kk;exact⟨_,rfl,kk H5 (Same.refl _)⟩
   ·intro l H5 nl s5 oo;have pV:H5 l=some (.lst (((dit row).filter (upB row x)).map V.str)):=by
     rw[oo,<-C9 ao.empty (upB row x) (dit row),O2];rfl
    have tF:=s5 _ _ hD;have At:jZ.length<=60:=by
     have:=tJ.len;rw[N8] at this
     lia
    refine⟨jZ,Sum.inr x,rfl,tF,by rw[Sw];lia,?_⟩;refine wskip b7 ⟨⟨_,rfl⟩,λb u e=>?_,_,Aa,?_⟩
    ·rw[Ab (Ao e nD)];exact s5 _ _ (s3 b u e)
    ·rw[jK];refine tJ.snoc lW ?_ λb xs e=>?_
     ·rw[Ab (λz=>by rw[z,tF] at pV;cases pV)];exact pV
     ·have e4:=s5 _ _ e;rw[Ab (λz=>by rw[z,tF] at e4;cases e4)];exact e4
  ·have ei:i=(dit row).length:=by lia
   subst ei;refine .inl ⟨nY H3 s3,?_⟩;rw[O9] at tJ;have uS:=s2.trans s3;refine⟨_,rfl,D,jZ,rfl,.inl ⟨hD,λo2 L nL=>?_⟩⟩;generalize xw:upd H3 D (.frz o2 (.dK jZ))=H4 at nL;have HW:H D=none:=s2.free nD;have s4:Same H H4:=λb u e=>by rw[<-xw,Ab (Ao e HW)];exact uS b u e
   have eU:H4 D=some (.frz o2 (.dK jZ)):=by rw[<-xw];exact Aa
   have uT:Offs H4 jZ row (dit row):=⟨tJ.keys,λx hx=>let ⟨l,h1,h2⟩:=tJ.val x hx; ⟨l,h1,by rw[<-xw,Ab (λz=>by rw[z,hD] at h2;cases h2)];exact h2⟩⟩;have At:=uT.len;have fl:∀x,((dit row).filter (upB row x)).length<=14:=λx=>Oq (Pb ..) (by lia);refine L7 (H0:=H4) (xs0:=[]) (n:=(dit row).length) (λj=>.str ((dit row).getD j ao.empty)) (λ_=>true) (λj=>tupD ((dit row).filter (upB row ((dit row).getD j ao.empty)))) [] nL ((Same.refl H4).step nL) Aa Da (by rw[Sw,Pw];lia) ?_ ?_ ?_ ?_ ?_
   ·intro j H5 hj s5;have:=G2 (kvs:=jZ) (s5 _ _ eU) (by lia:j<jZ.length);rw[uT.at j hj] at this;exact this
   ·intro H5 s5;have:=G3 (kvs:=jZ) (s5 _ _ eU)
    rwa [At] at this
   ·exact λj H5 Q' hj s5 kk=>kk H5 (Same.refl _)
   ·intro j xs H5 Q' hj _ s5 xx kk;obtain⟨l,gg,oo⟩:=(uT.mono s5).get (.inr ⟨o2,s5 _ _ eU⟩) (Cb hj);refine⟨_,rfl,_,rfl,D,_,rfl,gg,l,_,rfl,.inl (SqL.of oo),by have:=fl ((dit row).getD j ao.empty);lia,λt H6 nt ht s6=>?_⟩;rw[Jn ((D7 row).filter _)] at ht;refine kk _ H6 s6 (Cl ?_);have HX:=s6 _ _ xx;unfold hid;rw[Sx (λz=>by rw[z,HX] at ht;cases ht)];exact ht
   ·intro Z' H5 xs e s5 xx d7;have e1:([]:List am)++((List.range (dit row).length).filter λ_=>true).map (λj=>tupD ((dit row).filter (upB row ((dit row).getD j ao.empty))))=((dit row).map λa=>(dit row).filter (upB row a)).map tupD:=by
     have:=C9 ao.empty (λ_=>true) (dit row);rw[Ot.mpr (λ_ _=>rfl),Ot.mpr (λ_ _=>rfl)] at this;have q:=congrArg (List.map λa=>tupD ((dit row).filter (upB row a))) this;rw[O2] at q;rw[Qj,Ot.mpr (λ_ _=>rfl),O2];exact q
    rw[e1] at d7;obtain⟨oq,rfl,qW⟩:=Xer d7;have qW:Tups H5 oq _:=qW.same (Eo L H5);have AA:=s4.trans s5;refine⟨_,rfl,r,row,rfl,AA _ _ hR,R2,λcl x5 H6 MX ip jD s6=>?_⟩;refine⟨cl,rfl,⟨_,SqL.of ip⟩,λM nM=>?_⟩;have ot:x5.length=(crs row).length:=by
     have:=F5 jD;simpa using this
    have AB:=(uT.mono s5).mono s6;have tH:=s6 _ _ (s5 _ _ eU);have MY:=Xd7 R2.two h3 (by lia);refine⟨wN (crs row).length λi Z2 H7=>(∃u v, Z2=[u,v,some (.ref D)])/\Same H6 H7/\∃qs:List ae,H7 M=some (.lst (qs.map V.ref))/\Tups H7 qs (((crs row).take i).map λq=>(dit row).filter λy=>upB row q.1 y||upB row q.2 y),⟨(crs row).length,by simp,Ou _,⟨none,none,rfl⟩,(Same.refl H6).step nM,[],Aa,Tups.nil _⟩,?_⟩;rintro i m Z1 H7 ⟨rfl,hi,⟨u,v,rfl⟩,s7,qs,hM,qX⟩;by_cases b7:i<(crs row).length
    ·obtain⟨g1,g2⟩:=E9 (K:=K) (SqL.of (s7 _ _ ip)) (by lia:i<x5.length);refine .inr ⟨g1,λx H8 y=>?_⟩;obtain⟨e1,e2⟩:=g2 x H8 y;subst e1 e2;obtain⟨v1,hv,pY⟩:=Lz (i:=i) (d:=prD ((crs row)[i])) jD (by rw[Oa,Nq b7];rfl);have hq:=Ov b7;generalize HY:(crs row)[i]=q at pY hq;obtain⟨lX,uU,_,_⟩:=Hw hq;have ev:x5.getD i .non=v1:=by simp[List.getD,hv]
     rw[ev];unfold prD DAt at pY;obtain⟨pp,ys,rfl,HZ,IA⟩:=pY;obtain rfl:=F9 (ss:=[q.1,q.2]) IA;have x6:=Eo cl H6 _ _ HZ;have jK:(crs row).take (i+1)=(crs row).take i++[q]:=by
      rw[Od b7,HY]
     obtain⟨l1,xu,lE⟩:=(AB.mono s7).get (.inr ⟨o2,s7 _ _ tH⟩) (Ai.mpr lX);obtain⟨l2,xv,iA⟩:=(AB.mono s7).get (.inr ⟨o2,s7 _ _ tH⟩) (Ai.mpr uU);have f1:=fl q.1;have f2:=fl q.2;refine⟨pp,_,rfl,SqT.of (s7 _ _ x6),rfl,_,_,rfl,_,_,rfl,rfl,?_⟩;refine⟨_,rfl,_,rfl,D,_,rfl,xu,_,rfl,_,rfl,D,_,rfl,xv,l1,l2,_,_,rfl,rfl,lE,iA,by rw[Np,Np,Sw];lia,λc nc=>?_⟩;refine⟨c,(dit row).filter (upB row q.1)++(dit row).filter (upB row q.2),rfl,.inl (by rw[N2];exact SqL.of Aa),by rw[Nx];lia,λt H9 nt ht s9=>?_⟩;have x8:Same H8 H9:=((Same.refl H8).step nc).trans s9;have AC:=x8 _ _ hM;have et:told ((dit row).filter (upB row q.1)++(dit row).filter (upB row q.2))=(dit row).filter λy=>upB row q.1 y||upB row q.2 y:=by
      refine Mx (Mi _) ((D7 row).filter _) λz=>?_;rw[Xdq,N0,N6,N6,N6,Q3,<-and_or_left]
     rw[et] at ht;have x9:qs.length<=49:=by
      have:=qX.1;rw[Np,N8] at this
      lia
     refine⟨_,AC,by rw[Np,Sw];lia,?_⟩;have ou:∀b w,H9 b=some (.tup w)->upd H9 M (.lst (qs.map V.ref++[.ref t])) b=some (.tup w):=λb w e=>by
      rw[Ab (λz=>by rw[z,AC] at e;cases e)];exact e
     refine wskip b7 ⟨⟨_,_,rfl⟩,λb w e=>?_,qs++[t],by rw[Aa,N2];rfl,?_⟩
     ·rw[Ab (Ao e nM)];exact x8 _ _ (s7 b w e)
     ·rw[jK,N2];refine Tups.app ⟨qX.1,λj hj=>ou _ _ (x8 _ _ (qX.2 j hj))⟩ (Tups.cons (ou _ _ ht) (Tups.nil _))
    ·have ei:i=(crs row).length:=by lia
     subst ei;refine .inl ⟨by have:=Fa (K:=K) (SqL.of (s7 _ _ ip));rwa [ot] at this,?_⟩;rw[O9] at qX;have xA:=s6.trans s7;have IB:=xA _ _ xx;have IC:=qW.same xA;have ID:=AA.trans xA;refine⟨Ou _,λe0 IE=>⟨by show 1<=sizeLine;decide,λz nz=>?_⟩⟩;generalize AD:upd H7 e0 (.tup [])=Ha at nz;have sa:Same H7 Ha:=by rw[<-AD];exact(Same.refl H7).step IE
     have IF:Ha e0=some (.tup (([]:Za).map V.str)):=by rw[<-AD];exact Aa
     generalize AE:upd Ha z (.lst [.ref e0])=Hb;have sb:Same Ha Hb:=by rw[<-AE];exact(Same.refl Ha).step nz
     have hz:Hb z=some (.lst [.ref e0]):=by rw[<-AE];exact Aa
     have l1:oq.length=(dit row).length:=by have:=qW.1;simpa using this
     have l2:qs.length=(crs row).length:=by have:=qX.1;simpa using this
     have AF:=sa.trans sb;refine⟨_,rfl,z,L,_,_,rfl,rfl,hz,AF _ _ IB,by rw[Np,Oz,Sw];lia,λc1 n1=>?_⟩;generalize AG:upd Hb c1 (.lst ([.ref e0]++oq.map V.ref))=Hc;have sc:Same Hb Hc:=by rw[<-AG];exact(Same.refl Hb).step n1
     have IG:Hc c1=some (.lst ([.ref e0]++oq.map V.ref)):=by rw[<-AG];exact Aa
     have AH:=AF.trans sc;refine⟨_,rfl,c1,M,_,_,rfl,rfl,IG,AH _ _ hM,by rw[Nx,Np,Np,Oz,Sw];lia,λc2 n2=>?_⟩;generalize AI:upd Hc c2 (.lst (([.ref e0]++oq.map V.ref)++qs.map V.ref))=Hd;have sd:Same Hc Hd:=by rw[<-AI];exact(Same.refl Hc).step n2
     have gC:Hd c2=some (.lst ((e0::(oq++qs)).map V.ref)):=by
      rw[<-AI,Aa,Op,N2];rfl
     have xB:=AH.trans sd;have xC:=ID.trans xB;have lB:Tups Hd (e0::(oq++qs)) ([]::cands row):=Tups.cons ((sb.trans (sc.trans sd)) _ _ IF) (Tups.app (IC.same xB) (qX.same xB));refine⟨c2,e0::(oq++qs),[]::cands row,rfl,gC,lB,Xpz R2.two,by rw[Oe,Nx];lia,SH.Au.same tab xC,λD' jj t9 H' IH fz om pm so nh bt=>?_⟩;refine k D' jj t9 H' (xC.free IH) fz om (λS=>(pm.mem_iff).trans (Xpx R2.two h3 S)) so ?_ nh λb w e n=>bt _ _ (xC _ _ e) n;rw[om.1,pm.length_eq,<-lB.1,Oe,Nx]
     lia
def Xqy:FnScope ["one", "other"] ["one", "other"] (defScope s_parting):=by walk_at "s"
def Xqz  (F:Fun K "parting" "parting" s_parting f fd) (T:Bl mg):FnOk P w K mg base CX0 1 f fd ["one", "other"] spParting:=by
 refine F.ok Xqy (by walk_at "l") ?_
 ·walk_at "i"
  obtain⟨p,q,a,b,rfl,hP,hQ,na,nb,la,lb,k⟩:=h;refine⟨_,Ad (An (pe_callB (G5 rfl) (by rfl) T.sorted (by rfl) (pa_cons (Am Xn9 (Bq (F2 rfl) (by rfl) T.set (by rfl) (pa_cons (pv 0) pa_nil)) (Bq (F2 rfl) (by rfl) T.set (by rfl) (pa_cons (pv 1) pa_nil))) pa_nil))),?_⟩;refine⟨_,rfl,p,a,rfl,.inr (SqT.of hP),by unfold aW;lia,λa1 n1=>?_⟩;refine⟨_,rfl,q,b,rfl,.inr (SqT.of (ku hQ n1)),by unfold aW;lia,λa2 n2=>?_⟩;have pa:=Jm na;have pb:=Jm nb;refine⟨a1,a2,_,_,rfl,rfl,ku Aa n2,Aa,G4 a,G4 b,by rw[pa.length_eq];exact la,by rw[pb.length_eq];exact lb,λc zs nc wQ lz mz=>?_⟩;refine⟨c,zs,rfl,Aa,by lia,λl ls nl pl so=>?_⟩;refine k l _ ?_ ?_ ?_
  ·exact(((Same.refl H).step n1).step n2).free ((Same.refl _).step nc |>.free nl)
  ·rw[Aa,Fc pl so,xor_srt na nb wQ λy=>by rw[mz,pa.mem_iff,pb.mem_iff]]
  ·exact((((Same.refl H).step n1).step n2).step nc).step nl
def Xq0:FnScope ["plot", "name"] ["plot", "name"] (defScope s_across):=by walk_at "s"
def Xq1  (F:Fun K "across" "across" s_across f fd) (B:Bl mg) (FP:Fn P w K mg base CX0 1 "parting" ["one", "other"] spParting):FnOk P w K mg base CX0 2 f fd ["plot", "name"] spAcross:=by
 refine F.ok Xq0 (by walk_at "l") ?_
 ·walk_at "i"
  obtain⟨p,ss,x,rfl,hp,nd,hl,k⟩:=h;z_go;refine⟨_,Ad (An (Bq Gv (by rfl) B.tuple (by rfl) (pa_cons (Af FP cH (by rfl) Ah (pa_cons (pv 0) (pa_cons (Bb (pa_cons (pv 1) pa_nil)) pa_nil))) pa_nil))),?_⟩;refine⟨_,rfl,_,rfl,by show 1<=sizeLine;decide,λt nt=>?_⟩;refine⟨p,t,ss,[x],rfl,ku hp nt,Aa,nd,by simp,hl,by show 1<16;decide,λl H1 nl lE s1=>?_⟩;rw[M3] at lE;refine⟨l,_,rfl,.inl ⟨SqL.of lE,λq nq=>?_⟩⟩;have s0:=((Same.refl H).step nt (o:=.tup [.str x])).trans s1;exact k q _ (s0.free nq) Aa (s0.step nq)
def Xgs:FnScope NSt ["row", "plot", "name", "at"] (defScope s_stepped):=by walk_at "s"
def Xq2  (F:Fun K "stepped" "stepped" s_stepped f fd) (hC:mg "NotBeside" = some (.ref C)) (hc:excInI K C fI=true) (hk:ExK K C "at") (FI:FnOk P w K mg base CX0 1 fI qL ["self", "at"] (spInit K "at")) (hb:Binds K qL ["self", "at"] [])
  (FX:Fn P w K mg base CX0 2 "across" ["plot", "name"] spAcross) (FP:Fn P w K mg base CX0 4 "is_plot" ["row", "plot"] spIsPlot):FnOk P w K mg base (CX2 P w) 5 f fd ["row", "plot", "name", "at"] (Xff C):=by
 refine F.ok2 Xgs (by walk_at "l") ?_
 ·walk_at "i"
  obtain⟨r,p,row,S,x,n,rfl,hR,R2,fH,hp,hS,hx,kq,ke⟩:=h;k_go0;refine⟨_,Ac (Ak (i:=4) Xgs.nd rfl (.inl rfl) (Af FX fD (by rfl) Ah (pa_cons (pv 1) (pa_cons (pv 2) pa_nil))))
   (Ac (A4 (pt_not (pt_val (Af FP hr (by rfl) Ah (pa_cons (pv 0) (pa_cons (pv 4) pa_nil)))))
    (Ad (Xm4 (C:=C) (f := "at") (E:=E) hc rfl rfl hk leaves3 (by rfl) hC FI fD hb (pa_cons (pv 3) pa_nil))) A7)
   (Ad (An (pv 4)))),?_⟩
  have hl:=Fo hS;refine⟨_,rfl,_,rfl,p,S,x,rfl,hp,Jy hS,by lia,λq H1 nq hq s1=>?_⟩;have pZ:∀y∈Aj S x,okN y:=λy hy=>R2.ok y (Xfe hS hx y hy);have lF:=Xdx S x;dsimp only[A2];refine⟨_,rfl,_,rfl,r,q,row,Aj S x,rfl,s1 _ _ hR,R2,hq,pZ,by lia,λH2 s2=>⟨_,rfl,?_⟩⟩;have eV:=s1.trans s2;cases hv:Ag row (Aj S x) with
  | true=>exact Bd ⟨_,rfl,kq hv q H2 (s2 _ _ hq) eV⟩
  | false=>
   refine iteT ⟨_,rfl,_,rfl,λex dx xD II ne=>?_⟩;have up:∀b u,H2 b=some u->hid ex (upd (upd (upd H2 ex (.ext (Ed ex C))) ex (.ext (Cp ex C dx))) dx (.ext (xdP dx [(ao.ofString "at",.int n)]))) b=some u:=λb u e=>by
    unfold hid;rw[Sx (Ao e xD),Ab (Ao e II),Ab (Ao e xD),Ab (Ao e xD)];exact e
   refine ke hv dx _ ?_ λb u e=>up _ _ (eV _ _ e);show hid ex _ dx=_;unfold hid;rw[Sx ne];exact Aa
def Xq3:FnScope ["row", "plot", "name"] ["row", "plot", "name"] (defScope s_beyond):=by walk_at "s"
def Xq4  {C} (F:Fun K "beyond" "beyond" s_beyond f fd) (FA:Fn P w K mg base (CX2 P w) 5 "ask_plot" ["row", "plot"] (spAskPlot C.plot)) (FD:Fn P w K mg base (CX2 P w) 1 "ask_ditch" ["row", "name"] (spAsk C.ditch)) (FS:Fn P w K mg base (CX2 P w) 5 "stepped" ["row", "plot", "name", "at"] (Xff C.beside)):
  FnOk P w K mg base (CX2 P w) 6 f fd ["row", "plot", "name"] (Ng C):=by
 refine F.ok2 Xq3 (by walk_at "l") ?_
 ·walk_at "i"
  obtain⟨r,p,row,S,x,rfl,hR,R2,fH,hp,gy,iT,xE,kp,kd,kq,ke⟩:=h;z_go;refine⟨_,Ac (Dz (Af FA hr (by rfl) pass2 (pa_cons (pv 0) (pa_cons (pv 1) pa_nil))))
   (Ac (Dz (Af FD cH (by rfl) pass2 (pa_cons (pv 0) (pa_cons (pv 2) pa_nil))))
   (Ad (An (Af FS hr (by rfl) pass2 (pa_cons (pv 0) (pa_cons (pv 1) (pa_cons (pv 2) (pa_cons pe_int pa_nil)))))))),?_⟩
  refine⟨_,rfl,_,rfl,r,p,row,S,rfl,hR,R2,hp,gy,iT,λhS H1 s1=>?_,kp⟩;refine⟨_,rfl,_,rfl,r,row,x,rfl,s1 _ _ hR,xE,λhx H2 s2=>?_,λhx H2 s2=>kd hS hx H2 (s1.trans s2)⟩;have eV:=s1.trans s2;exact⟨_,rfl,_,rfl,_,rfl,r,p,row,S,x,0,rfl,eV _ _ hR,R2,fH,eV _ _ hp,hS,hx,λhv q H3 hq s3=>kq hS hx hv q H3 hq (eV.trans s3),λhv dx H3 IJ s3=>ke hS hx hv dx H3 IJ (eV.trans s3)⟩
def Nk:FnScope NNb ["row", "plot"] (defScope s_neighbours):=by walk_at "s"
def Xq5  (F:Fun K "neighbours" "neighbours" s_neighbours f fd) (FA:Fn P w K mg base (CX2 P w) 5 "ask_plot" ["row", "plot"] (spAskPlot C)) (FP:Fn P w K mg base CX0 5 "plots" ["row"] (spPlotsA T (lamPos s_in_order))) (FD:Fn P w K mg base CX0 1 "ditches" ["row"] spDitches) (FX:Fn P w K mg base CX0 2 "across" ["plot", "name"] spAcross):
  FnOk P w K mg base (CX2 P w) 6 f fd ["row", "plot"] (spNb12 C T (lamPos s_in_order)):=by
 refine F.ok2 Nk (by walk_at "l") ?_
 ·walk_at "i"
  obtain⟨r,p,row,S,rfl,hR,R2,h3,hd,tab,hp,gy,iT,k,ke⟩:=h;z_go;k_go0;have xF:=hu4 hr;refine⟨_,Ac (Dz (Af FA hr (by rfl) pass2 (pa_cons (pv 0) (pa_cons (pv 1) pa_nil))))
   (Ac (Ak (i:=2) Nk.nd rfl (.inr rfl) (Af FP hr (by rfl) Ah (pa_cons (pv 0) pa_nil)))
   (Ac (Jd (i:=3) (N:=NNb1) (cap:=[none,some 1]) (CompScope.of (defScope s_neighbours) NNb rfl rfl rfl (by decide +kernel)) rfl Nk.nd rfl rfl (Bt (Af FD cH (by rfl) Ah (pa_cons (pv 0) pa_nil))) (λ_ _ _=>Aw (i:=0) (show NNb1.Nodup by decide +kernel) rfl (.inl rfl) (.inr rfl)) (λ_ _ _=>C8)
    (λ_ _ _=>Bb (pa_cons (pv 0) (pa_cons (Af (by exact FX) (by exact fD) (by rfl) Ah (pa_cons (pv 1) (pa_cons (pv 0) pa_nil))) pa_nil))))
   (Ad (An (Fg (N:=NNb2) (cap:=[none,none,some 2]) (CompScope.of (defScope s_neighbours) NNb rfl rfl rfl (by decide +kernel)) rfl (Bt (pv 3))
    (λ_ _ _=>Lw K 2 rfl rfl (C5 (Aw (i:=0) (show NNb2.Nodup by decide +kernel) rfl (.inl rfl) (.inr rfl)) (C5 (Aw (i:=1) (show NNb2.Nodup by decide +kernel) rfl (.inl rfl) (.inr rfl)) Gr))) (λ_ _ _=>Em (Aq (Xku (by exact xF)) (pv 1) (pv 2) (by rfl)))
    (λ_ _ _=>Bb (pa_cons (pv 0) (pa_cons (pv 1) pa_nil)))))))),?_⟩
  refine⟨_,rfl,_,rfl,r,p,row,S,rfl,hR,R2,hp,gy,iT,λhS H1 s1=>?_,ke⟩;have k:=k hS;have hl:=Fo hS;refine⟨_,rfl,r,row,rfl,s1 _ _ hR,R2,h3,hd,SH.Au.same tab s1,λl ps Ts H2 nl iA IK xG pw jw ni b2=>?_⟩;have b2:But T H1 H2:=b2;have qa:=SH.Au.same tab s1;have k2:∀{b:ae} {o:HO},H b=some o->(∀z,o ≠ .tbl z)->H2 b=some o:=λe n=>b2 _ _ (s1 _ _ e) (Au.ne qa (s1 _ _ e) n);have tK:=k2 hR λz=>by simp
  have mq:=k2 hp λz=>by simp
  have mX:=R2.len;have uV:∀S∈Ts,∀y∈S,okN y:=λS' vI y hy=>R2.ok y ((Co ((xG S').mp vI)).1 y hy);dsimp only[A2];refine⟨_,rfl,r,row,rfl,tK,by lia,λIL H3 MZ qY s3=>?_⟩;have tL:=s3 _ _ mq;have jl:=s3 _ _ iA;have IM:=IK.same s3;refine⟨IL,rfl,⟨_,SqL.of qY⟩,?_⟩;refine Xgf (n:=(dit row).length) (by rw[Sw];lia) (λj=>.str ((dit row).getD j ao.empty)) (λ_=>true) (λj=>((dit row).getD j ao.empty,Aj S ((dit row).getD j ao.empty))) (fun Z=>∃v, Z=[v,some (.ref p)]) ⟨_,rfl⟩ ?_ ?_ ?_ ?_
  ·intro j H5 hj s5;have:=E9 (K:=K) (SqL.of (s5 _ _ qY)) (by rw[Np];exact hj);rw[Cg V.str ao.empty (dit row) hj] at this;exact this
  ·intro H5 s5;have:=Fa (K:=K) (SqL.of (s5 _ _ qY))
   rwa [Np] at this
  ·rintro j Z1 H5 Q1 Q0 hj ⟨v,rfl⟩ s5 kk _;generalize (dit row).getD j ao.empty=x at kk ⊢;dsimp only[A2,El];rw[Sy rfl];refine⟨_,rfl,_,rfl,_,rfl,p,S,x,rfl,s5 _ _ tL,Jy hS,by lia,λq H6 nq hq s6=>?_⟩;refine⟨by show 2<=sizeLine;decide,λt nt=>?_⟩;exact kk _ t q _ rfl ⟨_,rfl⟩ Aa (ku hq nt) (s6.step nt)
  intro sd qs H4 AJ s4 xH qZ;have eN:(((List.range (dit row).length).filter λ_=>true).map λj=>((dit row).getD j ao.empty,Aj S ((dit row).getD j ao.empty)))=(dit row).map λx=>(x,Aj S x):=by
   have q:=congrArg (List.map λx=>(x,Aj S x)) (C9 ao.empty (λ_=>true) (dit row));rw[O2,Ot.mpr (λ_ _=>rfl),Ot.mpr (λ_ _=>rfl)] at q;rw[Ot.mpr (λ_ _=>rfl)];exact q
  rw[eN] at qZ;have x9:qs.length=(dit row).length:=by rw[qZ.1,Np]
  have iS:=s4 _ _ jl;have IN:=IM.same s4;dsimp only[A2];refine⟨_,rfl,sd,rfl,⟨_,SqL.of xH⟩,?_⟩;refine Xgf (n:=qs.length) (by rw[Sw];lia) (λj=>.ref (qs.getD j 0)) (λj=>Ag row (Aj S ((dit row).getD j ao.empty))) (λj=>((dit row).getD j ao.empty,Aj S ((dit row).getD j ao.empty))) (fun Z=>∃u v, Z=[u,v,some (.ref l)]) ⟨_,_,rfl⟩ ?_ ?_ ?_ ?_
  ·intro j H5 hj s5;have:=E9 (K:=K) (SqL.of (s5 _ _ xH)) (by rw[Np];exact hj);rw[Cg V.ref 0 qs hj] at this;exact this
  ·intro H5 s5;have:=Fa (K:=K) (SqL.of (s5 _ _ xH))
   rwa [Np] at this
  ·rintro j Z1 H5 Q1 Q0 hj ⟨u,v,rfl⟩ s5 k1 k0;obtain⟨q,h1,h2⟩:=qZ.2 j hj;have gu:j<(dit row).length:=by lia
   have ex:((dit row).map λx=>(x,Aj S x)).getD j dN=((dit row).getD j ao.empty,Aj S ((dit row).getD j ao.empty)):=by
    rw[List.getD,Oa,Nq gu,List.getD,Nq gu];rfl
   rw[ex] at h1 h2;have hx:(dit row).getD j ao.empty∈row:=Ai.mp (Cb gu);generalize (dit row).getD j ao.empty=x at *;have pZ:=Xgg R2.ok hS hx;have IP:=s5 _ _ h1;have AK:=s5 _ _ h2;refine⟨_,_,rfl,SqT.of IP,rfl,_,_,rfl,_,_,rfl,rfl,?_⟩;refine⟨_,rfl,_,rfl,tupD (Aj S x),Ts.map tupD,Cl AK,Xp2 (s5 _ _ iS) (IN.same s5),Bm _ (Db pZ),Hf _ (Xp1 uV),by show am.depthAll ((Aj S x).map am.str)+1<=3;rw[Ga];decide,_,rfl,?_⟩;rw[isin uV pZ];cases e:Ag row (Aj S x) with
   | true=>
    rw[Sz ((xG _).mpr e)];refine iteT ⟨_,rfl,_,rfl,by show 2<=sizeLine;decide,λt nt=>?_⟩;exact k1 _ t q _ e ⟨_,_,rfl⟩ Aa (ku AK nt) ((Same.refl H5).step nt)
   | false=>
    rw[S0 (λz=>by rw[(xG _).mp z] at e;cases e)];exact Bd (k0 _ _ e ⟨_,_,rfl⟩ (Same.refl H5))
  ·intro L us H5 nL s5 hL xI;have e2:(((List.range qs.length).filter λj=>Ag row (Aj S ((dit row).getD j ao.empty))).map λj=>((dit row).getD j ao.empty,Aj S ((dit row).getD j ao.empty)))=nbL row S:=by
    have q:=congrArg (List.map λx=>(x,Aj S x)) (C9 ao.empty (λx=>Ag row (Aj S x)) (dit row));rw[O2] at q;rw[x9];exact q
   rw[e2] at xI;have pU:=(s3.trans s4).trans s5;refine k L us H5 ?_ hL xI ?_ (SH.Au.same ni pU) λb o e n=>pU _ _ (b2 _ _ (s1 _ _ e) n)
   ·cases q:H L with
    | none=>rfl
    | some o=>
     by_cases z:L=T
     ·have t4:=SH.Au.same ni (s3.trans s4);rcases t4 with t | ⟨_,t,_⟩<;>(rw[<-z,nL] at t;cases t)
     ·rw[(s3.trans s4) _ _ (b2 _ _ (s1 _ _ q) z)] at nL;cases nL
   ·rw[xI.1];unfold nbL;rw[Np];exact Oq (Pb ..) (by lia)
def Xq6:FnScope ["_law_script"] ["_law_script"] (defScope sBegin):=by walk_at "s"
def Xq7  (F:Fun K "_law_begin" "_law_begin" sBegin f fd) (T:Bl mg):FnOk P w K mg base CX0 1 f fd ["_law_script"] (Xdd K):=by
 refine F.ok Xq6 (by walk_at "l") ?_
 ·walk_at "i"
  obtain⟨a,ns,rfl,hS,hl,k⟩:=h;refine⟨_,Ad (An (Bi (pa_cons (Bq Im rfl T.list jm (pa_cons (B6 D3 (pv 0) Cf (B1 pe_int)) pa_nil)) (pa_cons pe_int (pa_cons pe_int (pa_cons pe_int (pa_cons pe_int pa_nil))))))),?_⟩;refine⟨_,rfl,_,rfl,a,_,rfl,hS,λp hp=>?_⟩;have IQ:Br (ns.map V.int) none (some 63)=ns.map V.int:=by
   unfold Br;rw[HT.sIx_none,Qs,show (some (63:Int))=some ((63:Nat):Int) from rfl,HT.sIx_nat];exact O0 (by rw[Np];lia)
  rw[IQ];refine⟨p,_,rfl,.inl (SqL.of Aa),λq hq=>?_⟩;refine⟨by show 5<=sizeLine;decide,λdr oy=>?_⟩;have AL:p≠q:=Ao (o:=.lst (ns.map V.int)) Aa hq;have qb:q≠dr:=Ao (o:=.lst (ns.map V.int)) Aa oy;have AM:H q=none:=by rw[Ab AL.symm] at hq;exact hq
  have IR:p≠dr:=Ao (H:=upd (upd H p (.lst (ns.map V.int))) q (.lst (ns.map V.int))) (o:=.lst (ns.map V.int)) (by rw[Ab AL,Aa]) oy;have AN:H dr=none:=by rw[Ab qb.symm,Ab IR.symm] at oy;exact oy
  refine k dr q _ AN AM ⟨⟨ns,0,0,1,0,Aa,by rw[Ab qb,Aa],Ou _,hl,by decide,by decide⟩⟩ ((((Same.refl H).upd hp).upd AM).upd AN)
def Nl:FnScope NP ["_law_draw", "_law_many"] (defScope sPick):=by walk_at "s"
def Xq8  (F:Fun K "_law_pick" "_law_pick" sPick f fd) (T:Bl mg):FnOk P w K mg base CX0 1 f fd ["_law_draw", "_law_many"] Xde:=by
 refine F.ok Nl (by walk_at "l") ?_
 ·walk_at "i"
  obtain⟨dr,sc,n,rfl,tM,zO,⟨ns,p,c,m,k,hd,hs,hp,hl,AO,pr⟩,kk⟩:=h;have tN:dr≠sc:=by
   intro e;subst e;rw[hd] at hs;cases ns with
   | nil=>cases hs
   | cons a r=>cases hs
  refine Xkh (fun Z' H'=>∃x y p c m, Z'=[some (.ref dr),some (.int n),x,y]/\H' dr=some (.lst [.ref sc,.int (p:Nat),.int c,.int m,.int k])/\p<=ns.length/\0<=m/\m<1000000007/\∀b o,H b=some o->b≠dr->H' b=some o) ?_ ?_
  ·-- IS rest
   refine⟨_,Ac (A4 (Aq Xat (pe_ix Bf (pv 0) pe_int (λ_ _=>rfl)) (pv 1) (Ar _))
     (Ac (Ak (i:=3) Nl.nd rfl (.inl rfl) (Am Fv (pe_ix Bf (pv 0) pe_int (λ_ _=>rfl)) (pv 1)))
     (Ac (Eg (Am Xan (pe_ix Bf (pv 0) pe_int (λ_ _=>rfl)) (pv 1)) (E3 (pv 0) pe_int E4))
     (Ad (An (pv 3))))) A7)
    (Ac (Eg (Am B5 (pe_ix Bf (pv 0) pe_int (λ_ _=>rfl)) pe_int) (E3 (pv 0) pe_int E4))
    (Ac (Eg (Am Fv (Am B5 (Am B5 (Am Xao (pe_ix Bf (pv 0) pe_int (λ_ _=>rfl)) pe_int) (Am Xam pe_int (pe_ix Bf (pv 0) pe_int (λ_ _=>rfl)))) pe_int) pe_int) (E3 (pv 0) pe_int E4))
    (Ad (An (Am Fv (Am Xan (pe_ix Bf (pv 0) pe_int (λ_ _=>rfl)) pe_int) (pv 1)))))),?_⟩
   rintro Z' H' ⟨x,y,p,c,m,rfl,io,jM,tO,tP,kp⟩;refine⟨_,rfl,dr,_,_,_,rfl,rfl,SqL.of io,rfl,_,rfl,_,_,rfl,rfl,_,rfl,?_⟩;refine Ax (λhc=>?_) (λhc=>?_)
   ·-- No
    refine⟨_,rfl,dr,_,_,_,rfl,rfl,SqL.of io,rfl,_,rfl,_,_,rfl,rfl,tM,?_⟩;refine⟨_,rfl,dr,_,_,_,rfl,rfl,SqL.of io,rfl,_,rfl,_,_,rfl,rfl,⟨tM,by lia⟩,?_⟩;refine⟨_,rfl,dr,_,_,2,rfl,rfl,io,rfl,?_⟩;refine⟨_,rfl,?_⟩;refine kk _ _ (Rh _ (by lia)) (Qv _ tM) ⟨⟨ns,p,c / n,m,k,Aa,?_,jM,hl,tO,tP⟩⟩ λb o e hb=>by rw[Ab hb];exact kp b o e hb
    rw[Ab tN.symm];exact kp _ _ hs tN.symm
   ·refine⟨_,rfl,dr,_,_,_,rfl,rfl,SqL.of io,rfl,_,_,rfl,rfl,?_⟩;refine⟨_,rfl,dr,_,_,4,rfl,rfl,io,rfl,?_⟩;refine⟨_,rfl,dr,_,_,_,rfl,rfl,SqL.of Aa,rfl,_,_,rfl,rfl,cpow3 tO tP,?_⟩;refine⟨_,rfl,dr,_,_,_,rfl,rfl,SqL.of Aa,rfl,_,_,rfl,rfl,.inl ⟨by decide,by decide⟩,_,_,rfl,rfl,_,_,rfl,rfl,_,_,rfl,rfl,(by show (0:Int)<1000000007;decide),?_⟩;refine⟨_,rfl,dr,_,_,3,rfl,rfl,Aa,rfl,?_⟩;refine⟨_,rfl,dr,_,_,_,rfl,rfl,SqL.of Aa,rfl,_,_,rfl,rfl,⟨by decide,by decide⟩,_,rfl,_,_,rfl,rfl,tM,?_⟩;refine kk _ _ (Rh _ (by lia)) (Qv _ tM) ⟨⟨ns,p,c,_,k+1,Aa,?_,jM,hl,Rh _ (by decide),Qv _ (by decide)⟩⟩ λb o e hb=>by rw[Ab hb,Ab hb];exact kp b o e hb
    rw[Ab tN.symm,Ab tN.symm];exact kp _ _ hs tN.symm
  ·intro nx lW;refine⟨_,A4 (Dy (Aq Cv (pe_ix Bf (pv 0) pe_int (λ_ _=>rfl)) (pv 1) (Ar _)) (Dx (Aq Cv (pe_ix Bf (pv 0) pe_int (λ_ _=>rfl)) (pe_callB Ci (by rfl) T.len bM (pa_cons (pe_ix Bf (pv 0) pe_int (λ_ _=>rfl)) pa_nil)) (Ar _)))).pt
     (Ac (Ak (i:=2) Nl.nd rfl (.inl rfl) (pe_ix Bf (pe_ix Bf (pv 0) pe_int (λ_ _=>rfl)) (pe_ix Bf (pv 0) pe_int (λ_ _=>rfl)) (λ_ _=>rfl)))
     (Ac (Eg (Am B5 (pe_ix Bf (pv 0) pe_int (λ_ _=>rfl)) pe_int) (E3 (pv 0) pe_int E4))
     (Ac (Eg pe_int (E3 (pv 0) pe_int E4))
     (Ad (A4 (Aq Xat (pv 2) (Am Xao pe_int pe_int) (Ar _))
      (Ad (Eg (pv 2) (E3 (pv 0) pe_int E4)))
      (Ad (Eg (Am Fv (Am B5 (pe_ix Bf (pv 0) pe_int (λ_ _=>rfl)) (pv 2)) pe_int) (E3 (pv 0) pe_int E4)))))))) A7,?_⟩
   refine⟨_,rfl,dr,_,_,_,rfl,rfl,SqL.of hd,rfl,_,rfl,_,_,rfl,rfl,_,rfl,?_⟩;have skip:nx [some (.ref dr),some (.int n),none,none] H:=lW _ _ ⟨none,none,p,c,m,rfl,hd,hp,AO,pr,λb o e _=>e⟩;refine Ax (λ_=>?_) (λ_=>Bd skip);refine⟨_,rfl,dr,_,_,_,rfl,rfl,SqL.of hd,rfl,_,rfl,dr,_,_,_,rfl,rfl,SqL.of hd,rfl,sc,_,rfl,.inl (SqL.of hs),_,_,rfl,rfl,_,rfl,?_⟩;refine Ax (λb7=>?_) (λ_=>skip);have pR:(p:Int)<((ns.map V.int).length:Nat):=S5 b7;rw[Np] at pR;have bN:p<ns.length:=by lia
   have ka:(ns.map V.int)[p]? = some (.int (ns[p]'bN)):=by rw[Oa,Nq bN];rfl
   refine⟨_,rfl,dr,_,_,_,rfl,rfl,SqL.of hd,rfl,_,rfl,dr,_,_,_,rfl,rfl,SqL.of hd,rfl,sc,_,_,_,rfl,rfl,SqL.of hs,D1 ka,?_⟩;refine⟨_,rfl,dr,_,_,_,rfl,rfl,SqL.of hd,rfl,_,_,rfl,rfl,?_⟩;refine⟨_,rfl,dr,_,_,1,rfl,rfl,hd,rfl,?_⟩;refine⟨_,rfl,dr,_,_,2,rfl,rfl,Aa,rfl,?_⟩;refine⟨_,rfl,_,_,rfl,rfl,⟨by decide,by decide,by decide⟩,_,_,rfl,rfl,_,rfl,?_⟩;refine Ax (λ_=>?_) (λ_=>?_)
   ·refine⟨_,rfl,_,rfl,dr,_,_,2,rfl,rfl,Aa,rfl,?_⟩;refine lW _ _ ⟨_,none,p+1,_,m,rfl,Aa,bN,AO,pr,λb o e hb=>by rw[Ab hb,Ab hb,Ab hb];exact e⟩
   ·refine⟨_,rfl,dr,_,_,_,rfl,rfl,SqL.of Aa,rfl,_,rfl,_,_,rfl,rfl,_,_,rfl,rfl,(by show (0:Int)<1000000007;decide),?_⟩;refine⟨_,rfl,dr,_,_,3,rfl,rfl,Aa,rfl,?_⟩;refine lW _ _ ⟨_,none,p+1,_,_,rfl,Aa,bN,Rh _ (by decide),Qv _ (by decide),λb o e hb=>by rw[Ab hb,Ab hb,Ab hb];exact e⟩
def Xgt:FnScope NPut ["_law_row_here", "_law_name", "_law_at", "_law_to"] (defScope sPut):=by walk_at "s"
def Xq9  (F:Fun K "_law_put" "_law_put" sPut f fd):FnOk P w K mg base CX0 1 f fd ["_law_row_here", "_law_name", "_law_at", "_law_to"] Xdg:=by
 refine F.ok Xgt (by walk_at "l") ?_
 ·walk_at "i"
  obtain⟨r,row,x,a,b,rfl,hR,hl,fS,hb,k⟩:=h;refine⟨_,Ac (Ak (i:=4) Xgt.nd rfl (.inl rfl) (Am Bv (Am Bv (B6 D3 (pv 0) Cf (B1 (pv 2))) (Bi (pa_cons (pv 1) pa_nil))) (B6 D3 (pv 0) (B1 (pv 2)) (B1 (pv 3)))))
   (Ad (An (Am Bv (Am Bv (pv 4) (Bi (pa_cons (pv 1) pa_nil))) (B6 D3 (pv 0) (B1 (pv 3)) Cf)))),?_⟩
  have fJ:∀n,n<=100000->n<=sizeLine:=λn h=>by rw[Sw];lia
  refine⟨_,rfl,_,rfl,_,rfl,r,_,rfl,SqL.of hR,λp1 n1=>?_⟩;rw[F3 _ _ _ (by lia)];refine⟨_,rfl,by show 1<=sizeLine;decide,λp2 n2=>?_⟩;refine⟨p1,p2,_,_,rfl,rfl,ku Aa n2,Aa,fJ _ (by simp;lia),λp3 n3=>?_⟩;refine⟨_,rfl,_,rfl,_,rfl,_,rfl,_,rfl,r,_,rfl,SqL.of (ku (ku (ku hR n1) n2) n3),λp4 n4=>?_⟩;rw[Xki _ _ _ _ fS hb];refine⟨p3,p4,_,_,rfl,rfl,ku Aa n4,Aa,fJ _ (by simp;lia),λp5 n5=>?_⟩;refine⟨_,rfl,_,rfl,by show 1<=sizeLine;decide,λp6 n6=>?_⟩;refine⟨p5,p6,_,_,rfl,rfl,ku Aa n6,Aa,fJ _ (by simp;lia),λp7 n7=>?_⟩;refine⟨_,rfl,_,rfl,_,rfl,r,_,rfl,SqL.of (ku (ku (ku (ku (ku (ku (ku hR n1) n2) n3) n4) n5) n6) n7),λp8 n8=>?_⟩;rw[F4 _ _ _ hb];refine⟨p7,p8,_,_,rfl,rfl,ku Aa n8,Aa,fJ _ (by simp;lia),λp9 n9=>?_⟩;have s8:=((((((((Same.refl H).go n1 n2).go n2 n3).go n3 n4).go n4 n5).go n5 n6).go n6 n7).go n7 n8).go n8 n9;refine k p9 _ (s8.free n9) (Aa.trans ?_) (s8.step n9);unfold Dq;simp
def Nm:FnScope NWh ["_law_row_here"] (defScope sWhere):=by walk_at "s"
def Xra  (F:Fun K "_law_where" "_law_where" sWhere f fd) (T:Bl mg):FnOk P w K mg base CX0 1 f fd ["_law_row_here"] Mc:=by
 refine F.ok Nm (by walk_at "l") ?_
 ·walk_at "i"
  obtain⟨r,row,rfl,hR,hl,k⟩:=h;have hu:=Dj hr;refine⟨_,Ac (Ak (i:=1) Nm.nd rfl (.inl rfl) Xir)
   (Ac (Ce bj.never rfl (Ib rfl T.range (pa_cons (pe_callB Ci (by rfl) T.len bM (pa_cons (pv 0) pa_nil)) pa_nil)) (Aw (i:=2) Nm.nd rfl (.inl rfl))
    (Ad (Xip hu (pv 1) (pe_ix Bf (pv 0) (pv 2) (λ_ _=>rfl))
     (Am Bv (Xiw hu (pv 1) (pe_ix Bf (pv 0) (pv 2) (λ_ _=>rfl)) (Bi pa_nil) ⟨rfl,rfl,rfl,rfl⟩) (Bi (pa_cons (pv 2) pa_nil))) rfl)))
   (Ad (An (pv 1)))),?_⟩
  intro d nd;have s0:Same H (upd H d (.dK [])):=(Same.refl H).step nd;refine⟨_,rfl,r,_,rfl,.inl (SqL.of (s0 _ _ hR)),((row.map V.str).length:Int),rfl,by lia,by rw[Np];lia,?_⟩;have hn:((row.map V.str).length:Int).toNat=row.length:=by rw[Np];simp
  rw[hn];refine Ig (lo:=0) (n:=row.length) (λi Z H2=>∃kvs v, Z=[some (.ref r),some (.ref d),v]/\Same H H2/\H2 d=some (.dK kvs)/\Wh H2 kvs (row.take i)) ?_ ?_ ?_
  ·exact⟨[],none,rfl,s0,Aa,⟨λk hk=>by simp at hk,λx hx=>by simp at hx,λ_ _=>rfl,by simp,by simp⟩⟩
  ·rintro i Z H2 hi ⟨kvs,v,rfl,s2,hd,wh⟩;have ka:(row.map V.str)[i]? = some (.str (row[i]'hi)):=by rw[Oa,Nq hi];rfl
   have nj:atI (row.map V.str) (0+(i:Int))=some (.str (row[i]'hi)):=by rw[Int.zero_add];exact D1 ka
   have tk:row.take (i+1)=row.take i++[row[i]'hi]:=by rw[Od hi]
   have kl:=wh.len;rw[N8] at kl;have ll:(plc (row.take i) (row[i]'hi)).length<=1000:=by
    rw[Ma];have:=List.count_le_length (a:=row[i]'hi) (l:=row.take i);rw[N8] at this
    lia
   have fJ:∀n,n<=100000->n<=sizeLine:=λn h=>by rw[Sw];lia
   refine⟨_,rfl,d,rfl,.inl ⟨kvs,.inl hd⟩,_,rfl,_,rfl,r,_,_,_,rfl,rfl,SqL.of (s2 _ _ hR),nj,by show 0<=sizeLine;decide,λp1 n1=>?_⟩;refine⟨_,DGet.k (k:=Sum.inr (row[i]'hi)) (ku hd n1),?_⟩;obtain⟨q,xs,e1,hq,gW⟩:∃q xs,(Ap kvs (Sum.inr (row[i]'hi):Key)).getD (V.ref p1)=V.ref q/\upd H2 p1 (.lst []) q=some (.lst (xs.map V.int))/\plc (row.take i) (row[i]'hi)=xs:=by
    by_cases hx:row[i]'hi∈row.take i
    ·obtain⟨l,e1,e2⟩:=wh.val _ hx;exact⟨l,_,by rw[e1];rfl,ku e2 n1,rfl⟩
    ·refine⟨p1,[],by rw[wh.none _ hx];rfl,Aa,?_⟩;have:(plc (row.take i) (row[i]'hi)).length=0:=by rw[Ma];exact Qu.mpr hx
     exact Pa.mp this
   have N':xs.length<=1000:=by rw[<-gW];exact ll
   rw[e1];refine⟨_,rfl,by show 1<=sizeLine;decide,λp2 n2=>?_⟩;refine⟨q,p2,_,_,rfl,rfl,ku hq n2,Aa,fJ _ (by simp;lia),λp3 n3=>?_⟩;refine⟨_,rfl,_,rfl,_,rfl,r,_,_,_,rfl,rfl,SqL.of (ku (ku (ku (s2 _ _ hR) n1) n2) n3),nj,?_⟩;have du:=ku (u:=.lst [V.int (0+(i:Int))]) (ku (u:=.lst []) hd n1) n2;have mO:=ku (u:=.lst (xs.map V.int++[V.int (0+(i:Int))])) du n3;refine⟨d,_,rfl,DPut.k (k:=Sum.inr (row[i]'hi)) mO (by rw[Sw];lia),_,_,rfl,?_,Aa,?_⟩
   ·have s3:=((s2.go n1 n2).go n2 n3).step (o:=.lst (xs.map V.int++[V.int (0+(i:Int))])) n3;exact s3.upd nd
   ·rw[tk];refine wh.snoc _ p3 ?_ λb ys e=>?_
    ·have ne:p3≠d:=(Ao du n3).symm;rw[Ab ne,Aa,Mb,Sy rfl,gW,N2,N8,P8 (Rb hi)];simp
    ·have ne:b≠d:=λz=>by rw[z,hd] at e;cases e
     rw[Ab ne];exact ku (ku (ku e n1) n2) n3
  ·rintro Z H2 ⟨kvs,v,rfl,s2,hd,wh⟩;rw[O9] at wh;exact⟨_,rfl,k d kvs H2 nd hd wh s2⟩
def Kg:FnScope NWo ["_law_where_here", "_law_one_here", "_law_other"] (defScope sWord):=by walk_at "s"
def Xrb  (F:Fun K "_law_word" "_law_word" sWord f fd) (T:Bl mg):FnOk P w K mg base CX0 1 f fd ["_law_where_here", "_law_one_here", "_law_other"] spWord:=by
 refine F.ok Kg (by walk_at "l") ?_
 ·walk_at "i"
  obtain⟨d,l1,l2,kvs,x,y,a,b,c,e,rfl,hd,v1,v2,h1,h2,k⟩:=h;have hu:=Dj hr;refine⟨_,Ac (Eg (B7 hu (pv 0) (pv 1) (λ_ _=>rfl)) (Xi9 rfl (C5 (Aw (i:=3) Kg.nd rfl (.inr rfl)) (C5 (Aw (i:=4) Kg.nd rfl (.inr rfl)) Gr))))
   (Ac (Jd (i:=5) (N:=["_law_at", "_law_high", "_law_low"]) (cap:=[none,some 4,some 3]) (CompScope.of (defScope sWord) NWo rfl rfl rfl (by decide +kernel)) rfl Kg.nd rfl rfl
     (Bt (B7 hu (pv 0) (pv 2) (λ_ _=>rfl))) (λ_ _ _=>Aw (i:=0) (show (["_law_at", "_law_high", "_law_low"]:Za).Nodup by decide +kernel) rfl (.inl rfl) (.inr rfl))
     (λ_ _ _=>Em (Dy (Aq Cv (pv 2) (pv 0) (Ar _)) (Dx (Aq Cv (pv 0) (pv 1) (Ar _)))).pt) (λ_ _ _=>pv 0))
   (Ac (A4 (pw_or (Aq Bu (pv 1) (pv 2) (Ar _)) (Fu (Aq Xhl (pe_callB Ci (by rfl) T.len bM (pa_cons (pv 5) pa_nil)) pe_int (Ar _)))).pt
    (Ad (An (pe_ix ix_tup (Bb (pa_cons Az (pa_cons Az (pa_cons Az pa_nil)))) (pe_callB Ci (by rfl) T.len bM (pa_cons (pv 5) pa_nil)) (λ_ _=>rfl)))) A7)
   (Ad (An (Gp (Dy (Aq Cv (pe_ix Bf (B7 hu (pv 0) (pv 2) (λ_ _=>rfl)) pe_int (λ_ _=>rfl)) (pv 3) (Ar _)) (Dx (Aq Cv (pv 4) (pe_ix Bf (B7 hu (pv 0) (pv 2) (λ_ _=>rfl)) pe_int (λ_ _=>rfl)) (Ar _)))).pt Az Az))))),?_⟩
  refine⟨_,rfl,_,rfl,d,_,rfl,DGet.rd hd v1,l1,_,rfl,SqL.of h1,rfl,?_⟩;refine⟨_,_,rfl,_,_,rfl,rfl,?_⟩;refine⟨_,rfl,_,rfl,d,_,rfl,DGet.rd hd v2,l2,rfl,⟨_,SqL.of h2⟩,?_⟩;refine Iu (n:=2) (λi=>([V.int c,V.int e]:List V).getD i .non) (λD i Z2 H2=>∃v, Z2=[v,some (.int b),some (.int a)]/\Same H H2/\H2 D=some (.lst ((inn a b (([c,e]:List Int).take i)).map V.int))) ?_ ?_ ?_ ?_ ?_
  ·intro D hD;exact⟨none,rfl,(Same.refl H).step hD,Aa⟩
  ·rintro D i Z2 H2 hD hi ⟨v,rfl,s2,hl⟩;exact E9 (SqL.of (s2 _ _ h2)) hi
  ·rintro D Z2 H2 hD ⟨v,rfl,s2,hl⟩;exact Fa (SqL.of (s2 _ _ h2))
  ·rintro D i Z2 H2 hD hi ⟨v,rfl,s2,hl⟩;obtain⟨t,qW,iu⟩:∃t,([V.int c,V.int e]:List V).getD i .non = .int t/\([c,e]:List Int).take (i+1)=([c,e]:List Int).take i++[t]:=by
    match i,hi with
    | 0,_=>exact⟨c,rfl,rfl⟩
    | 1,_=>exact⟨e,rfl,rfl⟩
   rw[qW];have iq:(inn a b (([c,e]:List Int).take i)).length<=2:=Oq (Md ..) (by rw[N8];simp;lia);refine⟨_,rfl,_,rfl,_,_,rfl,rfl,_,rfl,?_⟩;refine Ax (λq1=>?_) (λq1=>Bd (wskip hi ⟨_,rfl,s2,?_⟩))
   ·refine⟨_,rfl,_,rfl,_,_,rfl,rfl,_,rfl,?_⟩;refine Ax (λq2=>?_) (λq2=>wskip hi ⟨_,rfl,s2,?_⟩)
    ·refine⟨_,rfl,wput hi hl (by rw[Np,Sw];lia) ⟨_,rfl,?_,?_⟩⟩
     ·intro b' o e';rw[Ab (Ao e' hD)];exact s2 b' o e'
     ·rw[Aa,iu];unfold inn;rw[Og,N2,Ow,Sy (by rw[q1,q2];rfl)];rfl
    ·rw[hl,iu];unfold inn;rw[Og,Ow,Sx (by rw[q1,q2];decide)];simp
   ·rw[hl,iu];unfold inn;rw[Og,Ow,Sx (by rw[q1];simp)];simp
  ·rintro D Z2 H2 hD ⟨v,rfl,s2,hl⟩;have pc:H2 D=some (.lst ((inn a b [c,e]).map V.int)):=hl;have iq:(inn a b [c,e]).length<=2:=Md ..;have oz:∀p,H2 p=none->atI ([V.str "same",V.str "cross",V.str "around"]:List V) (((inn a b [c,e]).map V.int).length:Int)=some (.str (words3.getD (inn a b [c,e]).length "apart")):=λp _=>by
    rw[Np];generalize (inn a b [c,e]).length=n at iq
    match n,iq with
    | 0,_=>rfl
    | 1,_=>rfl
    | 2,_=>rfl
   have tQ:(decide (x=y)||decide (0<(inn a b [c,e]).length))=true->∀p,H2 p=none->∀H',Same H H'->Q (.str (words3.getD (inn a b [c,e]).length "apart")) H':=λhc p _ H' s'=>by
    have:=k H' s';unfold Dr at this;rw[Sy hc] at this;exact this
   refine⟨_,rfl,_,rfl,rfl,_,rfl,?_⟩;refine Ax (λq1=>?_) (λq1=>?_)
   ·refine iteT ⟨by show 3<=sizeLine;decide,λp hp=>?_⟩;refine⟨_,rfl,D,_,rfl,.inl (SqL.of (ku pc hp)),p,_,_,_,rfl,rfl,SqT.of Aa,oz p hp,?_⟩;refine tQ ?_ p hp _ (s2.step hp);have pS:decide (x=y)=true:=by
     have:=S5 q1;injection this with this
     exact Sz this
    rw[pS];rfl
   ·refine⟨_,rfl,D,_,rfl,.inl (SqL.of pc),_,_,rfl,rfl,_,rfl,?_⟩;have pS:decide (x=y)=false:=by
     have:=S6 q1;exact S0 λz=>this (by rw[z])
    refine Ax (λq2=>?_) (λq2=>?_)
    ·have xJ:0<(inn a b [c,e]).length:=by
      have:=S5 q2;rw[Np] at this
      lia
     refine⟨by show 3<=sizeLine;decide,λp hp=>?_⟩;refine⟨_,rfl,D,_,rfl,.inl (SqL.of (ku pc hp)),p,_,_,_,rfl,rfl,SqT.of Aa,oz p hp,?_⟩;exact tQ (by rw[Sz xJ,Se]) p hp _ (s2.step hp)
    ·have xJ:¬ 0<(inn a b [c,e]).length:=by
      have:=S6 q2;rw[Np] at this
      lia
     have gf:∀z:ao,(if c<a/\b<e then ("within" : ao) else "apart")=z->Q (.str z) H2:=λz hz=>by
      have:=k H2 s2;unfold Dr at this;rw[Sx (by rw[pS,S0 xJ];decide),hz] at this;exact this
     refine⟨_,rfl,_,rfl,d,_,rfl,DGet.rd (Rd.same hd s2) v2,l2,_,_,_,rfl,rfl,SqL.of (s2 _ _ h2),rfl,_,rfl,_,_,rfl,rfl,_,rfl,?_⟩;refine Ax (λq3=>?_) (λq3=>?_)
     ·refine⟨_,rfl,_,rfl,_,rfl,d,_,rfl,DGet.rd (Rd.same hd s2) v2,l2,_,_,_,rfl,rfl,SqL.of (s2 _ _ h2),rfl,_,_,rfl,rfl,_,rfl,?_⟩;refine Ax (λq4=>?_) (λq4=>?_)
      ·exact gf _ (Sy ⟨S5 q3,S5 q4⟩)
      ·exact gf _ (Sx λz=>S6 q4 z.2)
     ·exact Bd (gf _ (Sx λz=>S6 q3 z.1))
def Hy:FnScope NBa ["_law_row_here", "_law_name"] (defScope sBarred):=by walk_at "s"
def Xrc  (F:Fun K "_law_barred" "_law_barred" sBarred f fd) (T:Bl mg) (FW:Fn P w K mg base CX0 1 "_law_where" ["_law_row_here"] Mc)
  (FO:Fn P w K mg base CX0 1 "_law_word" ["_law_where_here", "_law_one_here", "_law_other"] spWord):FnOk P w K mg base CX0 2 f fd ["_law_row_here", "_law_name"] spBarredN:=by
 refine F.ok Hy (by walk_at "l") ?_
 ·walk_at "i"
  obtain⟨r,row,x,rfl,hR,hl,h2,hx,k⟩:=h;have hu:=Dj hr;refine⟨_,Ac (Ak (i:=2) Hy.nd rfl (.inr rfl) (Af FW hr rfl Ah (pa_cons (pv 0) pa_nil)))
   (Ac (Jd (i:=3) (N:=NBc) (cap:=[none,some 1,some 2]) (CompScope.of (defScope sBarred) NBa rfl rfl rfl (by decide +kernel)) rfl Hy.nd rfl rfl
     (Xjf (pv 2)) (λ_ _ _=>Aw (i:=0) (show NBc.Nodup by decide +kernel) rfl (.inl rfl) (.inr rfl))
     (λ_ _ _=>Em (Aq Bu (Af FO hr rfl Ah (pa_cons (pv 2) (pa_cons (pv 1) (pa_cons (pv 0) pa_nil)))) Az (Ar _))) (λ_ _ _=>pv 0))
   (Ac (Ce bj.never rfl (Ib rfl T.range (pa_cons (pe_callB Ci (by rfl) T.len bM (pa_cons (pv 3) pa_nil)) pa_nil)) (Aw (i:=4) Hy.nd rfl (.inl rfl))
    (Ad (Ce bj.never rfl (Bt (B6 D3 (pv 3) (B1 (Am B5 (pv 4) pe_int)) Cf)) (Aw (i:=5) Hy.nd rfl (.inl rfl))
     (Ad (A4 (Aq Bu (Af FO hr rfl Ah (pa_cons (pv 2) (pa_cons (pe_ix Bf (pv 3) (pv 4) (λ_ _=>rfl)) (pa_cons (pv 5) pa_nil)))) Az (Ar _)) (Ad (An Cu)) A7)))))
   (Ad (An Cu)))),?_⟩
  refine⟨_,rfl,r,row,rfl,hR,hl,λd kvs H1 nd hd wh s1=>?_⟩;refine⟨_,rfl,d,kvs,rfl,hd,λo=>?_⟩;generalize lg:upd H1 d (.frz o (.dK kvs))=H2;have s2:Same H H2:=λb u e=>by rw[<-lg,Ab (Ao e nd)];exact s1 b u e
  have du:H2 d=some (.frz o (.dK kvs)):=by rw[<-lg];exact Aa
  have uW:Wh H2 kvs row:=⟨wh.keys,λy hy=>let ⟨l,e1,e2⟩:=wh.val y hy; ⟨l,e1,by rw[<-lg,Ab (λz=>by rw[z,hd] at e2;cases e2)];exact e2⟩,wh.none,wh.nd,wh.len⟩;have lI:=wh.len;refine Iu (n:=kvs.length) (λi=>(kvs.map λp=>kV p.1).getD i .non) (λD i Z2 H3=>∃(v:Option V) (ms:Za), Z2=[v,some (.str x),some (.ref d)]/\Same H2 H3/\H3 D=some (.lst (ms.map V.str))/\(∀m∈ms,m∈row)/\ms.length<=i/\∀(j:Nat) (y:ao),j<i->(kvs.map λp=>kV p.1).getD j .non = .str y->Ay row x y->y∈ms) ?_ ?_ ?_ ?_ ?_
  ·intro D hD;exact⟨none,[],rfl,(Same.refl H2).step hD,Aa,by simp,Nr _,λj y h=>absurd h (Py _)⟩
  ·rintro D i Z2 H3 hD hi ⟨v,ms,rfl,s3,hm,dy,xK,cG⟩;exact G2 (s3 _ _ du) hi
  ·rintro D Z2 H3 hD ⟨v,ms,rfl,s3,hm,dy,xK,cG⟩;exact G3 (s3 _ _ du)
  ·rintro D i Z2 H3 hD hi ⟨v,ms,rfl,s3,hm,dy,xK,cG⟩;obtain⟨y,qF,lL⟩:∃y,(kvs.map λp=>kV p.1).getD i .non = .str y/\y∈row:=by
    obtain⟨y,e1,e2⟩:=wh.keys (kvs[i]'hi).1 (Oj.mpr ⟨kvs[i]'hi,Ov hi,rfl⟩);refine⟨y,?_,e2⟩;simp only[List.getD,Oa,Nq hi,P7,Option.getD_some];rw[e1];rfl
   rw[qF];obtain⟨l1,e1,g1⟩:=uW.pl hx (h2 x hx);obtain⟨l2,e2,g2⟩:=uW.pl lL (h2 y lL);refine⟨_,rfl,_,rfl,_,rfl,d,l1,l2,kvs,x,y,_,_,_,_,rfl,.inr ⟨o,s3 _ _ du⟩,e1,e2,s3 _ _ g1,s3 _ _ g2,λH4 s4=>?_⟩;have AQ:=s3.trans s4;refine⟨rfl,_,rfl,?_⟩;rw[<-F8 (h2 x hx) (h2 y lL)];refine Ax (λhc=>?_) (λhc=>wskip hi ⟨_,ms,rfl,AQ,s4 _ _ hm,dy,by lia,λj z hj hz kz=>?_⟩);rotate_left
   ·by_cases ej:j=i
    ·subst ej;rw[qF] at hz;injection hz with hz
     subst hz;exact absurd (by rw[show lieR row x y = "cross" from kz]) (Xd4 hc)
    ·exact cG j z (by lia) hz kz
   refine⟨_,rfl,wput hi (s4 _ _ hm) (by rw[Np,Sw];lia) ⟨_,ms++[y],rfl,?_,by rw[Aa,N2];rfl,?_,by rw[Nx,Oz];lia,λj z hj hz kz=>?_⟩⟩
   ·intro b u e;rw[Ab (Ao e hD)];exact AQ b u e
   ·intro m hm;rcases N0.mp hm with z | z
    ·exact dy m z
    ·rw[Nv.mp z];exact lL
   ·by_cases ej:j=i
    ·subst ej;rw[qF] at hz;injection hz with hz
     subst hz;simp
    ·exact Pl _ (cG j z (by lia) hz kz)
  ·rintro D Z2 H3 hD ⟨v,ms,rfl,s3,hm,dy,xK,cG⟩;refine⟨_,rfl,D,_,rfl,.inl (SqL.of hm),((ms.map V.str).length:Int),rfl,by lia,by rw[Np];lia,?_⟩;have hn:((ms.map V.str).length:Int).toNat=ms.length:=by rw[Np];simp
   rw[hn];refine Ig (lo:=0) (n:=ms.length) (λi Z H4=>∃v1 v2, Z=[some (.ref r),some (.str x),some (.ref d),some (.ref D),v1,v2]/\Same H3 H4/\∀(p q:Nat) (y z:ao),p<i->p<q->ms[p]? = some y->ms[q]? = some z->¬Ay row y z) ?_ ?_ ?_
   ·exact⟨none,none,rfl,Same.refl _,λp q y z h=>absurd h (Py _)⟩
   ·rintro i Z H4 hi ⟨v1,v2,rfl,s4,ho⟩;refine⟨_,rfl,_,rfl,_,_,rfl,rfl,_,rfl,D,_,rfl,SqL.of (s4 _ _ hm),λp np=>?_⟩;have e0:(0:Int)+(i:Int)+1=((i+1:Nat):Int):=by lia
    rw[e0,F4 _ _ _ (by lia)];have s5:Same H3 (upd H4 p (.lst ((ms.drop (i+1)).map V.str))):=s4.step np;refine⟨p,rfl,⟨_,SqL.of Aa⟩,?_⟩;refine Dh (K:=K) (a:=p) (xs:=(ms.drop (i+1)).map V.str) (λj Z H5=>∃v2, Z=[some (.ref r),some (.str x),some (.ref d),some (.ref D),some (.int (0+(i:Int))),v2]/\Same (upd H4 p (.lst ((ms.drop (i+1)).map V.str))) H5/\∀(q:Nat) (z:ao),q<j->ms[i+1+q]? = some z->¬Ay row (ms[i]'hi) z) ?_ ?_ ?_ ?_
    ·exact⟨_,rfl,Same.refl _,λq z h=>absurd h (Py _)⟩
    ·rintro j Z H5 _ ⟨v2,rfl,s6,fR⟩;exact SqL.of (s6 _ _ Aa)
    ·rintro j y Z H5 hj ⟨v2,rfl,s6,fR⟩;obtain⟨z,rfl,hz,IT⟩:∃z,y=V.str z/\z∈ms/\ms[i+1+j]? = some z:=by
      rw[Oa] at hj;cases q:(ms.drop (i+1))[j]? with
      | none=>rw[q] at hj;cases hj
      | some z=>
       rw[q] at hj;exact⟨z,(N5 hj).symm,O7 (Pr q),by rw[<-q,Rj]⟩
     have rg:=s5.trans s6;have ka:(ms.map V.str)[i]? = some (.str (ms[i]'hi)):=by rw[Oa,Nq hi];rfl
     have nj:atI (ms.map V.str) (0+(i:Int))=some (.str (ms[i]'hi)):=by rw[Int.zero_add];exact D1 ka
     obtain⟨l1,e1,g1⟩:=uW.pl (dy _ (Ov hi)) (h2 _ (dy _ (Ov hi)));obtain⟨l2,e2,g2⟩:=uW.pl (dy _ hz) (h2 _ (dy _ hz));have xL:=s3.trans rg;refine⟨_,rfl,_,rfl,_,rfl,D,_,_,_,rfl,rfl,SqL.of (rg _ _ hm),nj,_,rfl,d,l1,l2,kvs,_,z,_,_,_,_,rfl,.inr ⟨o,xL _ _ du⟩,e1,e2,xL _ _ g1,xL _ _ g2,λH6 s7=>?_⟩;refine⟨rfl,_,rfl,?_⟩;rw[<-F8 (h2 _ (dy _ (Ov hi))) (h2 _ (dy _ hz))];refine Ax (λ_=>?_) (λhc=>?_)
     ·exact k true H6 (λe=>by cases e) ((s2.trans s3).trans (rg.trans s7))
     ·refine⟨_,rfl,s6.trans s7,λq u hq hu=>?_⟩;by_cases eq:q=j
      ·subst eq;rw[IT] at hu;have hu:=N5 hu;subst hu;exact λkz=>absurd (by rw[show lieR row (ms[i]'hi) z = "cross" from kz]) (Xd4 hc)
      ·exact fR q u (by lia) hu
    ·rintro Z H5 ⟨v2,rfl,s6,fR⟩;refine⟨_,_,rfl,s5.trans s6,λp q y z hp vS hy hz=>?_⟩;by_cases ep:p=i
     ·subst ep;rw[Nq hi] at hy;rw[<-N5 hy];refine fR (q - (p+1)) z ?_ (by rw[show p+1+(q - (p+1))=q by lia];exact hz);have:=(N7.mp hz).1;rw[Np,O4]
      lia
     ·exact ho p q y z (by lia) vS hy hz
   ·rintro Z H4 ⟨v1,v2,rfl,s4,ho⟩;refine k false H4 (λ_ y hy z hz k1 k2 k3=>?_) ((s2.trans s3).trans s4);have mem:∀u∈row,Ay row x u->u∈ms:=λu hu ku=>by
     obtain⟨l,e,_⟩:=wh.val u hu;obtain⟨j,hj,ej⟩:=Pm.mp (Gz e);rw[Np] at hj;refine cG j u hj ?_ ku;rw[Qd] at ej;simp only[List.getD,Oa,Nq hj,P7,Option.getD_some];rw[ej];rfl
    obtain⟨p,hp,ep⟩:=Pm.mp (mem y hy k1);obtain⟨q,hq,eq⟩:=Pm.mp (mem z hz k2);have l7:ms[p]? = some y:=by rw[Nq hp,ep]
    have uX:ms[q]? = some z:=by rw[Nq hq,eq]
    rcases Nat.lt_trichotomy p q with h | h | h
    ·exact ho p q y z hp h l7 uX k3
    ·subst h;rw[l7] at uX;have e:=N5 uX;subst e;exact Er (h2 y hy) k3
    ·exact ho q p z y hq h uX l7 (Ds (h2 y hy) (h2 z hz) k3)
def Ee:FnScope NRo ["_law_draw", "_law_names_here"] (defScope sRow):=by walk_at "s"
def Xrd  (F:Fun K "_law_row" "_law_row" sRow f fd) (T:Bl mg) (FP:FnPick P w K mg base) (xM:Fn P w K mg base CX0 1 "_law_put" ["_law_row_here", "_law_name", "_law_at", "_law_to"] Xdg)
  (FB:Fn P w K mg base CX0 2 "_law_barred" ["_law_row_here", "_law_name"] spBarredN):FnOk P w K mg base CX0 3 f fd ["_law_draw", "_law_names_here"] spRowN:=by
 refine F.ok Ee (by walk_at "l") ?_
 ·walk_at "i"
  obtain⟨dr,sc,nl,ns,rfl,dk,hN,xN,qI,qY,k⟩:=h;z_go;have fJ:∀m,m<=100000->m<=sizeLine:=λm h=>by rw[Sw];lia
  refine⟨_,Ac (A4 (Aq Bu (Af FP cH rfl Ah (pa_cons (pv 0) (pa_cons pe_int pa_nil))) pe_int (Ar _))
    (Ac (Ak (i:=2) Ee.nd rfl (.inl rfl) (Af FP cH rfl Ah (pa_cons (pv 0) (pa_cons (Am B5 (pe_callB Ci (by rfl) T.len bM (pa_cons (pv 1) pa_nil)) pe_int) pa_nil))))
    (Ad (An (Am Bv (Am Bv (pv 1) (Xbz (B6 D3 (pv 1) Cf (B1 (pv 2))))) (Xbz (B6 D3 (pv 1) (B1 (pv 2)) Cf)))))) A7)
   (Ac (Ak (i:=3) Ee.nd rfl (.inl rfl) (Bi pa_nil))
   (Ac (Ce bj.never rfl (Bt (pv 1)) (Aw (i:=4) Ee.nd rfl (.inl rfl))
    (Ac (Ak (i:=5) Ee.nd rfl (.inl rfl) (Af FP cH rfl Ah (pa_cons (pv 0) (pa_cons (Am B5 (pe_callB Ci (by rfl) T.len bM (pa_cons (pv 3) pa_nil)) pe_int) pa_nil))))
    (Ac (Ak (i:=6) Ee.nd rfl (.inl rfl) (Am B5 (pv 5) (Af FP cH rfl Ah (pa_cons (pv 0) (pa_cons (Am Xhk (Am B5 (pe_callB Ci (by rfl) T.len bM (pa_cons (pv 3) pa_nil)) pe_int) (pv 5)) pa_nil)))))
    (Ac (Ak (i:=7) Ee.nd rfl (.inl rfl) (Af xM cH rfl Ah (pa_cons (pv 3) (pa_cons (pv 4) (pa_cons (pv 5) (pa_cons (pv 6) pa_nil))))))
    (Ac (A4 (pt_val (Af FB hr rfl Ah (pa_cons (pv 7) (pa_cons (pv 4) pa_nil))))
     (Ad (Ak (i:=7) Ee.nd rfl (.inl rfl) (Am Bv (Am Bv (B6 D3 (pv 3) Cf (B1 (pv 5))) (Bi (pa_cons (pv 4) (pa_cons (pv 4) pa_nil)))) (B6 D3 (pv 3) (B1 (pv 5)) Cf)))) A7)
    (Ad (Ak (i:=3) Ee.nd rfl (.inl rfl) (pv 7))))))))
   (Ad (An (pv 3))))),?_⟩
  refine⟨_,rfl,dr,sc,4,rfl,by decide,by decide,dk,λr1 H1 _ _ d1 b1=>?_⟩;refine⟨rfl,_,rfl,?_⟩;have b1:But dr H H1:=b1;have xO:=b1 _ _ hN xN;refine Ax (λ_=>?_) (λ_=>?_)
  ·-- IS IU
   refine⟨_,rfl,_,rfl,nl,_,rfl,.inl (SqL.of xO),_,_,rfl,rfl,dr,sc,_,rfl,by lia,by rw[Np];lia,d1,λc H2 c0 c1 d2 b2=>?_⟩;obtain⟨c,rfl⟩:=Pc c0;rw[Np] at c1;have hc:c<=ns.length:=by lia
   have iy:=But.trans b1 b2;have xP:=b2 _ _ xO xN;obtain⟨xs,oy⟩:=d2.at;refine⟨_,rfl,_,rfl,_,rfl,_,rfl,nl,_,rfl,SqL.of xP,λp1 n1=>?_⟩;rw[F3 _ _ _ hc];refine⟨p1,_,rfl,SqL.of Aa,λp2 n2=>?_⟩;refine⟨nl,p2,_,_,rfl,rfl,ku (ku xP n1) n2,Aa,fJ _ (by simp;lia),λp3 n3=>?_⟩;refine⟨_,rfl,_,rfl,_,rfl,nl,_,rfl,SqL.of (ku (ku (ku xP n1) n2) n3),λp4 n4=>?_⟩;rw[F4 _ _ _ hc];refine⟨p4,_,rfl,SqL.of Aa,λp5 n5=>?_⟩;refine⟨p3,p5,_,_,rfl,rfl,ku (ku Aa n4) n5,Aa,fJ _ (by simp;lia),λp6 n6=>?_⟩;have s5:=(((((Same.refl H2).go n1 n2).go n2 n3).go n3 n4).go n4 n5).go n5 n6;have f6:=s5.free n6;have lH:(ns++(ns.take c).reverse++(ns.drop c).reverse).Perm (ns++ns):=by
    rw[Oi];refine Pg ns ?_;refine((List.reverse_perm _).append (List.reverse_perm _)).trans ?_;rw[Ol]
   refine k p6 (ns++(ns.take c).reverse++(ns.drop c).reverse) _ (iy.free oy f6) (Aa.trans (by simp)) lH (noThree_grid qI c λz hz=>F7 qI lH z ?_) (d2.same (s5.step n6)) (iy.same (s5.step n6));exact lH.mem_iff.mpr (Pl _ hz)
  ·-- NA one by one
   refine⟨by show 0<=sizeLine;decide,λp np=>?_⟩;obtain⟨AR,tR⟩:=d1.at;have s0:Same H1 (upd H1 p (.lst [])):=(Same.refl H1).step np;refine⟨_,rfl,nl,rfl,⟨_,SqL.of (s0 _ _ xO)⟩,?_⟩;refine Dh (K:=K) (a:=nl) (xs:=ns.map V.str) (λi Z H2=>∃(v2 v4 v5 v6 v7:Option V) (q:ae) (row:Za), Z=[some (.ref dr),some (.ref nl),v2,some (.ref q),v4,v5,v6,v7]/\H2 q=some (.lst (row.map V.str))/\H q=none/\q≠dr/\row.Perm (ns.take i++ns.take i)/\B3 row/\DrawOk H2 dr sc/\But dr H H2) ?_ ?_ ?_ ?_
   ·exact⟨_,_,_,_,_,p,[],rfl,Aa,b1.free tR np,(Ao tR np).symm,by simp,Xl6,d1.same s0,b1.same s0⟩
   ·rintro i Z H2 _ ⟨v2,v4,v5,v6,v7,q,row,rfl,hq,nq,qb,hp,dZ,d2,b2⟩;exact SqL.of (b2 _ _ hN xN)
   ·rintro i y Z H2 hi ⟨v2,v4,v5,v6,v7,q,row,rfl,hq,nq,qb,hp,dZ,d2,b2⟩;have iq:i<ns.length:=by
     have:=(N7.mp hi).1
     rwa [Np] at this
    obtain⟨x,rfl,hx⟩:∃x,y=V.str x/\ns[i]? = some x:=by
     rw[Oa] at hi;cases z:ns[i]? with
     | none=>rw[z] at hi;cases hi
     | some x=>rw[z] at hi;exact⟨x,(N5 hi).symm,rfl⟩
    have tk:ns.take (i+1)=ns.take i++[x]:=by
     rw[Od iq];rw[Nq iq] at hx;rw[N5 hx]
    have mX:row.length<=28:=by
     have:=hp.length_eq;rw[Nx,N8] at this
     lia
    have xQ:(ns.take i++[x]).Nodup:=by rw[<-tk];exact qI.sublist (Pe ..)
    refine⟨_,rfl,_,rfl,q,_,rfl,.inl (SqL.of hq),_,_,rfl,rfl,dr,sc,_,rfl,by lia,by rw[Np];lia,d2,λa H3 a0 a1 d3 b3=>?_⟩;obtain⟨a,rfl⟩:=Pc a0;rw[Np] at a1;have rh:=b3 _ _ hq qb;refine⟨_,rfl,_,rfl,_,rfl,q,_,rfl,.inl (SqL.of rh),_,_,rfl,rfl,_,rfl,_,_,rfl,rfl,dr,sc,_,rfl,by rw[Np];lia,by rw[Np];lia,d3,λc H4 c0 c1 d4 b4=>?_⟩;obtain⟨c,rfl⟩:=Pc c0;rw[Np] at c1;refine⟨_,_,rfl,rfl,?_⟩;have IV:(a:Int)+(c:Int)=((a+c:Nat):Int):=by lia
    k_in;rw[IV];have lQ:a+c<=row.length:=by lia
    have o3:=b4 _ _ rh qb;have AS:=But.trans b2 (But.trans b3 b4);obtain⟨IW,ny⟩:=d4.at;refine⟨_,rfl,_,rfl,_,rfl,_,rfl,q,row,x,a,a+c,rfl,o3,by lia,by lia,lQ,λl H5 AT oo s5=>?_⟩;have d5:=d4.same s5;have IZ:=AS.same s5;have tS:=AS.free ny AT;have lY:l≠dr:=(Ao ny AT).symm;have hV:(Dq row x a (a+c)).Perm ((ns.take i++[x])++(ns.take i++[x])):=Xdk hp (Xdf row x a (a+c) (by lia));have rX:(Dq row x a (a+c)).length<=1000:=by
     have:=hV.length_eq;rw[Nx,Nx,N8,Oz] at this
     lia
    refine⟨_,rfl,_,rfl,l,_,x,rfl,oo,rX,F7 xQ hV,hV.mem_iff.mpr (by simp),λbb H6 qc s6=>?_⟩;have d6:=d5.same s6;have xR:=IZ.same s6;refine⟨bb,rfl,?_⟩;have tT:∀y∈row,row.count y=2:=F7 (qI.sublist (Pe ..)) hp;refine Ax (λ_=>?_) (λJ'=>?_)
    ·have AU:=s6 _ _ (s5 _ _ o3);refine⟨_,rfl,_,rfl,_,rfl,q,_,rfl,SqL.of AU,λp1 n1=>?_⟩;rw[F3 _ _ _ (by lia)];refine⟨_,rfl,_,rfl,by show 2<=sizeLine;decide,λp2 n2=>?_⟩;refine⟨p1,p2,_,_,rfl,rfl,ku Aa n2,Aa,fJ _ (by simp;lia),λp3 n3=>?_⟩;refine⟨_,rfl,_,rfl,_,rfl,q,_,rfl,SqL.of (ku (ku (ku AU n1) n2) n3),λp4 n4=>?_⟩;rw[F4 _ _ _ (by lia)];refine⟨p3,p4,_,_,rfl,rfl,ku Aa n4,Aa,fJ _ (by simp;lia),λp5 n5=>?_⟩;have xS:=((((Same.refl H6).go n1 n2).go n2 n3).go n3 n4).go n4 n5;have f5:=xS.free n5;obtain⟨NB,tU⟩:=d6.at;have pN:(row.take a++[x,x]++row.drop a).Perm (x::x::row):=by
      have e:row.take a++[x,x]++row.drop a=row.take a++x::x::row.drop a:=by simp
      rw[e];refine Qr.trans (List.Perm.cons x (Qr.trans (List.Perm.cons x ?_)));rw[Ol]
     have pM:=Xdk hp pN;have qd:=F7 xQ pM;refine⟨_,rfl,_,_,_,_,_,p5,row.take a++[x,x]++row.drop a,rfl,Aa.trans (by simp),xR.free tU f5,(Ao tU f5).symm,by rw[tk];exact pM,?_,d6.same (xS.step n5),xR.same (xS.step n5)⟩;refine Xd2 (x:=x) dZ tT qd (λy hy=>?_) (λp hp=>Xl9 hp) (λy hy z hz ky=>absurd ky (Xl8 (qd x (by simp)) (qd y hy)));have:=pN.mem_iff.mp hy;simp only[N4] at this;rcases this with h | h | h
     ·exact .inl h
     ·exact .inl h
     ·exact .inr h
    ·refine⟨_,rfl,_,_,_,_,_,l,_,rfl,s6 _ _ oo,tS,lY,by rw[tk];exact hV,?_,d6,xR⟩;refine Xd2 (x:=x) dZ tT (F7 xQ hV) (λy hy=>?_) (λp hp=>Xl7 (by lia) hp) (qc J');have:=(Xdf row x a (a+c) (by lia)).mem_iff.mp hy;simp only[N4] at this;rcases this with h | h | h
     ·exact .inl h
     ·exact .inl h
     ·exact .inr h
   ·rintro Z H2 ⟨v2,v4,v5,v6,v7,q,row,rfl,hq,nq,qb,hp,dZ,d2,b2⟩;rw[Np,O9] at hp;exact⟨_,rfl,k q row H2 nq hq hp dZ d2 b2⟩
def E1:FnScope NNa ["_law_draw", "_law_many"] (defScope sNames):=by walk_at "s"
def Xre  (F:Fun K "_law_names" "_law_names" sNames f fd) (T:Bl mg) (FP:FnPick P w K mg base):FnOk P w K mg base CX0 2 f fd ["_law_draw", "_law_many"] Xdj:=by
 refine F.ok E1 (by walk_at "l") ?_
 ·walk_at "i"
  obtain⟨dr,sc,n,rfl,hn,dk,k⟩:=h;refine⟨_,Ac (Ak (i:=2) E1.nd rfl (.inl rfl) Az)
   (Ac (Ak (i:=3) E1.nd rfl (.inl rfl) (Af FP hr rfl Ah (pa_cons (pv 0) (pa_cons pe_int pa_nil))))
   (Ac (Ak (i:=4) E1.nd rfl (.inl rfl) (D0 Bu (Af FP hr rfl Ah (pa_cons (pv 0) (pa_cons pe_int pa_nil))) pe_int (Ar _)))
   (Ac (Ak (i:=5) E1.nd rfl (.inl rfl) (Bi pa_nil))
   (Ac (Ce bj.never rfl (Ib rfl T.range (pa_cons (pv 1) pa_nil)) (Aw (i:=6) E1.nd rfl (.inl rfl))
    (Ac (Ak (i:=7) E1.nd rfl (.inl rfl) (pe_ix Xh8 (pv 2) (Am Fv (Am B5 (pv 3) (pv 6)) pe_int) (λ_ _=>rfl)))
    (Ac (Ak (i:=8) E1.nd rfl (.inl rfl) (Am Xjc Az (Am Fv (Am B5 (pv 3) (Am Xam (pv 6) (pv 6))) pe_int)))
    (Ad (Dz (Gw PySem.F.plainAttrs_list PySem.F.slot_list_append PySem.F.type_list_append Gx (pv 5)
     (pa_cons (Gp (pt_val (pv 4)) (Am Ii (Am Ii (pv 8) (pv 7)) Az) (Am Ii (pv 7) (pv 8))) pa_nil)))))))
   (Ad (An (pv 5))))))),?_⟩
  refine⟨_,rfl,dr,sc,26,rfl,by decide,by decide,dk,λr1 H1 AV NC d1 b1=>?_⟩;refine⟨_,rfl,dr,sc,2,rfl,by decide,by decide,d1,λr2 H2 AW ND d2 b2=>?_⟩;refine⟨rfl,?_⟩;refine⟨by show 0<=sizeLine;decide,λl nl=>?_⟩;obtain⟨st,rfl⟩:=Pc AV;have bH:st<26:=by lia
  generalize b7:decide (V.int r2=V.int 1)=aY;have iy:But dr H H2:=But.trans b1 b2;obtain⟨xs,oy⟩:=d2.at;have tS:H l=none:=iy.free oy nl;obtain⟨lY,uY⟩:=d2.ne nl;refine⟨_,rfl,(n:Int),rfl,by lia,by lia,?_⟩;rw[Q4];refine Ig (lo:=0) (n:=n) (λi Z H3=>∃v1 v2 v3, Z=[some (.ref dr),some (.int n),some (.str Fh),some (.int st),some (.bl aY),some (.ref l),v1,v2,v3]/\H3 l=some (.lst ((Bc st aY i).map V.str))/\DrawOk H3 dr sc/\But dr H H3) ?_ ?_ ?_
  ·exact⟨none,none,none,rfl,Aa,d2.upd lY uY,iy.upd tS⟩
  ·rintro i Z H3 hi ⟨v1,v2,v3,rfl,jl,d3,b3⟩;have JA:((st:Int)+(0+(i:Int))) % 26=(((st+i) % 26:Nat):Int):=by lia
   have JB:(st+i) % 26<26:=Sk _ (by decide);have JC:((0:Int)+(i:Int)) * (0+(i:Int))=((i * i:Nat):Int):=by rw[Int.zero_add];exact(Int.natCast_mul i i).symm
   have h7:(st+i * i) % 7<7:=Sk _ (by decide);have e7:((st:Int)+((i * i:Nat):Int)) % 7=(((st+i * i) % 7:Nat):Int):=by
    generalize i * i=j
    lia
   refine⟨_,rfl,_,rfl,_,rfl,_,_,rfl,rfl,_,_,rfl,rfl,(by show (0:Int)<26;decide),_,_,_,rfl,rfl,(by show 26<=sizeLine;decide),by rw[JA];exact Xlg JB,?_⟩;refine⟨_,rfl,_,rfl,_,rfl,_,_,rfl,rfl,.inl ⟨by lia,by lia⟩,_,_,rfl,rfl,_,_,rfl,rfl,(by show (0:Int)<7;decide),?_⟩;have xT:((st:Int)+((0:Int)+(i:Int)) * (0+(i:Int))) % 7=(((st+i * i) % 7:Nat):Int):=by rw[JC,e7]
   refine⟨_,_,rfl,rfl,by rw[xT];lia,by rw[xT];lia,by show 1<=1000;decide,?_⟩;rw[xT,Q4];have mX:(repS "m" ((st+i * i) % 7)).length<=6:=by
    rw[Li];have:(ao.ofString "m").length=1:=rfl;rw[this]
    lia
   have kH:(signOf ((st+i) % 26)).length=1:=rfl;have qY:(Bc st aY i).length=i:=by unfold Bc;simp
   have tV:Bc st aY (i+1)=Bc st aY i++[Hk st aY i]:=by unfold Bc;rw[O5,N2];rfl
   have fJ:∀m,m<=100000->m<=sizeLine:=λm h=>by rw[Sw];lia
   have fin:∀z:ao,Hk st aY i=z->K6 (.ref l) [.str z] H3 λ_ H4=>∃v1 v2 v3,[some (V.ref dr),some (.int n),some (.str Fh),some (.int st),some (.bl aY),some (.ref l),some (.int (0+(i:Int))),some (.str (signOf ((st+i) % 26))),some (.str (repS "m" ((st+i * i) % 7)))]=[some (.ref dr),some (.int n),some (.str Fh),some (.int st),some (.bl aY),some (.ref l),v1,v2,v3]/\H4 l=some (.lst ((Bc st aY (i+1)).map V.str))/\DrawOk H4 dr sc/\But dr H H4:=λz hz=>by
    refine⟨l,_,_,rfl,rfl,jl,by rw[Np,qY,Sw];lia,_,_,_,rfl,?_,d3.upd lY uY,b3.upd tS⟩;rw[Aa,tV,N2,<-hz];rfl
   refine⟨_,rfl,.inl ⟨rfl,_,SqL.of jl⟩,_,rfl,aY,rfl,?_⟩;refine Ax (λhL=>?_) (λhL=>?_)
   ·refine⟨_,rfl,_,rfl,_,_,rfl,rfl,fJ _ (by show (repS "m" ((st+i * i) % 7)).length+1<=100000;lia),_,_,rfl,rfl,fJ _ ?_,fin _ (by unfold Hk;rw[Sy hL];rfl)⟩;rw[E8];show (repS "m" ((st+i * i) % 7)).length+1+1<=100000
    lia
   ·exact⟨_,rfl,_,rfl,_,_,rfl,rfl,fJ _ (by show 1+(repS "m" ((st+i * i) % 7)).length<=100000;lia),fin _ (by unfold Hk;rw[Sx (by rw[hL];decide)];rfl)⟩
  ·rintro Z H3 ⟨v1,v2,v3,rfl,jl,d3,b3⟩;exact⟨_,rfl,k l st aY H3 tS bH jl uY d3 b3⟩
def Nn:FnScope NIs ["_law_draw", "_law_most"] (defScope sIsland):=by walk_at "s"
def Xrf  (F:Fun K "_law_island" "_law_island" sIsland f fd) (T:Bl mg) (FP:FnPick P w K mg base) (FN:Fn P w K mg base CX0 2 "_law_names" ["_law_draw", "_law_many"] Xdj)
  (FR:Fn P w K mg base CX0 3 "_law_row" ["_law_draw", "_law_names_here"] spRowN):FnOk P w K mg base CX0 4 f fd ["_law_draw", "_law_most"] spIslandN:=by
 refine F.ok Nn (by walk_at "l") ?_
 ·walk_at "i"
  obtain⟨dr,sc,m,rfl,hm,dk,k⟩:=h;z_go;k_go0;refine⟨_,Ac (Ak (i:=2) Nn.nd rfl (.inl rfl) (Am B5 pe_int (Af FP cH rfl Ah (pa_cons (pv 0) (pa_cons pe_int pa_nil)))))
   (Ac (Ak (i:=3) Nn.nd rfl (.inl rfl) (pe_ix ix_tup (Bb (pa_cons (Af FP cH rfl Ah (pa_cons (pv 0) (pa_cons pe_int pa_nil))) (pa_cons (pv 2) (pa_cons (Af FP cH rfl Ah (pa_cons (pv 0) (pa_cons (Am B5 (pv 1) pe_int) pa_nil))) pa_nil))))
    (Af FP cH rfl Ah (pa_cons (pv 0) (pa_cons pe_int pa_nil))) (λ_ _=>rfl)))
   (Ad (An (Af FR hr rfl Ah (pa_cons (pv 0) (pa_cons (Af FN fD rfl Ah (pa_cons (pv 0) (pa_cons (pe_callB (Xho rfl) (by rfl) T.min boot_min (pa_cons (pv 3) (pa_cons (pv 1) pa_nil))) pa_nil))) pa_nil)))))),?_⟩
  refine⟨_,rfl,dr,sc,5,rfl,by decide,by decide,dk,λr1 H1 AV _ d1 b1=>⟨_,_,rfl,rfl,?_⟩⟩;refine⟨_,rfl,dr,sc,5,rfl,by decide,by decide,d1,λr2 H2 AW _ d2 b2=>?_⟩;refine⟨_,rfl,_,rfl,_,rfl,_,_,rfl,rfl,dr,sc,_,rfl,by lia,by lia,d2,λr3 H3 JD _ d3 b3=>?_⟩;have b1:But dr H H1:=b1;have tW:But dr H H3:=But.trans b1 (But.trans b2 b3);refine⟨by show 3<=sizeLine;decide,λp np=>?_⟩;obtain⟨tX,tY⟩:=d3.ne np;obtain⟨NE,xU⟩:=d3.at;have JE:=tW.free xU np;refine⟨_,rfl,dr,sc,3,rfl,by decide,by decide,d3.upd tX tY,λr4 H4 JF NF d4 b4=>?_⟩;have b4:But dr (L2.upd H3 p (.tup [.int r2,.int (2+r1),.int r3])) H4:=b4;have o4:=b4 p _ Aa tX;have rj:But dr H H4:=But.trans (tW.upd JE) b4;obtain⟨mm,xV,JG⟩:∃mm:Int,0<=mm/\atI ([.int r2,.int (2+r1),.int r3]:List V) r4=some (.int mm):=by
   obtain⟨i,rfl⟩:=Pc JF;have hi:i<3:=by lia
   match i,hi with
   | 0,_=>exact⟨r2,AW,rfl⟩
   | 1,_=>exact⟨2+r1,by lia,rfl⟩
   | 2,_=>exact⟨r3,JD,rfl⟩
  refine⟨p,_,_,_,rfl,rfl,SqT.of o4,JG,?_⟩;obtain⟨n,hn,xW⟩:∃n:Nat,(if (m:Int)<mm then (m:Int) else mm)=(n:Int)/\n<=m:=by
   obtain⟨j,rfl⟩:=Pc xV;by_cases hj:(m:Int)<(j:Int)
   ·exact⟨m,Sy hj,Nr _⟩
   ·exact⟨j,Sx hj,by lia⟩
  refine⟨_,rfl,_,rfl,_,rfl,_,rfl,_,_,rfl,?_⟩;rw[hn];refine⟨dr,sc,n,rfl,by lia,d4,λl st aY H5 nl bH oo uY d5 b5=>?_⟩;obtain⟨IW,ny⟩:=d4.at;have lY:l≠dr:=(Ao ny nl).symm;have AX:=But.trans rj b5;refine⟨dr,sc,l,_,rfl,d5,oo,lY,Me bH (by lia),by unfold Bc;simp;lia,λl2 row H6 tZ JH hp dZ d6 b6=>?_⟩;obtain⟨NG,xX⟩:=d5.at;exact k l2 row n st aY H6 (AX.free xX tZ) xW bH JH hp dZ d6 (But.trans AX b6)
def Xrg:FnScope ["_law_draw", "_law_some"] ["_law_draw", "_law_some"] (defScope s__law_one):=by walk_at "s"
def Xrh  (F:Fun K "_law_one" "_law_one" s__law_one f fd) (T:Bl mg) (FP:FnPick P w K mg base):FnOk P w K mg base CX0 2 f fd ["_law_draw", "_law_some"] Xeu:=by
 refine F.ok Xrg (by walk_at "l") ?_
 ·walk_at "i"
  obtain⟨dr,sc,l,xs,rfl,d,hl,lY,h0,h1,k⟩:=h;z_go;refine⟨_,Ad (An (pe_ix Bf (pv 1) (Af FP cH (by rfl) Ah (pa_cons (pv 0) (pa_cons (pe_callB Ci (by rfl) T.len bM (pa_cons (pv 1) pa_nil)) pa_nil))) (λ_ _=>rfl))),?_⟩;refine⟨_,rfl,_,rfl,_,rfl,l,_,rfl,.inl (SqL.of hl),dr,sc,_,rfl,by lia,by lia,d,λgi H4 g0 g1 d4 b4=>?_⟩;have b4:But dr H H4:=b4;obtain⟨gi,rfl⟩:=Pc g0;have o6:gi<xs.length:=by lia
  have ka:atI xs (gi:Int)=some (xs.getD gi .non):=D1 (by rw[Nq o6];simp[List.getD,o6]);exact⟨l,_,_,_,rfl,rfl,SqL.of (b4 _ _ hl lY),ka,k gi H4 o6 d4 b4⟩
def Gn:FnScope NBr ["_law_row_here"] (defScope s__law_bars):=by walk_at "s"
def Xri  (F:Fun K "_law_bars" "_law_bars" s__law_bars f fd) (T:Bl mg) (FW:Fn P w K mg base CX0 1 "_law_where" ["_law_row_here"] Mc)
  (FO:Fn P w K mg base CX0 1 "_law_word" ["_law_where_here", "_law_one_here", "_law_other"] spWord):FnOk P w K mg base CX0 2 f fd ["_law_row_here"] spBars:=by
 refine F.ok Gn (by walk_at "l") ?_
 ·walk_at "i"
  obtain⟨r,row,rfl,hR,R2,k⟩:=h;refine⟨_,Ac (Ak (i:=1) Gn.nd rfl (.inl rfl) (Af FW hr (by rfl) Ah (pa_cons (pv 0) pa_nil)))
   (Ac (Ak (i:=2) Gn.nd rfl (.inl rfl) (Bi pa_nil))
   (Ac (Ce bj.never rfl (Bt (pe_callB (Xcm rfl) (by rfl) T.sorted (by rfl) (pa_cons (pv 1) pa_nil))) (Aw (i:=3) Gn.nd rfl (.inl rfl))
    (Ad (Ce bj.never rfl (Bt (pe_callB (Xcm rfl) (by rfl) T.sorted (by rfl) (pa_cons (pv 1) pa_nil))) (Aw (i:=4) Gn.nd rfl (.inl rfl))
     (Ac (Ak (i:=5) Gn.nd rfl (.inl rfl) (Af FO hr (by rfl) Ah (pa_cons (pv 1) (pa_cons (pv 3) (pa_cons (pv 4) pa_nil)))))
     (Ad (A4 (pw_or (Aq Bu (pv 5) Az (Ar _)) (Fu (Dy (Aq Bu (pv 5) Az (Ar _)) (Dx (Aq Xau (pv 3) (pv 4) (Ar _)))).pt)).pt
      (Ad (Dz (Gw PySem.F.plainAttrs_list PySem.F.slot_list_append PySem.F.type_list_append Gx (pv 2) (pa_cons (Bb (pa_cons (pv 3) (pa_cons (pv 4) (pa_cons (pv 5) pa_nil)))) pa_nil)))) A7))))))
   (Ad (An (pv 2))))),?_⟩
  have mX:=R2.len;have jR:=Ff row;refine⟨_,rfl,r,row,rfl,hR,by lia,λd kvs H1 nd hd wh s1=>?_⟩;obtain⟨ss,jP,uZ,AY⟩:=wh.names;have kH:ss.length<=60:=by
   have h1:=congrArg List.length jP;rw[Np,Np] at h1;have:=wh.len
   lia
  refine⟨by show 0<=sizeLine;decide,λu nu=>?_⟩;refine⟨_,rfl,d,kvs,ss,rfl,.inl (ku hd nu),jP,by lia,λsn ls xY xZ JI=>?_⟩;rw[Xcs xZ JI uZ AY];have JJ:∀{xs:List V},upd (upd H1 u (.lst [])) sn (.lst xs) u=some (.lst []):=λ{xs}=>ku Aa xY;have s2:Same H1 (upd (upd H1 u (.lst [])) sn (.lst ((dit row).map V.str))):=((Same.refl H1).step nu).step xY;have qf:upd (upd H1 u (.lst [])) sn (.lst ((dit row).map V.str)) sn=some (.lst ((dit row).map V.str)):=Aa;have ya:sn≠u:=(Ao (H:=upd H1 u (.lst [])) Aa xY).symm;have qT:upd (upd H1 u (.lst [])) sn (.lst ((dit row).map V.str)) u=some (.lst []):=JJ;generalize upd (upd H1 u (.lst [])) sn (.lst ((dit row).map V.str))=H2 at s2 qf qT;have JK:∀(i j:Nat),i<=60->∀x,((Cz row i++Cn row x ((dit row).take j)).map trD).length<=5000:=λi j hi x=>by
   rw[Np,Nx];have h1:=Xl1 row i;have h2:=Xdz row x ((dit row).take j);rw[N8] at h2;have h3:i * (dit row).length<=60 * 60:=Nat.mul_le_mul hi (by lia)
   lia
  have cX:∀b o,H1 b=some o->hid u H2 b=some o:=λb o e=>hid_ne (s2 _ _ e) (Ao e nu);refine⟨sn,rfl,⟨_,SqL.of qf⟩,?_⟩;refine Dh (K:=K) (a:=sn) (xs:=(dit row).map V.str) (λi Z H9=>∃v3 v4 v5, Z=[some (.ref r),some (.ref d),some (.ref u),v3,v4,v5]/\Same (hid u H2) H9/\∃xs,H9 u=some (.lst xs)/\DAll (hid u H9) ((Cz row i).map trD) xs) ?_ ?_ ?_ ?_
  ·exact⟨none,none,none,rfl,Eo u H2,[],qT,Da⟩
  ·rintro i Z H9 _ ⟨v3,v4,v5,rfl,s9,_⟩;exact SqL.of (s9 _ _ (hid_ne qf ya))
  ·rintro i y Z H9 hi ⟨v3,v4,v5,rfl,s9,xs,va,d7⟩;have iq:i<(dit row).length:=by
    have:=(N7.mp hi).1
    rwa [Np] at this
   obtain⟨x,rfl,hx⟩:∃x,y=V.str x/\(dit row).getD i ao.empty=x:=by
    rw[Oa,Nq iq] at hi;exact⟨_,(N5 hi).symm,by simp[List.getD,iq]⟩
   have jC:x∈row:=Ai.mp (by rw[<-hx];exact Cb iq);refine⟨_,rfl,d,kvs,ss,rfl,.inl (s9 _ _ (cX _ _ hd)),jP,by lia,λqg NH ua mq vX=>?_⟩;rw[Xcs mq vX uZ AY];have iM:Same H9 (upd H9 qg (.lst ((dit row).map V.str))):=(Same.refl H9).step ua;have li:upd H9 qg (.lst ((dit row).map V.str)) qg=some (.lst ((dit row).map V.str)):=Aa;have yb:qg≠u:=(Ao va ua).symm;generalize upd H9 qg (.lst ((dit row).map V.str))=qh at iM li;have ub:=DAll.same (Hg (D:=u) iM) _ _ d7;have yc:=iM _ _ va;have AZ:=s9.trans iM;refine⟨qg,rfl,⟨_,SqL.of li⟩,?_⟩;refine Dh (K:=K) (a:=qg) (xs:=(dit row).map V.str) (λj Z lj=>∃v4 v5, Z=[some (.ref r),some (.ref d),some (.ref u),some (.str x),v4,v5]/\Same (hid u qh) lj/\∃xs,lj u=some (.lst xs)/\DAll (hid u lj) ((Cz row i++Cn row x ((dit row).take j)).map trD) xs) ?_ ?_ ?_ ?_
   ·exact⟨v4,v5,rfl,Eo u qh,xs,yc,by simpa [Cn] using ub⟩
   ·rintro j Z lj _ ⟨v4,v5,rfl,lm,_⟩;exact SqL.of (lm _ _ (hid_ne li yb))
   ·rintro j z Z lj hj ⟨v4,v5,rfl,lm,xs,qi,jn⟩;have vb:j<(dit row).length:=by
     have:=(N7.mp hj).1
     rwa [Np] at this
    obtain⟨y,rfl,hy⟩:∃x,z=V.str x/\(dit row).getD j ao.empty=x:=by
     rw[Oa,Nq vb] at hj;exact⟨_,(N5 hj).symm,by simp[List.getD,vb]⟩
    have pq:y∈row:=Ai.mp (by rw[<-hy];exact Cb vb);have c1:=R2.two x jC;have c2:=R2.two y pq;have bb:∀b o,H1 b=some o->lj b=some o:=λb o e=>lm _ _ (hid_ne (AZ _ _ (cX b o e)) (Ao e nu));obtain⟨l1,e1,g1⟩:=wh.two' jC c1;obtain⟨l2,e2,g2⟩:=wh.two' pq c2;refine⟨_,rfl,_,rfl,_,rfl,d,l1,l2,kvs,x,y,_,_,_,_,rfl,.inl (bb _ _ hd),e1,e2,bb _ _ g1,bb _ _ g2,λjE eV=>?_⟩;rw[<-F8 c1 c2];have n0:=eV _ _ qi;have ln:=DAll.same (Hg (D:=u) eV) _ _ jn;have iy:=lm.trans eV;have jw:=Xl0 row x vb;rw[hy] at jw;have stay:Ch row x y=false->∃v4 v5,[some (V.ref r),some (.ref d),some (.ref u),some (.str x),some (.str y),some (.str (lieR row x y))]=[some (.ref r),some (.ref d),some (.ref u),some (.str x),v4,v5]/\Same (hid u qh) jE/\∃xs,jE u=some (.lst xs)/\DAll (hid u jE) ((Cz row i++Cn row x ((dit row).take (j+1))).map trD) xs:=λhk=>by
     refine⟨_,_,rfl,iy,xs,n0,?_⟩;rw[jw,hk,Sx N9,Oy];exact ln
    have app:Ch row x y=true->Xaf (tBM K "list" K6 (Ct 2) (Eh (Kz (Eh (Ct 3) (Eh (Ct 4) (Eh (Ct 5) Fw)))) Fw)) {nx:=fun Z H=>∃v4 v5, Z=[some (.ref r),some (.ref d),some (.ref u),some (.str x),v4,v5]/\Same (hid u qh) H/\∃xs,H u=some (.lst xs)/\DAll (hid u H) ((Cz row i++Cn row x ((dit row).take (j+1))).map trD) xs,rt:=Q} [some (V.ref r),some (.ref d),some (.ref u),some (.str x),some (.str y),some (.str (lieR row x y))] jE:=λhk=>by
     refine⟨_,rfl,.inl ⟨rfl,_,SqL.of n0⟩,_,rfl,_,rfl,_,rfl,by show 3<=sizeLine;decide,λp np=>?_⟩;have ot:xs.length<=5000:=by
      rw[F5 ln];exact JK i j (by lia) x
     refine⟨u,_,_,rfl,rfl,ku n0 np,by rw[Sw];lia,?_⟩;refine⟨_,_,rfl,?_,xs++[.ref p],Aa,?_⟩
     ·intro b o e;have nb:b≠u:=λz=>by rw[z] at e;unfold hid at e;rw[Sy rfl] at e;cases e
      rw[Ab nb,Ab (Ao (iy _ _ e) np)];exact iy _ _ e
     ·rw[Xc8,jw,hk,Sy rfl,<-Oi,N2];refine Je (DAll.same (Hg (D:=u) ((Same.refl jE).step np)) _ _ ln) ?_;exact Xc9 n0 np (L3 [x,y,lieR row x y])
    refine⟨_,rfl,rfl,_,rfl,?_⟩;rw[Fi];refine Ax (λq1=>?_) (λq1=>?_)
    ·exact iteT (app (by unfold Ch;rw[q1];rfl))
    ·refine⟨_,rfl,rfl,_,rfl,?_⟩;rw[Fi];refine Ax (λq2=>?_) (λq2=>?_)
     ·refine⟨_,rfl,_,rfl,_,_,rfl,rfl,_,rfl,?_⟩;refine Ax (λq3=>?_) (λq3=>?_)
      ·refine app ?_;unfold Ch;have yd:decide (ltS x y)=true:=q3;rw[q2,yd,Rg,Se]
      ·refine stay ?_;unfold Ch;have yd:decide (ltS x y)=false:=q3;rw[q1,yd,Rs,Sn]
     ·refine Bd (stay ?_);unfold Ch;rw[q1,q2,Pf,Sn]
   ·rintro Z lj ⟨v4,v5,rfl,lm,xs,qi,jn⟩;rw[Np,O9] at jn;refine⟨_,_,_,rfl,λb o e=>?_,xs,qi,?_⟩
    ·have nb:b≠u:=λz=>by rw[z] at e;unfold hid at e;rw[Sy rfl] at e;cases e
     exact lm _ _ (hid_ne (AZ _ _ e) nb)
    ·rw[Xlz row iq,hx];exact jn
  ·rintro Z H9 ⟨v3,v4,v5,rfl,s9,xs,va,d7⟩;rw[Np,Xly] at d7;refine⟨_,rfl,k u xs H9 (s1.free nu) va (DAll.same (Eo u H9) _ _ d7) (λb o e=>s9 _ _ (cX _ _ (s1 _ _ e)))⟩
def Kh:FnScope NFi ["_law_bars_here", "_law_plot"] (defScope s__law_fits):=by walk_at "s"
def Xrj  (F:Fun K "_law_fits" "_law_fits" s__law_fits f fd):FnOk P w K mg base CX0 1 f fd ["_law_bars_here", "_law_plot"] spFits:=by
 refine F.ok Kh (by walk_at "l") ?_
 ·walk_at "i"
  obtain⟨b,p,xs,bs,ss,rfl,hB,d7,hP,k⟩:=h;refine⟨_,Ac (Ce bj.never rfl (Bt (pv 0)) (Xaj (n:=3) rfl (C5 (Aw (i:=2) Kh.nd rfl (.inl rfl)) (C5 (Aw (i:=3) Kh.nd rfl (.inl rfl)) (C5 (Aw (i:=4) Kh.nd rfl (.inl rfl)) Gr))))
    (Ad (A4 (Dy (Aq K5 (pv 2) (pv 1) (by rfl)) (Dx (Aq Ih (D0 K5 (pv 3) (pv 1) (by rfl)) (D0 Bu (pv 4) Az (Ar _)) (Ar _)))).pt (Ad (An Cu)) A7)))
   (Ad (An Cu)),?_⟩
  refine⟨_,rfl,b,rfl,⟨_,SqL.of hB⟩,?_⟩;have ot:xs.length=bs.length:=by rw[F5 d7,Np]
  refine Dh (K:=K) (a:=b) (xs:=xs) (λi Z H2=>∃v2 v3 v4, Z=[some (.ref b),some (.ref p),v2,v3,v4]/\Same H H2/\Ck (bs.take i) ss=true) ?_ ?_ ?_ ?_
  ·exact⟨none,none,none,rfl,Same.refl H,rfl⟩
  ·rintro i Z H2 _ ⟨v2,v3,v4,rfl,s2,_⟩;exact SqL.of (s2 _ _ hB)
  ·rintro i y Z H2 hi ⟨v2,v3,v4,rfl,s2,hf⟩;have iq:i<xs.length:=(N7.mp hi).1;have By:i<bs.length:=by lia
   obtain⟨v,hv,dv⟩:=Lz d7 (show (bs.map trD)[i]? = some (trD bs[i]) by rw[Oa,Nq By];rfl);rw[hi] at hv;cases hv;obtain⟨q,rfl,hq⟩:=Xlx dv;have jK:bs.take (i+1)=bs.take i++[bs[i]]:=Od By;generalize bs[i]=t at *;have mU:Ck (bs.take (i+1)) ss = !(decide (t.1∈ss) && !decide (decide (t.2.1∈ss)=decide (t.2.2 = "within"))):=by
    rw[jK];unfold Ck at hf ⊢;rw[List.all_append,hf,Pi];simp
   have JL:(decide (t.1∈ss) && !decide (decide (t.2.1∈ss)=decide (t.2.2 = "within")))=true->Ck bs ss=false:=λhb=>by
    rw[Ql];intro z;have hz:Ck (bs.take (i+1)) ss=true:=by
     unfold Ck at z ⊢;rw[Oh] at z ⊢;exact λx hx=>z x (O3 hx)
    rw[mU,hb] at hz;cases hz
   refine⟨q,_,rfl,SqT.of (s2 _ _ hq),rfl,_,_,rfl,_,_,rfl,_,_,rfl,rfl,?_⟩;refine⟨_,rfl,_,rfl,p,_,rfl,.inr (SqT.of (s2 _ _ hP)),rfl,Dm ss,_,rfl,?_⟩;rw[Sx (by decide),Dl];refine Ax (λq1=>?_) (λq1=>?_)
   ·refine⟨_,rfl,_,rfl,p,_,rfl,.inr (SqT.of (s2 _ _ hP)),rfl,Dm ss,_,rfl,rfl,rfl,_,rfl,?_⟩;rw[Sx (by decide),Dl,Fi];have eb:(!decide (V.bl (decide (t.2.1∈ss))=V.bl (decide (t.2.2 = "within")))) = !decide (decide (t.2.1∈ss)=decide (t.2.2 = "within")):=by
     congr 1;rw[Pu,decide_eq_true_eq,decide_eq_true_eq];exact⟨λz=>by injection z,λz=>by rw[z]⟩
    rw[eb];refine Ax (λq2=>?_) (λq2=>?_)
    ·have:=k H2 s2;rw[JL (by rw[q1,q2];rfl)] at this;exact this
    ·exact⟨_,_,_,rfl,s2,by rw[mU,q1,q2];rfl⟩
   ·exact Bd ⟨_,_,_,rfl,s2,by rw[mU,q1];rfl⟩
  ·rintro Z H2 ⟨v2,v3,v4,rfl,s2,hf⟩;rw[ot,O9] at hf;have:=k H2 s2;rw[hf] at this;exact this
def Cs:FnScope NPl ["_law_row_here"] (defScope s__law_plots):=by walk_at "s"
def Xrk  (F:Fun K "_law_plots" "_law_plots" s__law_plots f fd) (T:Bl mg) (uc:Fn P w K mg base CX0 1 "_law_fits" ["_law_bars_here", "_law_plot"] spFits)
  (ud:Fn P w K mg base CX0 2 "_law_bars" ["_law_row_here"] spBars):FnOk P w K mg base CX0 3 f fd ["_law_row_here"] spPlots:=by
 refine F.ok Cs (by walk_at "l") ?_
 ·walk_at "i"
  obtain⟨r,row,rfl,hR,R2,h3,fH,k⟩:=h;have hu4:_+4<bA:=Sb (Nat.add_le_add_left (by decide:4<=64) _) hr.units;z_go;k_go0;refine⟨_,Ac (Ak (i:=1) Cs.nd rfl (.inl rfl) (Af ud fD (by rfl) Ah (pa_cons (pv 0) pa_nil)))
   (Ac (Ak (i:=2) Cs.nd rfl (.inl rfl) (Mm (i:=0) rfl (by rfl) T.sorted (by rfl) T.set (pv 0)))
   (Ac (Ak (i:=3) Cs.nd rfl (.inl rfl) (Bi (pa_cons (Bb pa_nil) pa_nil)))
   (Ac (Ak (i:=4) Cs.nd rfl (.inl rfl) (Bi (pa_cons (Bb pa_nil) pa_nil)))
   (Ac (Ce bj.never rfl (Ib rfl T.range (pa_cons (pe_callB Ci (by rfl) T.len bM (pa_cons (pv 2) pa_nil)) pa_nil)) (Aw (i:=5) Cs.nd rfl (.inl rfl))
    (Ac (Ak (i:=6) Cs.nd rfl (.inl rfl) (Bi pa_nil))
    (Ac (Ce bj.never rfl (Bt (pv 4)) (Aw (i:=7) Cs.nd rfl (.inl rfl))
     (Ad (Ce bj.never rfl (Bt (pv 2)) (Aw (i:=8) Cs.nd rfl (.inl rfl))
      (Ac (Ak (i:=9) Cs.nd rfl (.inl rfl) (Bq Gv (by rfl) T.tuple (by rfl) (pa_cons (pe_callB Xml (by rfl) T.sorted (by rfl) (pa_cons (Am Hh (pv 7) (Bb (pa_cons (pv 8) pa_nil))) pa_nil)) pa_nil)))
      (Ad (A4 (Dy (Aq Il (pv 8) (pv 7) (by rfl)) (Dx (Aq (Xmm hu4) (pv 9) (pv 6) (by rfl)))).pt
       (Ad (Ak (i:=6) Cs.nd rfl (.inl rfl) (Am Bv (pv 6) (Am Xbe (Bi (pa_cons (pv 9) pa_nil)) (Bq Xaw (by rfl) T.int (by rfl) (pa_cons (Af uc cH (by rfl) Ah (pa_cons (pv 1) (pa_cons (pv 9) pa_nil))) pa_nil))))))
       A7))))))
    (Ac (Ak (i:=4) Cs.nd rfl (.inl rfl) (pe_callB Xmk (by rfl) T.sorted (by rfl) (pa_cons (pv 6) pa_nil)))
    (Ad (Ak (i:=3) Cs.nd rfl (.inl rfl) (Am Bv (pv 3) (pv 4))))))))
   (Ad (An (pv 3))))))),?_⟩
  have mX:=R2.len;have jR:=Ff row;refine⟨_,rfl,r,row,rfl,hR,R2,λb xs0 H1 nb hb cG s1=>?_⟩;refine⟨_,rfl,r,row,rfl,.inl (SqL.of (s1 _ _ hR)),R2.len,λnl H2 nn ye s2=>?_⟩;have vP:=s2 _ _ hb;have ue:=DAll.same s2 _ _ cG;have eV:=s1.trans s2;refine⟨by show 0<=sizeLine;decide,λe1 tX=>?_⟩;refine⟨by show 1<=sizeLine;decide,λvc qj=>?_⟩;refine⟨by show 0<=sizeLine;decide,λe2 tY=>?_⟩;refine⟨by show 1<=sizeLine;decide,λyf nA=>?_⟩;generalize rl:upd (upd (upd (upd H2 e1 (.tup [])) vc (.lst [.ref e1])) e2 (.tup [])) yf (.lst [.ref e2])=H3;have f1:Same H2 H3:=by
   rw[<-rl];exact((((Same.refl H2).step tX).step qj).step tY).step nA
  have JM:H3 vc=some (.lst ([e1].map V.ref)):=by
   rw[<-rl];exact ku (ku Aa tY) nA
  have JN:H3 yf=some (.lst ([e2].map V.ref)):=by
   rw[<-rl];exact Aa
  have on:Plts row H3 [e1]:=λp hp=>by
   rw[Nv.mp hp];exact⟨[],by rw[<-rl];exact ku (ku (ku Aa qj) tY) nA,Mt row⟩
  have jX:Plts row H3 [e2]:=λp hp=>by
   rw[Nv.mp hp];exact⟨[],by rw[<-rl];exact ku Aa nA,Mt row⟩
  have JO:H vc=none:=eV.free (((Same.refl H2).step tX).free qj);clear rl;have uf:=f1 _ _ ye;refine⟨_,rfl,nl,_,rfl,.inl (SqL.of uf),(((dit row).map V.str).length:Int),rfl,by lia,by rw[Np];lia,?_⟩;have JP:(((dit row).map V.str).length:Int).toNat=(dit row).length:=by rw[Np];simp
  rw[JP];refine Ig (lo:=0) (n:=(dit row).length) (λi Z H4=>∃(v5 v6 v7 v8 v9:Option V) (tl ly:ae) (ps qs:List ae), Z=[some (.ref r),some (.ref b),some (.ref nl),some (.ref tl),some (.ref ly),v5,v6,v7,v8,v9]/\Same H3 H4/\H tl=none/\H4 tl=some (.lst (ps.map V.ref))/\H4 ly=some (.lst (qs.map V.ref))/\ps≠[]/\ps.length<=1+63 * i/\Plts row H4 ps/\Plts row H4 qs) ?_ ?_ ?_
  ·exact⟨_,_,_,_,_,vc,yf,[e1],[e2],rfl,Same.refl _,JO,JM,JN,by simp,by simp,on,jX⟩
  ·rintro i Z H4 hi ⟨v5,v6,v7,v8,v9,tl,ly,ps,qs,rfl,s4,B',kK,yg,fB,bN,ug,BA⟩;refine⟨by show 0<=sizeLine;decide,λf0 JQ=>?_⟩;have g1:Same H4 (upd H4 f0 (.lst [])):=(Same.refl H4).step JQ;have uJ:Fresh row (upd H4 f0 (.lst [])) f0 [] []:=⟨Aa,rfl,.nil,λ_ h=>by cases h⟩;generalize upd H4 f0 (.lst [])=H5 at g1 uJ;have uh:=s4.trans g1;have BB:=uh _ _ uf;have JR:=uh _ _ (f1 _ _ vP);have JS:=DAll.same uh _ _ (DAll.same f1 _ _ ue);have JT:=BA.same g1;refine⟨_,rfl,ly,rfl,⟨_,SqL.of (g1 _ _ yg)⟩,?_⟩;refine Dh (K:=K) (a:=ly) (xs:=qs.map V.ref) (λj Z H6=>∃(v7 v8 v9:Option V) (f:ae) (xs:List V) (Ts:List (Za)), Z=[some (.ref r),some (.ref b),some (.ref nl),some (.ref tl),some (.ref ly),some (.int (0+(i:Int))),some (.ref f),v7,v8,v9]/\Same H5 H6/\Fresh row H6 f xs Ts) ?_ ?_ ?_ ?_
   ·exact⟨_,_,_,f0,[],[],rfl,Same.refl _,uJ⟩
   ·rintro j Z H6 _ ⟨v7,v8,v9,f,xs,Ts,rfl,s6,hf⟩;exact SqL.of (s6 _ _ (g1 _ _ yg))
   ·rintro j y Z H6 hj ⟨v7,v8,v9,f,xs,Ts,rfl,s6,hf⟩;obtain⟨q,rfl,hq⟩:∃q,y=V.ref q/\q∈qs:=by
     rw[Oa] at hj;cases z:qs[j]? with
     | none=>rw[z] at hj;cases hj
     | some q=>rw[z] at hj;exact⟨q,(N5 hj).symm,Pr z⟩
    obtain⟨ss,BC,yh⟩:=JT q hq;have JU:=Fo yh;obtain⟨JV,JW⟩:=Co yh;refine⟨_,rfl,nl,rfl,⟨_,SqL.of (s6 _ _ BB)⟩,?_⟩;refine Dh (K:=K) (a:=nl) (xs:=(dit row).map V.str) (λm Z H7=>∃(v8 v9:Option V) (f:ae) (xs:List V) (Ts:List (Za)), Z=[some (.ref r),some (.ref b),some (.ref nl),some (.ref tl),some (.ref ly),some (.int (0+(i:Int))),some (.ref f),some (.ref q),v8,v9]/\Same H5 H7/\Fresh row H7 f xs Ts) ?_ ?_ ?_ ?_
    ·exact⟨_,_,f,xs,Ts,rfl,s6,hf⟩
    ·rintro m Z H7 _ ⟨v8,v9,f,xs,Ts,rfl,s7,hf⟩;exact SqL.of (s7 _ _ BB)
    ·rintro m y Z H7 hm ⟨v8,v9,f,xs,Ts,rfl,s7,hf⟩;obtain⟨x,rfl,hx⟩:∃x,y=V.str x/\x∈row:=by
      rw[Oa] at hm;cases z:(dit row)[m]? with
      | none=>rw[z] at hm;cases hm
      | some x=>rw[z] at hm;exact⟨x,(N5 hm).symm,Ai.mp (Pr z)⟩
     refine⟨_,rfl,_,rfl,by show 1<=sizeLine;decide,λt1 rm=>?_⟩;have s8:Same H5 (upd H7 t1 (.tup [.str x])):=s7.step rm;have JY:Same H7 (upd H7 t1 (.tup [.str x])):=(Same.refl H7).step rm;refine⟨q,t1,_,_,rfl,rfl,s8 _ _ BC,Aa,by rw[Np,Sw];show ss.length+1<=_;lia,λp1 H9 s9 xZ=>?_⟩;have yi:H9 p1=some (.tup ((ss++[x]).map V.str)):=by rw[xZ,N2];rfl
     refine⟨p1,_,rfl,yi,by rw[Nx];show ss.length+1<64;lia,λl2 tZ=>?_⟩;refine⟨l2,_,rfl,.inl ⟨SqL.of Aa,λov JZ=>?_⟩⟩;have k7:Same H7 (upd (upd H9 l2 (.lst ((srt (ss++[x])).map V.str))) ov (.tup ((srt (ss++[x])).map V.str))):=((JY.trans s9).step tZ).step JZ;have vd:upd (upd H9 l2 (.lst ((srt (ss++[x])).map V.str))) ov (.tup ((srt (ss++[x])).map V.str)) ov=some (.tup ((srt (ss++[x])).map V.str)):=Aa;generalize upd (upd H9 l2 (.lst ((srt (ss++[x])).map V.str))) ov (.tup ((srt (ss++[x])).map V.str))=HA at k7 vd;have qk:=s7.trans k7;have nB:=hf.same k7;have yj:∀y∈srt (ss++[x]),okN y:=λy hy=>by
      rcases N0.mp (Fd.mp hy) with z | z
      ·exact R2.ok y (JV y z)
      ·rw[Nv.mp z];exact R2.ok x hx
     have uV:∀T∈Ts,∀y∈T,okN y:=λT hT y hy=>R2.ok y ((Co (hf.ok T hT).2).1 y hy);have K':am.depth (tupD (srt (ss++[x])))<=3:=by
      have:=Xdt (srt (ss++[x])) (srt (ss++[x]))
      rwa [Nat.min_self] at this
     have EK:xs.length=Ts.length:=by rw[F5 nB.all,Np]
     have b7:=Xea R2.two h3 fH hf.nd hf.ok;dsimp only[A2];refine⟨_,rfl,_,rfl,q,_,rfl,.inr (SqT.of (qk _ _ BC)),rfl,Dm ss,_,rfl,?_⟩;rw[Sy rfl,Dl];refine Ax (λhc=>?_) (λhc=>Bd ⟨_,_,f,xs,Ts,rfl,qk,nB⟩);have gW:x∉ss:=by simpa using hc
     refine⟨_,rfl,_,rfl,tupD (srt (ss++[x])),Ts.map tupD,Cl vd,L4 nB.at' nB.all,Bm _ (Db yj),Hf _ (plainAll_map tupD Ts λT hT=>Db (uV T hT)),K',_,rfl,?_⟩;refine Ax (λhd=>?_) (λhd=>⟨_,_,f,xs,Ts,rfl,qk,nB⟩);have fV:srt (ss++[x])∉Ts:=λhm=>by
      have:((Ts.map tupD).any λe=>am.eqv e (tupD (srt (ss++[x]))))=true:=by
       rw[P6];refine⟨_,Oj.mpr ⟨_,hm,rfl⟩,?_⟩;show am.eqv (.tuple _) (.tuple _)=true;rw[Jq yj yj];exact Sz rfl
      rw[this] at hd;exact absurd hd (by decide)
     refine⟨_,rfl,_,rfl,by show 1<=sizeLine;decide,λc nc=>?_⟩;have kA:Same HA (upd HA c (.lst [.ref ov])):=(Same.refl HA).step nc;refine⟨_,rfl,_,rfl,b,ov,xs0,bars row,srt (ss++[x]),rfl,kA _ _ (qk _ _ JR),DAll.same kA _ _ (DAll.same qk _ _ JS),kA _ _ vd,λHB sB=>?_⟩;have uG:=sB _ _ (show upd HA c (.lst [.ref ov]) c=_ from Aa);refine .inr ⟨_,rfl,?_⟩;cases oM:Ck (bars row) (srt (ss++[x])) with
     | false=>
      refine⟨c,_,_,rfl,rfl,uG,by simp,by simp,by simp,λc2 yk=>?_⟩;have e0:(if True then (List.replicate ((if (false:Bool)=true then (1:Int) else 0)).toNat [V.ref ov]).flatten else ([]:List V))=[]:=by simp
      have kB:Same HA (upd HB c2 (.lst [])):=(kA.trans sB).step yk;refine⟨f,c2,xs,[],rfl,rfl,kB _ _ nB.at',Aa,by rw[Sw];simp;lia,λg ng=>?_⟩;have kC:Same HA (upd (upd HB c2 (.lst [])) g (.lst (xs++[]))):=kB.step ng;refine⟨_,_,g,xs++[],Ts,rfl,qk.trans kC,⟨Aa,?_,hf.nd,hf.ok⟩⟩;exact(congrArg (DAll _ _) (Oy xs)).mpr (DAll.same kC _ _ nB.all)
     | true=>
      refine⟨c,_,_,rfl,rfl,uG,by simp,by simp,by show 1 * 1<=sizeLine;decide,λc2 yk=>?_⟩;have kB:Same HA (upd HB c2 (.lst [V.ref ov])):=(kA.trans sB).step yk;refine⟨f,c2,xs,[V.ref ov],rfl,rfl,kB _ _ nB.at',Aa,by rw[Sw];simp;lia,λg ng=>?_⟩;have kC:Same HA (upd (upd HB c2 (.lst [V.ref ov])) g (.lst (xs++[V.ref ov]))):=kB.step ng;refine⟨_,_,g,xs++[V.ref ov],Ts++[srt (ss++[x])],rfl,qk.trans kC,⟨Aa,?_,?_,?_⟩⟩
      ·rw[N2];exact Je (DAll.same kC _ _ nB.all) (Cl (kC _ _ vd))
      ·rw[Pp];exact⟨hf.nd,by simp,λa ha b hb e=>fV (by rw[Nv.mp hb] at e;exact e ▸ ha)⟩
      ·intro T hT;rcases N0.mp hT with z | z
       ·exact hf.ok T z
       ·rw[Nv.mp z];exact⟨Xmo,Xmn R2.two yh hx gW oM⟩
    ·rintro Z H7 ⟨v8,v9,f,xs,Ts,rfl,s7,hf⟩;exact⟨_,_,_,f,xs,Ts,rfl,s7,hf⟩
   ·rintro Z H6 ⟨v7,v8,v9,f,xs,Ts,rfl,s6,hf⟩;have b7:=Xea R2.two h3 fH hf.nd hf.ok;obtain⟨fs,rfl,jd,mU⟩:=Xeg hf.all;refine⟨_,rfl,f,fs,rfl,hf.at',λp hp=>?_,by lia,λqm gz yl lH=>?_⟩
    ·obtain⟨T,hT,ym⟩:=mU p hp;exact⟨T,ym,(hf.ok T hT).1⟩
    have g6:Same H6 (upd H6 qm (.lst (gz.map V.ref))):=(Same.refl H6).step yl;have qp:=(g1.trans s6).trans g6;have yn:Plts row (upd H6 qm (.lst (gz.map V.ref))) gz:=λp hp=>by
     obtain⟨T,hT,ym⟩:=mU p (lH.mem_iff.mp hp);exact⟨T,g6 _ _ ym,(hf.ok T hT).2⟩
    have qq:upd H6 qm (.lst (gz.map V.ref)) qm=some (.lst (gz.map V.ref)):=Aa;generalize upd H6 qm (.lst (gz.map V.ref))=H8 at g6 qp yn qq;have KA:=lH.length_eq;refine⟨_,rfl,_,rfl,tl,qm,_,_,rfl,rfl,qp _ _ kK,qq,by rw[Np,Np,Sw];lia,λve ui=>?_⟩;have g8:Same H8 (upd H8 ve (.lst (ps.map V.ref++gz.map V.ref))):=(Same.refl H8).step ui;have e8:upd H8 ve (.lst (ps.map V.ref++gz.map V.ref)) ve=some (.lst ((ps++gz).map V.ref)):=by rw[Aa,N2]
    refine⟨_,_,_,_,_,ve,qm,ps++gz,gz,rfl,(s4.trans qp).trans g8,?_,e8,g8 _ _ qq,by simp[fB],by rw[Nx];lia,λp hp=>?_,yn.same g8⟩
    ·exact eV.free (f1.free (s4.free (qp.free ui)))
    ·rcases N0.mp hp with z | z
     ·exact(ug.same (qp.trans g8)) p z
     ·exact(yn.same g8) p z
  ·rintro Z H4 ⟨v5,v6,v7,v8,v9,tl,ly,ps,qs,rfl,s4,B',kK,yg,fB,bN,ug,BA⟩;exact⟨_,rfl,k tl ps H4 B' kK fB (by lia) ug ((eV.trans f1).trans s4)⟩
def Xrl:FnScope ["_law_row_here"] ["_law_row_here"] (defScope s__law_stranger):=by walk_at "s"
def Xrm  (F:Fun K "_law_stranger" "_law_stranger" s__law_stranger f fd):FnOk P w K mg base CX0 1 f fd ["_law_row_here"] spStranger:=by
 refine F.ok Xrl (by walk_at "l") ?_
 ·walk_at "i"
  obtain⟨r,row,rfl,hR,hl,k⟩:=h;have hu:=Dj hr;refine⟨_,Ad (An (Gp (Aq (Xb2 (Sm hu)) (pv 0) (Bi pa_nil) (Ar _))
   (Am Ii (B6 Xke (pe_ix Bf (pv 0) pe_int (λ_ _=>rfl)) Cf (B1 pe_int)) Az) Az)),?_⟩
  refine⟨_,rfl,by show 0<=sizeLine;decide,λp np=>?_⟩;have s1:Same H (upd H p (.lst [])):=(Same.refl H).step np;refine⟨r,p,_,_,rfl,rfl,SqL.of (s1 _ _ hR),SqL.of Aa,Jk row,by simp,_,rfl,?_⟩;have e:Bx (row.map V.str) []=decide (row=[]):=Lh row [];rw[e];cases row with
  | nil=>exact k _ s1
  | cons y r'=>
   refine iteT ?_;refine⟨_,rfl,r,_,_,_,rfl,rfl,SqL.of (s1 _ _ hR),(show atI ((y::r').map V.str) ((0:Nat):Int)=some (.str y) from D1 rfl),_,rfl,y,rfl,rfl,⟨_,rfl⟩,by have:=hl y Ny;lia,?_⟩;refine⟨_,_,rfl,rfl,?_,k _ s1⟩;have h1:=Txt.slice_le y none (some 7);have h2:=hl y Ny;have h3:(ao.ofString "q").length=1:=rfl;rw[Sw,h3]
   lia
def Xrn:FnScope NFl ["_law_plot", "_law_name"] (defScope s__law_flip):=by walk_at "s"
def Xro  (F:Fun K "_law_flip" "_law_flip" s__law_flip f fd) (T:Bl mg):FnOk P w K mg base CX0 1 f fd ["_law_plot", "_law_name"] spFlip:=by
 refine F.ok Xrn (by walk_at "l") ?_
 ·walk_at "i"
  obtain⟨p,ss,x,rfl,hP,hl,k⟩:=h;refine⟨_,Ad (An (Bq Gv (by rfl) T.tuple (by rfl) (pa_cons (pe_callB Xk2 (by rfl) T.sorted (by rfl) (pa_cons (Am Bv
   (Fg (N:=NFl1) (cap:=[none,some 1]) (CompScope.of (defScope s__law_flip) NFl rfl rfl rfl (by decide +kernel)) rfl
    (Ia (pv 0)) (λ_ _ _=>Aw (i:=0) (show NFl1.Nodup by decide +kernel) rfl (.inl rfl) (.inr rfl)) (λ_ _ _=>Em (Aq Ih (pv 0) (pv 1) (Ar _))) (λ_ _ _=>pv 0))
   (Am Xbe (Bi (pa_cons (pv 1) pa_nil)) (Bq Xaw (by rfl) T.int (by rfl) (pa_cons (D0 Il (pv 1) (pv 0) (by rfl)) pa_nil)))) pa_nil)) pa_nil))),?_⟩
  refine⟨_,rfl,p,rfl,⟨_,SqT.of hP⟩,?_⟩;refine G8 (n:=ss.length) (by rw[Sw];lia) (λi=>(ss.map V.str).getD i .non) (λi=>decide (ss.getD i ao.empty≠x)) (λi=>.str (ss.getD i ao.empty)) ?_ ?_ ?_ ?_ ?_
  ·intro i H2 hi s2;exact Iv (SqT.of (s2 _ _ hP)) (by rw[Np];exact hi)
  ·intro H2 s2;have:=Iw (K:=K) (SqT.of (s2 _ _ hP))
   rwa [Np] at this
  ·intro i H2 Q' hi s2 kk;rw[Cg V.str ao.empty _ hi];refine⟨_,rfl,_,rfl,rfl,_,rfl,?_⟩;rw[Fi];have:=kk H2 (Same.refl _);have e:(!decide (ss.getD i ao.empty=x))=decide (ss.getD i ao.empty≠x):=by
    by_cases z:ss.getD i ao.empty=x
    ·simp[z]
    ·simp[z]
   rw[e];exact this
  ·intro i H2 Q' hi hk s2 kk;rw[Cg V.str ao.empty _ hi];exact⟨_,rfl,kk H2 (Same.refl _)⟩
  ·intro D H2 nD s2 hD;have fz:H2 D=some (.lst ((ss.filter λy=>decide (y≠x)).map V.str)):=by
    rw[hD,<-C9 ao.empty (λy=>decide (y≠x)) ss,O2];rfl
   have jd:=Pb (λy=>decide (y≠x)) ss;refine⟨_,rfl,by show 1<=sizeLine;decide,λb nb=>?_⟩;refine⟨_,rfl,_,rfl,p,_,rfl,.inr (SqT.of (ku (s2 _ _ hP) nb)),rfl,Dm ss,.inr ⟨_,rfl,?_⟩⟩;rw[Dl];show Xbd _ _ _ _;have uj:(if (!decide (x∈ss))=true then (1:Int) else 0).toNat=(if x∈ss then 0 else 1):=by
    by_cases hx:x∈ss
    ·simp[hx]
    ·simp[hx]
   have yo:(List.replicate (if x∈ss then 0 else 1) [V.str x]).flatten=(if x∈ss then ([]:Za) else [x]).map V.str:=by
    by_cases hx:x∈ss
    ·simp[hx]
    ·simp[hx]
   refine⟨b,_,_,rfl,rfl,Aa,?_,?_,?_,λc nc=>?_⟩
   ·by_cases hx:x∈ss<;>simp[hx]
   ·by_cases hx:x∈ss<;>simp[hx]
   ·rw[Sy rfl,uj,Sw];by_cases hx:x∈ss<;>simp[hx]
   ·rw[Sy rfl,uj,yo];have KB:(if x∈ss then ([]:Za) else [x]).length<=1:=by by_cases hx:x∈ss<;>simp[hx]
    have s3:=(s2.step (o:=.lst [V.str x]) nb);refine⟨D,c,_,_,rfl,rfl,ku (ku fz nb) nc,Aa,by rw[Np,Np,Sw];lia,λe ne=>?_⟩;have s4:=s3.step (o:=.lst ((if x∈ss then ([]:Za) else [x]).map V.str)) nc;rw[<-N2];refine⟨e,_,rfl,Aa,by rw[Nx];lia,λt nt=>?_⟩;have s5:=s4.step (o:=.lst ((ss.filter (λy=>decide (y≠x))++(if x∈ss then [] else [x])).map V.str)) ne;refine⟨t,_,rfl,.inl ⟨SqL.of Aa,λq nq=>?_⟩⟩;have s6:=s5.step (o:=.lst ((srt (ss.filter (λy=>decide (y≠x))++(if x∈ss then [] else [x]))).map V.str)) nt;exact k q _ (s6.free nq) Aa (s6.step nq)
def Ki:FnScope NOd ["_law_draw", "_law_row_here", "_law_plot"] (defScope s__law_odd_plot):=by walk_at "s"
def Xrp  (F:Fun K "_law_odd_plot" "_law_odd_plot" s__law_odd_plot f fd) (T:Bl mg) (FP:FnPick P w K mg base) (FS:Fn P w K mg base CX0 1 "_law_stranger" ["_law_row_here"] spStranger)
  (FF:Fn P w K mg base CX0 1 "_law_flip" ["_law_plot", "_law_name"] spFlip):FnOk P w K mg base CX0 2 f fd ["_law_draw", "_law_row_here", "_law_plot"] spOdd:=by
 refine F.ok Ki (by walk_at "l") ?_
 ·walk_at "i"
  obtain⟨dr,sc,r,p,row,ss,rfl,dk,hR,jY,hI,hP,hok,kH,k⟩:=h;have hu:=Sm (Dj hr);have fJ:∀m,m<=100000->m<=sizeLine:=λm h=>by rw[Sw];lia
  refine⟨_,Ac (Ak (i:=3) Ki.nd rfl (.inl rfl) (Af FP hr (by rfl) Ah (pa_cons (pv 0) (pa_cons pe_int pa_nil))))
   (Ac (Ak (i:=4) Ki.nd rfl (.inl rfl) (Af FP hr (by rfl) Ah (pa_cons (pv 0) (pa_cons (Am B5 (pe_callB Ci (by rfl) T.len bM (pa_cons (pv 2) pa_nil)) pe_int) pa_nil))))
   (Ac (A4 (pw_or (Aq Bu (pv 3) pe_int (Ar _)) (Fu (Aq (Xi7 hu) (pv 1) (Bi pa_nil) (Ar _)))).pt
    (Ad (An (Am Hh (Am Hh (B6 Hi (pv 2) Cf (B1 (pv 4))) (Bb (pa_cons (Af FS hr (by rfl) Ah (pa_cons (pv 1) pa_nil)) pa_nil))) (B6 Hi (pv 2) (B1 (pv 4)) Cf)))) A7)
   (Ac (Ak (i:=5) Ki.nd rfl (.inl rfl) (pe_ix Bf (pv 1) (Af FP hr (by rfl) Ah (pa_cons (pv 0) (pa_cons (pe_callB Ci (by rfl) T.len bM (pa_cons (pv 1) pa_nil)) pa_nil))) (λ_ _=>rfl)))
   (Ac (A4 (Aq Bu (pv 3) pe_int (Ar _)) (Ad (An (Am Hh (Am Hh (B6 Hi (pv 2) Cf (B1 (pv 4))) (Bb (pa_cons (pv 5) pa_nil))) (B6 Hi (pv 2) (B1 (pv 4)) Cf)))) A7)
   (Ac (A4 (Aq Bu (pv 3) pe_int (Ar _)) (Ad (An (Xk8 (pv 2)))) A7)
   (Ac (A4 (Aq Bu (pv 3) pe_int (Ar _)) (Ad (An (Bq Gv (by rfl) T.tuple (by rfl) (pa_cons (Am Bv (Bq Im (by rfl) T.list jm (pa_cons (pv 2) pa_nil)) (Bq Im (by rfl) T.list jm (pa_cons (B6 Hi (pv 2) Cf (B1 pe_int)) pa_nil))) pa_nil)))) A7)
   (Ad (An (Af FF hr (by rfl) Ah (pa_cons (pv 2) (pa_cons (pv 5) pa_nil))))))))))),?_⟩
  refine⟨_,rfl,dr,sc,5,rfl,by decide,by decide,dk,λwy H1 w0 w1 d1 b1=>?_⟩;have pO:∀{H0:Hp} {q:ae} {xs:List V},DrawOk H0 dr sc->H0 q=some (.tup xs)->q≠dr:=λ{H0 q xs} d e z=>by
   obtain⟨ys,h⟩:=d.at;rw[z,h] at e;cases e
  have b1:But dr H H1:=b1;have on:=b1 _ _ hP (pO dk hP);have xn:=b1 _ _ hR jY;refine⟨_,rfl,_,rfl,p,_,rfl,.inr (SqT.of on),_,_,rfl,rfl,dr,sc,_,rfl,by lia,by rw[Np];lia,d1,λat_ H2 a0 a1 d2 b2=>?_⟩;obtain⟨at_,rfl⟩:=Pc a0;rw[Np] at a1;have ka:at_<=ss.length:=by lia
  have b2:But dr H1 H2:=b2;have iy:=b1.trans b2;have jX:=b2 _ _ on (pO d1 on);have tK:=b2 _ _ xn jY;have put:∀(x:ao) (H3:Hp),okN x->DrawOk H3 dr sc->But dr H H3->H3 p=some (.tup (ss.map V.str))->∀(q:ae) (H4:Hp),Same H3 H4->H4 q=some (.tup ((ss.take at_++[x]++ss.drop at_).map V.str))->Q (.ref q) H4:=λx H3 hx d3 b3 _ q H4 s4 hq=>by
   refine k q _ H4 hq (λy hy=>?_) ?_ (d3.same s4) (b3.same s4)
   ·rcases N0.mp hy with hy | hy
    ·rcases N0.mp hy with hy | hy
     ·exact hok y (O3 hy)
     ·rw[Nv.mp hy];exact hx
    ·exact hok y (O7 hy)
   ·rw[Nx,Nx,N8,O4,Oz]
    lia
  have nC:∀H3,DrawOk H3 dr sc->But dr H H3->H3 p=some (.tup (ss.map V.str))->H3 r=some (.lst (row.map V.str)) ->
    ∀(q:ae) (H4:Hp),Same H3 H4->H4 q=some (.tup ((ss.take at_++[Bn row]++ss.drop at_).map V.str))->Q (.ref q) H4:=λH3 d3 b3 ix _=>put _ H3 hI.stranger.1 d3 b3 ix
  have o7:∀H3,DrawOk H3 dr sc->But dr H H3->H3 p=some (.tup (ss.map V.str))->H3 r=some (.lst (row.map V.str)) ->
    tSl L9 (Ct 2) K1 (K2 (Ct 4)) [some (.ref dr),some (.ref r),some (.ref p),some (.int wy),some (.int at_),none] H3 λx H4=>Kz (Eh (K0 spStranger [] E0 (Eh (Ct 1) Fw)) Fw) [some (.ref dr),some (.ref r),some (.ref p),some (.int wy),some (.int at_),none] H4 λy H5=>L8 x y H5 λz H6=>
     tSl L9 (Ct 2) (K2 (Ct 4)) K1 [some (.ref dr),some (.ref r),some (.ref p),some (.int wy),some (.int at_),none] H6 λu H7=>L8 z u H7 Q:=λH3 d3 b3 ix rp=>by
   refine⟨_,rfl,_,rfl,_,rfl,p,_,rfl,ix,λq1 H4 s4 lX=>?_⟩;rw[F3 _ _ _ ka] at lX;refine⟨_,rfl,r,row,rfl,s4 _ _ rp,λy hy=>(hI.ok y hy).1,λH5 s5=>⟨by show 1<=sizeLine;decide,λq2 n2=>?_⟩⟩;have uh:=(s4.trans s5).step (o:=.tup [.str (Bn row)]) n2;refine⟨q1,q2,_,[.str (Bn row)],rfl,rfl,ku (s5 _ _ lX) n2,Aa,fJ _ (by simp;lia),λq3 H6 s6 rh=>?_⟩;have rg:=uh.trans s6;refine⟨_,rfl,_,rfl,_,rfl,p,_,rfl,rg _ _ ix,λq4 H7 s7 o3=>?_⟩;rw[F4 _ _ _ ka] at o3;refine⟨q3,q4,_,_,rfl,rfl,s7 _ _ rh,o3,fJ _ (by simp;lia),λq5 H8 s8 yp=>?_⟩;refine nC H3 d3 b3 ix rp q5 H8 (rg.trans (s7.trans s8)) (yp.trans ?_);rw[N2,N2];rfl
  refine⟨_,rfl,rfl,_,rfl,?_⟩;refine Ax (λ_=>?_) (λ_=>?_)
  ·exact iteT (o7 H2 d2 iy jX tK)
  ·refine⟨_,rfl,by show 0<=sizeLine;decide,λe ne=>?_⟩;have s3:Same H2 (upd H2 e (.lst [])):=(Same.refl H2).step ne;refine⟨r,e,_,_,rfl,rfl,SqL.of (s3 _ _ tK),SqL.of Aa,Jk row,by simp,_,rfl,?_⟩;generalize upd H2 e (.lst [])=H3 at s3;have d3:=d2.same s3;have tW:=iy.same s3;have ix:=s3 _ _ jX;have rp:=s3 _ _ tK;have ee:Bx (row.map V.str) []=decide (row=[]):=Lh row [];rw[ee];refine Ax (λ_=>o7 H3 d3 tW ix rp) (λfB=>?_);have fB:=S6 fB;have mX:=hI.len;have js:0<row.length:=List.length_pos_iff.mpr fB;refine⟨_,rfl,_,rfl,_,rfl,r,_,rfl,.inl (SqL.of rp),dr,sc,_,rfl,by rw[Np];lia,by rw[Np];lia,d3,λi H4 i0 i1 d4 b4=>?_⟩;obtain⟨i,rfl⟩:=Pc i0;rw[Np] at i1;have hi:i<row.length:=by lia
   have b4:But dr H3 H4:=b4;have rj:=tW.trans b4;have qr:=b4 _ _ ix (pO d3 ix);have qt:=b4 _ _ rp jY;refine⟨r,_,_,_,rfl,rfl,SqL.of qt,Xlh V.str ao.empty row hi,?_⟩;have hx:row.getD i ao.empty∈row:=Cb hi;generalize row.getD i ao.empty=x at hx;have BD:=hI.ok x hx;refine⟨_,rfl,rfl,_,rfl,?_⟩;refine Ax (λ_=>?_) (λ_=>?_)
   ·refine⟨_,rfl,_,rfl,_,rfl,p,_,rfl,qr,λq1 H5 s5 lX=>?_⟩;rw[F3 _ _ _ ka] at lX;refine⟨_,rfl,by show 1<=sizeLine;decide,λq2 n2=>?_⟩;have qp:=s5.step (o:=.tup [.str x]) n2;refine⟨q1,q2,_,[.str x],rfl,rfl,ku lX n2,Aa,fJ _ (by simp;lia),λq3 H6 s6 rh=>?_⟩;have BE:=qp.trans s6;refine⟨_,rfl,_,rfl,_,rfl,p,_,rfl,BE _ _ qr,λq4 H7 s7 o3=>?_⟩;rw[F4 _ _ _ ka] at o3;refine⟨q3,q4,_,_,rfl,rfl,s7 _ _ rh,o3,fJ _ (by simp;lia),λq5 H8 s8 yp=>?_⟩;refine put x H4 BD d4 rj qr q5 H8 (BE.trans (s7.trans s8)) (yp.trans ?_);rw[N2,N2];rfl
   ·refine⟨_,rfl,rfl,_,rfl,?_⟩;refine Ax (λ_=>?_) (λ_=>?_)
    ·refine⟨_,rfl,p,_,rfl,qr,λq nq=>?_⟩;have s5:Same H4 (upd H4 q (.tup (ss.map V.str).reverse)):=(Same.refl H4).step nq;refine k q ss.reverse _ (Aa.trans (by rw[List.map_reverse])) (λy hy=>hok y (List.mem_reverse.mp hy)) (by rw[Ra];lia) (d4.same s5) (rj.same s5)
    ·refine⟨_,rfl,rfl,_,rfl,?_⟩;refine Ax (λ_=>?_) (λ_=>?_)
     ·refine⟨_,rfl,p,_,rfl,.inr (SqT.of qr),λl1 n1=>?_⟩;have s5:Same H4 (upd H4 l1 (.lst (ss.map V.str))):=(Same.refl H4).step n1;refine⟨_,rfl,_,rfl,p,_,rfl,s5 _ _ qr,λq1 H6 s6 lX=>?_⟩;have e1:(some (1:Int))=some ((1:Nat):Int):=rfl;rw[e1,Xl2] at lX;refine⟨q1,_,rfl,.inr (SqT.of lX),λl2 n2=>?_⟩;have s7:=(s5.trans s6).step (o:=.lst ((ss.take 1).map V.str)) n2;refine⟨l1,l2,_,_,rfl,rfl,ku (s6 _ _ Aa) n2,Aa,fJ _ (by simp;lia),λl3 n3=>?_⟩;have s8:=s7.step (o:=.lst (ss.map V.str++(ss.take 1).map V.str)) n3;refine⟨l3,_,rfl,.inl ⟨SqL.of Aa,λq nq=>?_⟩⟩;have s9:=s8.step (o:=.tup (ss.map V.str++(ss.take 1).map V.str)) nq;refine k q (ss++ss.take 1) _ (Aa.trans (by rw[N2])) (λy hy=>?_) (by rw[Nx,N8];lia) (d4.same s9) (rj.same s9);rcases N0.mp hy with hy | hy
      ·exact hok y hy
      ·exact hok y (O3 hy)
     ·refine⟨_,rfl,_,rfl,p,ss,x,rfl,qr,by lia,λq H5 nq hq s5=>?_⟩;refine k q _ H5 hq (λy hy=>?_) (Xdx ss x) (d4.same s5) (rj.same s5);rcases Xlw hy with h | h
      ·exact hok y h
      ·rw[h];exact BD
def Xrq:FnScope NGo ["_law_row_here", "_law_plot"] (defScope s__law_good_plot):=by walk_at "s"
def Xrr  (F:Fun K "_law_good_plot" "_law_good_plot" s__law_good_plot f fd) (T:Bl mg) (FF:Fn P w K mg base CX0 1 "_law_fits" ["_law_bars_here", "_law_plot"] spFits)
    (FB:Fn P w K mg base CX0 2 "_law_bars" ["_law_row_here"] spBars):FnOk P w K mg base CX0 3 f fd ["_law_row_here", "_law_plot"] Xdy:=by
  refine F.ok Xrq (by walk_at "l") ?_
  . walk_at "i"
    obtain⟨r,p,row,ss,rfl,hR,R2,hP,hok,kH,k⟩:=h;have hu:=Sm (Dj hr);z_go;refine⟨_,Ac (A4 (Aq (Xb2 hu) (Bq Im (by rfl) T.list jm (pa_cons (pv 1) pa_nil)) (Fg (N:=NGo1) (cap:=[none,some 1]) (CompScope.of (defScope s__law_good_plot) NGo rfl rfl rfl (by decide +kernel)) rfl
          (Bt (Mm (i:=0) rfl (by rfl) T.sorted (by rfl) T.set (pv 0))) (λ_ _ _=>Aw (i:=0) (show NGo1.Nodup by decide +kernel) rfl (.inl rfl) (.inr rfl))
          (λ_ _ _=>Em (Aq (Lv K (by rfl)) (pv 0) (pv 1) (by rfl))) (λ_ _ _=>pv 0)) (Ar _)) (Ad (An Cu)) A7)
      (Ad (An (Af FF cH (by rfl) Ah (pa_cons (Af FB hr (by rfl) Ah (pa_cons (pv 0) pa_nil)) (pa_cons (pv 1) pa_nil))))),?_⟩
    have mX:=R2.len;have jR:=Ff row;refine⟨_,rfl,p,_,rfl,.inr (SqT.of hP),λl1 n1=>?_⟩;have s1:Same H (upd H l1 (.lst (ss.map V.str))):=(Same.refl H).step n1;have h1:upd H l1 (.lst (ss.map V.str)) l1=some (.lst (ss.map V.str)):=Aa;generalize upd H l1 (.lst (ss.map V.str))=H1 at s1 h1;refine⟨_,rfl,r,row,rfl,.inl (SqL.of (s1 _ _ hR)),mX,λl H2 nl iA s2=>?_⟩;have jX:=s2 _ _ (s1 _ _ hP);refine⟨l,rfl,⟨_,SqL.of iA⟩,?_⟩;refine G8 (n:=(dit row).length) (by rw[Sw];lia) (λi=>((dit row).map V.str).getD i .non) (λi=>decide ((dit row).getD i ao.empty∈ss)) (λi=>.str ((dit row).getD i ao.empty)) ?_ ?_ ?_ ?_ ?_
    . intro i H3 hi s3;exact E9 (SqL.of (s3 _ _ iA)) (by rw[Np];exact hi)
    . intro H3 s3;have:=Fa (K:=K) (SqL.of (s3 _ _ iA))
      rwa [Np] at this
    . intro i H3 Q' hi s3 kk;rw[Cg V.str ao.empty _ hi];refine⟨_,rfl,_,rfl,p,_,rfl,.inr (SqT.of (s3 _ _ jX)),rfl,Dm ss,_,rfl,?_⟩;rw[Sx (by decide),Dl];exact kk H3 (Same.refl _)
    . intro i H3 Q' hi hk s3 kk;rw[Cg V.str ao.empty _ hi];exact⟨_,rfl,kk H3 (Same.refl _)⟩
    . intro D H3 nD s3 hD;have fz:H3 D=some (.lst (((dit row).filter λy=>decide (y∈ss)).map V.str)):=by
        rw[hD,<-C9 ao.empty (λy=>decide (y∈ss)) (dit row),O2];rfl
      have fE:=s1.trans (s2.trans s3);refine⟨l1,D,_,_,rfl,rfl,SqL.of (s3 _ _ (s2 _ _ h1)),SqL.of fz,Jk _,Jk _,_,rfl,?_⟩;rw[Lh];by_cases e:ss=(dit row).filter λy=>decide (y∈ss)
      . rw[Sz e];refine Bd ?_;refine⟨_,rfl,r,row,rfl,fE _ _ hR,R2,λb xs H4 nb hb d7 s4=>?_⟩;refine⟨_,rfl,b,p,xs,bars row,ss,rfl,hb,d7,s4 _ _ (fE _ _ hP),λH5 s5=>?_⟩;have:=k H5 (fE.trans (s4.trans s5));unfold Ep at this;rw[Sz e,Pi] at this;exact this
      . rw[S0 e];refine iteT ?_;have:=k H3 fE;unfold Ep at this;rw[S0 e,Pf] at this;exact this
def Kj:FnScope NWy ["_law_bars_here", "_law_names_here", "_law_plot"] (defScope s__law_ways):=by walk_at "s"
def Xrs  (F:Fun K "_law_ways" "_law_ways" s__law_ways f fd) (FF:Fn P w K mg base CX0 1 "_law_flip" ["_law_plot", "_law_name"] spFlip) (FI:Fn P w K mg base CX0 1 "_law_fits" ["_law_bars_here", "_law_plot"] spFits):FnOk P w K mg base CX0 2 f fd ["_law_bars_here", "_law_names_here", "_law_plot"] spWaysX:=by
 refine F.ok Kj (by walk_at "l") ?_
 ·walk_at "i"
  obtain⟨b,l,p,row,S,xs,rfl,hb,gW,hl,R2,fH,hp,hS,k⟩:=h;refine⟨_,Ac (Ak (i:=3) Kj.nd rfl (.inl rfl) (Bi pa_nil))
   (Ac (Ce bj.never rfl (Bt (pv 1)) (Aw (i:=4) Kj.nd rfl (.inl rfl))
    (Ac (Ak (i:=5) Kj.nd rfl (.inl rfl) (Af FF hr (by rfl) Ah (pa_cons (pv 2) (pa_cons (pv 4) pa_nil))))
    (Ad (A4 (pt_val (Af FI hr (by rfl) Ah (pa_cons (pv 0) (pa_cons (pv 5) pa_nil)))) (Ad (Dz (Gw PySem.F.plainAttrs_list PySem.F.slot_list_append PySem.F.type_list_append Gx (pv 3) (pa_cons (Bb (pa_cons (pv 4) (pa_cons (pv 5) pa_nil))) pa_nil)))) A7))))
   (Ad (An (pv 3)))),?_⟩
  refine⟨by show 0<=sizeLine;decide,λD nD=>?_⟩;have s1:Same H (upd H D (.lst [])):=(Same.refl H).step nD;have BF:upd H D (.lst []) D=some (.lst (([]:List ae).map V.ref)):=Aa;dsimp only[A2];generalize upd H D (.lst [])=H1 at s1 BF;refine⟨_,rfl,l,rfl,⟨_,SqL.of (s1 _ _ hl)⟩,?_⟩;refine Dh (K:=K) (a:=l) (xs:=(dit row).map V.str) (λi Z H'=>∃(v4 v5:Option V) (qs:List ae), Z=[some (.ref b),some (.ref l),some (.ref p),some (.ref D),v4,v5]/\Same H H'/\H' D=some (.lst (qs.map V.ref))/\Nbs H' qs (nbT row S i)/\qs.length<=i) ?_ ?_ ?_ ?_
  ·exact⟨_,_,[],rfl,s1,BF,by unfold nbT;rw[List.take_zero];exact Nbs.nil _,Ou _⟩
  ·rintro i Z H' _ ⟨v4,v5,qs,rfl,s',_⟩;exact SqL.of (s' _ _ hl)
  ·rintro i v Z H' hv ⟨v4,v5,qs,rfl,s',fz,hn,hq⟩;obtain⟨x,rfl,hx,uR⟩:∃x,v=V.str x/\x∈dit row/\(dit row)[i]? = some x:=by
    rw[Oa] at hv;cases z:(dit row)[i]? with
    | none=>rw[z] at hv;cases hv
    | some x=>rw[z] at hv;exact⟨x,(N5 hv).symm,Pr z,rfl⟩
   have BG:=Xp4 (S:=S) uR;have hx:=Ai.mp hx;have iq:i<(dit row).length:=by
    have:=(N7.mp hv).1
    rwa [Np] at this
   have iT:=Fo hS;dsimp only[A2];refine⟨_,rfl,_,rfl,p,S,x,rfl,s' _ _ hp,by lia,λq H2 nq uU s2=>?_⟩;have yq:=s'.trans s2;dsimp only[A2];refine⟨_,rfl,_,rfl,b,q,xs,bars row,Aj S x,rfl,yq _ _ hb,DAll.same yq _ _ gW,uU,λH3 s3=>⟨_,rfl,?_⟩⟩;rw[Xod R2.two hS hx];have uS:=yq.trans s3;have yr:=s3 _ _ (s2 _ _ fz);have uf:=hn.same (s2.trans s3);refine Ax (λbN=>?_) (λbN=>⟨_,_,qs,rfl,uS,yr,by rw[BG,Sx (by rw[bN];decide),Oy];exact uf,by lia⟩);refine⟨_,rfl,.inl ⟨rfl,_,SqL.of yr⟩,_,rfl,_,rfl,by show 2<=sizeLine;decide,λt nt=>?_⟩;have s4:Same H3 (upd H3 t (.tup [.str x,.ref q])):=(Same.refl H3).step nt;have ht:upd H3 t (.tup [.str x,.ref q]) t=some (.tup [.str x,.ref q]):=Aa;generalize upd H3 t (.tup [.str x,.ref q])=H4 at s4 ht;have eU:=s4 _ _ yr;refine⟨D,_,_,rfl,rfl,eU,by rw[Np,Sw];lia,?_⟩;have kt:∀{a:ae} {w:List V},H4 a=some (.tup w)->upd H4 D (.lst (qs.map V.ref++[.ref t])) a=some (.tup w):=λ{a w} e=>by
    rw[Ab (λz=>by rw[z,eU] at e;cases e)];exact e
   refine⟨_,_,qs++[t],rfl,λa o e=>?_,by rw[Aa,N2];rfl,?_,by rw[Nx,Oz];lia⟩
   ·rw[Ab (Ao e nD)];exact s4 _ _ (uS _ _ e)
   ·rw[BG,Sy bN];exact((uf.same s4).keep λa w e=>kt e).snoc (kt ht) (kt (s4 _ _ (s3 _ _ uU)))
  ·rintro Z H' ⟨v4,v5,qs,rfl,s',fz,hn,hq⟩;rw[Np] at hq;rw[Np,Xp3] at hn;exact⟨_,rfl,k D qs H' nD fz hn (by lia) s'⟩
def Xrt:FnScope ["_law_row_here", "_law_plot"] ["_law_row_here", "_law_plot"] (defScope s__law_over):=by walk_at "s"
def Xru  (F:Fun K "_law_over" "_law_over" s__law_over f fd) (T:Bl mg) (FB:Fn P w K mg base CX0 2 "_law_bars" ["_law_row_here"] spBars) (FW:Fn P w K mg base CX0 2 "_law_ways" ["_law_bars_here", "_law_names_here", "_law_plot"] spWaysX):FnOk P w K mg base CX0 3 f fd ["_law_row_here", "_law_plot"] spOverX:=by
 refine F.ok Xrt (by walk_at "l") ?_
 ·walk_at "i"
  obtain⟨r,p,row,S,rfl,hR,R2,fH,hp,hS,k⟩:=h;refine⟨_,Ad (An (Af FW hr (by rfl) Ah (pa_cons (Af FB hr (by rfl) Ah (pa_cons (pv 0) pa_nil)) (pa_cons (Mm (i:=0) rfl (by rfl) T.sorted (by rfl) T.set (pv 0)) (pa_cons (pv 1) pa_nil))))),?_⟩;have hl:=R2.len;refine⟨_,rfl,r,row,rfl,hR,R2,λb xs H1 nb hb gW s1=>?_⟩;refine⟨_,rfl,r,row,rfl,.inl (SqL.of (s1 _ _ hR)),hl,λl H2 nl iA s2=>?_⟩;have eV:=s1.trans s2;exact⟨_,rfl,b,l,p,row,S,xs,rfl,s2 _ _ hb,DAll.same s2 _ _ gW,iA,R2,fH,eV _ _ hp,hS,λD qs H3 nD hD hn hq s3=>k D qs H3 (eV.free nD) hD hn hq (eV.trans s3)⟩
def Xrv:FnScope ["_law_found"] ["_law_found"] (defScope s__law_tuple):=by walk_at "s"
def Xrw  (F:Fun K "_law_tuple" "_law_tuple" s__law_tuple f fd) (T:Bl mg):FnOk P w K mg base CX0 1 f fd ["_law_found"] spTuple:=by
 refine F.ok Xrv (by walk_at "l") ?_
 ·walk_at "i"
  obtain⟨v,ss,rfl,hv,hl,k⟩:=h;obtain⟨a,xs,rfl,hR,hs⟩:=Jg hv;rw[F9 hs] at hR;refine⟨_,Ad (An (Xae (pe_callB call_isinst (by rfl) T.isi bu (pa_cons (pv 0) (pa_cons (pe_bltn (v:=.ty "tuple") (by rfl) T.tuple (by rfl) rfl) pa_nil)))
   (Ko (pe_callB (Lj rfl) (by rfl) T.all (by rfl) (pa_cons (Fg (N:=["_law_one_here"]) (cap:=[none]) (CompScope.of (defScope s__law_tuple) ["_law_found"] rfl rfl rfl (by decide +kernel)) rfl
    (Ia (pv 0)) (λ_ _ _=>Aw (i:=0) (show (["_law_one_here"]:Za).Nodup by decide +kernel) rfl (.inl rfl) (.inr rfl)) (λ_ _ _=>C8)
    (λ_ _ _=>pe_callB (Xkj K rfl) (by rfl) T.isi bu (pa_cons (pv 0) (pa_cons (pe_bltn (v:=.ty "str") (by rfl) T.str boot_str rfl) pa_nil)))) pa_nil))))),?_⟩
  refine⟨_,rfl,_,_,_,_,true,rfl,.tup hR,rfl,Hl K "tuple",true,rfl,iteT ?_⟩;refine⟨_,rfl,a,rfl,⟨_,SqT.of hR⟩,?_⟩;refine Xcu (n:=ss.length) (by rw[Sw];lia) (λi=>(ss.map V.str).getD i .non) (λ_=>.bl true) ?_ ?_ ?_ ?_
  ·intro i H2 hi s2;exact Iv (SqT.of (s2 _ _ hR)) (by rw[Np];exact hi)
  ·intro H2 s2;have:=Iw (K:=K) (SqT.of (s2 _ _ hR))
   rwa [Np] at this
  ·intro i H2 Q' hi s2 kk;rw[Cg V.str ao.empty ss hi];exact⟨_,rfl,_,_,_,_,true,rfl,.str _,rfl,Hl K "str",kk H2 (Same.refl _)⟩
  ·intro D H2 nD s2 hD;refine⟨D,List.replicate ss.length true,rfl,?_,?_⟩
   ·rw[hD,List.map_const',Pk,List.map_replicate]
   ·have e:(List.replicate ss.length true).all id=true:=by
     rw[Oh];intro b hb;rw[(List.mem_replicate.mp hb).2];rfl
    rw[e];exact k H2 s2
def Ef:FnScope NSy ["_law_row_here", "_law_plot", "_law_name"] (defScope s__law_said):=by walk_at "s"
def Xrx  {C} (F:Fun K "_law_said" "_law_said" s__law_said f fd) (B:Bl mg) (hS:mg "ShoreError" = some (.ref Sh)) (hB:mg "NotBeside" = some (.ref C.beside)) (hD:mg "NoDitch" = some (.ref C.ditch)) (hP:mg "NoPlot" = some (.ref C.plot))
  (yt:mg "neighbours" = some (.ref fa)) (yu:NW K (.ref fa)=true) (yw:Binds K BH ["row", "plot"] []) (FA:FnOk P w K mg base (CX2 P w) 6 fa BH ["row", "plot"] (spNb12 C.plot T (lamPos s_in_order)))
  (yx:mg "beyond" = some (.ref fb)) (gx:NW K (.ref fb)=true) (qc:Binds K BI ["row", "plot", "name"] []) (FY:FnOk P w K mg base (CX2 P w) 6 fb BI ["row", "plot", "name"] (Ng C)) (k6:K12 K C Sh):
  FnOk P w K mg base CX0 7 f fd ["_law_row_here", "_law_plot", "_law_name"] (spSaid12 T (lamPos s_in_order)):=by
 refine F.ok Ef (by walk_at "l") ?_
 ·walk_at "i"
  obtain⟨r,p,row,S,nm,o,rfl,hR,R2,h3,fH,tab,hp,gy,iT,xW,k⟩:=h;refine⟨_,Ac (Ak (i:=3) Ef.nd rfl (.inl rfl) (Bb (pa_cons Az (pa_cons E2 pa_nil))))
   (Ac (Xnb rfl rfl rfl
     (λpn R=>Ad (A4 (Aq Xhm (pv 2) E2 (Ar _))
      (Ad (Dz (Xep FA hr (by rfl) yt yu yw .nil (pa_cons (pv 0) (pa_cons (pv 1) pa_nil)))))
      (Ad (Ak (i:=3) Ef.nd rfl (.inl rfl) (Bb (pa_cons Az (pa_cons (Xep FY hr (by rfl) yx gx qc .nil (pa_cons (pv 0) (pa_cons (pv 1) (pa_cons (pv 2) pa_nil)))) pa_nil)))))))
     (Xeq (i:=4) (Cc:=C.beside) rfl rfl Ef.nd rfl rfl (by rfl) hB
      (λpn ex=>Ad (Ak (i:=3) Ef.nd rfl (.inl rfl) (Bb (pa_cons Az (pa_cons (Xng K rfl (pv 4)) pa_nil)))))
     (Xeq (i:=4) (Cc:=Sh) rfl rfl Ef.nd rfl rfl (by rfl) hS
      (λpn ex=>Ac (Ak (i:=5) Ef.nd rfl (.inl rfl) (Bi (pa_cons (pe_callB (Mu K rfl) (by rfl) B.isi bu (pa_cons (pv 4) (pa_cons (Xac (v:=.ref C.ditch) (by rfl) hD rfl) pa_nil)))
        (pa_cons (pe_callB (Mu K rfl) (by rfl) B.isi bu (pa_cons (pv 4) (pa_cons (Xac (v:=.ref C.plot) (by rfl) hP rfl) pa_nil))) pa_nil))))
       (Ac (Ak (i:=3) Ef.nd rfl (.inl rfl) (Bb (pa_cons Az (pa_cons E2 pa_nil))))
       (Ad (A4 (Dy (Aq Bu (Xdw K (by rfl) PySem.F.plainAttrs_list PySem.F.slot_list_count PySem.F.type_list_count Xk1 (pv 5) (pa_cons Cu pa_nil)) pe_int (Ar _))
         (Dx (pt_val (pe_callB (Mu K rfl) (by rfl) B.isi bu (pa_cons (pv 4) (pa_cons (pe_bltn (v:=.ty "ValueError") (by rfl) B.val (by rfl) rfl) pa_nil)))))).pt
        (Ad (Ak (i:=3) Ef.nd rfl (.inl rfl) (Bb (pa_cons (pe_ix (Dk K (by rfl)) (Bb (pa_cons Az (pa_cons Az pa_nil))) (Xdw K (by rfl) PySem.F.plainAttrs_list PySem.F.slot_list_index PySem.F.type_list_index Xld (pv 5) (pa_cons Cu pa_nil)) (λ_ _=>rfl)) (pa_cons E2 pa_nil))))) A7))))
     Xm9)))
   (Ad (An (pv 3)))),?_⟩
  have two:∀u v:V,[u,v].length<=sizeLine:=λ_ _=>by show 2<=sizeLine;decide
  refine⟨two _ _,λt0 KC=>?_⟩;have s0:Same H (upd H t0 (.tup [.str "told",.non])):=(Same.refl H).step KC;show Gq _ _ _ _ (upd H t0 (.tup [.str "told",.non]));generalize upd H t0 (.tup [.str "told",.non])=H0 at s0;have non:∀{H':Hp},DAt H' .none .non:=λ{H'}=>by unfold DAt;rfl
  refine⟨λC1 dd Z1 H1 => Z1=[some (.ref r),some (.ref p),some nm,some (.ref t0),none,none]/\Same H H1/\((C1=C.plot/\dd=none/\o = .plot)\/(C1=C.ditch/\dd=none/\o = .ditch) \/ ∃dx,C1=C.beside/\dd=some dx/\M5 H1 dx 0/\o = .beside 0),?_,?_⟩
  ·refine⟨_,rfl,rfl,_,rfl,?_⟩;rcases xW with ⟨rfl,hf,ho⟩ | ⟨x,rfl,xE,ho⟩
   ·refine iteT ?_;refine⟨_,rfl,_,rfl,r,p,row,S,rfl,s0 _ _ hR,R2,h3,fH,SH.Au.same tab s0,s0 _ _ hp,gy,iT,λz=>absurd z (by rw[hf];decide),λ_ H' s'=>?_⟩;exact⟨_,rfl,rfl,s0.trans s',.inl ⟨rfl,rfl,ho⟩⟩
   ·refine Bd ?_;refine⟨_,rfl,_,rfl,_,rfl,r,p,row,S,x,rfl,s0 _ _ hR,R2,fH,s0 _ _ hp,gy,iT,xE,λhf H' s'=>?_,λbN hx H' s'=>?_,λbN hx hv q H' hq s'=>?_,λbN hx hv dx H' at' s'=>?_⟩
    ·exact⟨_,rfl,rfl,s0.trans s',.inl ⟨rfl,rfl,by rw[ho];unfold out12;rw[Sx (by rw[hf];decide)]⟩⟩
    ·exact⟨_,rfl,rfl,s0.trans s',.inr (.inl ⟨rfl,rfl,by rw[ho];unfold out12;rw[Sy bN,Sx hx]⟩)⟩
    ·refine⟨two _ _,λt nt=>?_⟩;refine⟨_,rfl,k t _ ?_ ((s0.trans s').step nt)⟩;rw[ho];unfold out12;rw[Sy bN,Sy hx,Sy hv];exact Ev Aa (Cl (ku hq nt))
    ·exact⟨_,rfl,rfl,s0.trans s',.inr (.inr ⟨dx,rfl,rfl,at',by rw[ho];unfold out12;rw[Sy bN,Sy hx,Sx (by rw[hv];decide)]⟩)⟩
  ·rintro C1 dd Z1 H1 ⟨rfl,s1,⟨rfl,rfl,rfl⟩ | ⟨rfl,rfl,rfl⟩ | ⟨dx,rfl,rfl,at',rfl⟩⟩
   ·refine⟨false,k6.pb,Bd ⟨true,k6.ps,iteT λex hex=>?_⟩⟩;have hX:upd H1 ex (B4 ex C.plot none) ex=some (B4 ex C.plot none):=Aa;have s2:Same H1 (upd H1 ex (B4 ex C.plot none)):=(Same.refl H1).step hex;generalize upd H1 ex (B4 ex C.plot none)=H2 at hX s2;refine⟨_,rfl,ex,_,_,_,_,_,rfl,hX,k6.fp,rfl,k6.pd,?_⟩;refine⟨_,rfl,ex,_,_,_,_,_,rfl,hX,k6.fp,rfl,k6.pp,two _ _,λl nl=>?_⟩;have s3:Same H2 (upd H2 l (.lst [.bl false,.bl true])):=(Same.refl H2).step nl;have jl:upd H2 l (.lst [.bl false,.bl true]) l=some (.lst [.bl false,.bl true]):=Aa;dsimp only[A2];generalize upd H2 l (.lst [.bl false,.bl true])=H3 at s3 jl;have yy:=s3 _ _ hX;cb_eq;refine iteT ?_;refine⟨_,rfl,ex,_,_,_,_,_,rfl,y0,k6.fp,rfl,k6.pv,true,rfl,iteT ?_⟩;refine⟨two _ _,λt nt=>?_⟩;refine⟨_,rfl,.inl ⟨rfl,_,SqL.of (ku iS nt)⟩,l,_,_,1,rfl,rfl,ku iS nt,rfl,rfl,by show 2<=1000;decide,⟨_,rfl,rfl⟩,λm z hm hz=>?_,?_⟩
    ·rcases m with _ | m<;>first | lia | (cases N5 hz;rfl)
    refine⟨t,_,_,_,rfl,rfl,SqT.of Aa,rfl,two _ _,λt2 lq=>?_⟩;exact⟨_,rfl,k t2 _ (Ev Aa non) ((mF.step nt).step lq)⟩
   ·refine⟨false,k6.db,Bd ⟨true,k6.ds,iteT λex hex=>?_⟩⟩;have hX:upd H1 ex (B4 ex C.ditch none) ex=some (B4 ex C.ditch none):=Aa;have s2:Same H1 (upd H1 ex (B4 ex C.ditch none)):=(Same.refl H1).step hex;generalize upd H1 ex (B4 ex C.ditch none)=H2 at hX s2;refine⟨_,rfl,ex,_,_,_,_,_,rfl,hX,k6.fd,rfl,k6.dd,?_⟩;refine⟨_,rfl,ex,_,_,_,_,_,rfl,hX,k6.fd,rfl,k6.dp,two _ _,λl nl=>?_⟩;have s3:Same H2 (upd H2 l (.lst [.bl true,.bl false])):=(Same.refl H2).step nl;have jl:upd H2 l (.lst [.bl true,.bl false]) l=some (.lst [.bl true,.bl false]):=Aa;dsimp only[A2];generalize upd H2 l (.lst [.bl true,.bl false])=H3 at s3 jl;have yy:=s3 _ _ hX;cb_eq;refine iteT ?_;refine⟨_,rfl,ex,_,_,_,_,_,rfl,y0,k6.fd,rfl,k6.dv,true,rfl,iteT ?_⟩;refine⟨two _ _,λt nt=>?_⟩;refine⟨_,rfl,.inl ⟨rfl,_,SqL.of (ku iS nt)⟩,l,_,_,0,rfl,rfl,ku iS nt,rfl,rfl,by show 2<=1000;decide,⟨_,rfl,rfl⟩,λm z hm hz=>?_,?_⟩
    ·rcases m with _ | m<;>first | lia | (cases N5 hz;rfl)
    refine⟨t,_,_,_,rfl,rfl,SqT.of Aa,rfl,two _ _,λt2 lq=>?_⟩;exact⟨_,rfl,k t2 _ (Ev Aa non) ((mF.step nt).step lq)⟩
   ·refine⟨true,k6.eb,iteT λex hex=>?_⟩;have BJ:upd H1 ex (B4 ex C.beside (some dx)) ex=some (B4 ex C.beside (some dx)):=Aa;have s2:Same H1 (upd H1 ex (B4 ex C.beside (some dx))):=(Same.refl H1).step hex;generalize upd H1 ex (B4 ex C.beside (some dx))=H2 at BJ s2;refine⟨_,rfl,ex,_,dx,_,.int 0,rfl,BJ,s2 _ _ at',k6.fb,k6.kb,rfl,two _ _,λt nt=>?_⟩;refine⟨_,rfl,k t _ ?_ ((s1.trans s2).step nt)⟩;exact Ev Aa (by unfold DAt;rfl)
end
end K12
set_option maxHeartbeats 8000000
namespace K12
open L2 SH
def Kk (K:NO) (T:ae):Sp:=λvs H Q _=>∃(a:ae) (ns:List Int),vs=[.ref a]/\SqL K H a (ns.map V.int)/\ns.length<=63/\H T=some (.tbl #[])/\∀H',Q (.bl true) H'
def Xry(h:okN y):A9 (.str y)=true:=by
 have a:(A9 (.str y)&&true)=true:=Xds (ss:=[y]) λz hz=>by rw[Nv.mp hz];exact h
 rw[Bool.and_true] at a;exact a
def Xrz(h:∀y∈U,okN y):A9 (o16D (.told U))=true:=by
 show (A9 (.str "told")&&(A9 (tupD U)&&true))=true;have a:A9 (tupD U)=true:=Db h;rw[Xry (by decide +kernel),a];rfl
theorem Kl:∀o:O16,(o16D o).depth<=3
 | .plot=>by decide
 | .ditch=>by decide
 | .beside i=>by show max 0 (max 0 0)+1<=3;decide
 | .told U=>by
  show max 0 (max (am.depthAll (U.map am.str)+1) 0)+1<=3;rw[Ga];decide
def Xgu(H):DAt H .none .non:=by unfold DAt;rfl
structure Env (H:Hp) (T:ae) (pos:cF) (r p dl sd:ae) (row S:Za) (qs:List ae) (prs:List (Key×V)):Prop where
 r:H r=some (.lst (row.map V.str))
 p:H p=some (.tup (S.map V.str))
 dl:H dl=some (.lst (qs.map V.ref))
 nb:Nbs H qs (nbL row S)
 sd:H sd=some (.dK prs)
 vs:∀x U,(x,U)∈nbL row S->∃p,Ap prs (Sum.inr x)=some (.ref p)/\H p=some (.tup (U.map V.str))
 tab:Au T pos qIn H
def Env.same    {r p dl sd}   (e:Env H T pos r p dl sd row S qs prs) (s:Same H H'):Env H' T pos r p dl sd row S qs prs:=
 ⟨s _ _ e.r,s _ _ e.p,s _ _ e.dl,e.nb.same s,s _ _ e.sd,λx U h=>let ⟨p,a,b⟩:=e.vs x U h; ⟨p,a,s _ _ b⟩,SH.Au.same e.tab s⟩
abbrev NL12:Za:=["_law_script", "_law_draw", "_law_row_here", "_law_plot", "_law_names_here", "_law_due", "_law_found", "_law_pair", "_law_sides", "_law_name", "_law_said_here"]
abbrev NL12a:Za:=["_law_name", "_law_plot", "_law_row_here"]
def Xr0(P)(w)(h1:X.prog=P)(h2:X.w=w)(hc:X.calm=true):Bh X (.type "set") (λxs H Q=>∃p ss,xs=[.ref p]/\(SqL X.K H p (ss.map V.str)\/SqT X.K H p (ss.map V.str))/\ss.length+1<aW/\∀a,H a=none->Q (.ref a) (upd H a (Cj P w a (ddup ss)))):=by subst h1 h2;exact F2 hc
def Xr1(P)(w)(h1:X.prog=P)(h2:X.w=w)(hc:X.calm=true):Bh X (.builtin "sorted") (λxs H Q=>∃a ks,xs=[.ref a]/\H a=some (Cj P w a ks)/\ks.length<64/\∀l ls,H l=none->ls.Perm ks->fq ls=true->Q (.ref l) (upd H l (.lst (ls.map V.str)))):=by
 subst h1 h2;exact G5 hc
section
variable {P:ar}{w:aA}{K:NO}{mg:ao->Option aa}{base:ak}
def C4:FnScope NL12 ["_law_script"] (defScope s_law):=by walk_at "s"
def Xr2  {C} (F:Fun K "law" "law" s_law f fd) (B:Bl mg) (FB:Fn P w K mg base CX0 1 "_law_begin" ["_law_script"] (Xdd K)) (FP:FnPick P w K mg base)
  (FI:Fn P w K mg base CX0 4 "_law_island" ["_law_draw", "_law_most"] spIslandN) (y1:Fn P w K mg base CX0 3 "_law_plots" ["_law_row_here"] spPlots) (y3:Fn P w K mg base CX0 2 "_law_one" ["_law_draw", "_law_some"] Xeu)
  (FS:Fn P w K mg base CX0 1 "_law_stranger" ["_law_row_here"] spStranger) (FO:Fn P w K mg base CX0 2 "_law_odd_plot" ["_law_draw", "_law_row_here", "_law_plot"] spOdd) (FG:Fn P w K mg base CX0 3 "_law_good_plot" ["_law_row_here", "_law_plot"] Xdy)
  (y4:Fn P w K mg base CX0 3 "_law_over" ["_law_row_here", "_law_plot"] spOverX) (uk:Fn P w K mg base (CX2 P w) 6 "neighbours" ["row", "plot"] (spNb12 C.plot T (lamPos s_in_order))) (vf:Fn P w K mg base (CX2 P w) 6 "beyond" ["row", "plot", "name"] (Ng C))
  (ul:Fn P w K mg base CX0 7 "_law_said" ["_law_row_here", "_law_plot", "_law_name"] (spSaid12 T (lamPos s_in_order))) (FT:Fn P w K mg base CX0 1 "_law_tuple" ["_law_found"] spTuple):FnOk P w K mg base CX0 8 f fd ["_law_script"] (Kk K T):=by
 refine F.ok C4 (by walk_at "l") ?_
 ·walk_at "i"
  obtain⟨a,ns,rfl,hS,aV,KD,k⟩:=h;have hu:=Dj hr;z_go;k_go0;have tI:Room 3 _:=hr.mono (by decide);have KE:Room 4 _:=hr.mono (by decide);have y6:Room 6 _:=hr.mono (by decide);refine⟨_,Ac (Ak (i:=1) C4.nd rfl (.inl rfl) (Af FB cH (by rfl) Ah (pa_cons (pv 0) pa_nil)))
   (Ac (Ak (i:=2) C4.nd rfl (.inr rfl) (Af FI KE (by rfl) Ah (pa_cons (pv 1) (pa_cons pe_int pa_nil))))
   (Ac (Ak (i:=3) C4.nd rfl (.inr rfl) (Af y3 fD (by rfl) Ah (pa_cons (pv 1) (pa_cons (Af y1 tI (by rfl) Ah (pa_cons (pv 2) pa_nil)) pa_nil))))
   (Ac (A4 (Aq Bu (Af FP cH (by rfl) Ah (pa_cons (pv 1) (pa_cons pe_int pa_nil))) pe_int (Ar _)) (Ad (Ak (i:=3) C4.nd rfl (.inr rfl) (Af FO fD (by rfl) Ah (pa_cons (pv 1) (pa_cons (pv 2) (pa_cons (pv 3) pa_nil)))))) A7)
   (Ac (A4 (pt_not (pt_val (Af FG tI (by rfl) Ah (pa_cons (pv 2) (pa_cons (pv 3) pa_nil))))) (Ac (Ak (i:=4) C4.nd rfl (.inl rfl) (Am Bv (Bi (pa_cons E2 (pa_cons (Af FS cH (by rfl) Ah (pa_cons (pv 2) pa_nil)) pa_nil))) (pv 2)))
   (Ad (An (pe_callB (Lj rfl) (by rfl) B.all (by rfl) (pa_cons (Fg (N:=NL12a) (cap:=[none,some 3,some 2]) (CompScope.of (defScope s_law) NL12 rfl rfl rfl (by decide +kernel)) rfl (Bt (pv 4)) (λ_ _ _=>Aw (i:=0) (show NL12a.Nodup by decide +kernel) rfl (.inl rfl) (.inr rfl)) (λ_ _ _=>C8) (λ_ _ _=>D0 (Jh (by exact hu3 hr)) (Af (by exact ul) (by exact hr) (by rfl) Ah (pa_cons (pv 2) (pa_cons (pv 1) (pa_cons (pv 0) pa_nil)))) (Bb (pa_cons Az (pa_cons E2 pa_nil))) (Ar _))) pa_nil))))) A7)
   (Ac (Ak (i:=5) C4.nd rfl (.inl rfl) (Af y4 tI (by rfl) Ah (pa_cons (pv 2) (pa_cons (pv 3) pa_nil))))
   (Ac (Ak (i:=6) C4.nd rfl (.inl rfl) (Af uk y6 (by rfl) pass2X (pa_cons (pv 2) (pa_cons (pv 3) pa_nil))))
   (Ac (A4 (pw_or (pt_not (pt_val (pe_callB call_isinst (by rfl) B.isi bu (pa_cons (pv 6) (pa_cons (pe_bltn (v:=.ty "list") (by rfl) B.list (by rfl) rfl) pa_nil))))) (Fu (Aq (Ji (hu3 hr)) (pv 6) (pv 5) (Ar _)))).pt (Ad (An Cu)) A7)
   (Ac (Ce bj.never rfl (Bt (pv 6)) (Aw (i:=7) C4.nd rfl (.inl rfl)) (Ad (A4 (pw_or (pt_not (pt_val (pe_callB call_isinst (by rfl) B.isi bu (pa_cons (pv 7) (pa_cons (pe_bltn (v:=.ty "tuple") (by rfl) B.tuple (by rfl) rfl) pa_nil))))) (pw_or (pt_not (pt_val (pe_callB call_isinst (by rfl) B.isi bu (pa_cons (pe_ix ix_tup (pv 7) pe_int (λ_ _=>rfl)) (pa_cons (pe_bltn (v:=.ty "str") (by rfl) B.str boot_str rfl) pa_nil))))) (Fu (pt_not (pt_val (Af FT cH (by rfl) Ah (pa_cons (pe_ix ix_tup (pv 7) pe_int (λ_ _=>rfl)) pa_nil))))))).pt (Ad (An Cu)) A7)))
   (Ac (Dz (Gw PySem.F.plainAttrs_list PySem.F.slot_list_append PySem.F.type_list_append Gx (pv 6) (pa_cons (Bb (pa_cons Az (pa_cons (Bb pa_nil) pa_nil))) pa_nil)))
   (Ac (Ak (i:=8) C4.nd rfl (.inl rfl) (Bq (Xp9 rfl) (by rfl) B.dict (by rfl) (pa_cons (pv 5) pa_nil)))
   (Ac (Ce bj.never rfl (Bt (pe_callB (Xr1 P w rfl rfl rfl) (by rfl) B.sorted (by rfl) (pa_cons (Bq (Xr0 P w rfl rfl rfl) (by rfl) B.set (by rfl) (pa_cons (pv 2) pa_nil)) pa_nil))) (Aw (i:=9) C4.nd rfl (.inl rfl)) (Ac (Ak (i:=10) C4.nd rfl (.inl rfl) (Af ul hr (by rfl) Ah (pa_cons (pv 2) (pa_cons (pv 3) (pa_cons (pv 9) pa_nil)))))
   (Ac (A4 (Aq (Ji (hu3 hr)) (pv 10) (Gp (Xad (Xbn hu (pv 9) (pv 8)) (by rfl)) (Bb (pa_cons Az (pa_cons (B7 hu (pv 8) (pv 9) (λ_ _=>rfl)) pa_nil))) (Bb (pa_cons Az (pa_cons pe_int pa_nil)))) (Ar _)) (Ad (An Cu)) A7)
   (Ad (A4 (Dy (Xad (Xbn hu (pv 9) (pv 8)) (by rfl)) (Dx (Aq (Ji (hu3 hr)) (Af vf y6 (by rfl) pass2X (pa_cons (pv 2) (pa_cons (B7 hu (pv 8) (pv 9) (λ_ _=>rfl)) (pa_cons (pv 9) pa_nil)))) (pv 3) (Ar _)))).pt (Ad (An Cu)) A7)))))
   (Ad (An (Xae (D0 (Jh (hu3 hr)) (Af ul hr (by rfl) Ah (pa_cons (pv 2) (pa_cons (pv 3) (pa_cons (Af FS cH (by rfl) Ah (pa_cons (pv 2) pa_nil)) pa_nil)))) (Bb (pa_cons Az (pa_cons E2 pa_nil))) (Ar _)) (Ko (D0 (Jh (hu3 hr)) (Af uk y6 (by rfl) pass2X (pa_cons (pv 2) (pa_cons (pv 3) pa_nil))) (pv 5) (Ar _))))))))))))))))),?_⟩
  have two:∀u v:V,[u,v].length<=sizeLine:=λ_ _=>by show 2<=sizeLine;decide
  refine⟨_,rfl,a,ns,rfl,hS,aV,λdr sc H1 zu NI d1 s1=>?_⟩;have qa:Au T (lamPos s_in_order) qIn H1:=.inl (s1 _ _ KD);refine⟨_,rfl,dr,sc,14,rfl,by decide,d1,λr row n st aY H2 nr hn bH hR hp dZ d2 b2=>?_⟩;have tB:∀{H' BK:Hp},DrawOk H' dr sc->Au T (lamPos s_in_order) qIn H'->But dr H' BK->Au T (lamPos s_in_order) qIn BK:=λd t b=>by
   obtain⟨AR,h1⟩:=d.at;exact SH.Au.but t h1 b
  have ni:=tB d1 qa b2;have hI:Isl row:=⟨n,st,aY,hn,bH,hp⟩;have mX:=hI.len;have fH:=hI.dlen;have R2:=hI.row2;obtain⟨BL,uZ⟩:=hI.stranger;have jY:r≠dr:=λz=>by
   obtain⟨AR,h1⟩:=d1.at;rw[z,h1] at nr;cases nr
  dsimp only[A2];refine⟨_,rfl,_,rfl,r,row,rfl,hR,R2,dZ,fH,λl ps H3 nl jl fB bN ug s3=>?_⟩;have d3:=d2.same s3;have lY:l≠dr:=(d2.ne nl).1;have NJ:0<ps.length:=List.length_pos_iff.mpr fB;refine⟨dr,sc,l,_,rfl,d3,jl,lY,by rw[Np];lia,by rw[Np];lia,λgi H4 o6 d4 b4=>?_⟩;have b4:But dr H3 H4:=b4;rw[Np] at o6;rw[Cg V.ref 0 ps o6];have hm:ps.getD gi 0∈ps:=by
   rw[show ps.getD gi 0=ps[gi] by simp[List.getD,o6]];exact Ov o6
  generalize ps.getD gi 0=p at hm;obtain⟨S,tL,hS⟩:=ug p hm;have qt:=b4 _ _ (s3 _ _ hR) jY;have o4:=b4 _ _ tL (d3.ntup _ _ tL);have nE:=tB d3 (SH.Au.same ni s3) b4;have gy:∀y∈S,okN y:=λy hy=>R2.ok y ((Co hS).1 y hy);have iT:=Fo hS;dsimp only[A2];refine Xog (t:=Xah _ _ _) (fun Z' H'=>∃(p:ae) (S:Za), Z'=[some (.ref a),some (.ref dr),some (.ref r),some (.ref p),none,none,none,none,none,none,none]/\H' r=some (.lst (row.map V.str))/\H' p=some (.tup (S.map V.str))/\(∀y∈S,okN y)/\S.length<=24/\Au T (lamPos s_in_order) qIn H') ?_ ?_;rotate_left
  ·intro NK kn;refine⟨_,rfl,dr,sc,4,rfl,by decide,by decide,d4,λq H8 _ _ d8 b8=>?_⟩;have b8:But dr H4 H8:=b8;have vg:=b8 _ _ qt jY;have y7:=b8 _ _ o4 (d4.ntup _ _ o4);have lr:=tB d4 nE b8;refine⟨rfl,_,rfl,?_⟩;refine Ax (λ_=>?_) (λ_=>kn _ _ ⟨p,S,rfl,vg,y7,gy,by lia,lr⟩);refine⟨_,rfl,_,rfl,_,rfl,dr,sc,r,p,row,S,rfl,d8,vg,jY,hI,y7,gy,by lia,λp2 S2 H9 KG ok2 iA d9 b9=>?_⟩;exact kn _ _ ⟨p2,S2,rfl,b9 _ _ vg jY,KG,ok2,by lia,tB d8 lr b9⟩
  clear hm tL o4 hS gy iT qt nE;rintro Z' H4 ⟨p,S,rfl,qt,o4,gy,iT,nE⟩;refine⟨_,rfl,_,rfl,r,p,row,S,rfl,qt,R2,o4,gy,by lia,λH5 s5=>⟨_,rfl,?_⟩⟩;have um:=s5 _ _ qt;have y8:=s5 _ _ o4;have uo:=SH.Au.same nE s5;rw[Jp R2.two];cases hS:Ag row S with
  | false=>
   refine iteT ?_;refine⟨_,rfl,r,row,rfl,um,λy hy=>(R2.ok y hy).1,λH6 s6=>?_⟩;refine⟨two _ _,λl2 tZ=>?_⟩;have s7:=s6.step tZ (o:=.lst [.non,.str (Bn row)]);have BM:upd H6 l2 (.lst [.non,.str (Bn row)]) l2=some (.lst [.non,.str (Bn row)]):=Aa;dsimp only[A2];generalize upd H6 l2 (.lst [.non,.str (Bn row)])=H7 at s7 BM;refine⟨_,rfl,l2,r,_,_,rfl,rfl,BM,s7 _ _ um,by rw[Np,Sw];show 2+row.length<=_;lia,λq nq=>?_⟩;have s8:=s7.step nq (o:=.lst ([.non,.str (Bn row)]++row.map V.str));have uq:upd H7 q (.lst ([.non,.str (Bn row)]++row.map V.str)) q=some (.lst ([.non,.str (Bn row)]++row.map V.str)):=Aa;dsimp only[A2];generalize upd H7 q (.lst ([.non,.str (Bn row)]++row.map V.str))=H8 at s8 uq;have ot:([V.non,.str (Bn row)]++row.map V.str).length=row.length+2:=by
    rw[Nx,Np];show 2+row.length=_;lia
   have BN:∀i,i<row.length+2->([V.non,.str (Bn row)]++row.map V.str).getD i .non = .non \/ ∃x,([V.non,.str (Bn row)]++row.map V.str).getD i .non = .str x/\okN x:=λi hi=>by
    match i,hi with
    | 0,_=>exact .inl rfl
    | 1,_=>exact .inr ⟨_,rfl,BL⟩
    | i+2,hi=>
     have eW:i<row.length:=by lia
     refine .inr ⟨row.getD i ao.empty,?_,R2.ok _ (Cb eW)⟩;show (row.map V.str).getD i .non=_;exact Cg V.str ao.empty row eW
   generalize [V.non,.str (Bn row)]++row.map V.str=xs at ot BN uq;refine⟨_,rfl,q,rfl,⟨_,SqL.of uq⟩,?_⟩;refine G8 (n:=row.length+2) (by rw[Sw];lia) (λi=>xs.getD i .non) (λ_=>true) (λ_=>.bl true) ?_ ?_ ?_ ?_ ?_
   ·intro i H9 hi s9;exact E9 (K:=K) (SqL.of (s9 _ _ uq)) (by rw[ot];exact hi)
   ·intro H9 s9;have:=Fa (K:=K) (SqL.of (s9 _ _ uq))
    rwa [ot] at this
   ·intro i H9 Q' hi s9 kk;exact kk H9 (Same.refl _)
   ·intro i H9 Q' hi _ s9 kk;have y9:=s8.trans s9;have hx:=BN i hi;generalize xs.getD i .non=x at hx;refine⟨_,rfl,_,rfl,_,rfl,r,p,row,S,x,.plot,rfl,y9 _ _ um,R2,dZ,fH,SH.Au.same uo y9,y9 _ _ y8,gy,iT,?_,λt HA hd sA=>?_⟩
    ·rcases hx with hx | ⟨y,hx,hy⟩
     ·exact .inl ⟨hx,hS,rfl⟩
     ·refine .inr ⟨y,hx,hy,?_⟩;unfold out12;rw[Sx (by rw[hS];decide)]
    ·refine⟨two _ _,λt2 lq=>?_⟩;have pl:A9 (o16D .plot)=true:=by decide +kernel
     have sB:Same HA (upd HA t2 (.tup [.str "plot",.non])):=(Same.refl HA).step lq;refine⟨o16D .plot,o16D .plot,hd.same sB,Ev Aa (Xgu _),Bm _ pl,Bm _ pl,Oq (Qo _ _) (Kl _),?_⟩;rw[(Dp _ _ pl pl).mpr rfl];exact kk _ (sA.trans sB)
   ·intro D H9 nD s9 hD;refine⟨D,((List.range (row.length+2)).filter λ_=>true).map λ_=>true,rfl,by rw[hD,O2];rfl,?_⟩;rw[show (((List.range (row.length+2)).filter λ_=>true).map λ_=>true).all id=true from Oh.mpr λb hb=>by
     obtain⟨_,_,rfl⟩:=Oj.mp hb;rfl]
    exact k H9
  | true=>
   refine Bd ?_;refine⟨_,rfl,_,rfl,r,p,row,S,rfl,um,R2,fH,y8,hS,λdl qs H7 NL jR qZ x9 s7=>?_⟩;have ur:=SH.Au.same uo s7;have yA:=s7 _ _ um;have yB:=s7 _ _ y8;dsimp only[A2];refine⟨_,rfl,_,rfl,r,p,row,S,rfl,yA,R2,dZ,fH,ur,yB,gy,iT,λ_ fl fs H8 KH jd cU KI lr b8=>?_,λz=>absurd z (by rw[hS];decide)⟩;have b8:But T H7 H8:=b8;have k8:∀{b:ae} {o:HO},H7 b=some o->(∀z,o ≠ .tbl z)->H8 b=some o:=λe n=>b8 _ _ e (Au.ne ur e n);have vg:=k8 yA λz=>by simp
   have y7:=k8 yB λz=>by simp
   have yC:=k8 jR λz=>by simp
   have yD:Nbs H8 qs (nbL row S):=qZ.keep λb w e=>k8 e λz=>by simp
   have pl:=Xof (Xqa (S:=S) R2);dsimp only[A2];refine⟨_,rfl,_,_,_,_,true,rfl,.lst jd,rfl,Hl K "list",_,rfl,Bd ?_⟩;refine⟨_,rfl,_,rfl,_,_,J4 jd cU,J4 yC yD,Bm _ pl,Bm _ pl,Oq (Qo _ _) (Xgn _),_,rfl,?_⟩;rw[(Dp _ _ pl pl).mpr rfl];refine Bd ?_;refine⟨_,rfl,fl,rfl,⟨_,SqL.of jd⟩,?_⟩;refine Dh (K:=K) (a:=fl) (xs:=fs.map V.ref) (λi Z H'=>(∃v7, Z=[some (.ref a),some (.ref dr),some (.ref r),some (.ref p),none,some (.ref dl),some (.ref fl),v7,none,none,none])/\Same H8 H') ?_ ?_ ?_ ?_
   ·exact⟨⟨_,rfl⟩,Same.refl _⟩
   ·rintro i Z H' _ ⟨_,s'⟩;exact SqL.of (s' _ _ jd)
   ·rintro i x Z H9 hx ⟨⟨v7,rfl⟩,s9⟩;obtain⟨hi,rfl⟩:i<fs.length/\x = .ref (fs.getD i 0):=by
     obtain⟨h,e⟩:=N7.mp hx;rw[Np] at h;refine⟨h,?_⟩;rw[<-e,Qd,List.getD,Nq h];rfl
    obtain⟨q,hq,p',h1,h2⟩:=cU.at hi;have yE:=s9 _ _ h1;have KJ:=s9 _ _ h2;have iA:=Fo (Nh.mp hq).2.2;dsimp only[A2];refine⟨_,rfl,_,_,_,_,true,rfl,.tup yE,rfl,Hl K "tuple",_,rfl,Bd ?_⟩;refine⟨_,rfl,_,_,_,_,rfl,rfl,SqT.of yE,(show atI [V.str q.1,.ref p'] ((0:Nat):Int)=some (.str q.1) from D1 rfl),?_⟩;refine⟨_,_,_,_,true,rfl,.str _,rfl,Hl K "str",_,rfl,Bd ?_⟩;refine⟨_,rfl,_,_,_,_,rfl,rfl,SqT.of yE,(show atI [V.str q.1,.ref p'] ((1:Nat):Int)=some (.ref p') from D1 rfl),?_⟩;refine⟨_,q.2,rfl,Cl KJ,by lia,λHA sA=>?_⟩;refine⟨_,rfl,Bd ⟨⟨_,rfl⟩,s9.trans sA⟩⟩
   rintro Z H9 ⟨⟨v7,rfl⟩,s9⟩;have KL:=SH.Au.same lr s9;have yF:=s9 _ _ jd;refine⟨_,rfl,.inl ⟨rfl,_,SqL.of yF⟩,by show 0<=sizeLine;decide,λpe KM=>?_⟩;have iM:Same H8 (upd H9 pe (.tup [])):=s9.step KM;generalize upd H9 pe (.tup [])=qh at iM;refine⟨two _ _,λpn np=>⟨fl,_,_,rfl,rfl,ku (iM _ _ jd) np,by rw[Np,Sw];lia,?_⟩⟩;have lm:Same H8 (upd qh pn (.tup [.str "none",.ref pe])):=iM.step np;generalize upd qh pn (.tup [.str "none",.ref pe])=lj at lm;have iy:But fl lj (upd lj fl (.lst (fs.map V.ref++[.ref pn]))):=λb o e n=>by rw[Ab n];exact e
   have o8:=SH.Au.but (SH.Au.same lr lm) (lm _ _ jd) iy;k_in;generalize upd lj fl (.lst (fs.map V.ref++[.ref pn]))=jE at iy o8;have vh:∀{b:ae} {o:HO},H7 b=some o->(∀z,o ≠ .tbl z)->jE b=some o:=λe n=>iy _ _ (lm _ _ (k8 e n)) (Ao e KH);have yG:=vh yA λz=>by simp
   have yH:=vh yB λz=>by simp
   have o9:=vh jR λz=>by simp
   have oA:Nbs jE qs (nbL row S):=qZ.keep λb w e=>vh e λz=>by simp
   have KN:((nbL row S).map (·.1)).Nodup:=by rw[Ni];exact Ry _ (Fe row)
   obtain⟨prs,KO,ks,at_,kZ,lf⟩:=Xgm oA KN;refine⟨_,rfl,dl,qs,prs,rfl,o9,KO,by lia,at_,λsd AJ=>?_⟩;rw[Xqb prs (Xqc ks)];have fE:Same jE (upd jE sd (.dK prs)):=(Same.refl jE).step AJ;have oB:upd jE sd (.dK prs) sd=some (.dK prs):=Aa;dsimp only[A2];generalize upd jE sd (.dK prs)=rq at fE oB;have BO:Env rq T (lamPos s_in_order) r p dl sd row S qs prs:=⟨fE _ _ yG,fE _ _ yH,fE _ _ o9,oA.same fE,oB,λx U h=>let ⟨q,a,b⟩:=kZ x U h; ⟨q,a,fE _ _ b⟩,SH.Au.same o8 fE⟩;refine⟨_,rfl,r,row,rfl,.inl (SqL.of BO.r),by unfold aW;lia,λsu ya=>?_⟩;have jO:=Fz row;refine⟨su,ddup row,rfl,Aa,by lia,λsl ls KP lH yI=>?_⟩;have sq:Same rq (upd rq su (Cj P w su (ddup row))):=(Same.refl rq).step ya;have KQ:ls=dit row:=by rw[Fc lH yI];rfl
   subst KQ;have BP:=sq.step KP (o:=.lst ((dit row).map V.str));have lu:upd (upd rq su (Cj P w su (ddup row))) sl (.lst ((dit row).map V.str)) sl=some (.lst ((dit row).map V.str)):=Aa;have yJ:=BO.same BP;generalize upd (upd rq su (Cj P w su (ddup row))) sl (.lst ((dit row).map V.str))=KR at BP lu yJ;refine⟨sl,rfl,⟨_,SqL.of lu⟩,?_⟩;refine Dh (K:=K) (a:=sl) (xs:=(dit row).map V.str) (λi Z H'=>(∃v9 yK, Z=[some (.ref a),some (.ref dr),some (.ref r),some (.ref p),none,some (.ref dl),some (.ref fl),v7,some (.ref sd),v9,yK])/\Same KR H') ?_ ?_ ?_ ?_
   ·exact⟨⟨_,_,rfl⟩,Same.refl _⟩
   ·rintro i Z H' _ ⟨_,s'⟩;exact SqL.of (s' _ _ lu)
   ·rintro i x Z HA hx ⟨⟨v9,yK,rfl⟩,sA⟩;obtain⟨y,hy,rfl⟩:∃y,y∈row/\x = .str y:=by
     obtain⟨y,hy,e⟩:=Oj.mp (Pr hx);exact⟨y,Ai.mp hy,e.symm⟩
    have EA:=yJ.same sA;have BQ:=R2.ok y hy;dsimp only[A2];refine⟨_,rfl,_,rfl,_,rfl,r,p,row,S,.str y,out12 row S y,rfl,EA.r,R2,dZ,fH,EA.tab,EA.p,gy,iT,.inr ⟨y,rfl,BQ,rfl⟩,λt HB hd sB=>?_⟩;have EB:=EA.same sB;dsimp only[A2];cases e:Ag row (Aj S y) with
    | true=>
     have eo:out12 row S y = .told (Aj S y):=by unfold out12;rw[Sy hS,Sy hy,Sy e]
     rw[eo] at hd;have pZ:=Xgg R2.ok hS hy;have nF:=Xrz pZ;obtain⟨q,hv,hq⟩:=EB.vs y (Aj S y) (Nh.mpr ⟨hy,rfl,e⟩);refine⟨_,rfl,_,rfl,_,rfl,sd,_,rfl,.inl ⟨_,Sum.inr y,.inl EB.sd,rfl,rfl⟩,_,rfl,?_⟩;rw[hv];refine iteT ?_;refine⟨_,rfl,_,rfl,sd,_,rfl,.inl ⟨_,Sum.inr y,.inl EB.sd,rfl,hv.symm⟩,two _ _,λt2 lq=>?_⟩;have sC:Same HB (upd HB t2 (.tup [.str "told",.ref q])):=(Same.refl HB).step lq;have iu:upd HB t2 (.tup [.str "told",.ref q]) t2=some (.tup [.str "told",.ref q]):=Aa;generalize upd HB t2 (.tup [.str "told",.ref q])=HC at sC iu;refine⟨o16D (.told (Aj S y)),o16D (.told (Aj S y)),hd.same sC,Ev iu (Cl (sC _ _ hq)),Bm _ nF,Bm _ nF,Oq (Qo _ _) (Kl _),_,rfl,?_⟩;rw[(Dp _ _ nF nF).mpr rfl];refine Bd ?_;have EC:=EB.same sC;refine⟨_,rfl,_,rfl,sd,_,rfl,.inl ⟨_,Sum.inr y,.inl EC.sd,rfl,rfl⟩,_,rfl,?_⟩;rw[hv];refine iteT ?_;refine⟨_,rfl,_,rfl,_,rfl,sd,_,rfl,.inl ⟨_,Sum.inr y,.inl EC.sd,rfl,hv.symm⟩,_,rfl,r,q,row,Aj S y,y,rfl,EC.r,R2,fH,sC _ _ hq,pZ,Oq (Fo e) (by lia),BQ,λz=>absurd z (by rw[e];decide),λ_ z=>absurd hy z,λ_ _ _ u HD hu sD=>?_,λ_ _ z=>absurd z (by rw[Xgk y hS,hS];decide)⟩;rw[Xgk y hS] at hu;have vi:A9 (tupD S)=true:=Db gy;have ED:=EC.same sD;refine⟨_,rfl,tupD S,tupD S,Cl hu,Cl ED.p,Bm _ vi,Bm _ vi,Oq (Qo _ _) (by show am.depthAll (S.map am.str)+1<=3;rw[Ga];decide),_,rfl,?_⟩;rw[(Dp _ _ vi vi).mpr rfl];exact Bd ⟨⟨_,_,rfl⟩,(sA.trans sB).trans (sC.trans sD)⟩
    | false=>
     have eo:out12 row S y = .beside 0:=by unfold out12;rw[Sy hS,Sy hy,Sx (by rw[e];decide)]
     rw[eo] at hd;have nF:A9 (o16D (.beside 0))=true:=by decide +kernel
     have hv:=lf y (by rw[Ni];exact λz=>by rw[(N6.mp z).2] at e;cases e);refine⟨_,rfl,_,rfl,_,rfl,sd,_,rfl,.inl ⟨_,Sum.inr y,.inl EB.sd,rfl,rfl⟩,_,rfl,?_⟩;rw[hv];refine Bd ?_;refine⟨two _ _,λt2 lq=>?_⟩;have sC:Same HB (upd HB t2 (.tup [.str "beside",.int 0])):=(Same.refl HB).step lq;have iu:upd HB t2 (.tup [.str "beside",.int 0]) t2=some (.tup [.str "beside",.int 0]):=Aa;generalize upd HB t2 (.tup [.str "beside",.int 0])=HC at sC iu;refine⟨o16D (.beside 0),o16D (.beside 0),hd.same sC,Ev iu (by unfold DAt;rfl),Bm _ nF,Bm _ nF,Oq (Qo _ _) (Kl _),_,rfl,?_⟩;rw[(Dp _ _ nF nF).mpr rfl];refine Bd ?_;have EC:=EB.same sC;refine⟨_,rfl,_,rfl,sd,_,rfl,.inl ⟨_,Sum.inr y,.inl EC.sd,rfl,rfl⟩,_,rfl,?_⟩;rw[hv];exact Bd ⟨⟨_,_,rfl⟩,(sA.trans sB).trans sC⟩
   ·rintro Z HA ⟨⟨v9,yK,rfl⟩,sA⟩;have EA:=yJ.same sA;refine⟨_,rfl,_,rfl,_,rfl,r,row,rfl,EA.r,λy hy=>(R2.ok y hy).1,λHB sB=>?_⟩;have EB:=EA.same sB;refine⟨r,p,row,S,.str (Bn row),.ditch,rfl,EB.r,R2,dZ,fH,EB.tab,EB.p,gy,iT,.inr ⟨_,rfl,BL,?_⟩,λt HC hd sC=>?_⟩
    ·unfold out12;rw[Sy hS,Sx uZ]
    have EC:=EB.same sC;refine⟨two _ _,λt2 lq=>?_⟩;have sD:Same HC (upd HC t2 (.tup [.str "ditch",.non])):=(Same.refl HC).step lq;have iu:upd HC t2 (.tup [.str "ditch",.non]) t2=some (.tup [.str "ditch",.non]):=Aa;generalize upd HC t2 (.tup [.str "ditch",.non])=HD at sD iu;have pd:A9 (o16D .ditch)=true:=by decide +kernel
    refine⟨o16D .ditch,o16D .ditch,hd.same sD,Ev iu (Xgu _),Bm _ pd,Bm _ pd,Oq (Qo _ _) (Kl .ditch),?_⟩;rw[(Dp _ _ pd pd).mpr rfl];have ED:=EC.same sD;refine⟨_,rfl,iteT ?_⟩;refine⟨_,rfl,_,rfl,r,p,row,S,rfl,ED.r,R2,dZ,fH,ED.tab,ED.p,gy,iT,λ_ g gs HE ng hg KS NM KU bE=>?_,λz=>absurd z (by rw[hS];decide)⟩;have bE:But T HD HE:=bE;have kE:∀{b:ae} {o:HO},HD b=some o->(∀z,o ≠ .tbl z)->HE b=some o:=λe n=>bE _ _ e (Au.ne ED.tab e n);refine⟨_,rfl,_,_,J4 hg KS,J4 (kE ED.dl λz=>by simp) (ED.nb.keep λb w e=>kE e λz=>by simp),Bm _ pl,Bm _ pl,Oq (Qo _ _) (Xgn _),?_⟩;rw[(Dp _ _ pl pl).mpr rfl];exact k _
end
end K12
set_option maxHeartbeats 4000000
namespace PySem.OldK
def of_tab{T:ae}(ht:isCodeTable h₀ T)(hT:h₀.get? T=some (OB #[]))(om:∃ps,h.get? T=some (OB ps))(k:∀b o,b≠T->h₀.get? b=some o->h.get? b=some o):CJ h₀ h:=by
 obtain⟨ps,jw⟩:=om;refine⟨λb o e=>?_,λb o e=>?_⟩
 ·by_cases z:b=T
  ·subst z;rw[hT] at e;cases e;exact .inr (.inl ⟨ht,rfl, #[],ps,rfl,by simpa using jw⟩)
  ·exact .inl (k b o z e)
 ·by_cases z:b=T
  ·exact⟨_,z ▸ jw⟩
  ·exact⟨o,k b o z e⟩
end PySem.OldK
namespace L2
def Xr3   {K:NO}           (hT:s₁.heap.get? T=some (OB #[])) (hTK:K.lookup T=none) (hhd:Of K c0 T=true) (pG:BmOk mg s₁.heap)
  (KX:K.In s₁.heap) (q0:s₁.heap.Ns aq mg) (hb:s₁.heap.Ns dg mb) (qc:∀x:ao,x ≠ "__name__" -> mb x=bO x) (yL:s₁.heap.NoLimit) (hg:s₁.gens = #[])
  (ha:s₁.heap.get? a=some {cls:=.type "list",data:=.seq vs.toArray}) (hi:jq vs ns) (hl:ns.length<=sizeLine) (hr:Room k fj)
  (F:∀base:ak,K.In base->base.Ns aq mg->BmOk mg base->FnOk P w K mg base CX k fa fd [x] sp) (ut:∀(s:ah) (u:aa),fc s fd ⟨[u],[]⟩ [(x,u)])
  (gt:∀H:Hp,H T=some (.tbl #[])->SqL K H a (ns.map V.int)->sp [.ref a] H (λv _=>v = .bl true) λ_ _ _=>False)
  (yM:∀H e s',CX [] H s₁ (λ_ _ _=>False) e s'->False):
  bc (ag P w) fj (.call (.ref fa) ⟨[.ref a],[]⟩) (λr s'=>r = .ok (.ret (.bool true))/\CJ s₁.heap s'.heap/\s'.os=s₁.os/\cE s'.gens) s₁:=by
 have rv:=Xbq hi;have pQ:=hi.length;have uv:∀H:Hp,H T=some (.tbl #[])->(∀b,b≠T->H b=none \/ ∃o xs,H b=some (.frz o (.lst xs)))->SqL K H a (ns.map V.int)->HOk P w H s₁.heap->(∀b,H b≠none->b=a\/b=T)->(H a≠none->K.lookup a=none) ->
   bc (ag P w) fj (.call (.ref fa) ⟨[.ref a],[]⟩) (λr s'=>r = .ok (.ret (.bool true))/\CJ s₁.heap s'.heap/\s'.os=s₁.os/\cE s'.gens) s₁:=by
  intro H BR hO hS hok hA hK;have gh:∀{b:ae} {o:aM},s₁.heap.get? b=some o->H b=none->(Dg s₁.heap H).get? b=some o:=λe n=>Xg4 e n;have rE:∀{b:ae} {o:aM} {es:Array oH} {ep:Nat},s₁.heap.get? b=some o->o.data = .dict es ep->H b=none:=λ{b o es ep} e d=>by
   cases q:H b with
   | none=>rfl
   | some u=>
    rcases hA b (by rw[q];simp) with e' | e'
    ·subst e';rw[ha] at e;cases e;have d':rB.seq vs.toArray _=rB.dict es ep:=d;cases d'
    ·subst e';rw[hT] at e;cases e;cases d
  have vj:∀{b:ae} {m:ao->Option aa},s₁.heap.Ns b m->(Dg s₁.heap H).Ns b m:=λ{b m} ⟨o,es,ep,e,d,r⟩=>⟨o,es,ep,gh e (rE e d),d,r⟩;have BS:K.In (Dg s₁.heap H):=λb o e=>gh (KX b o e) (by
   cases q:H b with
   | none=>rfl
   | some u=>
    rcases hA b (by rw[q];simp) with e' | e'
    ·subst e';rw[hK (by rw[q];simp)] at e;cases e
    ·subst e';rw[hTK] at e;cases e)
  have yN:BmOk mg (Dg s₁.heap H):=by
   obtain⟨bm,ob,b1,b2,b3,b4,b5,b6⟩:=pG;refine⟨bm,ob,b1,b2,gh b3 ?_,b4,b5,b6⟩;cases q:H bm with
   | none=>rfl
   | some u=>
    rcases hA bm (by rw[q];simp) with e' | e'
    ·subst e';rw[ha] at b3;cases b3;exact absurd (show aa.type "list" = aa.type "module" from b4) (by decide)
    ·subst e';rw[hT] at b3;cases b3;cases b4
  have hM:Mod K mg (Dg s₁.heap H):=⟨BS,vj q0,⟨mb,vj hb,qc⟩,let ⟨mc,h1,h2⟩:=yL; ⟨mc,vj h1,h2⟩⟩;have e0:Env0 P w K mg (Dg s₁.heap H) fj [] s₁ H:=⟨rfl,hM,λb o e=>Xg5 e,Nat.le_of_eq (Xg3 _ _),trivial,λb hb=>absurd (show b∈([]:List ae) from hb) (by simp),hok,.of_eq hg⟩;refine bw ((F _ BS (vj q0) yN).run fj [] s₁ H ⟨[.ref a],[]⟩ [.ref a] [.ref a] _ _ hr e0 (ut s₁ (.ref a)) (.cons rfl .nil) (gt H BR hS)) λr s' h=>?_;cases r with
  | error e=>exact(yM H e s' h).elim
  | ok fl=>
   cases fl with
   | next=>exact False.elim h
   | brk=>exact False.elim h
   | cont=>exact False.elim h
   | ret u=>
    obtain⟨v,H',os,bare,un,uw,r',q⟩:=h;have q':v = .bl true:=q;subst q';obtain rfl:u=aa.bool true:=r';refine⟨rfl,CJ.of_tab (T:=T) (by have C:=OM KX hhd;exact(C.tab hT).isCodeTable) hT ?_ λb o nb e=>?_,os,bare⟩
    ·obtain⟨bR,hm⟩:=un.tbls T #[] BR;exact⟨#[]++bR,uw T _ hm⟩
    cases q:H b with
    | none=>exact un.keep b o e q (by intro z;exact absurd (show b∈([]:List ae) from z) (by simp)) (by simp)
    | some u=>
     rcases hO b nb with z | ⟨ob,xs,z⟩
     ·rw[q] at z;cases z
     ·have z2:=un.frzs b ob _ z;obtain⟨e1,_⟩:=hok b _ z;obtain⟨e2,_⟩:=uw b _ z2;rw[e] at e1;cases e1;exact e2
 cases hk:K.lookup a with
 | some o=>
  have e:=KX a o hk;rw[ha] at e;cases e;have yO:a≠T:=λz=>by rw[z,hTK] at hk;cases hk
  refine uv (λb=>if b=T then some (.tbl #[]) else none) (Sy rfl) (λb n=>.inl (Sx n)) (.inr ⟨_,vs.toArray,_,hk,rfl,rfl,rfl,by rw[Nt,pQ];exact hl,by simpa using rv⟩) (λb u z=>?_) (λb z=>.inr (Classical.byContradiction λn=>z (Sx n))) λz=>absurd (Sx yO) z;by_cases hb:b=T
  ·have z':=(Sy hb).symm.trans z;cases z';rw[hb];exact hT
  ·have z':=(Sx hb).symm.trans z;cases z'
 | none=>
  have yO:T≠a:=λz=>by rw[z,ha] at hT;cases hT
  refine uv (λb=>if b=T then some (.tbl #[]) else if b=a then some (.frz {cls:=.type "list",data:=.seq vs.toArray} (.lst (ns.map V.int))) else none) (Sy rfl) (λb n=>?_) (.inl (.inr ⟨{cls:=.type "list",data:=.seq vs.toArray},(Sx yO.symm).trans (Sy rfl)⟩)) (λb u z=>?_) (λb z=>?_) λ_=>hk
  ·by_cases hb:b=a
   ·exact .inr ⟨_,_,(Sx n).trans (Sy hb)⟩
   ·exact .inl ((Sx n).trans (Sx hb))
  ·by_cases hb:b=T
   ·have z':=(Sy hb).symm.trans z;cases z';rw[hb];exact hT
   ·have z1:=(Sx hb).symm.trans z;by_cases hb:b=a
    ·have z':=(Sy hb).symm.trans z1;cases z';subst hb;exact⟨ha,by rw[Np];exact hl,vs,_,rv,ha⟩
    ·have z':=(Sx hb).symm.trans z1;cases z'
  ·by_cases hb:b=T
   ·exact .inr hb
   ·by_cases hc:b=a
    ·exact .inl hc
    ·exact absurd ((Sx hb).trans (Sx hc)) z
def Xr4{l:OX}{n k:Nat}      {K:KW->NO}{CX:aA->CXT}{sp:aA->Sp}{x:ao}(hn:l.most=some n)(ye:n<=sizeLine)(rL:d.params.defaults=[])(hr:Room k fj)
  (hY:∀(w:aA) (h:ak),YP w h->(K w.params).In h) (yP:∀(w:aA) (h:ak),YP w h->h.get? T=some (OB #[])) (hTK:∀P,(K P).lookup T=none) (hhd:∀P,Of (K P) c0 T=true)
  (F:∀(w:aA) (mg:ao->Option aa) (fa:ae) (h:ak),(K w.params).In h->h.Ns aq mg->mg d.name=some (.ref fa) ->
   ∃fd:bJ,(∀(s:ah) (u:aa),fc s fd ⟨[u],[]⟩ [(x,u)]) /\
    ∀base:ak,(K w.params).In base->base.Ns aq mg->BmOk mg base->FnOk l.prog w (K w.params) mg base (CX w) k fa fd [x] (sp w))
  (gt:∀(w:aA) (H:Hp) (a:ae) (ns:List Int),ns.length<=n->H T=some (.tbl #[])->SqL (K w.params) H a (ns.map V.int)->sp w [.ref a] H (λv _=>v = .bl true) λ_ _ _=>False)
  (yM:∀(w:aA) (H:Hp) (s:ah) (e:aa) (s':ah),CX w [] H s (λ_ _ _=>False) e s'->False):
  PB q loose XP YP l.row.toRowW d [] (λf vs=>PySem.call f vs):=by
 refine Att.attach_call hn rL λw s₀ s₁ mg mb fa o pm cd cW a vs ns G Y ho hd eR hmg oN kD aV hg=>?_;have KX:=hY w _ Y;obtain⟨fd,hb,hF⟩:=F w mg fa _ KX G.T.g hmg;exact Xr3 (yP w _ Y) (hTK _) (hhd _) G.T.bmain KX G.T.g G.T.b G.T.builtins G.T.nolimit hg oN kD (Oq aV ye) hr hF hb (λH hO hS=>gt w H a ns aV hO hS) λH e s'=>yM w H s₁ e s'
def Fn.ofT   {K:NO}       {st:aP}   (X:K.In h) (G:h.Ns aq mg) (D:DefT K x st T)
  (hb:∀(kV cW pm:aa) (an:Option ae) (cdv ct:aa) (us:List aa),us.length=ps.length->fe (OA x x (Di st) (B8 st) (defScope st) .none kV cW pm an cdv ct) ⟨us,[]⟩=pure (ps.zip us))
  (ok:∀f fd,FunT K x st f fd T->FnOk P w K mg base CX k f fd ps sp):Fn P w K mg base CX k x ps sp:=by
 obtain⟨f,fd,a,hk,F,F'⟩:=D.ex;exact⟨⟨f,fd,On X G a,hk,F'.binds hb,ok f fd F⟩⟩
end L2
namespace HD
open PySem PySem.W PySem.Calls PyProof.Rows
abbrev O:=Option SharedT
noncomputable abbrev B (a b:O) (c:Bool):O := @Bool.rec (λ_=>O) a b c
noncomputable def go (F:SharedT->eO->Option (SharedT×eO)) (ok:eO->Bool) (n:Nat):SharedT->eO->O := @Nat.rec (λ_=>SharedT->eO->O) (λ_ _=>none) (λ_ ih s t=>B (B none (@Option.rec (SharedT×eO) (λ_=>O) none (λx=>@Prod.rec SharedT eO (λ_=>O) ih x) (F s t)) (ok t)) (some s) (through t)) n
def Xr5{tb p w m a z}:∀n s t,go (stepT (denote tb) p w) (stepOk m a) n s t=some z->topRun tb p w m a n s.abs t=some z.abs:=by
 intro n
 induction n with
 | zero=>intro s t h;cases h
 | succ n ih=>
  intro s t h;unfold topRun;have h':B (B none (@Option.rec (SharedT×eO) (λ_=>O) none (λx=>@Prod.rec SharedT eO (λ_=>O) (go (stepT (denote tb) p w) (stepOk m a) n) x) (stepT (denote tb) p w s t)) (stepOk m a t)) (some s) (through t)=some z:=h;cases ht:through t with
  | true=>rw[ht] at h';cases h';rfl
  | false=>
   cases hk:stepOk m a t with
   | false=>rw[ht,hk] at h';cases h'
   | true=>
    cases hs:stepT (denote tb) p w s t with
    | none=>rw[ht,hk,hs] at h';cases h'
    | some x=>
     rw[ht,hk,hs] at h';rw[stepT_spec hs];exact ih _ _ h'
noncomputable def tree (P:KW):BT:=((boot_heap P).objs.toList.foldl (λ(x:BT×Nat) o=>(x.1.ins x.2 o,x.2+1)) (.nil,0)).1
def Xr6(P):absHeap (tree P) 11 {}=boot_heap P:=by kernel_rfl
def Xr7(P):((boot_heap P).isNs aq,(boot_heap P).objs.size,(boot_heap P).nsMap aq "__annotations__")=(true,11,some (.ref 6)):=by kernel_rfl
abbrev ck (p:ar) (g h:ak) (z:ah):=staticsOk (r0 p.main.body) g h&&namesBound p h&&gensDone z&&laidKept g h
def left{p q loose Xt α}{Yf:ah->α}{Ya N g}(e:opening p=plainProg p.main.scope.names)(hN:Nat.ble 600 N=true)(f:∀s,fenceModules? p s=some s)
 (h:∀w:aA,(λos=>(go (Fast.tw10156331382660048174 (Fast.tw11892475500146522536 Fast.tw14364793385576792824) p w) (Fast.tw6613529449190102663 11 (some (.ref 6))) N ⟨tree w.params,11,{},#[],boot_drawn,boot_toks,os⟩ (topStub p)).map λz=>(ck p (boot_heap w.params) z.abs.heap z.abs,Fast.tw4187177175401517315 q loose (r0 p.main.body) Xt g z.abs,Yf z.abs))=λ_=>some (true,openGood q loose,Ya w)):LeftO p q loose Xt Yf Ya N g:=λw=>by
 rw[<-Fast.te10156331382660048174,<-Fast.te11892475500146522536,<-Fast.te14364793385576792824,<-Fast.te6613529449190102663,<-Fast.te4187177175401517315] at h;obtain⟨⟨hp,gs,d,k,os⟩,e1,e2⟩:=Rl.mp (boot_open e hN f w);obtain⟨rfl,rfl,rfl,rfl⟩:hp=boot_heap w.params/\gs=#[]/\d=boot_drawn/\k=boot_toks:=by simpa using e2
 obtain⟨z1,z2,z3⟩:_/\_/\_:=by simpa only[Prod.mk.injEq] using Xr7 w.params
 obtain⟨z,hz,l⟩:=Rl.mp (congrFun (h w) os);obtain⟨l1,l2,l3⟩:_/\_/\_:=by simpa only[Prod.mk.injEq] using l
 have r:=Xr5 _ _ _ hz;rw[show (SharedT.mk (tree w.params) 11 {} #[] boot_drawn boot_toks os).abs=⟨boot_heap w.params,#[],boot_drawn,boot_toks,os⟩ by show ah.mk (absHeap (tree w.params) 11 {}) _ _ _ _=_;rw[Xr6]] at r;unfold openEnds;rw[e1];show (topFrom NN p w N _).map _=_;rw[show topFrom NN p w N ⟨boot_heap w.params,#[],boot_drawn,boot_toks,os⟩=some z.abs by
  unfold topFrom;k_in;rw[z1,z2,z3,r];show (match ck p (boot_heap w.params) z.abs.heap z.abs with | true=>_ | false=>_)=_;rw[l1]]
 exact congrArg some (Prod.ext l2 l3)
def isDef:aP->Bool
 | .Assign _ (.Constant (.str _) _ _) _=>false
 | _=>true
end HD
namespace L2
open PySem
def len1{us:List aa}(h:us.length=1):∃a,us=[a]:=List.length_eq_one_iff.mp h
def len2{us:List aa}(h:us.length=2):∃a b,us=[a,b]:=by
 cases us with
 | nil=>cases h
 | cons a r=>
  obtain⟨b,rfl⟩:=len1 (Nat.succ.inj h);exact⟨a,b,rfl⟩
def len3{us:List aa}(h:us.length=3):∃a b c,us=[a,b,c]:=by
 cases us with
 | nil=>cases h
 | cons a r=>
  obtain⟨b,c,rfl⟩:=len2 (Nat.succ.inj h);exact⟨a,b,c,rfl⟩
def len4{us:List aa}(h:us.length=4):∃a b c d,us=[a,b,c,d]:=by
 cases us with
 | nil=>cases h
 | cons a r=>
  obtain⟨b,c,d,rfl⟩:=len3 (Nat.succ.inj h);exact⟨a,b,c,d,rfl⟩
end L2
local macro_rules | `(tactic| walk_at "1") => `(tactic| (intro _ _ _ _ _ _ us hl;obtain⟨a,e⟩:=L2.len1 hl;subst e;rfl))
local macro_rules | `(tactic| walk_at "2") => `(tactic| (intro _ _ _ _ _ _ us hl;obtain⟨a,b,e⟩:=L2.len2 hl;subst e;rfl))
local macro_rules | `(tactic| walk_at "3") => `(tactic| (intro _ _ _ _ _ _ us hl;obtain⟨a,b,c,e⟩:=L2.len3 hl;subst e;rfl))
local macro_rules | `(tactic| walk_at "4") => `(tactic| (intro _ _ _ _ _ _ us hl;obtain⟨a,b,c,d,e⟩:=L2.len4 hl;subst e;rfl))
namespace K12
open L2 SH
def Xr8{P:ar}{w:aA}{K:NO}{h:ak}{mg:ao->Option aa}{fa bh bz bo T_:ae}{bp dX:ae}(X:K.In h)(G:h.Ns aq mg)(KY:mg "law" = some (.ref fa))
  (eJ:DefAt K "ask_ditch" sAsk)
  (jF:DefAt K "ditches" sDitches)
  (qu:DefAt K "ends" sEnds)
  (nG:DefAt K "spans" sSpans)
  (lv:DefAt K "lie_of" sLieOf)
  (ia:DefAt K "crossings" sCross)
  (qv:DefAt K "told" sTold)
  (d_in_order:DefT K "in_order" s_in_order T_)
  (lw:DefAt K "allows" sAllows)
  (jG:DefAt K "is_plot" sIsPlot)
  (iU:DefAt K "ask_plot" s_ask_plot)
  (nJ:DefAt K "plots" s_plots)
  (jH:DefAt K "parting" s_parting)
  (lx:DefAt K "across" s_across)
  (jI:DefAt K "stepped" s_stepped)
  (l5:DefAt K "beyond" s_beyond)
  (gj:DefAt K "neighbours" s_neighbours)
  (gk:DefAt K "_law_begin" sBegin)
  (ib:DefAt K "_law_pick" sPick)
  (iV:DefAt K "_law_put" sPut)
  (gl:DefAt K "_law_where" sWhere)
  (ie:DefAt K "_law_word" sWord)
  (fK:DefAt K "_law_barred" sBarred)
  (iW:DefAt K "_law_row" sRow)
  (gm:DefAt K "_law_names" sNames)
  (fM:DefAt K "_law_island" sIsland)
  (iX:DefAt K "_law_one" s__law_one)
  (ig:DefAt K "_law_bars" s__law_bars)
  (ii:DefAt K "_law_fits" s__law_fits)
  (gp:DefAt K "_law_plots" s__law_plots)
  (eP:DefAt K "_law_stranger" s__law_stranger)
  (ij:DefAt K "_law_flip" s__law_flip)
  (eQ:DefAt K "_law_odd_plot" s__law_odd_plot)
  (eD:DefAt K "_law_good_plot" s__law_good_plot)
  (ik:DefAt K "_law_ways" s__law_ways)
  (il:DefAt K "_law_over" s__law_over)
  (gq:DefAt K "_law_tuple" s__law_tuple)
  (im:DefAt K "_law_said" s__law_said)
  (ux:DefAt K "law" s_law)
  (x_NoDitch:ExcAt K "NoDitch" bh)
  (x_NoPlot:ExcAt K "NoPlot" bz)
  (x_ShoreError:ClsAt K "ShoreError" bo)
  (x_NotBeside:InitAt K "NotBeside" "NotBeside.__init__" sInit "at" bp dX bo)
  (q_NoDitch_NotBeside:NT K (.ref bh) (.ref bp)=some false) (n_NoDitch_NotBeside:bh≠bp)
  (q_NoPlot_NotBeside:NT K (.ref bz) (.ref bp)=some false) (n_NoPlot_NotBeside:bz≠bp)
  (q_NoDitch_ShoreError:NT K (.ref bh) (.ref bo)=some true) (n_NoDitch_ShoreError:bh≠bo)
  (q_NoPlot_ShoreError:NT K (.ref bz) (.ref bo)=some true) (n_NoPlot_ShoreError:bz≠bo)
  (q_NoDitch_NoPlot:NT K (.ref bh) (.ref bz)=some false) (n_NoDitch_NoPlot:bh≠bz)
  (q_NoPlot_NoDitch:NT K (.ref bz) (.ref bh)=some false) (n_NoPlot_NoDitch:bz≠bh)
  (sS:NT K (.ref bo) (.type "BaseException")=some true)
  (z_len:NU K aq "len" = some none)
  (z_range:NU K aq "range" = some none)
  (z_list:NU K aq "list" = some none)
  (z_min:NU K aq "min" = some none)
  (z_isinstance:NU K aq "isinstance" = some none)
  (z_all:NU K aq "all" = some none)
  (z_str:NU K aq "str" = some none)
  (z_ValueError:NU K aq "ValueError" = some none)
  (z_sorted:NU K aq "sorted" = some none)
  (z_set:NU K aq "set" = some none)
  (z_enumerate:NU K aq "enumerate" = some none)
  (z_int:NU K aq "int" = some none)
  (z_bool:NU K aq "bool" = some none)
  (z_tuple:NU K aq "tuple" = some none)
  (z_any:NU K aq "any" = some none)
  (z_dict:NU K aq "dict" = some none)
  (z_sum:NU K aq "sum" = some none)
  (z_max:NU K aq "max" = some none)
  : ∃fd:bJ,(∀(s:ah) (v:aa),fc s fd ⟨[v],[]⟩ [("_law_script",v)])/\∀base:ak,K.In base->base.Ns aq mg->BmOk mg base->FnOk P w K mg base CX0 8 fa fd ["_law_script"] (Kk K T_):=by
 have T:Bl mg:=⟨NQ X G z_len,NQ X G z_range,NQ X G z_list,NQ X G z_min,NQ X G z_isinstance,NQ X G z_all,NQ X G z_str,NQ X G z_ValueError,NQ X G z_sorted,NQ X G z_set,NQ X G z_enumerate,NQ X G z_int,NQ X G z_bool,NQ X G z_tuple,NQ X G z_any,NQ X G z_dict,NQ X G z_sum,NQ X G z_max⟩;obtain⟨f,fd,a,hk,F⟩:=ux.ex;have e:=KY.symm.trans (On X G a);cases e;refine⟨fd,?_,λbase hB hG pG=>?_⟩
 ·obtain⟨oc,od,kV,cW,pm,an,cdv,ct,gr,rfl,lk,eR⟩:=F.ex;exact λs v=>.of_eq rfl
 ·have FB:Fn P w K mg base _ _ _ _ _:=Fn.of X G gk (by walk_at "1") λf fd F=>Xq7 F T;have FP:FnPick P w K mg base:=Fn.of X G ib (by walk_at "2") λf fd F=>Xq8 F T;have FU:Fn P w K mg base _ _ _ _ _:=Fn.of X G iV (by walk_at "4") λf fd F=>Xq9 F;have FW:Fn P w K mg base _ _ _ _ _:=Fn.of X G gl (by walk_at "1") λf fd F=>Xra F T;have FO:Fn P w K mg base _ _ _ _ _:=Fn.of X G ie (by walk_at "3") λf fd F=>Xrb F T;have FA:Fn P w K mg base _ _ _ _ _:=Fn.of X G fK (by walk_at "2") λf fd F=>Xrc F T FW FO;have FR:Fn P w K mg base _ _ _ _ _:=Fn.of X G iW (by walk_at "2") λf fd F=>Xrd F T FP FU FA;have FN:Fn P w K mg base _ _ _ _ _:=Fn.of X G gm (by walk_at "2") λf fd F=>Xre F T FP;have FI:Fn P w K mg base _ _ _ _ _:=Fn.of X G fM (by walk_at "2") λf fd F=>Xrf F T FP FN FR;have FK:Fn P w K mg base _ _ _ _ _:=Fn.of X G eJ (by walk_at "2") λf fd F=>Xqf F (On X G x_NoDitch.a) x_NoDitch.e;have FD:Fn P w K mg base _ _ _ _ _:=Fn.of X G jF (by walk_at "1") λf fd F=>Xqi F T;have FE:Fn P w K mg base _ _ _ _ _:=Fn.of X G qu (by walk_at "2") λf fd F=>Xqj F T FK;have yQ:Fn P w K mg base _ _ _ _ _:=Fn.of X G nG (by walk_at "1") λf fd F=>Xql F FD FE;have yR:Fn P w K mg base _ _ _ _ _:=Fn.of X G lv (by walk_at "2") λf fd F=>Xqm F;have KZ:Fn P w K mg base _ _ _ _ _:=Fn.of X G ia (by walk_at "1") λf fd F=>Xqn F yQ yR;have BU:Fn P w K mg base _ _ _ _ _:=Fn.of X G qv (by walk_at "1") λf fd F=>Xqp F T;have Le:Fn P w K mg base _ _ _ _ _:=Fn.of X G lw (by walk_at "2") λf fd F=>Xqt F;have BV:Fn P w K mg base _ _ _ _ _:=Fn.of X G jG (by walk_at "2") λf fd F=>Xqu F T yQ yR BU Le;have L':Fn P w K mg base _ _ _ _ _:=Fn.ofT X G d_in_order (by walk_at "1") λf fd F=>Xqr F T pG;have y1:Fn P w K mg base _ _ _ _ _:=Fn.of X G nJ (by walk_at "1") λf fd F=>Xqx F yQ yR BU KZ L';have FS:Fn P w K mg base _ _ _ _ _:=Fn.of X G eP (by walk_at "1") λf fd F=>Xrm F;have FT:Fn P w K mg base _ _ _ _ _:=Fn.of X G gq (by walk_at "1") λf fd F=>Xrw F T;have BW:Fn P w K mg base _ _ _ _ _:=Fn.of X G ij (by walk_at "2") λf fd F=>Xro F T;have LA:Fn P w K mg base _ _ _ _ _:=Fn.of X G eQ (by walk_at "3") λf fd F=>Xrp F T FP FS BW;have uc:Fn P w K mg base _ _ _ _ _:=Fn.of X G ii (by walk_at "2") λf fd F=>Xrj F;have ud:Fn P w K mg base _ _ _ _ _:=Fn.of X G ig (by walk_at "1") λf fd F=>Xri F T FW FO;have LB:Fn P w K mg base _ _ _ _ _:=Fn.of X G eD (by walk_at "2") λf fd F=>Xrr F T uc ud;have LC:Fn P w K mg base _ _ _ _ _:=Fn.of X G eJ (by walk_at "2") λf fd F=>Xqg F (On X G x_NoDitch.a) x_NoDitch.e;have BX:Fn P w K mg base _ _ _ _ _:=Fn.of X G iU (by walk_at "2") λf fd F=>Xqw F (On X G x_NoPlot.a) x_NoPlot.e BV;have LD:Fn P w K mg base _ _ _ _ _:=Fn.of X G jH (by walk_at "2") λf fd F=>Xqz F T;have BY:Fn P w K mg base _ _ _ _ _:=Fn.of X G lx (by walk_at "2") λf fd F=>Xq1 F T LD;obtain⟨qL,BZ⟩:=x_NotBeside.m;have LF:FnOk P w K mg base CX0 1 dX qL ["self", "at"] (spInit K "at"):=Xqe BZ;have LG:Binds K qL ["self", "at"] []:=BZ.binds (λ_ _ _ _ _ _ us hl=>by obtain⟨a,b,rfl⟩:=L2.len2 hl;rfl);have yS:Fn P w K mg base _ _ _ _ _:=Fn.of X G jI (by walk_at "4") λf fd F=>Xq2 F (On X G x_NotBeside.a) x_NotBeside.e x_NotBeside.k LF LG BY BV;have vf:Fn P w K mg base _ _ _ _ _:=Fn.of X G l5 (by walk_at "3") λf fd F=>Xq4 (C:=(⟨bz,bh,bp⟩:LedC)) F BX LC yS;have uk:Fn P w K mg base _ _ _ _ _:=Fn.of X G gj (by walk_at "2") λf fd F=>Xq5 F BX y1 FD BY;have LH:SH.K12 K (⟨bz,bh,bp⟩:LedC) bo:=⟨x_NotBeside.ef,x_NoDitch.f,x_NoPlot.f,x_NotBeside.k,Hj x_NotBeside.sb x_NotBeside.sb x_NotBeside.ic x_NotBeside.ty x_NotBeside.ss,Hj x_NoDitch.sb x_NotBeside.sb x_NotBeside.ic x_NotBeside.ty q_NoDitch_NotBeside,Hj x_NoPlot.sb x_NotBeside.sb x_NotBeside.ic x_NotBeside.ty q_NoPlot_NotBeside,Hj x_NoDitch.sb sS x_ShoreError.ic x_ShoreError.ty q_NoDitch_ShoreError,Hj x_NoPlot.sb sS x_ShoreError.ic x_ShoreError.ty q_NoPlot_ShoreError,Xfd _ _,Xcw n_NoDitch_NoPlot x_NoPlot.ic x_NoPlot.ty q_NoDitch_NoPlot,Xcw n_NoPlot_NoDitch x_NoDitch.ic x_NoDitch.ty q_NoPlot_NoDitch,Xfd _ _,x_NoDitch.val,x_NoPlot.val⟩;have y3:Fn P w K mg base _ _ _ _ _:=Fn.of X G iX (by walk_at "2") λf fd F=>Xrh F T FP;have LJ:Fn P w K mg base _ _ _ _ _:=Fn.of X G gp (by walk_at "1") λf fd F=>Xrk F T uc ud;have LK:Fn P w K mg base _ _ _ _ _:=Fn.of X G ik (by walk_at "3") λf fd F=>Xrs F BW uc;have y4:Fn P w K mg base _ _ _ _ _:=Fn.of X G il (by walk_at "2") λf fd F=>Xru F T ud LK;have ul:Fn P w K mg base CX0 7 "_law_said" ["_law_row_here", "_law_plot", "_law_name"] (spSaid12 T_ (lamPos s_in_order)):=Fn.of X G im (by walk_at "3") λf fd F=>by
   obtain⟨fa,BH,yt,yu,yw,LL⟩:=uk.ex;obtain⟨fb,BI,yx,gx,qc,LM⟩:=vf.ex;exact Xrx (C:=(⟨bz,bh,bp⟩:LedC)) F T (On X G x_ShoreError.a) (On X G x_NotBeside.a) (On X G x_NoDitch.a) (On X G x_NoPlot.a) yt yu yw LL yx gx qc LM LH
  exact Xr2 (C:=(⟨bz,bh,bp⟩:LedC)) F T FB FP FI LJ y3 FS LA LB y4 uk vf ul FT
def walk{l:OX}{q:ar}{loose:Za}{XP:(ao->Option aa)->ak->Prop}{YP:aA->ak->Prop}{d:DefRec}{K:KW->NO}{T c0:ae}(hn:l.most=some 63)(rL:d.params.defaults=[])
  (hY:∀(w:aA) (h:ak),YP w h->(K w.params).In h) (yP:∀(w:aA) (h:ak),YP w h->h.get? T=some (OB #[])) (hTK:∀P,(K P).lookup T=none) (hhd:∀P,Of (K P) c0 T=true)
  (F:∀(w:aA) (mg:ao->Option aa) (fa:ae) (h:ak),(K w.params).In h->h.Ns aq mg->mg d.name=some (.ref fa) ->
   ∃fd:bJ,(∀(s:ah) (u:aa),fc s fd ⟨[u],[]⟩ [("_law_script",u)])/\∀base:ak,(K w.params).In base->base.Ns aq mg->BmOk mg base->FnOk l.prog w (K w.params) mg base CX0 8 fa fd ["_law_script"] (Kk (K w.params) T)):
  PB q loose XP YP l.row.toRowW d [] (λf vs=>PySem.call f vs):=
 L2.Xr4 (n:=63) (k:=8) (x := "_law_script") (CX:=λ_=>CX0) (sp:=λw=>Kk (K w.params) T) hn (by decide) rL ⟨rfl,by decide,by decide,rfl⟩ hY yP hTK hhd F (λ_ _ a ns hl hT hS=>⟨a,ns,rfl,hS,hl,hT,λ_=>rfl⟩) λ_ _ _ _ _ z=>z
end K12
end
open PySem PySem.W PyProof.Rows
local macro_rules | `(tactic| walk_at "D") => `(tactic| (refine' L2.DefAt.of ?a ?l ?c ?k;(case a=>k_is);(case l=>k_is);(case c=>k_is);(case k=>k_is)))
local macro_rules | `(tactic| walk_at "X") => `(tactic| (refine' ⟨?a,?e,?ga,?gn,?cl,?sb,?so,?sv,?ss,?ic,?ty⟩;(case a=>k_is);(case e=>k_exc);(case ga=>k_is);(case gn=>k_is);(case cl=>k_is);(case sb=>k_is);(case so=>k_is);(case sv=>k_is);(case ss=>k_is);(case ic=>k_is);(case ty=>k_is)))
def HD.q:Program:={PySem.Challenge.pw_shoretold_k12_neighbours_of_a_plot with main:={PySem.Challenge.pw_shoretold_k12_neighbours_of_a_plot.main with body:=PySem.Challenge.pw_shoretold_k12_neighbours_of_a_plot.main.body.filter HD.isDef}}
theorem HD.said:PySem.Challenge.rw_shoretold_k12_neighbours_of_a_plot.wellSaid=true:=by
 rw[Fast.te9446332074065402090]
 kernel_rfl
local macro_rules | `(tactic| o_head $H) => `(tactic| refine PySem.W.holds_open (q:=HD.q) (loose:=[]) (Xt:=λs=>xlAt HD.q [] s&&recOk [] s) (XP:=XL HD.q []) (N:=1000000) ?hl (Hook.of $H) (Hook.keeps $H) (λs e=>xl_of s (Bool.and_eq_true_iff.mp e).1) XL.keeps (by rfl) (by rfl) (by rfl) (λs e=>recFacts_of (Bool.and_eq_true_iff.mp e).2) (by rfl) (by assumption) (by decide +kernel) ⟨rfl,rfl,rfl,rfl,rfl,by decide +kernel⟩ ?hw ?hc)
set_option maxRecDepth 100000 in
set_option maxHeartbeats 0 in
theorem PySem.Challenge.cw_shoretold_k12_neighbours_of_a_plot_holds : PySem.Challenge.rw_shoretold_k12_neighbours_of_a_plot.Holds := by
 w_on
 refine holds_law HD.said λsaid=>?_
 k_head
 case hw=>w_witness2
 case hl=>exact HD.left (by kernel_rfl) (by kernel_rfl) (λs=>by kernel_rfl) (λw=>by kernel_rfl)
 k_fill
 refine K12.walk (l:=PySem.Challenge.rw_shoretold_k12_neighbours_of_a_plot) (T:=115) (c0:=119) rfl rfl (λw h Y=>PySem.W.km_in_of Y) (λw h Y=>PySem.W.km_tabs_of Y _ (Nv.mpr rfl)) ?hTK ?hhd ?F
 case hTK=>intro P;kernel_rfl
 case hhd=>intro P;kernel_rfl
 case F=>
  intro w mg fa h KX G hmg;refine' K12.Xr8 KX G hmg ?_ ?_ ?_ ?_ ?_ ?_ ?_ ?d_in_order ?_ ?_ ?_ ?_ ?_ ?_ ?_ ?_ ?_ ?_ ?_ ?_ ?_ ?_ ?_ ?_ ?_ ?_ ?_ ?_ ?_ ?_ ?_ ?_ ?_ ?_ ?_ ?_ ?_ ?_ ?_ ?x_NoDitch ?x_NoPlot ?x_ShoreError ?x_NotBeside ?q_NoDitch_NotBeside ?n_NoDitch_NotBeside ?q_NoPlot_NotBeside ?n_NoPlot_NotBeside ?q_NoDitch_ShoreError ?n_NoDitch_ShoreError ?q_NoPlot_ShoreError ?n_NoPlot_ShoreError ?q_NoDitch_NoPlot ?n_NoDitch_NoPlot ?q_NoPlot_NoDitch ?n_NoPlot_NoDitch ?sS ?z_len ?z_range ?z_list ?z_min ?z_isinstance ?z_all ?z_str ?z_ValueError ?z_sorted ?z_set ?z_enumerate ?z_int ?z_bool ?z_tuple ?z_any ?z_dict ?z_sum ?z_max
  any_goals walk_at "D"
  (case d_in_order=>(refine' L2.DefT.of ?a ?l ?c ?k ?t;(case a=>k_is);(case l=>k_is);(case c=>k_is);(case k=>k_is);(case t=>kernel_rfl)))
  (case x_NoDitch=>walk_at "X")
  (case x_NoPlot=>walk_at "X")
  (case x_ShoreError=>(refine' ⟨?a,?ic,?ty⟩;(case a=>k_is);(case ic=>k_is);(case ty=>k_is)))
  (case x_NotBeside=>(refine' L2.InitAt.of ?a ?i ?l ?c ?k ?e ?ga ?gn ?cl ?sb ?so ?ss ?ic ?ty ?sa ?no ?mr;(case a=>k_is);(case i=>k_is);(case l=>k_is);(case c=>k_is);(case k=>k_is);(case e=>kernel_rfl);(case ga=>k_is);(case gn=>k_is);(case cl=>k_is);(case sb=>k_is);(case so=>k_is);(case ss=>k_is);(case ic=>k_is);(case ty=>k_is);(case sa=>k_is);(case no=>k_is);(case mr=>kernel_rfl)))
  (case q_NoDitch_NotBeside=>k_is);(case n_NoDitch_NotBeside=>decide)
  (case q_NoPlot_NotBeside=>k_is);(case n_NoPlot_NotBeside=>decide)
  (case q_NoDitch_ShoreError=>k_is);(case n_NoDitch_ShoreError=>decide)
  (case q_NoPlot_ShoreError=>k_is);(case n_NoPlot_ShoreError=>decide)
  (case q_NoDitch_NoPlot=>k_is);(case n_NoDitch_NoPlot=>decide)
  (case q_NoPlot_NoDitch=>k_is);(case n_NoPlot_NoDitch=>decide)
  (case sS=>k_is)
  (case z_len=>k_is);(case z_range=>k_is);(case z_list=>k_is);(case z_min=>k_is);(case z_isinstance=>k_is);(case z_all=>k_is);(case z_str=>k_is);(case z_ValueError=>k_is);(case z_sorted=>k_is);(case z_set=>k_is);(case z_enumerate=>k_is);(case z_int=>k_is);(case z_bool=>k_is);(case z_tuple=>k_is);(case z_any=>k_is);(case z_dict=>k_is);(case z_sum=>k_is);(case z_max=>k_is)
#print axioms PySem.Challenge.cw_shoretold_k12_neighbours_of_a_plot_holds
